/- kinref12's decoder: narrows, Flat, Code, Over: contracts over this seat's translation. -/
import Derived.Test.YtdpebaheojaihaaDoorRx1
import Derived.BigRegion
namespace Go.Proofs.YtdpebaheojaihaaDoor
set_option linter.unusedVariables false
set_option linter.unusedSimpArgs false
open Go.RowKit Go.Extern.Stop Go.Stop Go.Extern

theorem nrmX_ok {bs : List Nat} {N : Nat} {s : Xc} : ∀ (f : Nat), okX N s → okX (N + f) (nrmX bs f s) := by
  intro f
  induction f generalizing s N with
  | zero => intro h; exact h
  | succ f ih =>
    intro h
    show okX _ (if s.rr < 16777216 then nrmX bs f (stpX bs s) else s)
    split
    · rename_i hw
      have := ih (stpX_ok (bs := bs) h hw)
      rw [show N + 1 + f = N + (f + 1) by omega] at this
      exact this
    · exact h.mono (by omega)
theorem parX_ok {bs : List Nat} {N w : Nat} {s : Xc} (h : okX N s) (h2 : w < s.rr) : okX (N + 3) (parX bs s w) := nrmX_ok 3 (midX_ok h (Nat.le_of_lt h2)).1
def XbPost (F : Nat → Prop) (w : World) (b : Nat) (bs : List Nat) (v : Bool) (s : Xc) (e : Ending) (w' : World) : Prop := e = .returned (.bool v) ∧ XcAt F w' b bs s ∧ Kp b w w'
set_option maxRecDepth 20000 in
set_option maxHeartbeats 4000000 in
theorem xnarrows_any (F : Nat → Prop) (b N wd : Nat) (bs : List Nat) (s : Xc) (w : World) (h : XcAt F w b bs s) (hk : okX N s) (hN : N ≤ 900000) (h1 : 1 ≤ wd) (h2 : wd < s.rr) : Calls Tryd.prog 44 #[.pointer (some ⟨b, 0, none⟩), .int .i64 (wd : Int)] w (XbPost F w b bs (decide (wd ≤ s.dd)) (parX bs s wd)) := by
  obtain ⟨R, hR⟩ : ∃ R, parX bs s wd = R := ⟨_, rfl⟩
  rw [hR]
  have hok := (midX_ok (w := wd) hk (Nat.le_of_lt h2)).1
  have hwd : 16777216 ≤ (midX s wd).rr * 256 ^ 3 := by
    rw [(midX_ok (w := wd) hk (Nat.le_of_lt h2)).2]
    show 16777216 ≤ _ * 16777216
    split <;> omega
  have HMK : Hid (okX N (midX s wd) ∧ nrmX bs 3 (midX s wd) = R ∧ 16777216 ≤ (midX s wd).rr * 256 ^ 3) := ⟨hok, hR, hwd⟩
  have k4 := hk.2.1
  have k5 := hk.2.2
  clear hok hR hwd
  obtain ⟨a, cap, hB, hY, hF⟩ := h
  have hF9 : ∀ g off, a = some ⟨g, off, none⟩ → g ≠ b := fun g off e => (hF g off e).1
  obtain ⟨U, hU⟩ : ∃ U, s.dd = U := ⟨_, rfl⟩
  obtain ⟨d, hd⟩ : ∃ d, s.rr = d := ⟨_, rfl⟩
  rw [hU]
  by_cases hup : wd ≤ U
  · rw [decide_eq_true hup]
    obtain ⟨U2, hU2⟩ : ∃ U2, U - wd = U2 := ⟨_, rfl⟩
    obtain ⟨d1, hd1⟩ : ∃ d1, d - wd = d1 := ⟨_, rfl⟩
    rw [hd] at h2 k5
    rw [hU] at k4
    have hM : midX s wd = { s with dd := U2, rr := d1 } := by unfold midX; rw [if_pos (by rw [hU]; exact hup), hU, hd, hU2, hd1]
    have s1 : IntKind.i64.wrap ((U : Int) - (wd : Int)) = (U2 : Int) := by rw [IntKind.wrap_i64]; omega
    have s2 : IntKind.i64.wrap ((d : Int) - (wd : Int)) = (d1 : Int) := by rw [IntKind.wrap_i64]; omega
    have HA2 : Hid (XcAt F ((w.setCell ⟨b, 2, none⟩ (.int .i64 (U2 : Int))).setCell ⟨b, 3, none⟩ (.int .i64 (d1 : Int))) b bs { s with dd := U2, rr := d1 }) := ⟨a, cap, (hB.set2 U2).set3 d1, ⟨row_kp hY.1 (((Kp.refl b w).set 2 _).set 3 _) hF9, hY.2⟩, hF⟩
    have HK2 : Hid (okX N { s with dd := U2, rr := d1 } ∧ nrmX bs 3 { s with dd := U2, rr := d1 } = R ∧ 16777216 ≤ d1 * 256 ^ 3) := by
      have := HMK.out
      rw [hM] at this
      exact this
    have HW2 := Lib.hid (((Kp.refl b w).set 2 (.int .i64 (U2 : Int))).set 3 (.int .i64 (d1 : Int)))
    have x1 : (wd : Int) ≤ (U : Int) := by omega
    obtain ⟨⟨c0, c1, c2, c3⟩, f1, f2, f3⟩ := hB
    rw [hU] at c2
    rw [hd] at c3
    clear hY hF hF9 hk HMK hM hU hd k4 k5 h1 h2 hup c0 c1 hU2 hd1
    go_enter Tryd.func44, Tryd.ntmps44
    go_wp2_with fail
    go_loopg [] (3) (fun f wr => ∃ t : Xc, Hid (XcAt F wr b bs t) ∧ Hid (f ≤ 3 ∧ okX (N + (3 - f)) t ∧ nrmX bs f t = R ∧ 16777216 ≤ t.rr * 256 ^ f) ∧ Hid (Kp b w wr))
    case atStart => exact ⟨_, HA2.out, ⟨Nat.le_refl _, HK2.out⟩, HW2.out⟩
    case round =>
      clear HA2 HK2 HW2
      obtain ⟨t, HA, HK, HW⟩ := hrel
      obtain ⟨a3, cap3, hB3, hY3, hF3⟩ := HA.out
      have k3 : t.rr < 4294967296 := HK.out.2.1.2.2
      obtain ⟨⟨c0, c1, c2, c3⟩, f1, f2, f3⟩ := id hB3
      obtain ⟨D, hD⟩ : ∃ D, t.rr = D := ⟨_, rfl⟩
      rw [hD] at c3 k3
      have HD := Lib.hid hD
      by_cases hlt : D < 16777216
      · have x1 : (D : Int) < 16777216 := by omega
        have s1 : IntKind.i64.wrap ((D : Int) * 256) = ((D * 256 : Nat) : Int) := by rw [IntKind.wrap_i64]; omega
        obtain ⟨D2, hD2⟩ : ∃ D2, D * 256 = D2 := ⟨_, rfl⟩
        rw [hD2] at s1
        obtain ⟨j1, j2, j3, j4⟩ := HK.out
        have hg : ∃ g, gk = g + 1 := by
          cases gk with
          | zero => exfalso; have := HD.out; simp at j4; omega
          | succ g => exact ⟨g, rfl⟩
        obtain ⟨g, rfl⟩ := hg
        have j5 : nrmX bs g (stpX bs t) = R := by
          rw [← j3]
          show _ = (if t.rr < 16777216 then nrmX bs g (stpX bs t) else t)
          rw [if_pos (by rw [hD]; exact hlt)]
        have j6 : 16777216 ≤ (stpX bs t).rr * 256 ^ g := by
          show 16777216 ≤ t.rr * 256 * 256 ^ g
          rw [Nat.mul_assoc, ← Nat.pow_succ']
          exact j4
        have j7 := stpX_ok (bs := bs) j2 (by rw [hD]; exact hlt)
        have HJ : Hid (g ≤ 3 ∧ okX (N + (3 - g)) (stpX bs t) ∧ nrmX bs g (stpX bs t) = R ∧ 16777216 ≤ (stpX bs t).rr * 256 ^ g) := ⟨by omega, by rw [show N + (3 - g) = N + (3 - (g + 1)) + 1 by omega]; exact j7, j5, j6⟩
        have hN4 : N + (3 - (g + 1)) ≤ 1000000 := by omega
        have hA4 : XcAt F (wr.setCell ⟨b, 3, none⟩ (.int .i64 (D2 : Int))) b bs { t with rr := D2 } := ⟨a3, cap3, hB3.set3 D2, ⟨row_kp hY3.1 ((Kp.refl b wr).set 3 _) (fun g off e => (hF3 g off e).1), hY3.2⟩, hF3⟩
        have HST : Hid (nexX bs { t with rr := D2 } = stpX bs t) := by show _ = _; unfold stpX; rw [hD, hD2]
        have UN := Lib.hid (xnext_any F b _ bs { t with rr := D2 } _ hA4 (by exact ⟨j2.1, j2.2.1, by show D2 < _; omega⟩) hN4)
        rw [HST.out] at UN
        have HK4 := Lib.hid (HW.out.set 3 (.int .i64 (D2 : Int)))
        clear hD2 j1 j2 j3 j4 j5 j6 j7 hB3 hY3 hF3 hD hA4 hN4 c0 c1 c2
        go_wp2_with fail
        refine (UN.out).mono ?_; rintro e w7 ⟨rfl, hA7, hK7⟩
        have HDf := Lib.hid hA7
        have HKf := Lib.hid (HK4.out.trans hK7)
        clear hA7 hK7
        go_wp2
        go_roundg (g)
        all_goals first
          | exact ⟨stpX bs t, HDf.out, HJ.out, HKf.out⟩
          | omega
      · have x1 : ¬ (D : Int) < 16777216 := by omega
        have HR : Hid (t = R) := by
          show _ = _
          rw [← HK.out.2.2.1]
          cases gk with
          | zero => rfl
          | succ g => show _ = (if t.rr < 16777216 then _ else t); rw [if_neg (by rw [HD.out]; exact hlt)]
        clear hB3 hY3 hF3 hD
        go_wp2
        go_ret
        exact ⟨rfl, by rw [← HR.out]; exact HA.out, HW.out⟩
  · rw [decide_eq_false hup]
    have hM : midX s wd = { s with rr := wd } := by unfold midX; rw [if_neg (by rw [hU]; exact hup)]
    have HA2 : Hid (XcAt F (w.setCell ⟨b, 3, none⟩ (.int .i64 (wd : Int))) b bs { s with rr := wd }) := ⟨a, cap, hB.set3 wd, ⟨row_kp hY.1 ((Kp.refl b w).set 3 _) hF9, hY.2⟩, hF⟩
    have HK2 : Hid (okX N { s with rr := wd } ∧ nrmX bs 3 { s with rr := wd } = R ∧ 16777216 ≤ wd * 256 ^ 3) := by
      have := HMK.out
      rw [hM] at this
      exact this
    have HW2 := Lib.hid ((Kp.refl b w).set 3 (.int .i64 (wd : Int)))
    have x1 : ¬ (wd : Int) ≤ (U : Int) := by omega
    obtain ⟨⟨c0, c1, c2, c3⟩, f1, f2, f3⟩ := hB
    rw [hU] at c2
    clear hY hF hF9 hk HMK hM hU hd k4 k5 h1 h2 hup c0 c1
    go_enter Tryd.func44, Tryd.ntmps44
    go_wp2_with fail
    go_loopg [] (3) (fun f wr => ∃ t : Xc, Hid (XcAt F wr b bs t) ∧ Hid (f ≤ 3 ∧ okX (N + (3 - f)) t ∧ nrmX bs f t = R ∧ 16777216 ≤ t.rr * 256 ^ f) ∧ Hid (Kp b w wr))
    case atStart => exact ⟨_, HA2.out, ⟨Nat.le_refl _, HK2.out⟩, HW2.out⟩
    case round =>
      clear HA2 HK2 HW2
      obtain ⟨t, HA, HK, HW⟩ := hrel
      obtain ⟨a3, cap3, hB3, hY3, hF3⟩ := HA.out
      have k3 : t.rr < 4294967296 := HK.out.2.1.2.2
      obtain ⟨⟨c0, c1, c2, c3⟩, f1, f2, f3⟩ := id hB3
      obtain ⟨D, hD⟩ : ∃ D, t.rr = D := ⟨_, rfl⟩
      rw [hD] at c3 k3
      have HD := Lib.hid hD
      by_cases hlt : D < 16777216
      · have x1 : (D : Int) < 16777216 := by omega
        have s1 : IntKind.i64.wrap ((D : Int) * 256) = ((D * 256 : Nat) : Int) := by rw [IntKind.wrap_i64]; omega
        obtain ⟨D2, hD2⟩ : ∃ D2, D * 256 = D2 := ⟨_, rfl⟩
        rw [hD2] at s1
        obtain ⟨j1, j2, j3, j4⟩ := HK.out
        have hg : ∃ g, gk = g + 1 := by
          cases gk with
          | zero => exfalso; have := HD.out; simp at j4; omega
          | succ g => exact ⟨g, rfl⟩
        obtain ⟨g, rfl⟩ := hg
        have j5 : nrmX bs g (stpX bs t) = R := by
          rw [← j3]
          show _ = (if t.rr < 16777216 then nrmX bs g (stpX bs t) else t)
          rw [if_pos (by rw [hD]; exact hlt)]
        have j6 : 16777216 ≤ (stpX bs t).rr * 256 ^ g := by
          show 16777216 ≤ t.rr * 256 * 256 ^ g
          rw [Nat.mul_assoc, ← Nat.pow_succ']
          exact j4
        have j7 := stpX_ok (bs := bs) j2 (by rw [hD]; exact hlt)
        have HJ : Hid (g ≤ 3 ∧ okX (N + (3 - g)) (stpX bs t) ∧ nrmX bs g (stpX bs t) = R ∧ 16777216 ≤ (stpX bs t).rr * 256 ^ g) := ⟨by omega, by rw [show N + (3 - g) = N + (3 - (g + 1)) + 1 by omega]; exact j7, j5, j6⟩
        have hN4 : N + (3 - (g + 1)) ≤ 1000000 := by omega
        have hA4 : XcAt F (wr.setCell ⟨b, 3, none⟩ (.int .i64 (D2 : Int))) b bs { t with rr := D2 } := ⟨a3, cap3, hB3.set3 D2, ⟨row_kp hY3.1 ((Kp.refl b wr).set 3 _) (fun g off e => (hF3 g off e).1), hY3.2⟩, hF3⟩
        have HST : Hid (nexX bs { t with rr := D2 } = stpX bs t) := by show _ = _; unfold stpX; rw [hD, hD2]
        have UN := Lib.hid (xnext_any F b _ bs { t with rr := D2 } _ hA4 (by exact ⟨j2.1, j2.2.1, by show D2 < _; omega⟩) hN4)
        rw [HST.out] at UN
        have HK4 := Lib.hid (HW.out.set 3 (.int .i64 (D2 : Int)))
        clear hD2 j1 j2 j3 j4 j5 j6 j7 hB3 hY3 hF3 hD hA4 hN4 c0 c1 c2
        go_wp2_with fail
        refine (UN.out).mono ?_; rintro e w7 ⟨rfl, hA7, hK7⟩
        have HDf := Lib.hid hA7
        have HKf := Lib.hid (HK4.out.trans hK7)
        clear hA7 hK7
        go_wp2
        go_roundg (g)
        all_goals first
          | exact ⟨stpX bs t, HDf.out, HJ.out, HKf.out⟩
          | omega
      · have x1 : ¬ (D : Int) < 16777216 := by omega
        have HR : Hid (t = R) := by
          show _ = _
          rw [← HK.out.2.2.1]
          cases gk with
          | zero => rfl
          | succ g => show _ = (if t.rr < 16777216 then _ else t); rw [if_neg (by rw [HD.out]; exact hlt)]
        clear hB3 hY3 hF3 hD
        go_wp2
        go_ret
        exact ⟨rfl, by rw [← HR.out]; exact HA.out, HW.out⟩
set_option maxRecDepth 20000 in
set_option maxHeartbeats 4000000 in
theorem xflat_any (F : Nat → Prop) (b N : Nat) (bs : List Nat) (s : Xc) (w : World) (h : XcAt F w b bs s) (hk : okX N s) (hN : N ≤ 900000) (hw : 16777216 ≤ s.rr) : Calls Tryd.prog 26 #[.pointer (some ⟨b, 0, none⟩)] w (XbPost F w b bs (decide (s.rr / 2 ≤ s.dd)) (parX bs s (s.rr / 2))) := by
  have UP := Lib.hid (xnarrows_any F b N (s.rr / 2) bs s w h hk hN (by omega) (by omega))
  obtain ⟨a, cap, ⟨⟨c0, c1, c2, c3⟩, f1, f2, f3⟩, -, -⟩ := h
  obtain ⟨R, hR⟩ : ∃ R, parX bs s (s.rr / 2) = R := ⟨_, rfl⟩
  obtain ⟨V, hV⟩ : ∃ V, decide (s.rr / 2 ≤ s.dd) = V := ⟨_, rfl⟩
  rw [hR, hV] at UP ⊢
  have hd4 := hk.2.2
  obtain ⟨d, hd⟩ : ∃ d, s.rr = d := ⟨_, rfl⟩
  rw [hd] at c3 UP hd4
  obtain ⟨q, hq⟩ : ∃ q, d / 2 = q := ⟨_, rfl⟩
  have s1 : Int.tdiv (d : Int) 2 = (q : Int) := by rw [← hq, show (2 : Int) = ((2 : Nat) : Int) from rfl, Int.ofNat_tdiv]
  have s2 : IntKind.i64.wrap (q : Int) = (q : Int) := by rw [IntKind.wrap_i64]; omega
  rw [hq] at UP
  clear hR hV hd hq hk hw c0 c1 c2
  go_enter Tryd.func26, Tryd.ntmps26
  go_wp2_with fail
  refine (UP.out).mono ?_; rintro e w7 ⟨rfl, hA7, hW7⟩
  go_wp2
  go_ret
  exact ⟨rfl, hA7, hW7⟩
def ovrX (bs : List Nat) (s : Xc) : Nat := s.pos - bs.length
set_option maxRecDepth 20000 in
set_option maxHeartbeats 4000000 in
theorem xover_any (F : Nat → Prop) (b N : Nat) (bs : List Nat) (s : Xc) (w : World) (h : XcAt F w b bs s) (hk : okX N s) (hN : N ≤ 900000) (hl : bs.length ≤ 1000000) : Calls Tryd.prog 30 #[.pointer (some ⟨b, 0, none⟩)] w fun e w' => e = .returned (.int .i64 (ovrX bs s : Int)) ∧ Ext w w' := by
  obtain ⟨a, cap, ⟨⟨c0, c1, c2, c3⟩, f1, f2, f3⟩, -, -⟩ := h
  obtain ⟨o, ho⟩ : ∃ o, ovrX bs s = o := ⟨_, rfl⟩
  rw [ho]
  unfold ovrX at ho
  have hp := hk.1
  obtain ⟨p, hp'⟩ : ∃ p, s.pos = p := ⟨_, rfl⟩
  obtain ⟨n, hn⟩ : ∃ n, bs.length = n := ⟨_, rfl⟩
  rw [hp'] at c1 hp ho
  rw [hn] at c0 hl ho
  have s1 : IntKind.i64.wrap ((p : Int) - (n : Int)) = (p : Int) - (n : Int) := by rw [IntKind.wrap_i64]; omega
  have s2 : max ((p : Int) - (n : Int)) 0 = (o : Int) := by omega
  have r2 := mx2
  clear ho hk hp' hn c2 c3
  go_enter Tryd.func30, Tryd.ntmps30
  go_wp2_with fail
  go_region
  go_wp2
  go_ret
  exact ⟨rfl, (Ext.refl w).drew⟩
end Go.Proofs.YtdpebaheojaihaaDoor
