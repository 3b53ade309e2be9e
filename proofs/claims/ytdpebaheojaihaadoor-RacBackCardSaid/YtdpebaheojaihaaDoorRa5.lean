/- (*rac.Encoder).part, Flat, Code: contracts over this seat's translation. -/
import Derived.Test.YtdpebaheojaihaaDoorRa4
namespace Go.Proofs.YtdpebaheojaihaaDoor
set_option linter.unusedVariables false
set_option linter.unusedSimpArgs false
open Go.RowKit Go.Extern.Stop Go.Stop Go.Extern

theorem EcAt.low {w : World} {b B : Nat} {s : Ec} (h : EcAt w b B s) (k : Nat) : EcAt (w.setCell ⟨b, 3, none⟩ (.int .u64 (k : Int))) b B { s with low := k } := by
  obtain ⟨v, h1, h2⟩ := h
  exact ⟨v, h1.set3 k, h2.set 3 _⟩
theorem EcAt.wide {w : World} {b B : Nat} {s : Ec} (h : EcAt w b B s) (k : Nat) : EcAt (w.setCell ⟨b, 4, none⟩ (.int .u64 (k : Int))) b B { s with wid := k } := by
  obtain ⟨v, h1, h2⟩ := h
  exact ⟨v, h1.set4 k, h2.set 4 _⟩
set_option maxRecDepth 20000 in
set_option maxHeartbeats 4000000 in
theorem part_any (b B N wd : Nat) (up : Bool) (s : Ec) (w : World) (h : EcAt w b B s) (hk : okE N s) (hN : N ≤ 900000) (h1 : 1 ≤ wd) (h2 : wd < s.wid) : Calls Tryd.prog 33 #[.pointer (some ⟨b, 0, none⟩), .int .u64 (wd : Int), .bool up] w (EnPost w b B (parE s wd up)) := by
  obtain ⟨R, hR⟩ : ∃ R, parE s wd up = R := ⟨_, rfl⟩
  rw [hR]
  have hok := midE_ok (up := up) hk (Nat.le_of_lt h2)
  have hwd : 16777216 ≤ (midE s wd up).wid * 256 ^ 3 := by
    rw [midE_wid]
    show 16777216 ≤ _ * 16777216
    split <;> omega
  have HMK : Hid (okE (N + 1) (midE s wd up) ∧ nrmE 3 (midE s wd up) = R ∧ 16777216 ≤ (midE s wd up).wid * 256 ^ 3) := ⟨hok, hR, hwd⟩
  have k4 : s.low < 4294967296 := hk.2.2.1
  have k5 : s.wid < 4294967296 := hk.2.2.2.1
  clear hok hR hwd
  cases up with
  | false =>
    have HA2 := Lib.hid (h.wide wd)
    have HK2 : Hid (okE (N + 1) { s with wid := wd } ∧ nrmE 3 { s with wid := wd } = R ∧ 16777216 ≤ wd * 256 ^ 3) := HMK.out
    have HW2 := Lib.hid (WKp.of_kp (B := B) ((Kp.refl b w).set 4 (.int .u64 (wd : Int))))
    obtain ⟨v, hB, hR⟩ := h
    obtain ⟨⟨c0, c1, c2, c3, c4⟩, f0, f1, f2, f3, f4⟩ := hB
    obtain ⟨l, hl⟩ : ∃ l, s.low = l := ⟨_, rfl⟩
    rw [hl] at c3 k4
    have x1 : ¬ (4294967296 : Int) ≤ (l : Int) := by omega
    clear hR hk HMK hl k5 h1 h2
    go_enter Tryd.func33, Tryd.ntmps33
    -- in hand: w2, s2; HA2 : EcAt w2 b B s2; HK2 : okE (N + 1) s2, nrmE 3 s2 = R, wide; HW2 : WKp
    go_wp2_with fail
    go_loopg [] (3) (fun f wr => ∃ t : Ec, Hid (EcAt wr b B t) ∧ Hid (f ≤ 3 ∧ okE (N + 1 + (3 - f)) t ∧ nrmE f t = R ∧ 16777216 ≤ t.wid * 256 ^ f) ∧ Hid (WKp b B w wr))
    case atStart => exact ⟨_, HA2.out, ⟨Nat.le_refl _, HK2.out⟩, HW2.out⟩
    case round =>
      clear HA2 HK2 HW2
      obtain ⟨t, HA, HK, HW⟩ := hrel
      obtain ⟨v3, hB3, hR3⟩ := HA.out
      have k3 : t.wid < 4294967296 := HK.out.2.1.2.2.2.1
      obtain ⟨⟨c0, c1, c2, c3, c4⟩, f0, f1, f2, f3, f4⟩ := hB3
      obtain ⟨D, hD⟩ : ∃ D, t.wid = D := ⟨_, rfl⟩
      rw [hD] at c4 k3
      have HD := Lib.hid hD
      clear hR3 hD c0 c1 c2 c3
      by_cases hlt : D < 16777216
      · have x1 : (D : Int) < 16777216 := by omega
        have s1 : IntKind.u64.wrap ((D : Int) * 256) = ((D * 256 : Nat) : Int) := by rw [IntKind.wrap_u64]; omega
        obtain ⟨D2, hD2⟩ : ∃ D2, D * 256 = D2 := ⟨_, rfl⟩
        rw [hD2] at s1
        have HD2 := Lib.hid hD2
        obtain ⟨j1, j2, j3, j4⟩ := HK.out
        have hN4 : N + 1 + (3 - gk) ≤ 1000000 := by omega
        have hg : ∃ g, gk = g + 1 := by
          cases gk with
          | zero => exfalso; have := HD.out; simp at j4; omega
          | succ g => exact ⟨g, rfl⟩
        obtain ⟨g, rfl⟩ := hg
        have j5 : nrmE g (stpE t) = R := by
          rw [← j3]
          show _ = (if t.wid < 16777216 then nrmE g (stpE t) else t)
          rw [if_pos (by rw [HD.out]; exact hlt)]
        have j6 : 16777216 ≤ (stpE t).wid * 256 ^ g := by
          show 16777216 ≤ t.wid * 256 * 256 ^ g
          rw [Nat.mul_assoc, ← Nat.pow_succ']
          exact j4
        have j7 := stpE_ok j2 (by rw [HD.out]; exact hlt)
        have HJ : Hid (g ≤ 3 ∧ okE (N + 1 + (3 - g)) (stpE t) ∧ nrmE g (stpE t) = R ∧ 16777216 ≤ (stpE t).wid * 256 ^ g) := ⟨by omega, by rw [show N + 1 + (3 - g) = N + 1 + (3 - (g + 1)) + 1 by omega]; exact j7, j5, j6⟩
        have US := Lib.hid (shift_any b B _ t _ HA.out j2 hN4)
        have HST : Hid ({ shfE t with wid := D2 } = stpE t) := by show _ = _; unfold stpE; rw [HD.out, hD2]
        have HSW : Hid ((shfE t).wid = D) := by show _ = _; rw [(shfE_ok j2).2]; exact HD.out
        clear hD2 j1 j2 j3 j4 j5 j6 j7
        go_wp2_with fail
        refine (US.out).mono ?_; rintro e w7 ⟨rfl, hA7, hW7⟩
        have HA8 := Lib.hid (hA7.wide D2)
        have HW8 := Lib.hid ((HW.out.trans hW7).trans (WKp.of_kp ((Kp.refl b w7).set 4 (.int .u64 (D2 : Int)))))
        obtain ⟨v7, ⟨⟨d0, d1, d2, d3, d4⟩, e0, e1, e2, e3, e4⟩, -⟩ := hA7
        rw [HSW.out] at d4
        clear hW7 c4 f0 f1 f2 f3 f4 d0 d1 d2 d3
        go_wp2
        go_roundg (g)
        all_goals first
          | exact ⟨stpE t, by show EcAt _ _ _ _; rw [← HST.out]; exact HA8.out, HJ.out, HW8.out⟩
          | omega
      · have x1 : ¬ (D : Int) < 16777216 := by omega
        have HR : Hid (t = R) := by
          show _ = _
          rw [← HK.out.2.2.1]
          cases gk with
          | zero => rfl
          | succ g => show _ = (if t.wid < 16777216 then _ else t); rw [if_neg (by rw [HD.out]; exact hlt)]
        go_wp2
        go_end0
        exact ⟨rfl, by rw [← HR.out]; exact HA.out, HW.out⟩
  | true =>
    have HM : Hid (midE s wd true = upE s wd) := rfl
    obtain ⟨l, hl⟩ : ∃ l, s.low = l := ⟨_, rfl⟩
    obtain ⟨d, hd⟩ : ∃ d, s.wid = d := ⟨_, rfl⟩
    obtain ⟨l1, hl1⟩ : ∃ l1, l + wd = l1 := ⟨_, rfl⟩
    obtain ⟨d1, hd1⟩ : ∃ d1, d - wd = d1 := ⟨_, rfl⟩
    rw [hl] at k4
    rw [hd] at k5 h2
    have s1 : IntKind.u64.wrap ((l : Int) + (wd : Int)) = (l1 : Int) := by rw [IntKind.wrap_u64]; omega
    have s2 : IntKind.u64.wrap ((d : Int) - (wd : Int)) = (d1 : Int) := by rw [IntKind.wrap_u64]; omega
    have HA1 := (h.low l1).wide d1
    have HW1 := WKp.of_kp (B := B) (((Kp.refl b w).set 3 (.int .u64 (l1 : Int))).set 4 (.int .u64 (d1 : Int)))
    by_cases hc : 4294967296 ≤ l1
    · obtain ⟨l2, hl2⟩ : ∃ l2, l1 - 4294967296 = l2 := ⟨_, rfl⟩
      have s3 : IntKind.u64.wrap ((l1 : Int) - 4294967296) = (l2 : Int) := by rw [IntKind.wrap_u64]; omega
      have x1 : (4294967296 : Int) ≤ (l1 : Int) := by omega
      have HUP : midE s wd true = carE { s with low := l2, wid := d1 } := by
        rw [HM.out]
        unfold upE
        rw [if_pos (by rw [hl, hl1]; exact hc), hl, hd, hl1, hd1, hl2]
      have HA3 : Hid (EcAt (((w.setCell ⟨b, 3, none⟩ (.int .u64 (l1 : Int))).setCell ⟨b, 4, none⟩ (.int .u64 (d1 : Int))).setCell ⟨b, 3, none⟩ (.int .u64 (l2 : Int))) b B { s with low := l2, wid := d1 }) := HA1.low l2
      have HW3 := Lib.hid (HW1.trans (WKp.of_kp ((Kp.refl b _).set 3 (.int .u64 (l2 : Int)))))
      have UC := Lib.hid (fun w' (h' : EcAt w' b B { s with low := l2, wid := d1 }) => carry_any b B N { s with low := l2, wid := d1 } w' h' ⟨hk.1, hk.2.1, by show l2 < _; omega, by show d1 < _; omega, hk.2.2.2.2⟩ (by omega))
      have HK2 : Hid (okE (N + 1) (carE { s with low := l2, wid := d1 }) ∧ nrmE 3 (carE { s with low := l2, wid := d1 }) = R ∧ 16777216 ≤ (carE { s with low := l2, wid := d1 }).wid * 256 ^ 3) := by
        rw [← HUP]; exact HMK.out
      obtain ⟨v, ⟨⟨c0, c1, c2, c3, c4⟩, f0, f1, f2, f3, f4⟩, -⟩ := h
      rw [hl] at c3
      rw [hd] at c4
      clear HA1 HW1 hk HMK HM hl hd hl1 hd1 hl2 HUP k5 h1 h2
      go_enter Tryd.func33, Tryd.ntmps33
      go_wp2_with fail
      refine (UC.out _ HA3.out).mono ?_; rintro e w2 ⟨rfl, hA2, hW2⟩
      have HA2 := Lib.hid hA2
      have HW2 := Lib.hid (HW3.out.trans hW2)
      clear hA2 hW2 c0 c1 c2 c3 c4 f0 f1 f2 f3 f4 HA3 HW3
      -- in hand: w2, s2; HA2 : EcAt w2 b B s2; HK2 : okE (N + 1) s2, nrmE 3 s2 = R, wide; HW2 : WKp
      go_wp2_with fail
      go_loopg [] (3) (fun f wr => ∃ t : Ec, Hid (EcAt wr b B t) ∧ Hid (f ≤ 3 ∧ okE (N + 1 + (3 - f)) t ∧ nrmE f t = R ∧ 16777216 ≤ t.wid * 256 ^ f) ∧ Hid (WKp b B w wr))
      case atStart => exact ⟨_, HA2.out, ⟨Nat.le_refl _, HK2.out⟩, HW2.out⟩
      case round =>
        clear HA2 HK2 HW2
        obtain ⟨t, HA, HK, HW⟩ := hrel
        obtain ⟨v3, hB3, hR3⟩ := HA.out
        have k3 : t.wid < 4294967296 := HK.out.2.1.2.2.2.1
        obtain ⟨⟨c0, c1, c2, c3, c4⟩, f0, f1, f2, f3, f4⟩ := hB3
        obtain ⟨D, hD⟩ : ∃ D, t.wid = D := ⟨_, rfl⟩
        rw [hD] at c4 k3
        have HD := Lib.hid hD
        clear hR3 hD c0 c1 c2 c3
        by_cases hlt : D < 16777216
        · have x1 : (D : Int) < 16777216 := by omega
          have s1 : IntKind.u64.wrap ((D : Int) * 256) = ((D * 256 : Nat) : Int) := by rw [IntKind.wrap_u64]; omega
          obtain ⟨D2, hD2⟩ : ∃ D2, D * 256 = D2 := ⟨_, rfl⟩
          rw [hD2] at s1
          have HD2 := Lib.hid hD2
          obtain ⟨j1, j2, j3, j4⟩ := HK.out
          have hN4 : N + 1 + (3 - gk) ≤ 1000000 := by omega
          have hg : ∃ g, gk = g + 1 := by
            cases gk with
            | zero => exfalso; have := HD.out; simp at j4; omega
            | succ g => exact ⟨g, rfl⟩
          obtain ⟨g, rfl⟩ := hg
          have j5 : nrmE g (stpE t) = R := by
            rw [← j3]
            show _ = (if t.wid < 16777216 then nrmE g (stpE t) else t)
            rw [if_pos (by rw [HD.out]; exact hlt)]
          have j6 : 16777216 ≤ (stpE t).wid * 256 ^ g := by
            show 16777216 ≤ t.wid * 256 * 256 ^ g
            rw [Nat.mul_assoc, ← Nat.pow_succ']
            exact j4
          have j7 := stpE_ok j2 (by rw [HD.out]; exact hlt)
          have HJ : Hid (g ≤ 3 ∧ okE (N + 1 + (3 - g)) (stpE t) ∧ nrmE g (stpE t) = R ∧ 16777216 ≤ (stpE t).wid * 256 ^ g) := ⟨by omega, by rw [show N + 1 + (3 - g) = N + 1 + (3 - (g + 1)) + 1 by omega]; exact j7, j5, j6⟩
          have US := Lib.hid (shift_any b B _ t _ HA.out j2 hN4)
          have HST : Hid ({ shfE t with wid := D2 } = stpE t) := by show _ = _; unfold stpE; rw [HD.out, hD2]
          have HSW : Hid ((shfE t).wid = D) := by show _ = _; rw [(shfE_ok j2).2]; exact HD.out
          clear hD2 j1 j2 j3 j4 j5 j6 j7
          go_wp2_with fail
          refine (US.out).mono ?_; rintro e w7 ⟨rfl, hA7, hW7⟩
          have HA8 := Lib.hid (hA7.wide D2)
          have HW8 := Lib.hid ((HW.out.trans hW7).trans (WKp.of_kp ((Kp.refl b w7).set 4 (.int .u64 (D2 : Int)))))
          obtain ⟨v7, ⟨⟨d0, d1, d2, d3, d4⟩, e0, e1, e2, e3, e4⟩, -⟩ := hA7
          rw [HSW.out] at d4
          clear hW7 c4 f0 f1 f2 f3 f4 d0 d1 d2 d3
          go_wp2
          go_roundg (g)
          all_goals first
            | exact ⟨stpE t, by show EcAt _ _ _ _; rw [← HST.out]; exact HA8.out, HJ.out, HW8.out⟩
            | omega
        · have x1 : ¬ (D : Int) < 16777216 := by omega
          have HR : Hid (t = R) := by
            show _ = _
            rw [← HK.out.2.2.1]
            cases gk with
            | zero => rfl
            | succ g => show _ = (if t.wid < 16777216 then _ else t); rw [if_neg (by rw [HD.out]; exact hlt)]
          go_wp2
          go_end0
          exact ⟨rfl, by rw [← HR.out]; exact HA.out, HW.out⟩
    · have x1 : ¬ (4294967296 : Int) ≤ (l1 : Int) := by omega
      have HUP : midE s wd true = { s with low := l1, wid := d1 } := by
        rw [HM.out]
        unfold upE
        rw [if_neg (by rw [hl, hl1]; exact hc), hl, hd, hl1, hd1]
      have HA2 : Hid (EcAt ((w.setCell ⟨b, 3, none⟩ (.int .u64 (l1 : Int))).setCell ⟨b, 4, none⟩ (.int .u64 (d1 : Int))) b B { s with low := l1, wid := d1 }) := HA1
      have HW2 := Lib.hid HW1
      have HK2 : Hid (okE (N + 1) { s with low := l1, wid := d1 } ∧ nrmE 3 { s with low := l1, wid := d1 } = R ∧ 16777216 ≤ d1 * 256 ^ 3) := by
        have := HMK.out
        rw [HUP] at this
        exact this
      obtain ⟨v, ⟨⟨c0, c1, c2, c3, c4⟩, f0, f1, f2, f3, f4⟩, -⟩ := h
      rw [hl] at c3
      rw [hd] at c4
      clear HA1 HW1 hk HMK HM hl hd hl1 hd1 HUP k5 h1 h2
      go_enter Tryd.func33, Tryd.ntmps33
      -- in hand: w2, s2; HA2 : EcAt w2 b B s2; HK2 : okE (N + 1) s2, nrmE 3 s2 = R, wide; HW2 : WKp
      go_wp2_with fail
      go_loopg [] (3) (fun f wr => ∃ t : Ec, Hid (EcAt wr b B t) ∧ Hid (f ≤ 3 ∧ okE (N + 1 + (3 - f)) t ∧ nrmE f t = R ∧ 16777216 ≤ t.wid * 256 ^ f) ∧ Hid (WKp b B w wr))
      case atStart => exact ⟨_, HA2.out, ⟨Nat.le_refl _, HK2.out⟩, HW2.out⟩
      case round =>
        clear HA2 HK2 HW2
        obtain ⟨t, HA, HK, HW⟩ := hrel
        obtain ⟨v3, hB3, hR3⟩ := HA.out
        have k3 : t.wid < 4294967296 := HK.out.2.1.2.2.2.1
        obtain ⟨⟨c0, c1, c2, c3, c4⟩, f0, f1, f2, f3, f4⟩ := hB3
        obtain ⟨D, hD⟩ : ∃ D, t.wid = D := ⟨_, rfl⟩
        rw [hD] at c4 k3
        have HD := Lib.hid hD
        clear hR3 hD c0 c1 c2 c3
        by_cases hlt : D < 16777216
        · have x1 : (D : Int) < 16777216 := by omega
          have s1 : IntKind.u64.wrap ((D : Int) * 256) = ((D * 256 : Nat) : Int) := by rw [IntKind.wrap_u64]; omega
          obtain ⟨D2, hD2⟩ : ∃ D2, D * 256 = D2 := ⟨_, rfl⟩
          rw [hD2] at s1
          have HD2 := Lib.hid hD2
          obtain ⟨j1, j2, j3, j4⟩ := HK.out
          have hN4 : N + 1 + (3 - gk) ≤ 1000000 := by omega
          have hg : ∃ g, gk = g + 1 := by
            cases gk with
            | zero => exfalso; have := HD.out; simp at j4; omega
            | succ g => exact ⟨g, rfl⟩
          obtain ⟨g, rfl⟩ := hg
          have j5 : nrmE g (stpE t) = R := by
            rw [← j3]
            show _ = (if t.wid < 16777216 then nrmE g (stpE t) else t)
            rw [if_pos (by rw [HD.out]; exact hlt)]
          have j6 : 16777216 ≤ (stpE t).wid * 256 ^ g := by
            show 16777216 ≤ t.wid * 256 * 256 ^ g
            rw [Nat.mul_assoc, ← Nat.pow_succ']
            exact j4
          have j7 := stpE_ok j2 (by rw [HD.out]; exact hlt)
          have HJ : Hid (g ≤ 3 ∧ okE (N + 1 + (3 - g)) (stpE t) ∧ nrmE g (stpE t) = R ∧ 16777216 ≤ (stpE t).wid * 256 ^ g) := ⟨by omega, by rw [show N + 1 + (3 - g) = N + 1 + (3 - (g + 1)) + 1 by omega]; exact j7, j5, j6⟩
          have US := Lib.hid (shift_any b B _ t _ HA.out j2 hN4)
          have HST : Hid ({ shfE t with wid := D2 } = stpE t) := by show _ = _; unfold stpE; rw [HD.out, hD2]
          have HSW : Hid ((shfE t).wid = D) := by show _ = _; rw [(shfE_ok j2).2]; exact HD.out
          clear hD2 j1 j2 j3 j4 j5 j6 j7
          go_wp2_with fail
          refine (US.out).mono ?_; rintro e w7 ⟨rfl, hA7, hW7⟩
          have HA8 := Lib.hid (hA7.wide D2)
          have HW8 := Lib.hid ((HW.out.trans hW7).trans (WKp.of_kp ((Kp.refl b w7).set 4 (.int .u64 (D2 : Int)))))
          obtain ⟨v7, ⟨⟨d0, d1, d2, d3, d4⟩, e0, e1, e2, e3, e4⟩, -⟩ := hA7
          rw [HSW.out] at d4
          clear hW7 c4 f0 f1 f2 f3 f4 d0 d1 d2 d3
          go_wp2
          go_roundg (g)
          all_goals first
            | exact ⟨stpE t, by show EcAt _ _ _ _; rw [← HST.out]; exact HA8.out, HJ.out, HW8.out⟩
            | omega
        · have x1 : ¬ (D : Int) < 16777216 := by omega
          have HR : Hid (t = R) := by
            show _ = _
            rw [← HK.out.2.2.1]
            cases gk with
            | zero => rfl
            | succ g => show _ = (if t.wid < 16777216 then _ else t); rw [if_neg (by rw [HD.out]; exact hlt)]
          go_wp2
          go_end0
          exact ⟨rfl, by rw [← HR.out]; exact HA.out, HW.out⟩
end Go.Proofs.YtdpebaheojaihaaDoor
