/- kinref12's decoder: Code, NewDecoder: contracts over this seat's translation; the two decoders side by side. -/
import Derived.Test.YtdpebaheojaihaaDoorRx2
import Derived.Test.YtdpebaheojaihaaDoorRes
namespace Go.Proofs.YtdpebaheojaihaaDoor
set_option linter.unusedVariables false
set_option linter.unusedSimpArgs false
open Go.RowKit Go.Extern.Stop Go.Stop Go.Extern

theorem Kp.setNew {b : Nat} {u v : World} (h : Kp b u v) {p : Addr} (hp : u.heap.size ≤ p.block) (x : Value) : Kp b u (v.setCell p x) :=
  ⟨show v.os = u.os from World.grownBy.os h, show v.tape = u.tape from World.grownBy.tape h, show v.output = u.output from World.grownBy.output h, by simpa using h.size, fun i hi hn => (Below.heap_setCell v p x i (by omega)).trans (World.grownBy.block h i hi hn)⟩
theorem ResAt.kp {w w' : World} {B b : Nat} (h : ResAt w B) (k : Kp b w w') (hb : B ≠ b) : ResAt w' B := by
  obtain ⟨h0, h1, h2, h3⟩ := h
  have e := k.block (Ext.lt (p := ⟨B, 0, none⟩) h0) hb
  exact ⟨(World.cell?_of_block (a := ⟨B, 0, none⟩) e).trans h0, (World.cell?_of_block (a := ⟨B, 1, none⟩) e).trans h1, (World.frozen?_of_block (a := ⟨B, 0, none⟩) e).trans h2, (World.frozen?_of_block (a := ⟨B, 1, none⟩) e).trans h3⟩
def xcU (s : Xc) (p : Int) : Bool := if chance p then decide (s.rr / 2048 * p.toNat ≤ s.dd) else false
def xcD (bs : List Nat) (s : Xc) (p : Int) : Xc := if chance p then parX bs s (s.rr / 2048 * p.toNat) else s
def XkPost (F : Nat → Prop) (w : World) (b : Nat) (bs : List Nat) (p : Int) (v : Bool) (s : Xc) (e : Ending) (w' : World) : Prop := ∃ c x, e = .returned (.tuple #[.bool v, .agg #[.int .i64 c, x]]) ∧ RErrIs w' (if chance p then none else some ([], 3)) c x ∧ XcAt F w' b bs s ∧ Kp b w w'
theorem chance_of {p : Int} (h : ¬ chance p = true) : p < 1 ∨ (¬ p < 1 ∧ 2047 < p) := by
  by_cases h1 : p < 1
  · exact .inl h1
  · refine .inr ⟨h1, ?_⟩
    refine Int.lt_of_not_ge fun h2 => h ?_
    unfold chance
    rw [decide_eq_true (by omega : 1 ≤ p), decide_eq_true (by omega : p < 2048)]
    rfl
set_option maxRecDepth 20000 in
set_option maxHeartbeats 4000000 in
theorem xcode_any (F : Nat → Prop) (b N : Nat) (p : Int) (bs : List Nat) (s : Xc) (w : World) (h : XcAt F w b bs s) (hk : okX N s) (hN : N ≤ 900000) (hw : 16777216 ≤ s.rr) (hFn : ∀ g, w.heap.size ≤ g → F g) : Calls Tryd.prog 28 #[.pointer (some ⟨b, 0, none⟩), .int .i64 p] w (XkPost F w b bs p (xcU s p) (xcD bs s p)) := by
  have A1 : Ext w (w.alloc (.cells #[.int .i64 0, .slice none 0 0] 38)) := (Ext.refl w).alloc _
  have HA1 := Lib.hid (h.ext A1)
  have HR1 := Lib.hid (ResAt.new w)
  have HK1 := Lib.hid (Kp.of_ext (b := b) A1)
  have hbw : b < w.heap.size := by obtain ⟨_, _, h, _⟩ := h; exact h.lt
  have hRb : w.heap.size ≠ b := by omega
  have hbR : b ≠ w.heap.size := by omega
  have HFR := Lib.hid (hFn w.heap.size (Nat.le_refl _))
  clear hFn
  by_cases hc : chance p = true
  · have HF : Hid ((if chance p then none else some ([], 3) : Fall) = none) := if_pos hc
    have HS : Hid (xcD bs s p = parX bs s (s.rr / 2048 * p.toNat)) := if_pos hc
    have HV : Hid (xcU s p = decide (s.rr / 2048 * p.toNat ≤ s.dd)) := if_pos hc
    have hc2 := hc
    unfold chance at hc2
    rw [Bool.and_eq_true, decide_eq_true_iff, decide_eq_true_iff] at hc2
    obtain ⟨n, rfl⟩ : ∃ n : Nat, p = (n : Int) := ⟨p.toNat, by omega⟩
    have hn : ((n : Int)).toNat = n := by omega
    rw [hn] at HS HV
    obtain ⟨d, hd⟩ : ∃ d, s.rr = d := ⟨_, rfl⟩
    obtain ⟨q, hq⟩ : ∃ q, d / 2048 = q := ⟨_, rfl⟩
    obtain ⟨W, hW⟩ : ∃ W, q * n = W := ⟨_, rfl⟩
    have hd4 : d < 4294967296 := by rw [← hd]; exact hk.2.2
    have h1 : q * n ≤ q * 2047 := Nat.mul_le_mul_left q (by omega)
    have h2 : q * 1 ≤ q * n := Nat.mul_le_mul_left q (by omega)
    have UP := Lib.hid (xnarrows_any F b N W bs s _ HA1.out hk hN (by omega) (by omega))
    rw [hd, hq, hW] at HS HV
    rw [← HS.out, ← HV.out] at UP
    have s1 : Int.tdiv (d : Int) 2048 = (q : Int) := by rw [← hq, show (2048 : Int) = ((2048 : Nat) : Int) from rfl, Int.ofNat_tdiv]
    have s2 : IntKind.i64.wrap (q : Int) = (q : Int) := by rw [IntKind.wrap_i64]; omega
    have s4 : IntKind.i64.wrap ((q : Int) * (n : Int)) = (W : Int) := by rw [← Int.natCast_mul, hW, IntKind.wrap_i64]; omega
    have p1 : ¬ (n : Int) < 1 := by omega
    have p2 : ¬ (2047 : Int) < (n : Int) := by omega
    obtain ⟨a, cap, ⟨⟨c0, c1, c2, c3⟩, f1, f2, f3⟩, -, -⟩ := HA1.out
    rw [hd] at c3
    obtain ⟨R, hR⟩ : ∃ R, xcD bs s (n : Int) = R := ⟨_, rfl⟩
    obtain ⟨V, hV⟩ : ∃ V, xcU s (n : Int) = V := ⟨_, rfl⟩
    rw [hR, hV] at UP ⊢
    clear hR hV HS HV hn hc2 hd hq hW hk hw h1 h2 c0 c1 c2 hc h
    go_enter Tryd.func28, Tryd.ntmps28
    go_wp2_with fail
    refine (UP.out).mono ?_; rintro e w7 ⟨rfl, hA7, hW7⟩
    obtain ⟨r0, r1, r2, r3⟩ := HR1.out.kp hW7 hRb
    have HKf := Lib.hid (((HK1.out.trans hW7).setNew (p := ⟨w.heap.size, 0, none⟩) (Nat.le_refl _) (.int .i64 0)).setNew (p := ⟨w.heap.size, 1, none⟩) (Nat.le_refl _) (.slice none 0 0))
    have HXf := Lib.hid (hA7.kp (((Kp.refl w.heap.size w7).set 0 (.int .i64 0)).set 1 (.slice none 0 0)) HFR.out hbR)
    obtain ⟨y0, y1⟩ := res_cells (c := 0) r0 r1 (.slice none 0 0)
    clear hA7 hW7
    go_wp2
    exact bodyPost_ret (v := .tuple #[.bool V, .agg #[.int .i64 0, .slice none 0 0]]) (by simp [results, Tryd.results28, go_sem, y0, y1]) rfl ⟨0, .slice none 0 0, rfl, by rw [HF.out]; exact RErrIs.zero, HXf.out, HKf.out⟩
  · have hpp := chance_of hc
    have hc : chance p = false := by simpa using hc
    have HF : Hid ((if chance p then none else some ([], 3) : Fall) = some ([], 3)) := by show _ = _; rw [hc]; rfl
    have HS : Hid (xcD bs s p = s) := by show (if chance p then _ else _) = _; rw [hc]; rfl
    have HV : Hid (xcU s p = false) := by show (if chance p then _ else _) = _; rw [hc]; rfl
    clear h hk hw hc
    rcases hpp with p1 | ⟨p1, p2⟩
    all_goals (
      go_enter Tryd.func28, Tryd.ntmps28
      go_wp2_with fail
      refine (fail_any 3 _).mono ?_; rintro e w7 ⟨rfl, hx7⟩
      obtain ⟨r0, r1, r2, r3⟩ := HR1.out.ext hx7
      have HKf := Lib.hid (((HK1.out.ext hx7).setNew (p := ⟨w.heap.size, 0, none⟩) (Nat.le_refl _) (.int .i64 3)).setNew (p := ⟨w.heap.size, 1, none⟩) (Nat.le_refl _) (.slice none 0 0))
      have HXf := Lib.hid ((HA1.out.ext hx7).kp (((Kp.refl w.heap.size w7).set 0 (.int .i64 3)).set 1 (.slice none 0 0)) HFR.out hbR)
      obtain ⟨y0, y1⟩ := res_cells (c := 3) r0 r1 (.slice none 0 0)
      clear hx7
      go_wp2
      exact bodyPost_ret (v := .tuple #[.bool false, .agg #[.int .i64 3, .slice none 0 0]]) (by simp [results, Tryd.results28, go_sem, y0, y1]) rfl ⟨3, .slice none 0 0, by rw [HV.out], by rw [HF.out]; exact RErrIs.code (by decide), by rw [HS.out]; exact HXf.out, HKf.out⟩)
def nxN (bs : List Nat) : Nat → Xc
  | 0 => ⟨0, 0, 4294967295⟩
  | k + 1 => nexX bs (nxN bs k)
theorem nxN_ok (bs : List Nat) (k : Nat) : okX k (nxN bs k) := by
  induction k with
  | zero => exact ⟨Nat.le_refl _, Nat.zero_le _, (by show (4294967295 : Nat) < 4294967296; decide)⟩
  | succ k ih => exact nexX_ok ih
def NxcPost (w : World) (bs : List Nat) (e : Ending) (w' : World) : Prop := ∃ b, e = .returned (.pointer (some ⟨b, 0, none⟩)) ∧ w.heap.size ≤ b ∧ XcAt (fun g => g < w.heap.size ∨ w'.heap.size ≤ g) w' b bs (nxN bs 4) ∧ Ext w w'
set_option maxRecDepth 20000 in
set_option maxHeartbeats 4000000 in
theorem newxc_any (bs : List Nat) (v : Value) (w : World) (h : Bys w v bs) : Calls Tryd.prog 24 #[v] w (NxcPost w bs) := by
  have UC := Lib.hid (cpb_any bs v w h)
  have HBB := Lib.hid h.2
  clear h
  go_enter Tryd.func24, Tryd.ntmps24
  go_wp2_with fail
  refine (UC.out).mono ?_; rintro e w1 ⟨u, rfl, ho, hx1⟩
  have hy := Bys.of_owns ho HBB.out.1 HBB.out.2
  obtain ⟨a, cap, rfl⟩ := hy.form
  have hg : ∀ g off, a = some ⟨g, off, none⟩ → w.heap.size ≤ g ∧ g < w1.heap.size := fun g off ha => by
    subst ha
    exact ho.lt g rfl
  obtain ⟨B, hB⟩ : ∃ B, w1.heap.size = B := ⟨_, rfl⟩
  have hBw : w.heap.size ≤ B := by rw [← hB]; exact hx1.size
  have HD0 : Hid (XcAt (fun g => g < w.heap.size ∨ B + 1 ≤ g) (w1.alloc (.cells #[.slice a bs.length cap, .int .i64 0, .int .i64 0, .int .i64 4294967295] 80)) B bs (nxN bs 0)) := by
    subst hB
    exact ⟨a, cap, ⟨⟨by simp, by simp [nxN], by simp [nxN], by simp [nxN]⟩, by simp, by simp, by simp⟩, hy.ext ((Ext.refl _).alloc _), fun g off ha => by have := hg g off ha; omega⟩
  have HX0 := Lib.hid (hx1.alloc (.cells #[.slice a bs.length cap, .int .i64 0, .int .i64 0, .int .i64 4294967295] 80))
  have HS0 : Hid (B + 1 ≤ (w1.alloc (.cells #[.slice a bs.length cap, .int .i64 0, .int .i64 0, .int .i64 4294967295] 80)).heap.size) := by show _ ≤ _; simp [hB]
  have HBw := Lib.hid hBw
  clear ho hy hg hx1
  go_wp2_with fail
  clear hB
  go_loopw [4] (fun iv wr => ∃ k : Nat, k ≤ 4 ∧ iv = .int .i64 (k : Int) ∧ Hid (XcAt (fun g => g < w.heap.size ∨ B + 1 ≤ g) wr B bs (nxN bs k)) ∧ Hid (Ext w wr) ∧ Hid (B + 1 ≤ wr.heap.size)) (fun iv _ => 4 - (intOf iv).toNat)
  case atStart => exact ⟨0, Nat.zero_le _, rfl, HD0.out, HX0.out, HS0.out⟩
  case round =>
    clear HD0 HX0 HS0
    obtain ⟨k, hk, rfl, HD, HX, HS⟩ := hrel
    by_cases hlt : k < 4
    · have UN := Lib.hid (xnext_any _ B k bs _ wr HD.out (nxN_ok bs k) (by omega))
      have x1 : (k : Int) < 4 := by omega
      go_wp2_with fail
      refine (UN.out).mono ?_; rintro e w7 ⟨rfl, hA7, hK7⟩
      have HA7 : Hid (XcAt (fun g => g < w.heap.size ∨ B + 1 ≤ g) w7 B bs (nxN bs (k + 1))) := hA7
      have HX7 := Lib.hid (Kp.out HX.out hK7 HBw.out)
      have HS7 := Lib.hid (Nat.le_trans HS.out hK7.size)
      clear hA7 hK7
      go_wp2
      go_roundw
      case rel => exact ⟨k + 1, by omega, by go_num, HA7.out, HX7.out, HS7.out⟩
      case measure => simp [intOf]; omega
    · have hk4 : k = 4 := by omega
      have x1 : ¬ (k : Int) < 4 := by omega
      subst hk4
      have HF : Hid (XcAt (fun g => g < w.heap.size ∨ wr.heap.size ≤ g) wr B bs (nxN bs 4)) := by
        obtain ⟨a, cap, h1, h2, h3⟩ := HD.out
        exact ⟨a, cap, h1, h2, fun g off e => ⟨(h3 g off e).1, fun h9 => (h3 g off e).2 (by have := HS.out; omega)⟩⟩
      go_wp2
      go_ret
      exact ⟨B, rfl, HBw.out, HF.out, HX.out⟩
end Go.Proofs.YtdpebaheojaihaaDoor
