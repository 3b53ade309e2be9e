/- kinref8.down and kinref8.Inverse: contracts over this seat's translation. -/
import Derived.Test.YtbmknmenaaanaaaDoorRFwd
namespace Go.Proofs.YtbmknmenaaanaaaDoor
set_option linter.unusedVariables false
set_option linter.unusedSimpArgs false
open Go.RowKit Go.Extern.Stop Go.Stop Go.Extern

theorem tdiv_low (a b : Int) (hb : b = 16 ∨ b = 64) : ∃ q, a.tdiv b = q ∧ (q = a / b ∧ ¬ a < q * b ∨ q - 1 = a / b ∧ a < q * b) := by
  by_cases h : 0 ≤ a
  · refine ⟨_, Int.tdiv_eq_ediv_of_nonneg h, Or.inl ⟨rfl, ?_⟩⟩
    rcases hb with rfl | rfl <;> omega
  · obtain ⟨c, hc⟩ : ∃ c, c = -a := ⟨_, rfl⟩
    have e : a.tdiv b = -(c / b) := by
      rw [show a = -c by omega, Int.neg_tdiv, Int.tdiv_eq_ediv_of_nonneg (by omega)]
    refine ⟨_, e, ?_⟩
    rcases hb with rfl | rfl <;> omega
set_option maxRecDepth 20000 in
theorem down_any (a b : Int) (w : World) (hb : b = 16 ∨ b = 64) (ha : -2147483648 ≤ a ∧ a ≤ 2147483648) : Calls Tryd.prog 50 #[.int .i64 a, .int .i64 b] w fun e w' => e = .returned (.int .i64 (a / b)) ∧ w' = w := by
  obtain ⟨q, hq, hc⟩ := tdiv_low a b hb
  have bq : -2147483649 ≤ q * b ∧ q * b ≤ 2147483749 ∧ -2147483649 ≤ q ∧ q ≤ 2147483749 := by rcases hb with rfl | rfl <;> omega
  have w1 : IntKind.i64.wrap (q * b) = q * b := by rw [IntKind.wrap_i64]; omega
  have w2 : IntKind.i64.wrap q = q := by rw [IntKind.wrap_i64]; omega
  have w3 : IntKind.i64.wrap (q - 1) = q - 1 := by rw [IntKind.wrap_i64]; omega
  have nb : b ≠ 0 := by omega
  obtain ⟨p, hp⟩ : ∃ p, q * b = p := ⟨_, rfl⟩
  rw [hp] at hc bq w1
  rcases hc with ⟨h1, h2⟩ | ⟨h1, h2⟩
  · have H1 := Lib.hid h1
    clear h1
    go_enter Tryd.func50, Tryd.ntmps50
    go_wp2
    go_ret
    exact ⟨by rw [← H1.out]; rfl, rfl⟩
  · have H1 := Lib.hid h1
    clear h1
    go_enter Tryd.func50, Tryd.ntmps50
    go_wp2
    go_ret
    exact ⟨by rw [← H1.out]; rfl, rfl⟩
theorem ResAt.belowR {B b : Nat} {w w' : World} (h : ResAt w b) (k : Below B w w') (hb : b < B) : ResAt w' b := by
  obtain ⟨h0, h1, h2, h3⟩ := h
  exact ⟨(Below.cell k (p := ⟨b, 0, none⟩) hb).trans h0, (Below.cell k (p := ⟨b, 1, none⟩) hb).trans h1, (Below.frozen k (p := ⟨b, 0, none⟩) hb).trans h2, (Below.frozen k (p := ⟨b, 1, none⟩) hb).trans h3⟩
def midR (k : Nat) (d : Int) (s : Nat → Int) (j : Nat) : Int := if j < k then (s j + d / 2) / d else s j
theorem midR_step {k : Nat} {d : Int} {s : Nat → Int} (j : Nat) : midR (k + 1) d s j = if j = k then (s k + d / 2) / d else midR k d s j := by
  unfold midR
  by_cases h : j = k
  · subst h
    rw [if_pos (by omega), if_pos rfl]
  · rw [if_neg h]
    by_cases h2 : j < k
    · rw [if_pos h2, if_pos (by omega)]
    · rw [if_neg h2, if_neg (by omega)]

set_option maxRecDepth 20000 in
set_option maxHeartbeats 1000000 in
theorem rinverse_ok4 (zs : List Int) (v : Value) (w : World) (ha : Ints w v zs) (hN : zs.length = 16) (hw : within (-16777216) 16777216 zs) (out : List Int) (ho : Hid (out = rowL 16 (midR 16 16 fun i => psum 4 (fun t => zs.getD t 0) i (4 * 4)))) :
    Calls Tryd.prog 20 #[v] w (RBPost w none out) := by
  have SIDE := Lib.hid (show ∀ W, Calls Tryd.prog 47 #[.int .i64 16] W fun e w' => e = .returned (.int .i64 4) ∧ w' = W from fun W => rside_any 16 W)
  have HW := Lib.hid hw
  have R1 := ResAt.new w
  have E1 : Ext w (w.alloc (.cells #[.int .i64 0, .slice none 0 0] 32)) := (Ext.refl w).alloc _
  have SUM := Lib.hid (fun W h => rsums_any zs 4 v W h (by omega) hw)
  have HB : Hid (∀ i, -1073741824 ≤ psum 4 (fun t => zs.getD t 0) i (4 * 4) ∧ psum 4 (fun t => zs.getD t 0) i (4 * 4) ≤ 1073741824) := fun i => by
    have := psum_bound (n := 4) (i := i) (f := fun t => zs.getD t 0) (fun t => getD_bound hw (by decide) t) (4 * 4)
    omega
  obtain ⟨s, hs⟩ : ∃ s : Nat → Int, s = fun i => psum 4 (fun t => zs.getD t 0) i (4 * 4) := ⟨_, rfl⟩
  have HB2 : Hid (∀ i, -1073741824 ≤ s i ∧ s i ≤ 1073741824) := fun i => by rw [hs]; exact HB.out i
  rw [← hs] at SUM ho
  obtain ⟨a, cap, rfl⟩ := ha.form
  rw [hN] at ha SUM ⊢
  clear hw hN hs HB
  go_enter Tryd.func20, Tryd.ntmps20
  go_wp2_with fail
  refine (SIDE.out _).mono ?_; rintro e w1 ⟨rfl, rfl⟩
  go_wp2_with fail
  refine (within_any zs _ _ _ _ (ha.ext E1)).mono ?_; rintro e w2 ⟨rfl, hx2⟩
  rw [decide_eq_true HW.out]
  have E2 := E1.trans hx2
  have R2 := R1.ext hx2
  clear R1 hx2
  have lt2 : w.heap.size < w2.heap.size := Ext.lt R2.1
  go_wp2_with fail
  refine (SUM.out _ (ha.ext E2)).mono ?_; rintro e w9 ⟨u, rfl, hx9, hown⟩
  have EE : Ext w w9 := E2.trans hx9
  have RR := R2.ext hx9
  obtain ⟨g, cap', rfl, hg, hgl, hc1, hc2⟩ := own_form hown (by decide)
  unfold maxLen at hc2
  clear R2 E2 E1 hx9 SUM hgl
  go_wp2
  go_loopw [6] (fun iv wr => ∃ k : Nat, k ≤ 16 ∧ iv = .int .i64 k ∧ Hid (wr.ownsRow w2.heap.size 3 1 (.slice (some ⟨g, 0, none⟩) 16 cap') 16 ((rowL 16 (midR k 16 s)).map (Value.int .i64))) ∧ Ext w wr ∧ ResAt wr w.heap.size) (fun iv _ => 16 - (intOf iv).toNat)
  case atStart => exact ⟨0, by decide, rfl, by
    show World.ownsRow _ _ _ _ _ _ _
    rw [rowL_congr (g := s) (fun j _ => by unfold midR; rw [if_neg (by omega)])]
    exact hown, EE, RR⟩
  case round =>
    clear hown EE RR
    obtain ⟨k, hk, rfl, HO, EE, RR⟩ := hrel
    by_cases hk4 : k < 16
    · have tk : decide ((k : Int) < 16) = true := decide_eq_true (by omega)
      obtain ⟨cA, fz⟩ := own_cell HO.out hk4
      obtain ⟨A, hA⟩ : ∃ A, s k = A := ⟨_, rfl⟩
      rw [show midR k 16 s k = A by unfold midR; rw [if_neg (by omega)]; exact hA] at cA
      have bA := HB2.out k
      rw [hA] at bA
      have HA := Lib.hid hA
      clear hA
      have e1 : IntKind.i64.wrap (A + 8) = A + 8 := by rw [IntKind.wrap_i64]; omega
      go_wp2_with fail
      refine (down_any _ _ _ (by decide) (by omega)).mono ?_; rintro e w' ⟨rfl, rfl⟩
      go_wp2
      · go_roundw
        case measure => simp [intOf]; omega
        case rel =>
          refine ⟨k + 1, by omega, by go_num, ?_, (Below.setCell EE (Nat.le_of_lt (Nat.lt_of_lt_of_le lt2 hg)) _), RR.belowR (Below.setCell (Below.refl (w.heap.size + 1) _) (Nat.lt_of_lt_of_le lt2 hg) _) (Nat.lt_succ_self _)⟩
          show World.ownsRow _ _ _ _ _ _ _
          have h := own_set (x := (A + 8) / 16) HO.out hk4
          rw [rowL_congr (g := midR (k + 1) 16 s) (fun j _ => by rw [midR_step, HA.out]; rfl)] at h
          exact h
    · have hkk : k = 16 := by omega
      subst hkk
      have ho2 := ownsRow_setCell_below (ownsRow_setCell_below HO.out (a := ⟨w.heap.size, 0, none⟩) lt2 (.int .i64 0)) (a := ⟨w.heap.size, 1, none⟩) lt2 (.slice none 0 0)
      have ho3 := Ints.of_row ho2 (by omega)
      obtain ⟨r0, r1, f0, f1⟩ := RR
      go_wp2
      obtain ⟨e0, e1⟩ := res_cells (c := 0) r0 r1 (.slice none 0 0)
      exact bodyPost_ret (v := .tuple #[.slice (some ⟨g, 0, none⟩) 16 cap', .agg #[.int .i64 0, .slice none 0 0]]) (by simp [results, Tryd.results20, go_sem, e0, e1]) rfl ⟨_, _, rfl, (EE.setCell (by simp) _).setCell (by simp) _, by rw [ho.out]; exact ho3, rfl⟩

set_option maxRecDepth 20000 in
set_option maxHeartbeats 1000000 in
theorem rinverse_ok8 (zs : List Int) (v : Value) (w : World) (ha : Ints w v zs) (hN : zs.length = 64) (hw : within (-16777216) 16777216 zs) (out : List Int) (ho : Hid (out = rowL 64 (midR 64 64 fun i => psum 8 (fun t => zs.getD t 0) i (8 * 8)))) :
    Calls Tryd.prog 20 #[v] w (RBPost w none out) := by
  have SIDE := Lib.hid (show ∀ W, Calls Tryd.prog 47 #[.int .i64 64] W fun e w' => e = .returned (.int .i64 8) ∧ w' = W from fun W => rside_any 64 W)
  have HW := Lib.hid hw
  have R1 := ResAt.new w
  have E1 : Ext w (w.alloc (.cells #[.int .i64 0, .slice none 0 0] 32)) := (Ext.refl w).alloc _
  have SUM := Lib.hid (fun W h => rsums_any zs 8 v W h (by omega) hw)
  have HB : Hid (∀ i, -1073741824 ≤ psum 8 (fun t => zs.getD t 0) i (8 * 8) ∧ psum 8 (fun t => zs.getD t 0) i (8 * 8) ≤ 1073741824) := fun i => by
    have := psum_bound (n := 8) (i := i) (f := fun t => zs.getD t 0) (fun t => getD_bound hw (by decide) t) (8 * 8)
    omega
  obtain ⟨s, hs⟩ : ∃ s : Nat → Int, s = fun i => psum 8 (fun t => zs.getD t 0) i (8 * 8) := ⟨_, rfl⟩
  have HB2 : Hid (∀ i, -1073741824 ≤ s i ∧ s i ≤ 1073741824) := fun i => by rw [hs]; exact HB.out i
  rw [← hs] at SUM ho
  obtain ⟨a, cap, rfl⟩ := ha.form
  rw [hN] at ha SUM ⊢
  clear hw hN hs HB
  go_enter Tryd.func20, Tryd.ntmps20
  go_wp2_with fail
  refine (SIDE.out _).mono ?_; rintro e w1 ⟨rfl, rfl⟩
  go_wp2_with fail
  refine (within_any zs _ _ _ _ (ha.ext E1)).mono ?_; rintro e w2 ⟨rfl, hx2⟩
  rw [decide_eq_true HW.out]
  have E2 := E1.trans hx2
  have R2 := R1.ext hx2
  clear R1 hx2
  have lt2 : w.heap.size < w2.heap.size := Ext.lt R2.1
  go_wp2_with fail
  refine (SUM.out _ (ha.ext E2)).mono ?_; rintro e w9 ⟨u, rfl, hx9, hown⟩
  have EE : Ext w w9 := E2.trans hx9
  have RR := R2.ext hx9
  obtain ⟨g, cap', rfl, hg, hgl, hc1, hc2⟩ := own_form hown (by decide)
  unfold maxLen at hc2
  clear R2 E2 E1 hx9 SUM hgl
  go_wp2
  go_loopw [6] (fun iv wr => ∃ k : Nat, k ≤ 64 ∧ iv = .int .i64 k ∧ Hid (wr.ownsRow w2.heap.size 3 1 (.slice (some ⟨g, 0, none⟩) 64 cap') 64 ((rowL 64 (midR k 64 s)).map (Value.int .i64))) ∧ Ext w wr ∧ ResAt wr w.heap.size) (fun iv _ => 64 - (intOf iv).toNat)
  case atStart => exact ⟨0, by decide, rfl, by
    show World.ownsRow _ _ _ _ _ _ _
    rw [rowL_congr (g := s) (fun j _ => by unfold midR; rw [if_neg (by omega)])]
    exact hown, EE, RR⟩
  case round =>
    clear hown EE RR
    obtain ⟨k, hk, rfl, HO, EE, RR⟩ := hrel
    by_cases hk4 : k < 64
    · have tk : decide ((k : Int) < 64) = true := decide_eq_true (by omega)
      obtain ⟨cA, fz⟩ := own_cell HO.out hk4
      obtain ⟨A, hA⟩ : ∃ A, s k = A := ⟨_, rfl⟩
      rw [show midR k 64 s k = A by unfold midR; rw [if_neg (by omega)]; exact hA] at cA
      have bA := HB2.out k
      rw [hA] at bA
      have HA := Lib.hid hA
      clear hA
      have e1 : IntKind.i64.wrap (A + 32) = A + 32 := by rw [IntKind.wrap_i64]; omega
      go_wp2_with fail
      refine (down_any _ _ _ (by decide) (by omega)).mono ?_; rintro e w' ⟨rfl, rfl⟩
      go_wp2
      · go_roundw
        case measure => simp [intOf]; omega
        case rel =>
          refine ⟨k + 1, by omega, by go_num, ?_, (Below.setCell EE (Nat.le_of_lt (Nat.lt_of_lt_of_le lt2 hg)) _), RR.belowR (Below.setCell (Below.refl (w.heap.size + 1) _) (Nat.lt_of_lt_of_le lt2 hg) _) (Nat.lt_succ_self _)⟩
          show World.ownsRow _ _ _ _ _ _ _
          have h := own_set (x := (A + 32) / 64) HO.out hk4
          rw [rowL_congr (g := midR (k + 1) 64 s) (fun j _ => by rw [midR_step, HA.out]; rfl)] at h
          exact h
    · have hkk : k = 64 := by omega
      subst hkk
      have ho2 := ownsRow_setCell_below (ownsRow_setCell_below HO.out (a := ⟨w.heap.size, 0, none⟩) lt2 (.int .i64 0)) (a := ⟨w.heap.size, 1, none⟩) lt2 (.slice none 0 0)
      have ho3 := Ints.of_row ho2 (by omega)
      obtain ⟨r0, r1, f0, f1⟩ := RR
      go_wp2
      obtain ⟨e0, e1⟩ := res_cells (c := 0) r0 r1 (.slice none 0 0)
      exact bodyPost_ret (v := .tuple #[.slice (some ⟨g, 0, none⟩) 64 cap', .agg #[.int .i64 0, .slice none 0 0]]) (by simp [results, Tryd.results20, go_sem, e0, e1]) rfl ⟨_, _, rfl, (EE.setCell (by simp) _).setCell (by simp) _, by rw [ho.out]; exact ho3, rfl⟩
end Go.Proofs.YtbmknmenaaanaaaDoor
