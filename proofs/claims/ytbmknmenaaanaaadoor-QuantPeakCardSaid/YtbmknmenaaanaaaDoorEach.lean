/- quant.Levels and quant.Values where every number has one: contracts over this seat's translation. -/
import Derived.Test.YtbmknmenaaanaaaDoorQuant
import Derived.Test.YtbmknmenaaanaaaDoorW8Math
import Derived.Test.YtbmknmenaaanaaaDoorWFlat
namespace Go.Proofs.YtbmknmenaaanaaaDoor
set_option linter.unusedVariables false
set_option linter.unusedSimpArgs false
open Go.RowKit Go.Extern.Stop Go.Stop Go.Extern

set_option maxHeartbeats 1000000 in
set_option maxRecDepth 20000 in
theorem each_level (F : Int → Int) (N : Nat) (X : Nat → Int) (qp : Int) (v : Value) (w : World) (h1 : 1 ≤ N) (hN : N ≤ 64) (ha : Ints w v (rowL N X)) (h : okQ qp)
    (hF : Hid (∀ i W, i < N → Calls Tryd.prog 37 #[.int .i64 (X i), .int .i64 qp] W fun e w' => e = .returned (.tuple #[.int .i64 (F (X i)), .nilIface]) ∧ W = w')) :
    Calls Tryd.prog 59 #[v, .int .i64 qp, .func (.func 37) #[] #[]] w fun e w' => ∃ u, e = .returned (.tuple #[u, .nilIface]) ∧ Ext w w' ∧ w'.ownsRow w.heap.size 3 1 u N ((rowL N fun i => F (X i)).map (Value.int .i64)) := by
  obtain ⟨i0, hi, hz0, hz1, hz2⟩ := info_parts infoInt
  obtain ⟨a, cap, rfl⟩ := ha.form
  rw [rowL_length] at ha ⊢
  have AG := Lib.hid (Ints.had' ha)
  have HQ := Lib.hid h
  clear h
  go_enter Tryd.func59, Tryd.ntmps59
  go_wp2_with fail
  refine (step_ok _ _ HQ.out).mono ?_; rintro e w1 ⟨rfl, rfl⟩
  go_wp2_with (at_make; refine wpList_make_full _ rfl _ _ 22 rfl w.heap.size 3 i0 (.int .i64 0) 1 Tryd.underlying22 hi hz0 hz1 .i64 .i64 _ _ N rfl rfl rfl rfl (by rw [hz2]; omega) (by unfold maxLen; omega) (Nat.le_refl _) ?_; intro w2 hown hgrow)
  have hE : Ext w w2 := Below.grown (Ext.refl w) hgrow (Nat.le_refl _) (fun k hk => by cases hk)
  rw [zeros_row] at hown
  obtain ⟨g, cz, hgg, hg0, hgl, hc1, hc2⟩ := own_form hown h1
  simp only [Value.slice.injEq, Option.some.injEq, Addr.mk.injEq, and_true, true_and] at hgg
  obtain ⟨rfl, rfl⟩ := hgg
  clear hgrow hi hz0 hz1 hz2
  go_wp2
  go_loopw [28] (fun iv wr => ∃ k : Nat, k ≤ N ∧ iv = .int .i64 k ∧ Hid (wr.ownsRow w.heap.size 3 1 (.slice (some ⟨w.heap.size, 0, none⟩) N N) N ((rowL N fun j => if j < k then F (X j) else 0).map (Value.int .i64))) ∧ Ext w wr) (fun iv _ => N - (intOf iv).toNat)
  case atStart => exact ⟨0, Nat.zero_le _, rfl, by show World.ownsRow _ _ _ _ _ _ _; simpa using hown, hE⟩
  case round =>
    obtain ⟨k, hk, rfl, HO, hEr⟩ := hrel
    by_cases hlt : k < N
    · obtain ⟨x, hx⟩ : ∃ x, X k = x := ⟨_, rfl⟩
      obtain ⟨g, off, rfl⟩ := AG.out (by omega)
      have cx := hEr.cell (ha.at (rowL_get hlt))
      rw [hx] at cx
      have hf := fun W => hF.out k W hlt
      rw [hx] at hf
      obtain ⟨y, hy⟩ : ∃ y, F x = y := ⟨_, rfl⟩
      rw [hy] at hf
      have HF := Lib.hid hf
      obtain ⟨cz, fz⟩ := own_cell HO.out hlt
      rw [if_neg (Nat.lt_irrefl _)] at cz
      have HY : Hid (F (X k) = y) := by show _ = _; rw [hx, hy]
      clear hf hx hy
      go_wp2_with fail
      refine (HF.out _).mono ?_; rintro e w3 ⟨rfl, rfl⟩
      go_wp2
      go_roundw
      case rel =>
        refine ⟨k + 1, by omega, by go_num, ?_, ?_⟩
        · have h := own_set (x := y) HO.out hlt
          rw [rowL_congr (g := fun j => if j < k + 1 then F (X j) else 0) (fun i _ => by
            by_cases hik : i = k
            · subst hik
              rw [if_pos rfl, if_pos (by omega), HY.out]
            · rw [if_neg hik]
              by_cases h2 : i < k
              · rw [if_pos h2, if_pos (by omega)]
              · rw [if_neg h2, if_neg (by omega)])] at h
          exact h
        · exact Below.setCell hEr (Nat.le_refl _) _
      case measure => simp [intOf]; omega
    · have hkn : N = k := by omega
      subst hkn
      have ho := HO.out
      rw [rowL_congr (g := fun j => F (X j)) (fun j hj => by rw [if_pos hj])] at ho
      go_wp2
      go_ret2
      exact ⟨_, rfl, hEr, ho⟩

set_option maxHeartbeats 1000000 in
set_option maxRecDepth 20000 in
theorem each_value (F : Int → Int) (N : Nat) (X : Nat → Int) (qp : Int) (v : Value) (w : World) (h1 : 1 ≤ N) (hN : N ≤ 64) (ha : Ints w v (rowL N X)) (h : okQ qp)
    (hF : Hid (∀ i W, i < N → Calls Tryd.prog 39 #[.int .i64 (X i), .int .i64 qp] W fun e w' => e = .returned (.tuple #[.int .i64 (F (X i)), .nilIface]) ∧ W = w')) :
    Calls Tryd.prog 59 #[v, .int .i64 qp, .func (.func 39) #[] #[]] w fun e w' => ∃ u, e = .returned (.tuple #[u, .nilIface]) ∧ Ext w w' ∧ w'.ownsRow w.heap.size 3 1 u N ((rowL N fun i => F (X i)).map (Value.int .i64)) := by
  obtain ⟨i0, hi, hz0, hz1, hz2⟩ := info_parts infoInt
  obtain ⟨a, cap, rfl⟩ := ha.form
  rw [rowL_length] at ha ⊢
  have AG := Lib.hid (Ints.had' ha)
  have HQ := Lib.hid h
  clear h
  go_enter Tryd.func59, Tryd.ntmps59
  go_wp2_with fail
  refine (step_ok _ _ HQ.out).mono ?_; rintro e w1 ⟨rfl, rfl⟩
  go_wp2_with (at_make; refine wpList_make_full _ rfl _ _ 22 rfl w.heap.size 3 i0 (.int .i64 0) 1 Tryd.underlying22 hi hz0 hz1 .i64 .i64 _ _ N rfl rfl rfl rfl (by rw [hz2]; omega) (by unfold maxLen; omega) (Nat.le_refl _) ?_; intro w2 hown hgrow)
  have hE : Ext w w2 := Below.grown (Ext.refl w) hgrow (Nat.le_refl _) (fun k hk => by cases hk)
  rw [zeros_row] at hown
  obtain ⟨g, cz, hgg, hg0, hgl, hc1, hc2⟩ := own_form hown h1
  simp only [Value.slice.injEq, Option.some.injEq, Addr.mk.injEq, and_true, true_and] at hgg
  obtain ⟨rfl, rfl⟩ := hgg
  clear hgrow hi hz0 hz1 hz2
  go_wp2
  go_loopw [28] (fun iv wr => ∃ k : Nat, k ≤ N ∧ iv = .int .i64 k ∧ Hid (wr.ownsRow w.heap.size 3 1 (.slice (some ⟨w.heap.size, 0, none⟩) N N) N ((rowL N fun j => if j < k then F (X j) else 0).map (Value.int .i64))) ∧ Ext w wr) (fun iv _ => N - (intOf iv).toNat)
  case atStart => exact ⟨0, Nat.zero_le _, rfl, by show World.ownsRow _ _ _ _ _ _ _; simpa using hown, hE⟩
  case round =>
    obtain ⟨k, hk, rfl, HO, hEr⟩ := hrel
    by_cases hlt : k < N
    · obtain ⟨x, hx⟩ : ∃ x, X k = x := ⟨_, rfl⟩
      obtain ⟨g, off, rfl⟩ := AG.out (by omega)
      have cx := hEr.cell (ha.at (rowL_get hlt))
      rw [hx] at cx
      have hf := fun W => hF.out k W hlt
      rw [hx] at hf
      obtain ⟨y, hy⟩ : ∃ y, F x = y := ⟨_, rfl⟩
      rw [hy] at hf
      have HF := Lib.hid hf
      obtain ⟨cz, fz⟩ := own_cell HO.out hlt
      rw [if_neg (Nat.lt_irrefl _)] at cz
      have HY : Hid (F (X k) = y) := by show _ = _; rw [hx, hy]
      clear hf hx hy
      go_wp2_with fail
      refine (HF.out _).mono ?_; rintro e w3 ⟨rfl, rfl⟩
      go_wp2
      go_roundw
      case rel =>
        refine ⟨k + 1, by omega, by go_num, ?_, ?_⟩
        · have h := own_set (x := y) HO.out hlt
          rw [rowL_congr (g := fun j => if j < k + 1 then F (X j) else 0) (fun i _ => by
            by_cases hik : i = k
            · subst hik
              rw [if_pos rfl, if_pos (by omega), HY.out]
            · rw [if_neg hik]
              by_cases h2 : i < k
              · rw [if_pos h2, if_pos (by omega)]
              · rw [if_neg h2, if_neg (by omega)])] at h
          exact h
        · exact Below.setCell hEr (Nat.le_refl _) _
      case measure => simp [intOf]; omega
    · have hkn : N = k := by omega
      subst hkn
      have ho := HO.out
      rw [rowL_congr (g := fun j => F (X j)) (fun j hj => by rw [if_pos hj])] at ho
      go_wp2
      go_ret2
      exact ⟨_, rfl, hEr, ho⟩

set_option maxRecDepth 20000 in
theorem levels_ok (N : Nat) (X : Nat → Int) (qp : Int) (v : Value) (w : World) (h1 : 1 ≤ N) (hN : N ≤ 64) (ha : Ints w v (rowL N X)) (h : okQ qp) (hX : ∀ i, i < N → okC (X i)) :
    Calls Tryd.prog 41 #[v, .int .i64 qp] w fun e w' => ∃ u, e = .returned (.tuple #[u, .nilIface]) ∧ Ext w w' ∧ w'.ownsRow w.heap.size 3 1 u N ((rowL N fun i => levelOf (X i) qp).map (Value.int .i64)) := by
  have H := Lib.hid (each_level (fun x => levelOf x qp) N X qp v w h1 hN ha h (fun i W hi => level_ok _ _ W (hX i hi) h))
  clear ha
  go_enter Tryd.func41, Tryd.ntmps41
  go_wp2_with fail
  refine H.out.mono ?_; rintro e w1 ⟨u, rfl, hx, ho⟩
  go_wp2
  go_ret2
  exact ⟨u, rfl, hx, ho⟩
set_option maxRecDepth 20000 in
theorem values_ok (N : Nat) (X : Nat → Int) (qp : Int) (v : Value) (w : World) (h1 : 1 ≤ N) (hN : N ≤ 64) (ha : Ints w v (rowL N X)) (h : okQ qp) (hX : ∀ i, i < N → okL (X i)) :
    Calls Tryd.prog 42 #[v, .int .i64 qp] w fun e w' => ∃ u, e = .returned (.tuple #[u, .nilIface]) ∧ Ext w w' ∧ w'.ownsRow w.heap.size 3 1 u N ((rowL N fun i => X i * stepOf qp).map (Value.int .i64)) := by
  have H := Lib.hid (each_value (fun x => x * stepOf qp) N X qp v w h1 hN ha h (fun i W hi => value_ok _ _ W (hX i hi) h))
  clear ha
  go_enter Tryd.func42, Tryd.ntmps42
  go_wp2_with fail
  refine H.out.mono ?_; rintro e w1 ⟨u, rfl, hx, ho⟩
  go_wp2
  go_ret2
  exact ⟨u, rfl, hx, ho⟩
end Go.Proofs.YtbmknmenaaanaaaDoor
