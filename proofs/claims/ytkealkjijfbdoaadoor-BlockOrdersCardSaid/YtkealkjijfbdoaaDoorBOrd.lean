/- kinlaw7.BlockOrders: the walk. -/
import Derived.Test.YtkealkjijfbdoaaDoorROrd
import Derived.Test.YtkealkjijfbdoaaDoorB7
import Derived.Deep.OwnRows
namespace Go.Proofs.YtkealkjijfbdoaaDoor
set_option linter.unusedVariables false
set_option linter.unusedSimpArgs false
open Go.RowKit Go.Extern.Stop Go.Stop Go.Extern

theorem infoBool : (Tryd.prog.info? 4).map (fun i => (i.zero, i.size, i.bytes)) = some (some (.bool false), 1, 1) := by kernel_rfl
def metB (L : List Nat) (k j : Nat) : Bool := decide (j ∈ L.take k)
theorem metB_succ {L : List Nat} {k x : Nat} (h : L[k]? = some x) (j : Nat) : metB L (k + 1) j = if j = x then true else metB L k j := by
  unfold metB
  rw [take_of_get h]
  by_cases e : j = x
  · rw [if_pos e, e]; simp
  · rw [if_neg e]; simp [e]
theorem metB_new {L : List Nat} {k x : Nat} (h : L[k]? = some x) (hd : L.Nodup) : metB L k x = false := by
  unfold metB
  rw [decide_eq_false_iff_not]
  intro hm
  obtain ⟨i, hi, e⟩ := List.mem_iff_getElem.1 hm
  have hik : i < k := by rw [List.length_take] at hi; omega
  rw [List.getElem_take] at e
  obtain ⟨hk, ek⟩ := List.getElem?_eq_some_iff.1 h
  have := (List.pairwise_iff_getElem.1 hd) i k (by omega) hk hik
  exact this (e.trans ek.symm)
set_option maxHeartbeats 4000000 in
set_option maxRecDepth 20000 in
theorem orders_4 (w : World) (hg : EtIs w) (L : List Nat) (HL : Hid (L.length = 16)) (HB : Hid (∀ x ∈ L, x < 16)) (HD : Hid L.Nodup)
    (F1 : Hid (∀ W, Calls Tryd.prog 53 #[.int .i64 4] W fun e w' => ∃ u, e = .returned u ∧ Ext W w' ∧ Ints w' u (intsOf L)))
    (F2 : Hid (∀ W, Calls Tryd.prog 54 #[.int .i64 4] W fun e w' => ∃ u, e = .returned u ∧ Ext W w' ∧ Ints w' u (intsOf L))) :
    Calls Tryd.prog 11 #[.int .i64 4] w fun e w' => e = .returned (.bool true) ∧ Ext w w' := by
  obtain ⟨i0, hi, hz0, hz1, hz2⟩ := info_parts infoBool
  go_enter Tryd.func11, Tryd.ntmps11
  go_wp2_with fail
  refine (first7_any _ hg).mono ?_; rintro e w1 ⟨rfl, hx1⟩
  go_wp2_with fail
  refine (F1.out _).mono ?_; rintro e w2 ⟨u2, rfl, hx2, hu2⟩
  obtain ⟨a2, c2, rfl⟩ := hu2.form
  rw [show (intsOf L).length = L.length by simp [intsOf], HL.out] at hu2 ⊢
  go_wp2_with (at_make; refine wpList_make_row _ rfl _ _ 72 rfl 4 i0 (.bool false) Tryd.underlying72 hi hz0 hz1 rfl .i64 .i64 64 rfl rfl (by rw [hz2]; omega) (by omega) ?_)
  have R0 : (w2.alloc (.cells (madeCells #[.bool false] 64) 4)).rowIs w2.heap.size 4 64 (fun j => .bool (metB L 0 j)) := (World.rowIs_made w2 (.bool false) 64 _).congr (fun j _ => by simp [metB])
  have E2 : Ext w w2 := (by repeat (first | exact Ext.refl _ | assumption | refine Ext.alloc ?_ _ | refine Ext.drew ?_ | refine Ext.drewN ?_ _ | refine Ext.setCell ?_ (by first | exact Nat.le_refl _ | (simp; done) | omega) _ | refine Ext.trans ?_ (by assumption)))
  have S3 : Ext w2 (w2.alloc (.cells (madeCells #[.bool false] 64) 4)) := (by repeat (first | exact Ext.refl _ | assumption | refine Ext.alloc ?_ _ | refine Ext.drew ?_ | refine Ext.drewN ?_ _ | refine Ext.setCell ?_ (by first | exact Nat.le_refl _ | (simp; done) | omega) _ | refine Ext.trans ?_ (by assumption)))
  clear hi hz0 hz1 hz2 hx1 hx2
  obtain ⟨M, hM⟩ : ∃ M, M = w2.heap.size := ⟨_, rfl⟩
  go_wp2_with fail
  rw [← hM] at R0 ⊢
  have HMM := Lib.hid hM
  clear hM
  revert S3 R0
  generalize w2.alloc (.cells (madeCells #[.bool false] 64) 4) = w3
  intro S3 R0
  have HU := Lib.hid hu2.had
  go_loopw [5] (fun iv wr => ∃ k : Nat, k ≤ 16 ∧ iv = .int .i64 k ∧ Hid (wr.rowIs M 4 64 (fun j => .bool (metB L k j))) ∧ Ext w2 wr) (fun iv _ => 16 - (intOf iv).toNat)
  case atStart => exact ⟨0, Nat.zero_le _, rfl, R0, S3⟩
  case round =>
    clear R0 S3
    obtain ⟨k, hk, rfl, HM, hE⟩ := hrel
    by_cases hlt : k < 16
    · obtain ⟨x, hx⟩ : ∃ x, L[k]? = some x := ⟨_, List.getElem?_eq_getElem (by rw [HL.out]; exact hlt)⟩
      have hxk : x < 16 := HB.out x (List.mem_of_getElem? hx)
      obtain ⟨g, off, rfl⟩ := HU.out (by omega)
      have cx : wr.cell? ⟨g, off + k, none⟩ = some (.int .i64 (x : Int)) := hE.cell (hu2.at (by rw [intsOf, List.getElem?_map, hx]; rfl))
      have cm := HM.out.cell (show x < 64 by omega)
      have fm := HM.out.frozen x
      rw [metB_new hx HD.out] at cm
      have HX := Lib.hid hx
      clear hx
      go_wp2
      go_roundw
      case measure => simp [intOf]; omega
      case rel =>
        refine ⟨k + 1, by omega, by go_num, ?_, Below.setCell hE (by rw [← HMM.out]; exact Nat.le_refl _) _⟩
        exact (HM.out.set x (.bool true)).congr (fun j _ => by
          rw [metB_succ HX.out]
          by_cases e : j = x
          · rw [if_pos e, if_pos e]
          · rw [if_neg e, if_neg e])
    · obtain rfl : k = 16 := by omega
      have EW := E2.trans hE
      have hu4 := hu2.ext hE
      clear HM hE
      go_wp2_with fail
      refine (first7_any _ (hg.ext EW)).mono ?_; rintro e w4 ⟨rfl, hx4⟩
      go_wp2_with fail
      refine (F2.out _).mono ?_; rintro e w5 ⟨u5, rfl, hx5, hu5⟩
      go_wp2_with fail
      refine (ints_same _ _ _ _ _ (hu4.ext (by repeat (first | exact Ext.refl _ | assumption | refine Ext.alloc ?_ _ | refine Ext.drew ?_ | refine Ext.drewN ?_ _ | refine Ext.setCell ?_ (by first | exact Nat.le_refl _ | (simp; done) | omega) _ | refine Ext.trans ?_ (by assumption)))) hu5).mono ?_; rintro e w6 ⟨rfl, hx6⟩
      rw [decide_eq_true rfl]
      go_wp2
      go_ret
      exact ⟨rfl, (by repeat (first | exact Ext.refl _ | assumption | refine Ext.alloc ?_ _ | refine Ext.drew ?_ | refine Ext.drewN ?_ _ | refine Ext.setCell ?_ (by first | exact Nat.le_refl _ | (simp; done) | omega) _ | refine Ext.trans ?_ (by assumption)))⟩
set_option maxHeartbeats 4000000 in
set_option maxRecDepth 20000 in
theorem orders_8 (w : World) (hg : EtIs w) (L : List Nat) (HL : Hid (L.length = 64)) (HB : Hid (∀ x ∈ L, x < 64)) (HD : Hid L.Nodup)
    (F1 : Hid (∀ W, Calls Tryd.prog 53 #[.int .i64 8] W fun e w' => ∃ u, e = .returned u ∧ Ext W w' ∧ Ints w' u (intsOf L)))
    (F2 : Hid (∀ W, Calls Tryd.prog 54 #[.int .i64 8] W fun e w' => ∃ u, e = .returned u ∧ Ext W w' ∧ Ints w' u (intsOf L))) :
    Calls Tryd.prog 11 #[.int .i64 8] w fun e w' => e = .returned (.bool true) ∧ Ext w w' := by
  obtain ⟨i0, hi, hz0, hz1, hz2⟩ := info_parts infoBool
  go_enter Tryd.func11, Tryd.ntmps11
  go_wp2_with fail
  refine (first7_any _ hg).mono ?_; rintro e w1 ⟨rfl, hx1⟩
  go_wp2_with fail
  refine (F1.out _).mono ?_; rintro e w2 ⟨u2, rfl, hx2, hu2⟩
  obtain ⟨a2, c2, rfl⟩ := hu2.form
  rw [show (intsOf L).length = L.length by simp [intsOf], HL.out] at hu2 ⊢
  go_wp2_with (at_make; refine wpList_make_row _ rfl _ _ 72 rfl 4 i0 (.bool false) Tryd.underlying72 hi hz0 hz1 rfl .i64 .i64 64 rfl rfl (by rw [hz2]; omega) (by omega) ?_)
  have R0 : (w2.alloc (.cells (madeCells #[.bool false] 64) 4)).rowIs w2.heap.size 4 64 (fun j => .bool (metB L 0 j)) := (World.rowIs_made w2 (.bool false) 64 _).congr (fun j _ => by simp [metB])
  have E2 : Ext w w2 := (by repeat (first | exact Ext.refl _ | assumption | refine Ext.alloc ?_ _ | refine Ext.drew ?_ | refine Ext.drewN ?_ _ | refine Ext.setCell ?_ (by first | exact Nat.le_refl _ | (simp; done) | omega) _ | refine Ext.trans ?_ (by assumption)))
  have S3 : Ext w2 (w2.alloc (.cells (madeCells #[.bool false] 64) 4)) := (by repeat (first | exact Ext.refl _ | assumption | refine Ext.alloc ?_ _ | refine Ext.drew ?_ | refine Ext.drewN ?_ _ | refine Ext.setCell ?_ (by first | exact Nat.le_refl _ | (simp; done) | omega) _ | refine Ext.trans ?_ (by assumption)))
  clear hi hz0 hz1 hz2 hx1 hx2
  obtain ⟨M, hM⟩ : ∃ M, M = w2.heap.size := ⟨_, rfl⟩
  go_wp2_with fail
  rw [← hM] at R0 ⊢
  have HMM := Lib.hid hM
  clear hM
  revert S3 R0
  generalize w2.alloc (.cells (madeCells #[.bool false] 64) 4) = w3
  intro S3 R0
  have HU := Lib.hid hu2.had
  go_loopw [5] (fun iv wr => ∃ k : Nat, k ≤ 64 ∧ iv = .int .i64 k ∧ Hid (wr.rowIs M 4 64 (fun j => .bool (metB L k j))) ∧ Ext w2 wr) (fun iv _ => 64 - (intOf iv).toNat)
  case atStart => exact ⟨0, Nat.zero_le _, rfl, R0, S3⟩
  case round =>
    clear R0 S3
    obtain ⟨k, hk, rfl, HM, hE⟩ := hrel
    by_cases hlt : k < 64
    · obtain ⟨x, hx⟩ : ∃ x, L[k]? = some x := ⟨_, List.getElem?_eq_getElem (by rw [HL.out]; exact hlt)⟩
      have hxk : x < 64 := HB.out x (List.mem_of_getElem? hx)
      obtain ⟨g, off, rfl⟩ := HU.out (by omega)
      have cx : wr.cell? ⟨g, off + k, none⟩ = some (.int .i64 (x : Int)) := hE.cell (hu2.at (by rw [intsOf, List.getElem?_map, hx]; rfl))
      have cm := HM.out.cell (show x < 64 by omega)
      have fm := HM.out.frozen x
      rw [metB_new hx HD.out] at cm
      have HX := Lib.hid hx
      clear hx
      go_wp2
      go_roundw
      case measure => simp [intOf]; omega
      case rel =>
        refine ⟨k + 1, by omega, by go_num, ?_, Below.setCell hE (by rw [← HMM.out]; exact Nat.le_refl _) _⟩
        exact (HM.out.set x (.bool true)).congr (fun j _ => by
          rw [metB_succ HX.out]
          by_cases e : j = x
          · rw [if_pos e, if_pos e]
          · rw [if_neg e, if_neg e])
    · obtain rfl : k = 64 := by omega
      have EW := E2.trans hE
      have hu4 := hu2.ext hE
      clear HM hE
      go_wp2_with fail
      refine (first7_any _ (hg.ext EW)).mono ?_; rintro e w4 ⟨rfl, hx4⟩
      go_wp2_with fail
      refine (F2.out _).mono ?_; rintro e w5 ⟨u5, rfl, hx5, hu5⟩
      go_wp2_with fail
      refine (ints_same _ _ _ _ _ (hu4.ext (by repeat (first | exact Ext.refl _ | assumption | refine Ext.alloc ?_ _ | refine Ext.drew ?_ | refine Ext.drewN ?_ _ | refine Ext.setCell ?_ (by first | exact Nat.le_refl _ | (simp; done) | omega) _ | refine Ext.trans ?_ (by assumption)))) hu5).mono ?_; rintro e w6 ⟨rfl, hx6⟩
      rw [decide_eq_true rfl]
      go_wp2
      go_ret
      exact ⟨rfl, (by repeat (first | exact Ext.refl _ | assumption | refine Ext.alloc ?_ _ | refine Ext.drew ?_ | refine Ext.drewN ?_ _ | refine Ext.setCell ?_ (by first | exact Nat.le_refl _ | (simp; done) | omega) _ | refine Ext.trans ?_ (by assumption)))⟩
set_option maxHeartbeats 4000000 in
set_option maxRecDepth 20000 in
theorem orders_no (n : Int) (w : World) (hg : EtIs w)
    (F1 : Hid (∀ W, Calls Tryd.prog 53 #[.int .i64 n] W fun e w' => ∃ u, e = .returned u ∧ Ext W w' ∧ Ints w' u []))
    (F2 : Hid (∀ W, Calls Tryd.prog 54 #[.int .i64 n] W fun e w' => ∃ u, e = .returned u ∧ Ext W w' ∧ Ints w' u [])) :
    Calls Tryd.prog 11 #[.int .i64 n] w fun e w' => e = .returned (.bool true) ∧ Ext w w' := by
  obtain ⟨i0, hi, hz0, hz1, hz2⟩ := info_parts infoBool
  obtain ⟨b, hb⟩ : ∃ b, ((0 : Int) == wrap64 (n * n)) = b := ⟨_, rfl⟩
  cases b with
  | false =>
    go_enter Tryd.func11, Tryd.ntmps11
    go_wp2_with fail
    refine (first7_any _ hg).mono ?_; rintro e w1 ⟨rfl, hx1⟩
    go_wp2_with fail
    refine (F1.out _).mono ?_; rintro e w2 ⟨u2, rfl, hx2, hu2⟩
    obtain ⟨a2, c2, rfl⟩ := hu2.form
    go_wp2_with (at_make; refine wpList_make_row _ rfl _ _ 72 rfl 4 i0 (.bool false) Tryd.underlying72 hi hz0 hz1 rfl .i64 .i64 64 rfl rfl (by rw [hz2]; omega) (by omega) ?_)
    refine wp_loop_rounds 1 ?_
    rw [rounds_succ]
    go_wp2_with fail
    refine (first7_any _ (hg.ext (by repeat (first | exact Ext.refl _ | assumption | refine Ext.alloc ?_ _ | refine Ext.drew ?_ | refine Ext.drewN ?_ _ | refine Ext.setCell ?_ (by first | exact Nat.le_refl _ | (simp; done) | omega) _ | refine Ext.trans ?_ (by assumption))))).mono ?_; rintro e w4 ⟨rfl, hx4⟩
    go_wp2_with fail
    refine (F2.out _).mono ?_; rintro e w5 ⟨u5, rfl, hx5, hu5⟩
    go_wp2_with fail
    refine (ints_same _ _ _ _ _ (hu2.ext (by repeat (first | exact Ext.refl _ | assumption | refine Ext.alloc ?_ _ | refine Ext.drew ?_ | refine Ext.drewN ?_ _ | refine Ext.setCell ?_ (by first | exact Nat.le_refl _ | (simp; done) | omega) _ | refine Ext.trans ?_ (by assumption)))) hu5).mono ?_; rintro e w6 ⟨rfl, hx6⟩
    rw [decide_eq_true rfl]
    go_wp2
    go_ret
    exact ⟨rfl, (by repeat (first | exact Ext.refl _ | assumption | refine Ext.alloc ?_ _ | refine Ext.drew ?_ | refine Ext.drewN ?_ _ | refine Ext.setCell ?_ (by first | exact Nat.le_refl _ | (simp; done) | omega) _ | refine Ext.trans ?_ (by assumption)))⟩
  | true =>
    go_enter Tryd.func11, Tryd.ntmps11
    go_wp2_with fail
    refine (first7_any _ hg).mono ?_; rintro e w1 ⟨rfl, hx1⟩
    go_wp2_with fail
    refine (F1.out _).mono ?_; rintro e w2 ⟨u2, rfl, hx2, hu2⟩
    obtain ⟨a2, c2, rfl⟩ := hu2.form
    go_wp2_with (at_make; refine wpList_make_row _ rfl _ _ 72 rfl 4 i0 (.bool false) Tryd.underlying72 hi hz0 hz1 rfl .i64 .i64 64 rfl rfl (by rw [hz2]; omega) (by omega) ?_)
    refine wp_loop_rounds 1 ?_
    rw [rounds_succ]
    go_wp2_with fail
    refine (first7_any _ (hg.ext (by repeat (first | exact Ext.refl _ | assumption | refine Ext.alloc ?_ _ | refine Ext.drew ?_ | refine Ext.drewN ?_ _ | refine Ext.setCell ?_ (by first | exact Nat.le_refl _ | (simp; done) | omega) _ | refine Ext.trans ?_ (by assumption))))).mono ?_; rintro e w4 ⟨rfl, hx4⟩
    go_wp2_with fail
    refine (F2.out _).mono ?_; rintro e w5 ⟨u5, rfl, hx5, hu5⟩
    go_wp2_with fail
    refine (ints_same _ _ _ _ _ (hu2.ext (by repeat (first | exact Ext.refl _ | assumption | refine Ext.alloc ?_ _ | refine Ext.drew ?_ | refine Ext.drewN ?_ _ | refine Ext.setCell ?_ (by first | exact Nat.le_refl _ | (simp; done) | omega) _ | refine Ext.trans ?_ (by assumption)))) hu5).mono ?_; rintro e w6 ⟨rfl, hx6⟩
    rw [decide_eq_true rfl]
    go_wp2
    go_ret
    exact ⟨rfl, (by repeat (first | exact Ext.refl _ | assumption | refine Ext.alloc ?_ _ | refine Ext.drew ?_ | refine Ext.drewN ?_ _ | refine Ext.setCell ?_ (by first | exact Nat.le_refl _ | (simp; done) | omega) _ | refine Ext.trans ?_ (by assumption)))⟩
theorem orders_law (n : Int) (w : World) (hg : EtIs w) : Calls Tryd.prog 11 #[.int .i64 n] w fun e w' => e = .returned (.bool true) ∧ Ext w w' := by
  obtain ⟨z1, z2, z3, z4⟩ := zig_once
  obtain ⟨l1, l2⟩ := zig_len
  by_cases h1 : n = 4
  · subst h1
    exact orders_4 w hg (zigPre 4 7) l1 z3 z1 (fun W => order_any 4 W) (fun W => rorder_any 4 W)
  · by_cases h2 : n = 8
    · subst h2
      exact orders_8 w hg (zigPre 8 15) l2 z4 z2 (fun W => order_any 8 W) (fun W => rorder_any 8 W)
    · have e : ordV n = [] := by unfold ordV; rw [if_neg h1, if_neg h2]
      exact orders_no n w hg (fun W => by rw [← e]; exact order_any n W) (fun W => by rw [← e]; exact rorder_any n W)
end Go.Proofs.YtkealkjijfbdoaaDoor
