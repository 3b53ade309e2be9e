/- intra.Edges at the frame's corner: its contract over this seat's translation. -/
import Derived.Test.YtbhlbiandelimaaDoorIn2
import Derived.Test.YtbhlbiandelimaaDoorRep
namespace Go.Proofs.YtbhlbiandelimaaDoor
set_option linter.unusedVariables false
set_option linter.unusedSimpArgs false
open Go.RowKit Go.Extern.Stop Go.Stop Go.Extern

theorem rep_ints (N : Nat) (hN : N = 4 ∨ N = 8) (x : Int) (v : Value) (w : World) (ha : Ints w v [x]) :
    Calls Tryd.prog 43 #[v, .int .i64 (N : Int)] w fun e w' => ∃ u, e = .returned u ∧ Ext w w' ∧ Ints w' u (rowL N fun _ => x) := by
  have key : ∀ (M : Nat), 1 ≤ M → M ≤ 1024 → (∀ W, Calls Tryd.prog 64 #[.int .u64 1, .int .u64 (M : Int)] W fun e w' => e = .returned (.tuple #[.int .u64 0, .int .u64 (M : Int)]) ∧ W = w') → Calls Tryd.prog 43 #[v, .int .i64 (M : Int)] w fun e w' => ∃ u, e = .returned u ∧ Ext w w' ∧ Ints w' u (rowL M fun _ => x) := fun M h1 h2 hm =>
    (rep_walk M x v w ha h1 h2 hm).mono fun e w' ⟨u, he, hx, ho⟩ => ⟨u, he, hx, Ints.of_row ho (by omega)⟩
  rcases hN with rfl | rfl
  · exact key 4 (by decide) (by decide) (fun W => mul_4 W)
  · exact key 8 (by decide) (by decide) (fun W => mul_8 W)
set_option maxHeartbeats 2000000 in
set_option maxRecDepth 20000 in
theorem edges_corner_4 (W H : Int) (zs : List Int) (a : Option Addr) (n cap : Nat) (w : World) (h : Ints w (.slice a n cap) zs) (hm : may W H zs) :
    Calls Tryd.prog 17 #[.agg #[.int .i64 W, .int .i64 H, .slice a n cap], .int .i64 0, .int .i64 0, .int .i64 4] w fun e w' => ∃ u u', e = .returned (.tuple #[u, u', .int .i64 128]) ∧ Ext w w' ∧ Ints w' u (rowL 4 fun _ => 128) ∧ Ints w' u' (rowL 4 fun _ => 128) := by
  have M1 := Lib.hid (fun W' k => may_any W H zs a n cap W' k)
  have R1 := Lib.hid (fun v W' k => rep_ints 4 (by decide) 128 v W' k)
  have HM := Lib.hid hm
  have b1 := sideB_true hm.1
  have b2 := sideB_true hm.2.1
  clear hm
  have w1 : ¬ W - 4 < 0 := by omega
  have w2 : ¬ H - 4 < 0 := by omega
  have e1 : IntKind.i64.wrap (W - 4) = W - 4 := by rw [IntKind.wrap_i64]; omega
  have e2 : IntKind.i64.wrap (H - 4) = H - 4 := by rw [IntKind.wrap_i64]; omega
  go_enter Tryd.func17, Tryd.ntmps17
  go_wp2_with fail
  refine (M1.out _ (h.ext (by repeat (first | exact Ext.refl _ | assumption | refine Ext.alloc ?_ _ | refine Ext.drew ?_ | refine Ext.drewN ?_ _ | refine Ext.setCell ?_ (by first | exact Nat.le_refl _ | (simp; done) | omega) _ | refine Ext.trans ?_ (by assumption))))).mono ?_; rintro e w3 ⟨rfl, hx3⟩
  rw [decide_eq_true HM.out]
  have p0 : w3.cell? ⟨w.heap.size, 0, none⟩ = some (.int .i64 W) := hx3.cell (by simp)
  have p1 : w3.cell? ⟨w.heap.size, 1, none⟩ = some (.int .i64 H) := hx3.cell (by simp)
  have p2 : w3.cell? ⟨w.heap.size, 2, none⟩ = some (.slice a n cap) := hx3.cell (by simp)
  go_wp2_with fail
  refine (sd_any _ _).mono ?_; rintro e w4 ⟨rfl, rfl⟩
  rw [show sdB 4 = true from rfl]
  go_wp2_with fail
  refine (R1.out _ _ (Ints.liti w3 [128] (by decide))).mono ?_; rintro e w5 ⟨u5, rfl, hx5, hz5⟩
  go_wp2_with fail
  refine (R1.out _ _ (Ints.liti w5 [128] (by decide))).mono ?_; rintro e w6 ⟨u6, rfl, hx6, hz6⟩
  have hz5' := (hz5.ext ((Ext.refl w5).alloc (.cells #[.int .i64 128] 3))).ext hx6
  go_wp2
  go_ret3
  exact ⟨_, _, rfl, (by repeat (first | exact Ext.refl _ | assumption | refine Ext.alloc ?_ _ | refine Ext.drew ?_ | refine Ext.drewN ?_ _ | refine Ext.setCell ?_ (by first | exact Nat.le_refl _ | (simp; done) | omega) _ | refine Ext.trans ?_ (by assumption))), hz5', hz6⟩
set_option maxHeartbeats 2000000 in
set_option maxRecDepth 20000 in
theorem edges_corner_8 (W H : Int) (zs : List Int) (a : Option Addr) (n cap : Nat) (w : World) (h : Ints w (.slice a n cap) zs) (hm : may W H zs) :
    Calls Tryd.prog 17 #[.agg #[.int .i64 W, .int .i64 H, .slice a n cap], .int .i64 0, .int .i64 0, .int .i64 8] w fun e w' => ∃ u u', e = .returned (.tuple #[u, u', .int .i64 128]) ∧ Ext w w' ∧ Ints w' u (rowL 8 fun _ => 128) ∧ Ints w' u' (rowL 8 fun _ => 128) := by
  have M1 := Lib.hid (fun W' k => may_any W H zs a n cap W' k)
  have R1 := Lib.hid (fun v W' k => rep_ints 8 (by decide) 128 v W' k)
  have HM := Lib.hid hm
  have b1 := sideB_true hm.1
  have b2 := sideB_true hm.2.1
  clear hm
  have w1 : ¬ W - 8 < 0 := by omega
  have w2 : ¬ H - 8 < 0 := by omega
  have e1 : IntKind.i64.wrap (W - 8) = W - 8 := by rw [IntKind.wrap_i64]; omega
  have e2 : IntKind.i64.wrap (H - 8) = H - 8 := by rw [IntKind.wrap_i64]; omega
  go_enter Tryd.func17, Tryd.ntmps17
  go_wp2_with fail
  refine (M1.out _ (h.ext (by repeat (first | exact Ext.refl _ | assumption | refine Ext.alloc ?_ _ | refine Ext.drew ?_ | refine Ext.drewN ?_ _ | refine Ext.setCell ?_ (by first | exact Nat.le_refl _ | (simp; done) | omega) _ | refine Ext.trans ?_ (by assumption))))).mono ?_; rintro e w3 ⟨rfl, hx3⟩
  rw [decide_eq_true HM.out]
  have p0 : w3.cell? ⟨w.heap.size, 0, none⟩ = some (.int .i64 W) := hx3.cell (by simp)
  have p1 : w3.cell? ⟨w.heap.size, 1, none⟩ = some (.int .i64 H) := hx3.cell (by simp)
  have p2 : w3.cell? ⟨w.heap.size, 2, none⟩ = some (.slice a n cap) := hx3.cell (by simp)
  go_wp2_with fail
  refine (sd_any _ _).mono ?_; rintro e w4 ⟨rfl, rfl⟩
  rw [show sdB 8 = true from rfl]
  go_wp2_with fail
  refine (R1.out _ _ (Ints.liti w3 [128] (by decide))).mono ?_; rintro e w5 ⟨u5, rfl, hx5, hz5⟩
  go_wp2_with fail
  refine (R1.out _ _ (Ints.liti w5 [128] (by decide))).mono ?_; rintro e w6 ⟨u6, rfl, hx6, hz6⟩
  have hz5' := (hz5.ext ((Ext.refl w5).alloc (.cells #[.int .i64 128] 3))).ext hx6
  go_wp2
  go_ret3
  exact ⟨_, _, rfl, (by repeat (first | exact Ext.refl _ | assumption | refine Ext.alloc ?_ _ | refine Ext.drew ?_ | refine Ext.drewN ?_ _ | refine Ext.setCell ?_ (by first | exact Nat.le_refl _ | (simp; done) | omega) _ | refine Ext.trans ?_ (by assumption))), hz5', hz6⟩
end Go.Proofs.YtbhlbiandelimaaDoor
