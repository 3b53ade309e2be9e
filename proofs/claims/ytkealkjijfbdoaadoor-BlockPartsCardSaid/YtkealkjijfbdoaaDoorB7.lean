/- kinlaw7.first: its contract over this seat's translation. -/
import Derived.Test.YtkealkjijfbdoaaDoorOrd
namespace Go.Proofs.YtkealkjijfbdoaaDoor
set_option linter.unusedVariables false
set_option linter.unusedSimpArgs false
open Go.RowKit Go.Extern.Stop Go.Stop Go.Extern

theorem Ints.lit (w : World) (zs : List Int) (h : zs.length ≤ 1000000) : Ints (w.alloc (.cells (zs.map (Value.int .i64)).toArray 3)) (.slice (some ⟨w.heap.size, 0, none⟩) zs.length zs.length) zs := by
  have := World.ownsRow_lit (e := 3) (base := w.heap.size) (size := 1) w (zs.map (Value.int .i64)).toArray zs.length (Nat.le_refl _) (by unfold maxLen; omega) (by simp)
  simp only [List.toList_toArray] at this
  exact Ints.of_owns this (by omega)
theorem lits2 (w : World) (xs ys : List Int) (h : xs.length ≤ 1000000) (k : ys.length ≤ 1000000) :
    Ints ((w.alloc (.cells (xs.map (Value.int .i64)).toArray 3)).alloc (.cells (ys.map (Value.int .i64)).toArray 3)) (.slice (some ⟨w.heap.size, 0, none⟩) xs.length xs.length) xs ∧
    Ints ((w.alloc (.cells (xs.map (Value.int .i64)).toArray 3)).alloc (.cells (ys.map (Value.int .i64)).toArray 3)) (.slice (some ⟨w.heap.size + 1, 0, none⟩) ys.length ys.length) ys := by
  refine ⟨(Ints.lit w xs h).ext ((Ext.refl _).alloc _), ?_⟩
  have := Ints.lit (w.alloc (.cells (xs.map (Value.int .i64)).toArray 3)) ys k
  simpa using this
theorem mat51 : matAns [5, 1] [7, 0] = none ∧ twoV subF [5, 1] [7, 0] = [-2, 1] ∧ matAns [250, 3] [9, -9] = none ∧ twoV addF [250, 3] [9, -9] = [255, 0] ∧ matAns [1, 2] [4, 0] = none ∧ sadV [1, 2] [4, 0] = 5 ∧ matAns [1] [] = fit ∧ (![].any nzB) = true := by decide +kernel
set_option maxHeartbeats 2000000 in
set_option maxRecDepth 20000 in
theorem first7_any (w : World) (hg : EtIs w) : Calls Tryd.prog 38 #[] w fun e w' => e = .returned (.bool true) ∧ Ext w w' := by
  obtain ⟨m1, m2, m3, m4, m5, m6, m7, m8⟩ := mat51
  have S1 := fun v u W h k => subF_any [5, 1] [7, 0] v u W h k (by simp)
  have S2 := fun v u W h k => addF_any [250, 3] [9, -9] v u W h k (by simp)
  have S3 := fun v u W h k => sad_any [1, 2] [4, 0] v u W h k (by simp)
  have S4 := fun v u W h k => sad_any [1] [] v u W h k (by simp)
  have S5 := fun W => zero_any [] (.slice none 0 0) W (Ints.nil W)
  have S6 := fun W => order_any 4 W
  rw [m1, m2] at S1
  rw [m3, m4] at S2
  rw [m5, m6] at S3
  rw [m7] at S4
  rw [m8] at S5
  rw [show ordV 4 = [0, 1, 4, 8, 5, 2, 3, 6, 9, 12, 13, 10, 7, 11, 14, 15] by decide +kernel] at S6
  have H1 := Lib.hid S1
  have H2 := Lib.hid S2
  have H3 := Lib.hid S3
  have H4 := Lib.hid S4
  have H5 := Lib.hid S5
  have H6 := Lib.hid S6
  clear m1 m2 m3 m4 m5 m6 m7 m8 S1 S2 S3 S4 S5 S6
  go_enter Tryd.func38, Tryd.ntmps38
  have L1 : Ints ((w.alloc (.cells #[.int .i64 5, .int .i64 1] 3)).alloc (.cells #[.int .i64 7, .int .i64 0] 3)) (.slice (some ⟨w.heap.size, 0, none⟩) 2 2) [5, 1] := (lits2 w [5, 1] [7, 0] (by decide) (by decide)).1
  have L2 : Ints ((w.alloc (.cells #[.int .i64 5, .int .i64 1] 3)).alloc (.cells #[.int .i64 7, .int .i64 0] 3)) (.slice (some ⟨w.heap.size + 1, 0, none⟩) 2 2) [7, 0] := (lits2 w [5, 1] [7, 0] (by decide) (by decide)).2
  go_wp2_with fail
  refine (H1.out _ _ _ L1 L2).mono ?_; rintro e w1 ⟨u1, x1, rfl, hx1, hz1, he1⟩
  obtain rfl : x1 = .nilIface := he1
  obtain ⟨g1, o1, c1, e1, -, -⟩ := hz1.addr (by decide)
  obtain rfl : u1 = .slice (some ⟨g1, o1, none⟩) 2 c1 := e1
  clear L1 L2
  have L1 : Ints ((w1.alloc (.cells #[.int .i64 250, .int .i64 3] 3)).alloc (.cells #[.int .i64 9, .int .i64 (-9)] 3)) (.slice (some ⟨w1.heap.size, 0, none⟩) 2 2) [250, 3] := (lits2 w1 [250, 3] [9, -9] (by decide) (by decide)).1
  have L2 : Ints ((w1.alloc (.cells #[.int .i64 250, .int .i64 3] 3)).alloc (.cells #[.int .i64 9, .int .i64 (-9)] 3)) (.slice (some ⟨w1.heap.size + 1, 0, none⟩) 2 2) [9, -9] := (lits2 w1 [250, 3] [9, -9] (by decide) (by decide)).2
  go_wp2_with fail
  refine (H2.out _ _ _ L1 L2).mono ?_; rintro e w2 ⟨u2, x2, rfl, hx2, hz2, he2⟩
  obtain rfl : x2 = .nilIface := he2
  obtain ⟨g2, o2, c2, e2, -, -⟩ := hz2.addr (by decide)
  obtain rfl : u2 = .slice (some ⟨g2, o2, none⟩) 2 c2 := e2
  clear L1 L2
  have L1 : Ints ((w2.alloc (.cells #[.int .i64 1, .int .i64 2] 3)).alloc (.cells #[.int .i64 4, .int .i64 0] 3)) (.slice (some ⟨w2.heap.size, 0, none⟩) 2 2) [1, 2] := (lits2 w2 [1, 2] [4, 0] (by decide) (by decide)).1
  have L2 : Ints ((w2.alloc (.cells #[.int .i64 1, .int .i64 2] 3)).alloc (.cells #[.int .i64 4, .int .i64 0] 3)) (.slice (some ⟨w2.heap.size + 1, 0, none⟩) 2 2) [4, 0] := (lits2 w2 [1, 2] [4, 0] (by decide) (by decide)).2
  go_wp2_with fail
  refine (H3.out _ _ _ L1 L2).mono ?_; rintro e w3 ⟨x3, rfl, hx3, he3⟩
  obtain rfl : x3 = .nilIface := he3
  clear L1 L2
  have L1 : Ints (w3.alloc (.cells #[.int .i64 1] 3)) (.slice (some ⟨w3.heap.size, 0, none⟩) 1 1) [1] := Ints.lit w3 [1] (by decide)
  go_wp2_with fail
  refine (H4.out _ _ _ L1 (Ints.nil _)).mono ?_; rintro e w4 ⟨x4, rfl, hx4, he4⟩
  have k1 : w4.cell? ⟨g1, o1, none⟩ = some (.int .i64 (-2)) := (hz1.ext (by repeat (first | exact Ext.refl _ | assumption | refine Ext.alloc ?_ _ | refine Ext.drew ?_ | refine Ext.drewN ?_ _ | refine Ext.setCell ?_ (by first | exact Nat.le_refl _ | (simp; done) | omega) _ | refine Ext.trans ?_ (by assumption)))).at (j := 0) rfl
  have k2 : w4.cell? ⟨g2, o2, none⟩ = some (.int .i64 255) := (hz2.ext (by repeat (first | exact Ext.refl _ | assumption | refine Ext.alloc ?_ _ | refine Ext.drew ?_ | refine Ext.drewN ?_ _ | refine Ext.setCell ?_ (by first | exact Nat.le_refl _ | (simp; done) | omega) _ | refine Ext.trans ?_ (by assumption)))).at (j := 0) rfl
  have k3 : w4.cell? ⟨g2, o2 + 1, none⟩ = some (.int .i64 0) := (hz2.ext (by repeat (first | exact Ext.refl _ | assumption | refine Ext.alloc ?_ _ | refine Ext.drew ?_ | refine Ext.drewN ?_ _ | refine Ext.setCell ?_ (by first | exact Nat.le_refl _ | (simp; done) | omega) _ | refine Ext.trans ?_ (by assumption)))).at (j := 1) rfl
  clear L1 hz1 hz2
  go_wp2_with fail
  refine (fail_any 14 _).mono ?_; rintro e w5 ⟨rfl, hx5⟩
  go_wp2_with fail
  refine (same_fall fit _ _ _ _ (hg.ext (by repeat (first | exact Ext.refl _ | assumption | refine Ext.alloc ?_ _ | refine Ext.drew ?_ | refine Ext.drewN ?_ _ | refine Ext.setCell ?_ (by first | exact Nat.le_refl _ | (simp; done) | omega) _ | refine Ext.trans ?_ (by assumption)))) (he4.ext (by repeat (first | exact Ext.refl _ | assumption | refine Ext.alloc ?_ _ | refine Ext.drew ?_ | refine Ext.drewN ?_ _ | refine Ext.setCell ?_ (by first | exact Nat.le_refl _ | (simp; done) | omega) _ | refine Ext.trans ?_ (by assumption)))) (RErrIs.code (by decide))).mono ?_; rintro e w6 ⟨rfl, hx6⟩
  go_wp2_with fail
  refine (H6.out _).mono ?_; rintro e w7 ⟨u7, rfl, hx7, hz7⟩
  have L1 : Ints (w7.alloc (.cells #[.int .i64 0, .int .i64 1, .int .i64 4, .int .i64 8, .int .i64 5, .int .i64 2, .int .i64 3, .int .i64 6, .int .i64 9, .int .i64 12, .int .i64 13, .int .i64 10, .int .i64 7, .int .i64 11, .int .i64 14, .int .i64 15] 3)) (.slice (some ⟨w7.heap.size, 0, none⟩) 16 16) [0, 1, 4, 8, 5, 2, 3, 6, 9, 12, 13, 10, 7, 11, 14, 15] := Ints.lit w7 [0, 1, 4, 8, 5, 2, 3, 6, 9, 12, 13, 10, 7, 11, 14, 15] (by decide)
  go_wp2_with fail
  refine (ints_same _ _ _ _ _ (hz7.ext (by repeat (first | exact Ext.refl _ | assumption | refine Ext.alloc ?_ _ | refine Ext.drew ?_ | refine Ext.drewN ?_ _ | refine Ext.setCell ?_ (by first | exact Nat.le_refl _ | (simp; done) | omega) _ | refine Ext.trans ?_ (by assumption)))) L1).mono ?_; rintro e w8 ⟨rfl, hx8⟩
  rw [decide_eq_true rfl]
  go_wp2_with fail
  refine (H5.out _).mono ?_; rintro e w9 ⟨rfl, rfl⟩
  go_wp2
  go_ret
  exact ⟨rfl, (by repeat (first | exact Ext.refl _ | assumption | refine Ext.alloc ?_ _ | refine Ext.drew ?_ | refine Ext.drewN ?_ _ | refine Ext.setCell ?_ (by first | exact Nat.le_refl _ | (simp; done) | omega) _ | refine Ext.trans ?_ (by assumption)))⟩
end Go.Proofs.YtkealkjijfbdoaaDoor
