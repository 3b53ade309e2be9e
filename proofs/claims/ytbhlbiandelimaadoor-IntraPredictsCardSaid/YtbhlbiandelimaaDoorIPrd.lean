/- kinlaw10.IntraPredicts: the walk. -/
import Derived.Test.YtbhlbiandelimaaDoorR10
namespace Go.Proofs.YtbhlbiandelimaaDoor
set_option linter.unusedVariables false
set_option linter.unusedSimpArgs false
open Go.RowKit Go.Extern.Stop Go.Stop Go.Extern

set_option maxHeartbeats 2000000 in
set_option maxRecDepth 20000 in
theorem predicts_long (mo c : Int) (a b : Option Addr) (n m ca cb : Nat) (w : World) (hg : EtIs w) (hl : 5000 < n ∨ ¬ 5000 < n ∧ 5000 < m) :
    Calls Tryd.prog 4 #[.int .i64 mo, .slice a n ca, .slice b m cb, .int .i64 c] w fun e w' => e = .returned (.bool true) ∧ Ext w w' := by
  rcases hl with h1 | ⟨h1, h2⟩
  all_goals
    go_enter Tryd.func4, Tryd.ntmps4
    go_wp2_with fail
    refine (first10_any _ hg).mono ?_; rintro e w1 ⟨rfl, hx1⟩
    go_wp2_with fail
    refine (first10_any _ (hg.ext (by repeat (first | exact Ext.refl _ | assumption | refine Ext.alloc ?_ _ | refine Ext.drew ?_ | refine Ext.drewN ?_ _ | refine Ext.setCell ?_ (by first | exact Nat.le_refl _ | (simp; done) | omega) _ | refine Ext.trans ?_ (by assumption))))).mono ?_; rintro e w2 ⟨rfl, hx2⟩
    go_wp2
    go_ret
    exact ⟨rfl, (by repeat (first | exact Ext.refl _ | assumption | refine Ext.alloc ?_ _ | refine Ext.drew ?_ | refine Ext.drewN ?_ _ | refine Ext.setCell ?_ (by first | exact Nat.le_refl _ | (simp; done) | omega) _ | refine Ext.trans ?_ (by assumption)))⟩

set_option maxHeartbeats 8000000 in
set_option maxRecDepth 20000 in
theorem predicts_walk (mo c : Int) (xs ys A : List Int) (f : Fall) (a b : Option Addr) (n m ca cb : Nat) (w : World) (hg : EtIs w) (ha : Ints w (.slice a n ca) xs) (hb : Ints w (.slice b m cb) ys) (h1 : ¬ 5000 < n) (h2 : ¬ 5000 < m)
    (fa : Hid (∀ v W, Ints W v xs → Calls Tryd.prog 21 #[v] W fun e w' => ∃ u, e = .returned u ∧ Ints w' u xs ∧ Ext W w'))
    (fb : Hid (∀ v W, Ints W v ys → Calls Tryd.prog 21 #[v] W fun e w' => ∃ u, e = .returned u ∧ Ints w' u ys ∧ Ext W w'))
    (s1 : Hid (∀ v u W, Ints W v xs → Ints W u ys → Calls Tryd.prog 22 #[.int .i64 mo, v, u, .int .i64 c] W (ZPost W A f)))
    (s2 : Hid (∀ v u W, Ints W v xs → Ints W u ys → Calls Tryd.prog 23 #[.int .i64 mo, v, u, .int .i64 c] W (RZPost W A f))) :
    Calls Tryd.prog 4 #[.int .i64 mo, .slice a n ca, .slice b m cb, .int .i64 c] w fun e w' => e = .returned (.bool true) ∧ Ext w w' := by
  go_enter Tryd.func4, Tryd.ntmps4
  go_wp2_with fail
  refine (first10_any _ hg).mono ?_; rintro e w1 ⟨rfl, hx1⟩
  go_wp2_with fail
  refine (fa.out _ _ (ha.ext (by repeat (first | exact Ext.refl _ | assumption | refine Ext.alloc ?_ _ | refine Ext.drew ?_ | refine Ext.drewN ?_ _ | refine Ext.setCell ?_ (by first | exact Nat.le_refl _ | (simp; done) | omega) _ | refine Ext.trans ?_ (by assumption))))).mono ?_; rintro e w2 ⟨u2, rfl, hz2, hx2⟩
  go_wp2_with fail
  refine (fb.out _ _ (hb.ext (by repeat (first | exact Ext.refl _ | assumption | refine Ext.alloc ?_ _ | refine Ext.drew ?_ | refine Ext.drewN ?_ _ | refine Ext.setCell ?_ (by first | exact Nat.le_refl _ | (simp; done) | omega) _ | refine Ext.trans ?_ (by assumption))))).mono ?_; rintro e w3 ⟨u3, rfl, hz3, hx3⟩
  go_wp2_with fail
  refine (s1.out _ _ _ (hz2.ext (by repeat (first | exact Ext.refl _ | assumption | refine Ext.alloc ?_ _ | refine Ext.drew ?_ | refine Ext.drewN ?_ _ | refine Ext.setCell ?_ (by first | exact Nat.le_refl _ | (simp; done) | omega) _ | refine Ext.trans ?_ (by assumption)))) (hz3.ext (by repeat (first | exact Ext.refl _ | assumption | refine Ext.alloc ?_ _ | refine Ext.drew ?_ | refine Ext.drewN ?_ _ | refine Ext.setCell ?_ (by first | exact Nat.le_refl _ | (simp; done) | omega) _ | refine Ext.trans ?_ (by assumption))))).mono ?_; rintro e w4 ⟨u4, x4, rfl, hx4, hz4, he4⟩
  go_wp2_with fail
  refine (s2.out _ _ _ (ha.ext (by repeat (first | exact Ext.refl _ | assumption | refine Ext.alloc ?_ _ | refine Ext.drew ?_ | refine Ext.drewN ?_ _ | refine Ext.setCell ?_ (by first | exact Nat.le_refl _ | (simp; done) | omega) _ | refine Ext.trans ?_ (by assumption)))) (hb.ext (by repeat (first | exact Ext.refl _ | assumption | refine Ext.alloc ?_ _ | refine Ext.drew ?_ | refine Ext.drewN ?_ _ | refine Ext.setCell ?_ (by first | exact Nat.le_refl _ | (simp; done) | omega) _ | refine Ext.trans ?_ (by assumption))))).mono ?_; rintro e w5 ⟨u5, c5, e5, n5, k5, rfl, hx5, hz5, he5⟩
  go_wp2_with fail
  refine (first10_any _ (hg.ext (by repeat (first | exact Ext.refl _ | assumption | refine Ext.alloc ?_ _ | refine Ext.drew ?_ | refine Ext.drewN ?_ _ | refine Ext.setCell ?_ (by first | exact Nat.le_refl _ | (simp; done) | omega) _ | refine Ext.trans ?_ (by assumption))))).mono ?_; rintro e w10 ⟨rfl, hx10⟩
  go_wp2_with fail
  refine (ints_same A A _ _ _ (hz4.ext (by repeat (first | exact Ext.refl _ | assumption | refine Ext.alloc ?_ _ | refine Ext.drew ?_ | refine Ext.drewN ?_ _ | refine Ext.setCell ?_ (by first | exact Nat.le_refl _ | (simp; done) | omega) _ | refine Ext.trans ?_ (by assumption)))) (hz5.ext (by repeat (first | exact Ext.refl _ | assumption | refine Ext.alloc ?_ _ | refine Ext.drew ?_ | refine Ext.drewN ?_ _ | refine Ext.setCell ?_ (by first | exact Nat.le_refl _ | (simp; done) | omega) _ | refine Ext.trans ?_ (by assumption))))).mono ?_; rintro e w11 ⟨rfl, hx11⟩
  rw [decide_eq_true rfl]
  obtain ⟨p0, p1⟩ := evar w5 c5 e5 n5 k5 (W := w11) (by repeat (first | exact Ext.refl _ | assumption | refine Ext.alloc ?_ _ | refine Ext.drew ?_ | refine Ext.drewN ?_ _ | refine Ext.setCell ?_ (by first | exact Nat.le_refl _ | (simp; done) | omega) _ | refine Ext.trans ?_ (by assumption)))
  go_wp2_with fail
  refine (same_fall f _ _ _ _ (hg.ext (by repeat (first | exact Ext.refl _ | assumption | refine Ext.alloc ?_ _ | refine Ext.drew ?_ | refine Ext.drewN ?_ _ | refine Ext.setCell ?_ (by first | exact Nat.le_refl _ | (simp; done) | omega) _ | refine Ext.trans ?_ (by assumption)))) (he4.ext (by repeat (first | exact Ext.refl _ | assumption | refine Ext.alloc ?_ _ | refine Ext.drew ?_ | refine Ext.drewN ?_ _ | refine Ext.setCell ?_ (by first | exact Nat.le_refl _ | (simp; done) | omega) _ | refine Ext.trans ?_ (by assumption)))) (he5.ext (by repeat (first | exact Ext.refl _ | assumption | refine Ext.alloc ?_ _ | refine Ext.drew ?_ | refine Ext.drewN ?_ _ | refine Ext.setCell ?_ (by first | exact Nat.le_refl _ | (simp; done) | omega) _ | refine Ext.trans ?_ (by assumption))))).mono ?_; rintro e w12 ⟨rfl, hx12⟩
  clear p0 p1
  go_wp2_with fail
  refine (ints_same xs xs _ _ _ (hz2.ext (by repeat (first | exact Ext.refl _ | assumption | refine Ext.alloc ?_ _ | refine Ext.drew ?_ | refine Ext.drewN ?_ _ | refine Ext.setCell ?_ (by first | exact Nat.le_refl _ | (simp; done) | omega) _ | refine Ext.trans ?_ (by assumption)))) (ha.ext (by repeat (first | exact Ext.refl _ | assumption | refine Ext.alloc ?_ _ | refine Ext.drew ?_ | refine Ext.drewN ?_ _ | refine Ext.setCell ?_ (by first | exact Nat.le_refl _ | (simp; done) | omega) _ | refine Ext.trans ?_ (by assumption))))).mono ?_; rintro e w16 ⟨rfl, hx16⟩
  rw [decide_eq_true rfl]
  go_wp2_with fail
  refine (ints_same ys ys _ _ _ (hz3.ext (by repeat (first | exact Ext.refl _ | assumption | refine Ext.alloc ?_ _ | refine Ext.drew ?_ | refine Ext.drewN ?_ _ | refine Ext.setCell ?_ (by first | exact Nat.le_refl _ | (simp; done) | omega) _ | refine Ext.trans ?_ (by assumption)))) (hb.ext (by repeat (first | exact Ext.refl _ | assumption | refine Ext.alloc ?_ _ | refine Ext.drew ?_ | refine Ext.drewN ?_ _ | refine Ext.setCell ?_ (by first | exact Nat.le_refl _ | (simp; done) | omega) _ | refine Ext.trans ?_ (by assumption))))).mono ?_; rintro e w17 ⟨rfl, hx17⟩
  rw [decide_eq_true rfl]
  go_wp2
  go_ret
  exact ⟨rfl, (by repeat (first | exact Ext.refl _ | assumption | refine Ext.alloc ?_ _ | refine Ext.drew ?_ | refine Ext.drewN ?_ _ | refine Ext.setCell ?_ (by first | exact Nat.le_refl _ | (simp; done) | omega) _ | refine Ext.trans ?_ (by assumption)))⟩
theorem predicts_law (mo c : Int) (xs ys : List Int) (va vb : Value) (w : World) (hg : EtIs w) (hr : Row w va xs.length (xs.map (Value.int .i64))) (hs : Row w vb ys.length (ys.map (Value.int .i64))) :
    Calls Tryd.prog 4 #[.int .i64 mo, va, vb, .int .i64 c] w fun e w' => e = .returned (.bool true) ∧ Ext w w' := by
  by_cases hl : 5000 < xs.length ∨ ¬ 5000 < xs.length ∧ 5000 < ys.length
  · obtain ⟨a, ca, rfl⟩ := hr.form
    obtain ⟨b, cb, rfl⟩ := hs.form
    exact predicts_long mo c a b _ _ ca cb w hg hl
  · have h1 : ¬ 5000 < xs.length := by omega
    have h2 : ¬ 5000 < ys.length := by omega
    have ha : Ints w va xs := ⟨hr, by omega⟩
    have hb : Ints w vb ys := ⟨hs, by omega⟩
    obtain ⟨a, ca, rfl⟩ := ha.form
    obtain ⟨b, cb, rfl⟩ := hb.form
    exact predicts_walk mo c xs ys _ _ a b _ _ ca cb w hg ha hb h1 h2 (fun v W h => copy_ints xs v W h (by omega)) (fun v W h => copy_ints ys v W h (by omega))
      (fun v u W h k => Predict_any mo xs ys c v u W h k) (fun v u W h k => RPredict_any mo xs ys c v u W h k)
end Go.Proofs.YtbhlbiandelimaaDoor
