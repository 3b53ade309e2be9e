/- kinlaw10.IntraChooses: the walk. -/
import Derived.Test.YtbhlbiandelimaaDoorR10b
namespace Go.Proofs.YtbhlbiandelimaaDoor
set_option linter.unusedVariables false
set_option linter.unusedSimpArgs false
open Go.RowKit Go.Extern.Stop Go.Stop Go.Extern

set_option maxHeartbeats 2000000 in
set_option maxRecDepth 20000 in
theorem chooses_long (c : Int) (a0 a b : Option Addr) (k n m c0 ca cb : Nat) (w : World) (hg : EtIs w) (hl : 5000 < k ∨ ¬ 5000 < k ∧ 5000 < n ∨ ¬ 5000 < k ∧ ¬ 5000 < n ∧ 5000 < m) :
    Calls Tryd.prog 5 #[.slice a0 k c0, .slice a n ca, .slice b m cb, .int .i64 c] w fun e w' => e = .returned (.bool true) ∧ Ext w w' := by
  rcases hl with h1 | ⟨h1, h2⟩ | ⟨h1, h2, h3⟩
  all_goals
    go_enter Tryd.func5, Tryd.ntmps5
    go_wp2_with fail
    refine (first10_any _ hg).mono ?_; rintro e w1 ⟨rfl, hx1⟩
    go_wp2_with fail
    refine (first10_any _ (hg.ext (by repeat (first | exact Ext.refl _ | assumption | refine Ext.alloc ?_ _ | refine Ext.drew ?_ | refine Ext.drewN ?_ _ | refine Ext.setCell ?_ (by first | exact Nat.le_refl _ | (simp; done) | omega) _ | refine Ext.trans ?_ (by assumption))))).mono ?_; rintro e w2 ⟨rfl, hx2⟩
    go_wp2
    go_ret
    exact ⟨rfl, (by repeat (first | exact Ext.refl _ | assumption | refine Ext.alloc ?_ _ | refine Ext.drew ?_ | refine Ext.drewN ?_ _ | refine Ext.setCell ?_ (by first | exact Nat.le_refl _ | (simp; done) | omega) _ | refine Ext.trans ?_ (by assumption)))⟩
set_option maxHeartbeats 8000000 in
set_option maxRecDepth 20000 in
theorem chooses_walk (c M S : Int) (bs ts ls : List Int) (f : Fall) (a0 a b : Option Addr) (k n m c0 ca cb : Nat) (w : World) (hg : EtIs w) (h0 : Ints w (.slice a0 k c0) bs) (ha : Ints w (.slice a n ca) ts) (hb : Ints w (.slice b m cb) ls) (h1 : ¬ 5000 < k) (h2 : ¬ 5000 < n) (h3 : ¬ 5000 < m)
    (fa : Hid (∀ v W, Ints W v bs → Calls Tryd.prog 21 #[v] W fun e w' => ∃ u, e = .returned u ∧ Ints w' u bs ∧ Ext W w'))
    (s1 : Hid (∀ v0 v u W, Ints W v0 bs → Ints W v ts → Ints W u ls → Calls Tryd.prog 25 #[v0, v, u, .int .i64 c] W (I2Post W M S f)))
    (s2 : Hid (∀ v0 v u W, Ints W v0 bs → Ints W v ts → Ints W u ls → Calls Tryd.prog 26 #[v0, v, u, .int .i64 c] W (RI2Post W M S f))) :
    Calls Tryd.prog 5 #[.slice a0 k c0, .slice a n ca, .slice b m cb, .int .i64 c] w fun e w' => e = .returned (.bool true) ∧ Ext w w' := by
  go_enter Tryd.func5, Tryd.ntmps5
  go_wp2_with fail
  refine (first10_any _ hg).mono ?_; rintro e w1 ⟨rfl, hx1⟩
  go_wp2_with fail
  refine (fa.out _ _ (h0.ext (by repeat (first | exact Ext.refl _ | assumption | refine Ext.alloc ?_ _ | refine Ext.drew ?_ | refine Ext.drewN ?_ _ | refine Ext.setCell ?_ (by first | exact Nat.le_refl _ | (simp; done) | omega) _ | refine Ext.trans ?_ (by assumption))))).mono ?_; rintro e w2 ⟨u2, rfl, hz2, hx2⟩
  go_wp2_with fail
  refine (s1.out _ _ _ _ (hz2.ext (by repeat (first | exact Ext.refl _ | assumption | refine Ext.alloc ?_ _ | refine Ext.drew ?_ | refine Ext.drewN ?_ _ | refine Ext.setCell ?_ (by first | exact Nat.le_refl _ | (simp; done) | omega) _ | refine Ext.trans ?_ (by assumption)))) (ha.ext (by repeat (first | exact Ext.refl _ | assumption | refine Ext.alloc ?_ _ | refine Ext.drew ?_ | refine Ext.drewN ?_ _ | refine Ext.setCell ?_ (by first | exact Nat.le_refl _ | (simp; done) | omega) _ | refine Ext.trans ?_ (by assumption)))) (hb.ext (by repeat (first | exact Ext.refl _ | assumption | refine Ext.alloc ?_ _ | refine Ext.drew ?_ | refine Ext.drewN ?_ _ | refine Ext.setCell ?_ (by first | exact Nat.le_refl _ | (simp; done) | omega) _ | refine Ext.trans ?_ (by assumption))))).mono ?_; rintro e w4 ⟨x4, rfl, hx4, he4⟩
  go_wp2_with fail
  refine (s2.out _ _ _ _ (h0.ext (by repeat (first | exact Ext.refl _ | assumption | refine Ext.alloc ?_ _ | refine Ext.drew ?_ | refine Ext.drewN ?_ _ | refine Ext.setCell ?_ (by first | exact Nat.le_refl _ | (simp; done) | omega) _ | refine Ext.trans ?_ (by assumption)))) (ha.ext (by repeat (first | exact Ext.refl _ | assumption | refine Ext.alloc ?_ _ | refine Ext.drew ?_ | refine Ext.drewN ?_ _ | refine Ext.setCell ?_ (by first | exact Nat.le_refl _ | (simp; done) | omega) _ | refine Ext.trans ?_ (by assumption)))) (hb.ext (by repeat (first | exact Ext.refl _ | assumption | refine Ext.alloc ?_ _ | refine Ext.drew ?_ | refine Ext.drewN ?_ _ | refine Ext.setCell ?_ (by first | exact Nat.le_refl _ | (simp; done) | omega) _ | refine Ext.trans ?_ (by assumption))))).mono ?_; rintro e w5 ⟨c5, e5, n5, k5, rfl, hx5, he5⟩
  go_wp2_with fail
  refine (first10_any _ (hg.ext (by repeat (first | exact Ext.refl _ | assumption | refine Ext.alloc ?_ _ | refine Ext.drew ?_ | refine Ext.drewN ?_ _ | refine Ext.setCell ?_ (by first | exact Nat.le_refl _ | (simp; done) | omega) _ | refine Ext.trans ?_ (by assumption))))).mono ?_; rintro e w10 ⟨rfl, hx10⟩
  obtain ⟨p0, p1⟩ := evar w5 c5 e5 n5 k5 (W := w10) (by repeat (first | exact Ext.refl _ | assumption | refine Ext.alloc ?_ _ | refine Ext.drew ?_ | refine Ext.drewN ?_ _ | refine Ext.setCell ?_ (by first | exact Nat.le_refl _ | (simp; done) | omega) _ | refine Ext.trans ?_ (by assumption)))
  go_wp2_with fail
  refine (same_fall f _ _ _ _ (hg.ext (by repeat (first | exact Ext.refl _ | assumption | refine Ext.alloc ?_ _ | refine Ext.drew ?_ | refine Ext.drewN ?_ _ | refine Ext.setCell ?_ (by first | exact Nat.le_refl _ | (simp; done) | omega) _ | refine Ext.trans ?_ (by assumption)))) (he4.ext (by repeat (first | exact Ext.refl _ | assumption | refine Ext.alloc ?_ _ | refine Ext.drew ?_ | refine Ext.drewN ?_ _ | refine Ext.setCell ?_ (by first | exact Nat.le_refl _ | (simp; done) | omega) _ | refine Ext.trans ?_ (by assumption)))) (he5.ext (by repeat (first | exact Ext.refl _ | assumption | refine Ext.alloc ?_ _ | refine Ext.drew ?_ | refine Ext.drewN ?_ _ | refine Ext.setCell ?_ (by first | exact Nat.le_refl _ | (simp; done) | omega) _ | refine Ext.trans ?_ (by assumption))))).mono ?_; rintro e w12 ⟨rfl, hx12⟩
  clear p0 p1
  go_wp2_with fail
  refine (ints_same bs bs _ _ _ (hz2.ext (by repeat (first | exact Ext.refl _ | assumption | refine Ext.alloc ?_ _ | refine Ext.drew ?_ | refine Ext.drewN ?_ _ | refine Ext.setCell ?_ (by first | exact Nat.le_refl _ | (simp; done) | omega) _ | refine Ext.trans ?_ (by assumption)))) (h0.ext (by repeat (first | exact Ext.refl _ | assumption | refine Ext.alloc ?_ _ | refine Ext.drew ?_ | refine Ext.drewN ?_ _ | refine Ext.setCell ?_ (by first | exact Nat.le_refl _ | (simp; done) | omega) _ | refine Ext.trans ?_ (by assumption))))).mono ?_; rintro e w16 ⟨rfl, hx16⟩
  rw [decide_eq_true rfl]
  go_wp2
  go_ret
  exact ⟨rfl, (by repeat (first | exact Ext.refl _ | assumption | refine Ext.alloc ?_ _ | refine Ext.drew ?_ | refine Ext.drewN ?_ _ | refine Ext.setCell ?_ (by first | exact Nat.le_refl _ | (simp; done) | omega) _ | refine Ext.trans ?_ (by assumption)))⟩
theorem chooses_law (c : Int) (bs ts ls : List Int) (v0 va vb : Value) (w : World) (hg : EtIs w) (hq : Row w v0 bs.length (bs.map (Value.int .i64))) (hr : Row w va ts.length (ts.map (Value.int .i64))) (hs : Row w vb ls.length (ls.map (Value.int .i64))) :
    Calls Tryd.prog 5 #[v0, va, vb, .int .i64 c] w fun e w' => e = .returned (.bool true) ∧ Ext w w' := by
  by_cases hl : 5000 < bs.length ∨ ¬ 5000 < bs.length ∧ 5000 < ts.length ∨ ¬ 5000 < bs.length ∧ ¬ 5000 < ts.length ∧ 5000 < ls.length
  · obtain ⟨a0, c0, rfl⟩ := hq.form
    obtain ⟨a, ca, rfl⟩ := hr.form
    obtain ⟨b, cb, rfl⟩ := hs.form
    exact chooses_long c a0 a b _ _ _ c0 ca cb w hg hl
  · have h1 : ¬ 5000 < bs.length := by omega
    have h2 : ¬ 5000 < ts.length := by omega
    have h3 : ¬ 5000 < ls.length := by omega
    have h0 : Ints w v0 bs := ⟨hq, by omega⟩
    have ha : Ints w va ts := ⟨hr, by omega⟩
    have hb : Ints w vb ls := ⟨hs, by omega⟩
    obtain ⟨a0, c0, rfl⟩ := h0.form
    obtain ⟨a, ca, rfl⟩ := ha.form
    obtain ⟨b, cb, rfl⟩ := hb.form
    exact chooses_walk c _ _ bs ts ls _ a0 a b _ _ _ c0 ca cb w hg h0 ha hb h1 h2 h3 (fun v W h => copy_ints bs v W h (by omega))
      (fun v0 v u W h0 h k => Best_any bs ts ls c v0 v u W h0 h k (by omega)) (fun v0 v u W h0 h k => RBest_any bs ts ls c v0 v u W h0 h k (by omega))
end Go.Proofs.YtbhlbiandelimaaDoor
