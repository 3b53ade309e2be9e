/- kinlaw10.IntraEdges: the walk. -/
import Derived.Test.YtkighedghgcdjaaDoorIEd2
import Derived.Test.YtkighedghgcdjaaDoorCpF
import Derived.Test.YtkighedghgcdjaaDoorTwF
namespace Go.Proofs.YtkighedghgcdjaaDoor
set_option linter.unusedVariables false
set_option linter.unusedSimpArgs false
open Go.RowKit Go.Extern.Stop Go.Stop Go.Extern

def EdPost (w : World) (T L : List Int) (c : Int) (e : Ending) (w' : World) : Prop := ∃ u u', e = .returned (.tuple #[u, u', .int .i64 c]) ∧ Ext w w' ∧ Ints w' u T ∧ Ints w' u' L
set_option maxHeartbeats 2000000 in
set_option maxRecDepth 20000 in
theorem ielw_long (W H x y i : Int) (a : Option Addr) (n cap : Nat) (w : World) (hg : EtIs w) (hl : 5000 < n) :
    Calls Tryd.prog 9 #[.agg #[.int .i64 W, .int .i64 H, .slice a n cap], .int .i64 x, .int .i64 y, .int .i64 i] w fun e w' => e = .returned (.bool true) ∧ Ext w w' := by
  go_enter Tryd.func9, Tryd.ntmps9
  go_wp2_with fail
  refine (first10_any _ (hg.ext (by repeat (first | exact Ext.refl _ | assumption | refine Ext.alloc ?_ _ | refine Ext.drew ?_ | refine Ext.drewN ?_ _ | refine Ext.setCell ?_ (by first | exact Nat.le_refl _ | (simp; done) | omega) _ | refine Ext.trans ?_ (by assumption))))).mono ?_; rintro e w1 ⟨rfl, hx1⟩
  obtain ⟨p0, p1, p2⟩ := (FrBox.new w W H (.slice a n cap)).ext hx1
  go_wp2_with fail
  refine (first10_any _ (hg.ext (by repeat (first | exact Ext.refl _ | assumption | refine Ext.alloc ?_ _ | refine Ext.drew ?_ | refine Ext.drewN ?_ _ | refine Ext.setCell ?_ (by first | exact Nat.le_refl _ | (simp; done) | omega) _ | refine Ext.trans ?_ (by assumption))))).mono ?_; rintro e w2 ⟨rfl, hx2⟩
  go_wp2
  go_ret
  exact ⟨rfl, (by repeat (first | exact Ext.refl _ | assumption | refine Ext.alloc ?_ _ | refine Ext.drew ?_ | refine Ext.drewN ?_ _ | refine Ext.setCell ?_ (by first | exact Nat.le_refl _ | (simp; done) | omega) _ | refine Ext.trans ?_ (by assumption)))⟩
set_option maxHeartbeats 2000000 in
set_option maxRecDepth 20000 in
theorem ielw_walk (W H x y i c : Int) (zs T L : List Int) (a : Option Addr) (n cap : Nat) (w : World) (hg : EtIs w) (h : Ints w (.slice a n cap) zs) (hl : ¬ 5000 < n)
    (c1 : Hid (∀ a n cap w, Ints w (.slice a n cap) zs → Calls Tryd.prog 39 #[.agg #[.int .i64 W, .int .i64 H, .slice a n cap], .int .i64 x, .int .i64 y, .int .i64 i] w (EdPost w T L c)))
    (c2 : Hid (∀ w, Ints w (.slice a n cap) zs → Calls Tryd.prog 40 #[.agg #[.int .i64 W, .int .i64 H, .slice a n cap], .int .i64 x, .int .i64 y, .int .i64 i] w (EdPost w T L c))) :
    Calls Tryd.prog 9 #[.agg #[.int .i64 W, .int .i64 H, .slice a n cap], .int .i64 x, .int .i64 y, .int .i64 i] w fun e w' => e = .returned (.bool true) ∧ Ext w w' := by
  have hzl : zs.length ≤ 1000000 := by have := h.len; omega
  have CF := Lib.hid (fun w k => copy_frame W H zs a n cap w k hzl)
  have HB := Lib.hid (FrBox.new w W H (.slice a n cap))
  clear hzl
  go_enter Tryd.func9, Tryd.ntmps9
  go_wp2_with fail
  refine (first10_any _ (hg.ext (by repeat (first | exact Ext.refl _ | assumption | refine Ext.alloc ?_ _ | refine Ext.drew ?_ | refine Ext.drewN ?_ _ | refine Ext.setCell ?_ (by first | exact Nat.le_refl _ | (simp; done) | omega) _ | refine Ext.trans ?_ (by assumption))))).mono ?_; rintro e w1 ⟨rfl, hx1⟩
  have F1 := Lib.hid (HB.out.ext hx1)
  obtain ⟨p0, p1, p2⟩ := F1.out
  go_wp2_with fail
  refine (CF.out _ (h.ext (by repeat (first | exact Ext.refl _ | assumption | refine Ext.alloc ?_ _ | refine Ext.drew ?_ | refine Ext.drewN ?_ _ | refine Ext.setCell ?_ (by first | exact Nat.le_refl _ | (simp; done) | omega) _ | refine Ext.trans ?_ (by assumption))))).mono ?_; rintro e w2 ⟨u2, rfl, hz2, hx2⟩
  obtain ⟨a2, cap2, rfl⟩ := hz2.form
  have A2 : Ext w2 (w2.alloc (.cells #[.int .i64 W, .int .i64 H, .slice a2 zs.length cap2] 24)) := (Ext.refl w2).alloc _
  have F2 := Lib.hid ((F1.out.ext hx2).ext A2)
  have G2 := Lib.hid (FrBox.new w2 W H (.slice a2 zs.length cap2))
  clear A2 p0 p1 p2 F1 HB
  go_wp2_with fail
  refine (c1.out _ _ _ _ (hz2.ext (by repeat (first | exact Ext.refl _ | assumption | refine Ext.alloc ?_ _ | refine Ext.drew ?_ | refine Ext.drewN ?_ _ | refine Ext.setCell ?_ (by first | exact Nat.le_refl _ | (simp; done) | omega) _ | refine Ext.trans ?_ (by assumption))))).mono ?_; rintro e w3 ⟨u3, v3, rfl, hx3, hy3, hz3⟩
  have F3 := Lib.hid (F2.out.ext hx3)
  have G3 := Lib.hid (G2.out.ext hx3)
  clear F2 G2
  obtain ⟨p0, p1, p2⟩ := F3.out
  go_wp2_with fail
  refine (c2.out _ (h.ext (by repeat (first | exact Ext.refl _ | assumption | refine Ext.alloc ?_ _ | refine Ext.drew ?_ | refine Ext.drewN ?_ _ | refine Ext.setCell ?_ (by first | exact Nat.le_refl _ | (simp; done) | omega) _ | refine Ext.trans ?_ (by assumption))))).mono ?_; rintro e w4 ⟨u4, v4, rfl, hx4, hy4, hz4⟩
  have F4 := Lib.hid (F3.out.ext hx4)
  have G4 := Lib.hid (G3.out.ext hx4)
  clear F3 G3 p0 p1 p2
  go_wp2_with fail
  refine (first10_any _ (hg.ext (by repeat (first | exact Ext.refl _ | assumption | refine Ext.alloc ?_ _ | refine Ext.drew ?_ | refine Ext.drewN ?_ _ | refine Ext.setCell ?_ (by first | exact Nat.le_refl _ | (simp; done) | omega) _ | refine Ext.trans ?_ (by assumption))))).mono ?_; rintro e w5 ⟨rfl, hx5⟩
  go_wp2_with fail
  refine (ints_same _ _ _ _ _ (hy3.ext (by repeat (first | exact Ext.refl _ | assumption | refine Ext.alloc ?_ _ | refine Ext.drew ?_ | refine Ext.drewN ?_ _ | refine Ext.setCell ?_ (by first | exact Nat.le_refl _ | (simp; done) | omega) _ | refine Ext.trans ?_ (by assumption)))) (hy4.ext (by repeat (first | exact Ext.refl _ | assumption | refine Ext.alloc ?_ _ | refine Ext.drew ?_ | refine Ext.drewN ?_ _ | refine Ext.setCell ?_ (by first | exact Nat.le_refl _ | (simp; done) | omega) _ | refine Ext.trans ?_ (by assumption))))).mono ?_; rintro e w6 ⟨rfl, hx6⟩
  rw [decide_eq_true rfl]
  go_wp2_with fail
  refine (ints_same _ _ _ _ _ (hz3.ext (by repeat (first | exact Ext.refl _ | assumption | refine Ext.alloc ?_ _ | refine Ext.drew ?_ | refine Ext.drewN ?_ _ | refine Ext.setCell ?_ (by first | exact Nat.le_refl _ | (simp; done) | omega) _ | refine Ext.trans ?_ (by assumption)))) (hz4.ext (by repeat (first | exact Ext.refl _ | assumption | refine Ext.alloc ?_ _ | refine Ext.drew ?_ | refine Ext.drewN ?_ _ | refine Ext.setCell ?_ (by first | exact Nat.le_refl _ | (simp; done) | omega) _ | refine Ext.trans ?_ (by assumption))))).mono ?_; rintro e w7 ⟨rfl, hx7⟩
  rw [decide_eq_true rfl]
  obtain ⟨p0, p1, p2⟩ := ((F4.out.ext hx5).ext hx6).ext hx7
  obtain ⟨q0, q1, q2⟩ := ((G4.out.ext hx5).ext hx6).ext hx7
  go_wp2_with fail
  refine (frame_same W H zs _ _ _ _ _ _ _ (hz2.ext (by repeat (first | exact Ext.refl _ | assumption | refine Ext.alloc ?_ _ | refine Ext.drew ?_ | refine Ext.drewN ?_ _ | refine Ext.setCell ?_ (by first | exact Nat.le_refl _ | (simp; done) | omega) _ | refine Ext.trans ?_ (by assumption)))) (h.ext (by repeat (first | exact Ext.refl _ | assumption | refine Ext.alloc ?_ _ | refine Ext.drew ?_ | refine Ext.drewN ?_ _ | refine Ext.setCell ?_ (by first | exact Nat.le_refl _ | (simp; done) | omega) _ | refine Ext.trans ?_ (by assumption))))).mono ?_; rintro e w8 ⟨rfl, hx8⟩
  go_wp2
  go_ret
  exact ⟨rfl, (by repeat (first | exact Ext.refl _ | assumption | refine Ext.alloc ?_ _ | refine Ext.drew ?_ | refine Ext.drewN ?_ _ | refine Ext.setCell ?_ (by first | exact Nat.le_refl _ | (simp; done) | omega) _ | refine Ext.trans ?_ (by assumption)))⟩
theorem ielw_law (W H x y i : Int) (zs : List Int) (v : Value) (w : World) (hg : EtIs w) (hr : Row w v zs.length (zs.map (Value.int .i64))) :
    Calls Tryd.prog 9 #[.agg #[.int .i64 W, .int .i64 H, v], .int .i64 x, .int .i64 y, .int .i64 i] w fun e w' => e = .returned (.bool true) ∧ Ext w w' := by
  by_cases hl : 5000 < zs.length
  · obtain ⟨a, cap, rfl⟩ := hr.form
    exact ielw_long W H x y i a _ cap w hg hl
  · have h : Ints w v zs := ⟨hr, by omega⟩
    obtain ⟨a, cap, rfl⟩ := h.form
    obtain ⟨n, hn⟩ : ∃ n, n = zs.length := ⟨_, rfl⟩
    rw [← hn] at h hl ⊢
    by_cases ho : edOk W H zs x y i
    · obtain ⟨h1, h2, h3⟩ := ho
      unfold liesB at h3
      simp only [Bool.and_eq_true, decide_eq_true_eq] at h3
      obtain ⟨⟨⟨l1, l2⟩, l3⟩, l4⟩ := h3
      rcases h2 with rfl | rfl
      · exact ielw_walk W H x y 4 _ zs _ _ a n cap w hg h hl (fun a n cap w k => edges_4 W H x y zs a n cap w k h1 ⟨l1, l3⟩ ⟨l2, l4⟩) (fun w k => redges_4 W H x y zs a n cap w k h1 ⟨l1, l3⟩ ⟨l2, l4⟩)
      · exact ielw_walk W H x y 8 _ zs _ _ a n cap w hg h hl (fun a n cap w k => edges_8 W H x y zs a n cap w k h1 ⟨l1, l3⟩ ⟨l2, l4⟩) (fun w k => redges_8 W H x y zs a n cap w k h1 ⟨l1, l3⟩ ⟨l2, l4⟩)
    · exact ielw_walk W H x y i 0 zs [] [] a n cap w hg h hl
        (fun a n cap w k => (edges_no W H x y i zs a n cap w k ho).mono fun e w' ⟨he, hx⟩ => ⟨_, _, he, hx, Ints.nil _, Ints.nil _⟩)
        (fun w k => (redges_no W H x y i zs a n cap w k ho).mono fun e w' ⟨he, hx⟩ => ⟨_, _, he, hx, Ints.nil _, Ints.nil _⟩)
end Go.Proofs.YtkighedghgcdjaaDoor
