/- kinlaw6.PlaneMakes: the walk. -/
import Derived.Test.YtkighedghgcdjaaDoorPl1
import Derived.Test.YtkighedghgcdjaaDoorRNew
import Derived.BigRegion
import Derived.Deep.RegionHeld3
namespace Go.Proofs.YtkighedghgcdjaaDoor
set_option linter.unusedVariables false
set_option linter.unusedSimpArgs false
open Go.RowKit Go.Extern.Stop Go.Stop Go.Extern

set_option maxHeartbeats 2000000 in
set_option maxRecDepth 20000 in
theorem makes_long (p q v W H : Int) (a : Option Addr) (n cap : Nat) (w : World) (hg : EtIs w) (hl : 5000 < n) :
    Calls Tryd.prog 3 #[.int .i64 p, .int .i64 q, .int .i64 v, .agg #[.int .i64 W, .int .i64 H, .slice a n cap]] w fun e w' => e = .returned (.bool true) ∧ Ext w w' := by
  go_enter Tryd.func3, Tryd.ntmps3
  go_wp2_with fail
  refine (first6_any _ (hg.ext (by repeat (first | exact Ext.refl _ | assumption | refine Ext.alloc ?_ _ | refine Ext.drew ?_ | refine Ext.drewN ?_ _ | refine Ext.setCell ?_ (by first | exact Nat.le_refl _ | (simp; done) | omega) _ | refine Ext.trans ?_ (by assumption))))).mono ?_; rintro e w1 ⟨rfl, hx1⟩
  obtain ⟨p0, p1, p2⟩ := (FrBox.new w W H (.slice a n cap)).ext hx1
  go_wp2_with fail
  refine (few_any W H a n cap _).mono ?_; rintro e w2 ⟨rfl, hx2⟩
  rw [decide_eq_false (by omega)]
  go_wp2_with fail
  refine (first6_any _ (hg.ext (by repeat (first | exact Ext.refl _ | assumption | refine Ext.alloc ?_ _ | refine Ext.drew ?_ | refine Ext.drewN ?_ _ | refine Ext.setCell ?_ (by first | exact Nat.le_refl _ | (simp; done) | omega) _ | refine Ext.trans ?_ (by assumption))))).mono ?_; rintro e w3 ⟨rfl, hx3⟩
  go_wp2
  go_ret
  exact ⟨rfl, (by repeat (first | exact Ext.refl _ | assumption | refine Ext.alloc ?_ _ | refine Ext.drew ?_ | refine Ext.drewN ?_ _ | refine Ext.setCell ?_ (by first | exact Nat.le_refl _ | (simp; done) | omega) _ | refine Ext.trans ?_ (by assumption)))⟩
set_option maxHeartbeats 4000000 in
set_option maxRecDepth 20000 in
theorem makes_walk (p q v W H A B V : Int) (zs L : List Int) (f : Fall) (b0 : Bool) (a : Option Addr) (n cap : Nat) (w : World) (hg : EtIs w) (h : Ints w (.slice a n cap) zs) (hl : ¬ 5000 < n)
    (c1 : Hid (∀ w, Calls Tryd.prog 17 #[.int .i64 p, .int .i64 q, .int .i64 v] w (FPost w A B L f)))
    (c2 : Hid (∀ w, Calls Tryd.prog 18 #[.int .i64 p, .int .i64 q, .int .i64 v] w (RFPost w A B L f)))
    (c3 : Hid (∀ w, Ints w (.slice a n cap) zs → Calls Tryd.prog 21 #[.agg #[.int .i64 W, .int .i64 H, .slice a n cap]] w fun e w' => e = .returned (.bool b0) ∧ Ext w w'))
    (c4 : Hid (∀ w, Ints w (.slice a n cap) zs → Calls Tryd.prog 22 #[.agg #[.int .i64 W, .int .i64 H, .slice a n cap]] w fun e w' => e = .returned (.bool b0) ∧ Ext w w'))
    (c5 : Hid (∀ w, Calls Tryd.prog 23 #[.int .i64 v] w fun e w' => e = .returned (.int .i64 V) ∧ Ext w w'))
    (c6 : Hid (∀ w, Calls Tryd.prog 24 #[.int .i64 v] w fun e w' => e = .returned (.int .i64 V) ∧ Ext w w')) :
    Calls Tryd.prog 3 #[.int .i64 p, .int .i64 q, .int .i64 v, .agg #[.int .i64 W, .int .i64 H, .slice a n cap]] w fun e w' => e = .returned (.bool true) ∧ Ext w w' := by
  have HB := Lib.hid (FrBox.new w W H (.slice a n cap))
  go_enter Tryd.func3, Tryd.ntmps3
  go_wp2_with fail
  refine (first6_any _ (hg.ext (by repeat (first | exact Ext.refl _ | assumption | refine Ext.alloc ?_ _ | refine Ext.drew ?_ | refine Ext.drewN ?_ _ | refine Ext.setCell ?_ (by first | exact Nat.le_refl _ | (simp; done) | omega) _ | refine Ext.trans ?_ (by assumption))))).mono ?_; rintro e w1 ⟨rfl, hx1⟩
  have F1 := Lib.hid (HB.out.ext hx1)
  obtain ⟨p0, p1, p2⟩ := F1.out
  go_wp2_with fail
  refine (few_any W H a n cap _).mono ?_; rintro e w2 ⟨rfl, hx2⟩
  rw [decide_eq_true (by omega)]
  have F2 := Lib.hid (F1.out.ext hx2)
  clear p0 p1 p2 F1 HB
  go_wp2_with fail
  refine (c1.out _).mono ?_; rintro e w3 ⟨a3, n3, k3, x3, rfl, hx3, hz3, he3⟩
  have A3 : Ext w3 (w3.alloc (.cells #[.int .i64 A, .int .i64 B, .slice a3 n3 k3] 24)) := (Ext.refl w3).alloc _
  have F3 := Lib.hid ((F2.out.ext hx3).ext A3)
  have G3 := Lib.hid (FrBox.new w3 A B (.slice a3 n3 k3))
  clear F2
  go_wp2_with fail
  refine (c2.out _).mono ?_; rintro e w4 ⟨a4, n4, k4, c, b, m, k, rfl, hx4, hz4, he4⟩
  have A4 : Ext w4 ((w4.alloc (.cells #[.int .i64 A, .int .i64 B, .slice a4 n4 k4] 24)).alloc (.cells #[.int .i64 c, .slice b m k] 34)) := ((Ext.refl w4).alloc _).alloc _
  have P := (F3.out.ext hx4).ext A4
  have Q := (G3.out.ext hx4).ext A4
  have R := (FrBox.new w4 A B (.slice a4 n4 k4)).ext ((Ext.refl _).alloc (.cells #[.int .i64 c, .slice b m k] 34))
  have s0 : ((w4.alloc (.cells #[.int .i64 A, .int .i64 B, .slice a4 n4 k4] 24)).alloc (.cells #[.int .i64 c, .slice b m k] 34)).cell? ⟨w4.heap.size + 1, 0, none⟩ = some (.int .i64 c) := by simp
  have s1 : ((w4.alloc (.cells #[.int .i64 A, .int .i64 B, .slice a4 n4 k4] 24)).alloc (.cells #[.int .i64 c, .slice b m k] 34)).cell? ⟨w4.heap.size + 1, 1, none⟩ = some (.slice b m k) := by simp
  have EW : Ext w ((w4.alloc (.cells #[.int .i64 A, .int .i64 B, .slice a4 n4 k4] 24)).alloc (.cells #[.int .i64 c, .slice b m k] 34)) := (by repeat (first | exact Ext.refl _ | assumption | refine Ext.alloc ?_ _ | refine Ext.drew ?_ | refine Ext.drewN ?_ _ | refine Ext.setCell ?_ (by first | exact Nat.le_refl _ | (simp; done) | omega) _ | refine Ext.trans ?_ (by assumption)))
  have Z3 := hz3.ext (A3.trans (hx4.trans A4))
  have Z4 := hz4.ext A4
  have X3 := he3.ext (A3.trans (hx4.trans A4))
  have X4 := he4.ext A4
  go_wp2_with fail
  revert P Q R s0 s1 EW Z3 Z4 X3 X4
  generalize (w4.alloc (.cells #[.int .i64 A, .int .i64 B, .slice a4 n4 k4] 24)).alloc (.cells #[.int .i64 c, .slice b m k] 34) = wR
  intro P Q R s0 s1 EW Z3 Z4 X3 X4
  have HZ3 := Lib.hid Z3
  have HZ4 := Lib.hid Z4
  have HX3 := Lib.hid X3
  have HX4 := Lib.hid X4
  have HA := Lib.hid (h.ext EW)
  have HG := Lib.hid (hg.ext EW)
  obtain ⟨p0, p1, p2⟩ := P
  obtain ⟨q0, q1, q2⟩ := Q
  obtain ⟨r0, r1, r2⟩ := R
  clear Z3 Z4 X3 X4 F3 G3 A3 A4 hx1 hx2 hx3 hx4 hz3 hz4 he3 he4 c1 c2
  go_region_held3 (fun w' => w'.cell? ⟨w.heap.size, 0, none⟩ = some (.int .i64 W) ∧ w'.cell? ⟨w.heap.size, 1, none⟩ = some (.int .i64 H) ∧ w'.cell? ⟨w.heap.size, 2, none⟩ = some (.slice a n cap) ∧ w'.cell? ⟨w3.heap.size, 0, none⟩ = some (.int .i64 A) ∧ w'.cell? ⟨w3.heap.size, 1, none⟩ = some (.int .i64 B) ∧ w'.cell? ⟨w3.heap.size, 2, none⟩ = some (.slice a3 n3 k3) ∧ w'.cell? ⟨w4.heap.size, 0, none⟩ = some (.int .i64 A) ∧ w'.cell? ⟨w4.heap.size, 1, none⟩ = some (.int .i64 B) ∧ w'.cell? ⟨w4.heap.size, 2, none⟩ = some (.slice a4 n4 k4) ∧ w'.cell? ⟨w4.heap.size + 1, 0, none⟩ = some (.int .i64 c) ∧ w'.cell? ⟨w4.heap.size + 1, 1, none⟩ = some (.slice b m k) ∧ Ext wR w')
    (first | assumption | (exact ⟨p0, p1, p2, q0, q1, q2, r0, r1, r2, s0, s1, Ext.refl _⟩) | (exact ⟨p0, p1, p2, q0, q1, q2, r0, r1, r2, s0, s1, (Ext.refl _).drew⟩) | (go_split_ands; exact ⟨hx.cell (by assumption), hx.cell (by assumption), hx.cell (by assumption), hx.cell (by assumption), hx.cell (by assumption), hx.cell (by assumption), hx.cell (by assumption), hx.cell (by assumption), hx.cell (by assumption), hx.cell (by assumption), hx.cell (by assumption), Ext.trans (by assumption) hx⟩))
    ((first | (go_at_call 15; obtain ⟨_, _, _, _, _, _, _, _, _, _, _, hE1⟩ : _ ∧ _ ∧ _ ∧ _ ∧ _ ∧ _ ∧ _ ∧ _ ∧ _ ∧ _ ∧ _ ∧ Ext wR _ := (by assumption); refine (first6_any _ (HG.out.ext hE1)).mono ?_; rintro e w' ⟨rfl, hx⟩) | (go_at_call 19; obtain ⟨_, _, _, _, _, _, _, _, _, _, _, hE1⟩ : _ ∧ _ ∧ _ ∧ _ ∧ _ ∧ _ ∧ _ ∧ _ ∧ _ ∧ _ ∧ _ ∧ Ext wR _ := (by assumption); refine (frame_same A B L _ _ _ _ _ _ _ (HZ3.out.ext hE1) (HZ4.out.ext hE1)).mono ?_; rintro e w' ⟨rfl, hx⟩) | (go_at_call 20; obtain ⟨_, _, _, _, _, _, _, _, _, _, _, hE1⟩ : _ ∧ _ ∧ _ ∧ _ ∧ _ ∧ _ ∧ _ ∧ _ ∧ _ ∧ _ ∧ _ ∧ Ext wR _ := (by assumption); refine (same_fall f _ _ _ _ (HG.out.ext hE1) (HX3.out.ext hE1) (HX4.out.ext hE1)).mono ?_; rintro e w' ⟨rfl, hx⟩) | (go_at_call 21; obtain ⟨_, _, _, _, _, _, _, _, _, _, _, hE1⟩ : _ ∧ _ ∧ _ ∧ _ ∧ _ ∧ _ ∧ _ ∧ _ ∧ _ ∧ _ ∧ _ ∧ Ext wR _ := (by assumption); refine (c3.out _ (HA.out.ext hE1)).mono ?_; rintro e w' ⟨rfl, hx⟩) | (go_at_call 22; obtain ⟨_, _, _, _, _, _, _, _, _, _, _, hE1⟩ : _ ∧ _ ∧ _ ∧ _ ∧ _ ∧ _ ∧ _ ∧ _ ∧ _ ∧ _ ∧ _ ∧ Ext wR _ := (by assumption); refine (c4.out _ (HA.out.ext hE1)).mono ?_; rintro e w' ⟨rfl, hx⟩) | (go_at_call 23; obtain ⟨_, _, _, _, _, _, _, _, _, _, _, hE1⟩ : _ ∧ _ ∧ _ ∧ _ ∧ _ ∧ _ ∧ _ ∧ _ ∧ _ ∧ _ ∧ _ ∧ Ext wR _ := (by assumption); refine (c5.out _).mono ?_; rintro e w' ⟨rfl, hx⟩) | (go_at_call 24; obtain ⟨_, _, _, _, _, _, _, _, _, _, _, hE1⟩ : _ ∧ _ ∧ _ ∧ _ ∧ _ ∧ _ ∧ _ ∧ _ ∧ _ ∧ _ ∧ _ ∧ Ext wR _ := (by assumption); refine (c6.out _).mono ?_; rintro e w' ⟨rfl, hx⟩)))
  obtain ⟨_, _, _, _, _, _, _, _, _, _, _, hE1⟩ : _ ∧ _ ∧ _ ∧ _ ∧ _ ∧ _ ∧ _ ∧ _ ∧ _ ∧ _ ∧ _ ∧ Ext wR _ := by assumption
  go_wp2
  go_ret
  exact ⟨rfl, EW.trans hE1⟩
theorem makes_law (p q v W H : Int) (zs : List Int) (u : Value) (w : World) (hg : EtIs w) (hr : Row w u zs.length (zs.map (Value.int .i64))) :
    Calls Tryd.prog 3 #[.int .i64 p, .int .i64 q, .int .i64 v, .agg #[.int .i64 W, .int .i64 H, u]] w fun e w' => e = .returned (.bool true) ∧ Ext w w' := by
  by_cases hl : 5000 < zs.length
  · obtain ⟨a, cap, rfl⟩ := hr.form
    exact makes_long p q v W H a _ cap w hg hl
  · have h : Ints w u zs := ⟨hr, by omega⟩
    obtain ⟨a, cap, rfl⟩ := h.form
    have d1 : ∀ w, Calls Tryd.prog 23 #[.int .i64 v] w fun e w' => e = .returned (.int .i64 (clipI v)) ∧ Ext w w' := fun w => (clip_any v w).mono fun e w' ⟨he, hx⟩ => ⟨he, hx ▸ Ext.refl w⟩
    have d2 : ∀ w, Calls Tryd.prog 24 #[.int .i64 v] w fun e w' => e = .returned (.int .i64 (clipI v)) ∧ Ext w w' := fun w => (rclip_any v w).mono fun e w' ⟨he, hx⟩ => ⟨he, hx ▸ Ext.refl w⟩
    cases hn : newOk p q v with
    | true => exact makes_walk p q v W H _ _ _ zs _ none _ a _ cap w hg h hl (fun w => new_ok p q v w hn) (fun w => rnew_ok p q v w hn) (fun w k => may_any W H zs a _ cap w k) (fun w k => rmay_any W H zs a _ cap w k) d1 d2
    | false => exact makes_walk p q v W H _ _ _ zs _ range _ a _ cap w hg h hl (fun w => new_no p q v w hn) (fun w => rnew_no p q v w hn) (fun w k => may_any W H zs a _ cap w k) (fun w k => rmay_any W H zs a _ cap w k) d1 d2
end Go.Proofs.YtkighedghgcdjaaDoor
