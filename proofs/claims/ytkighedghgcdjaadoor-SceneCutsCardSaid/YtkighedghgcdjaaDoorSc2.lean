/- kinlaw16.SceneUnlikes, SceneTurned: the walks. -/
import Derived.Test.YtkighedghgcdjaaDoorSc1
import Derived.BigRegion
import Derived.Deep.RegionHeld3
namespace Go.Proofs.YtkighedghgcdjaaDoor
set_option linter.unusedVariables false
set_option linter.unusedSimpArgs false
open Go.RowKit Go.Extern.Stop Go.Stop Go.Extern

theorem pix_two {W H W' H' : Int} {xs ys : List Int} (h : pixB [(W, H, xs), (W', H', ys)] = true) : xs.length ≤ 20000 ∧ ys.length ≤ 20000 := by
  unfold pixB at h
  simp only [Bool.and_eq_true, decide_eq_true_eq] at h
  have h2 := h.2
  change (0 + min (((xs.length : Nat) : Int)) 20001 : Int) + min (((ys.length : Nat) : Int)) 20001 ≤ 20000 at h2
  omega
theorem sumV_comm2 (W H : Int) (xs : List Int) (W' H' : Int) (ys : List Int) : sumV W' H' ys W H xs = sumV W H xs W' H' ys := by
  unfold sumV
  rw [frAns_comm W' H' ys W H xs]
  cases h : frAns W H xs W' H' ys with
  | none => show sadF _ _ _ = sadF _ _ _; rw [sadF_comm, frAns_len h]
  | some f => rfl
theorem unlV_comm (W H : Int) (xs : List Int) (W' H' : Int) (ys : List Int) : unlV W' H' ys W H xs = unlV W H xs W' H' ys := by
  unfold unlV
  rw [frAns_comm W' H' ys W H xs, sumV_comm2]
  cases h : frAns W H xs W' H' ys with
  | none => obtain ⟨-, -, rfl, rfl⟩ := frAns_none h; rfl
  | some f => rfl
theorem unlV_self (W H : Int) (xs : List Int) : unlV W H xs W H xs = 0 := by
  unfold unlV
  cases h : frAns W H xs W H xs with
  | none =>
    have e : sumV W H xs W H xs = 0 := by
      unfold sumV
      rw [h]
      show sadF _ _ _ = 0
      rw [sadF_zero]
      intro j _
      rfl
    show Int.tdiv (64 * sumV W H xs W H xs) (W * H) = 0
    rw [e]
    simp
  | some f => rfl
theorem unlV_small (W H : Int) (xs : List Int) (W' H' : Int) (ys : List Int) : 0 ≤ unlV W H xs W' H' ys ∧ unlV W H xs W' H' ys ≤ 16320 := by
  unfold unlV
  cases h : frAns W H xs W' H' ys with
  | none =>
    obtain ⟨b1, b2, b3, b4⟩ := sum_small h
    exact unl_small b1 b2 b3
  | some f => show (0 : Int) ≤ 0 ∧ (0 : Int) ≤ 16320; omega
theorem frAns_self {W H : Int} {xs : List Int} {W' H' : Int} {ys : List Int} (h : frAns W H xs W' H' ys = none) : frAns W H xs W H xs = none := by
  obtain ⟨h1, -, -, -⟩ := frAns_none h
  unfold frAns
  rw [if_pos ⟨h1, h1⟩, if_pos ⟨rfl, rfl⟩]
set_option maxHeartbeats 2000000 in
set_option maxRecDepth 20000 in
theorem sun_long (W H W' H' : Int) (xs ys : List Int) (a b : Option Addr) (n m ca cb : Nat) (w : World) (hg : EtIs w) (ra : Row w (.slice a n ca) xs.length (xs.map (Value.int .i64))) (rb : Row w (.slice b m cb) ys.length (ys.map (Value.int .i64))) (hpb : pixB [(W, H, xs), (W', H', ys)] = false) :
    Calls Tryd.prog 10 #[.agg #[.int .i64 W, .int .i64 H, .slice a n ca], .agg #[.int .i64 W', .int .i64 H', .slice b m cb]] w fun e w' => e = .returned (.bool true) ∧ Ext w w' := by
  have HB0 := Lib.hid (FrBox.two w W H W' H' (.slice a n ca) (.slice b m cb))
  have EB : Ext w ((w.alloc (.cells #[.int .i64 W, .int .i64 H, .slice a n ca] 24)).alloc (.cells #[.int .i64 W', .int .i64 H', .slice b m cb] 24)) := (by repeat (first | exact Ext.refl _ | assumption | refine Ext.alloc ?_ _ | refine Ext.drew ?_ | refine Ext.drewN ?_ _ | refine Ext.setCell ?_ (by first | exact Nat.le_refl _ | (simp; done) | omega) _ | refine Ext.trans ?_ (by assumption)))
  go_enter Tryd.func10, Tryd.ntmps10
  go_wp2_with fail
  revert HB0 EB
  generalize (w.alloc (.cells #[.int .i64 W, .int .i64 H, .slice a n ca] 24)).alloc (.cells #[.int .i64 W', .int .i64 H', .slice b m cb] 24) = w0
  intro HB0 EB
  refine (first16_any _ (hg.ext EB)).mono ?_; rintro e w1 ⟨rfl, hx1⟩
  have F1 := Lib.hid (HB0.out.1.ext hx1)
  have G1 := Lib.hid (HB0.out.2.ext hx1)
  have E1 := EB.trans hx1
  clear HB0
  obtain ⟨p0, p1, p2⟩ := F1.out
  obtain ⟨q0, q1, q2⟩ := G1.out
  have HFM := fms2 w1 W H W' H' a b n m ca cb xs ys (ra.ext E1) (rb.ext E1)
  go_wp2_with fail
  refine (pix_any _ _ _ HFM (by simp)).mono ?_; rintro e w2 ⟨rfl, hx2⟩
  have A1 : Ext w1 (w1.alloc (.cells #[.int .i64 W, .int .i64 H, .slice a n ca, .int .i64 W', .int .i64 H', .slice b m cb] 24)) := (Ext.refl w1).alloc _
  have E2 := E1.trans (A1.trans hx2)
  have F2 := Lib.hid (F1.out.ext (A1.trans hx2))
  have G2 := Lib.hid (G1.out.ext (A1.trans hx2))
  rw [hpb]
  clear F1 G1 p0 p1 p2 q0 q1 q2 HFM A1 hx2 hx1 EB E1
  obtain ⟨p0, p1, p2⟩ := F2.out
  obtain ⟨q0, q1, q2⟩ := G2.out
  go_wp2_with fail
  refine (first16_any _ (hg.ext E2)).mono ?_; rintro e w9 ⟨rfl, hx9⟩
  go_wp2
  go_ret
  exact ⟨rfl, E2.trans hx9⟩
set_option maxHeartbeats 2000000 in
set_option maxRecDepth 20000 in
theorem stu_long (W H W' H' : Int) (xs ys : List Int) (a b : Option Addr) (n m ca cb : Nat) (w : World) (hg : EtIs w) (ra : Row w (.slice a n ca) xs.length (xs.map (Value.int .i64))) (rb : Row w (.slice b m cb) ys.length (ys.map (Value.int .i64))) (hpb : pixB [(W, H, xs), (W', H', ys)] = false) :
    Calls Tryd.prog 13 #[.agg #[.int .i64 W, .int .i64 H, .slice a n ca], .agg #[.int .i64 W', .int .i64 H', .slice b m cb]] w fun e w' => e = .returned (.bool true) ∧ Ext w w' := by
  have HB0 := Lib.hid (FrBox.two w W H W' H' (.slice a n ca) (.slice b m cb))
  have EB : Ext w ((w.alloc (.cells #[.int .i64 W, .int .i64 H, .slice a n ca] 24)).alloc (.cells #[.int .i64 W', .int .i64 H', .slice b m cb] 24)) := (by repeat (first | exact Ext.refl _ | assumption | refine Ext.alloc ?_ _ | refine Ext.drew ?_ | refine Ext.drewN ?_ _ | refine Ext.setCell ?_ (by first | exact Nat.le_refl _ | (simp; done) | omega) _ | refine Ext.trans ?_ (by assumption)))
  go_enter Tryd.func13, Tryd.ntmps13
  go_wp2_with fail
  revert HB0 EB
  generalize (w.alloc (.cells #[.int .i64 W, .int .i64 H, .slice a n ca] 24)).alloc (.cells #[.int .i64 W', .int .i64 H', .slice b m cb] 24) = w0
  intro HB0 EB
  refine (first16_any _ (hg.ext EB)).mono ?_; rintro e w1 ⟨rfl, hx1⟩
  have F1 := Lib.hid (HB0.out.1.ext hx1)
  have G1 := Lib.hid (HB0.out.2.ext hx1)
  have E1 := EB.trans hx1
  clear HB0
  obtain ⟨p0, p1, p2⟩ := F1.out
  obtain ⟨q0, q1, q2⟩ := G1.out
  have HFM := fms2 w1 W H W' H' a b n m ca cb xs ys (ra.ext E1) (rb.ext E1)
  go_wp2_with fail
  refine (pix_any _ _ _ HFM (by simp)).mono ?_; rintro e w2 ⟨rfl, hx2⟩
  have A1 : Ext w1 (w1.alloc (.cells #[.int .i64 W, .int .i64 H, .slice a n ca, .int .i64 W', .int .i64 H', .slice b m cb] 24)) := (Ext.refl w1).alloc _
  have E2 := E1.trans (A1.trans hx2)
  have F2 := Lib.hid (F1.out.ext (A1.trans hx2))
  have G2 := Lib.hid (G1.out.ext (A1.trans hx2))
  rw [hpb]
  clear F1 G1 p0 p1 p2 q0 q1 q2 HFM A1 hx2 hx1 EB E1
  obtain ⟨p0, p1, p2⟩ := F2.out
  obtain ⟨q0, q1, q2⟩ := G2.out
  go_wp2_with fail
  refine (first16_any _ (hg.ext E2)).mono ?_; rintro e w9 ⟨rfl, hx9⟩
  go_wp2
  go_ret
  exact ⟨rfl, E2.trans hx9⟩
set_option maxHeartbeats 4000000 in
set_option maxRecDepth 20000 in
theorem sun_walk (W H W' H' : Int) (xs ys : List Int) (a b : Option Addr) (n m ca cb : Nat) (w : World) (hg : EtIs w) (ra : Row w (.slice a n ca) xs.length (xs.map (Value.int .i64))) (rb : Row w (.slice b m cb) ys.length (ys.map (Value.int .i64))) (U : Int) (f : Fall) (hpb : pixB [(W, H, xs), (W', H', ys)] = true)
    (c1 : Hid (∀ w, Row w (.slice a n ca) xs.length (xs.map (Value.int .i64)) → Row w (.slice b m cb) ys.length (ys.map (Value.int .i64)) → Calls Tryd.prog 43 #[.agg #[.int .i64 W, .int .i64 H, .slice a n ca], .agg #[.int .i64 W', .int .i64 H', .slice b m cb]] w (IPost w U f)))
    (c2 : Hid (∀ w, Row w (.slice a n ca) xs.length (xs.map (Value.int .i64)) → Row w (.slice b m cb) ys.length (ys.map (Value.int .i64)) → Calls Tryd.prog 44 #[.agg #[.int .i64 W, .int .i64 H, .slice a n ca], .agg #[.int .i64 W', .int .i64 H', .slice b m cb]] w (RIPost w U f))) :
    Calls Tryd.prog 10 #[.agg #[.int .i64 W, .int .i64 H, .slice a n ca], .agg #[.int .i64 W', .int .i64 H', .slice b m cb]] w fun e w' => e = .returned (.bool true) ∧ Ext w w' := by
  have HB0 := Lib.hid (FrBox.two w W H W' H' (.slice a n ca) (.slice b m cb))
  have EB : Ext w ((w.alloc (.cells #[.int .i64 W, .int .i64 H, .slice a n ca] 24)).alloc (.cells #[.int .i64 W', .int .i64 H', .slice b m cb] 24)) := (by repeat (first | exact Ext.refl _ | assumption | refine Ext.alloc ?_ _ | refine Ext.drew ?_ | refine Ext.drewN ?_ _ | refine Ext.setCell ?_ (by first | exact Nat.le_refl _ | (simp; done) | omega) _ | refine Ext.trans ?_ (by assumption)))
  go_enter Tryd.func10, Tryd.ntmps10
  go_wp2_with fail
  revert HB0 EB
  generalize (w.alloc (.cells #[.int .i64 W, .int .i64 H, .slice a n ca] 24)).alloc (.cells #[.int .i64 W', .int .i64 H', .slice b m cb] 24) = w0
  intro HB0 EB
  refine (first16_any _ (hg.ext EB)).mono ?_; rintro e w1 ⟨rfl, hx1⟩
  have F1 := Lib.hid (HB0.out.1.ext hx1)
  have G1 := Lib.hid (HB0.out.2.ext hx1)
  have E1 := EB.trans hx1
  clear HB0
  obtain ⟨p0, p1, p2⟩ := F1.out
  obtain ⟨q0, q1, q2⟩ := G1.out
  have HFM := fms2 w1 W H W' H' a b n m ca cb xs ys (ra.ext E1) (rb.ext E1)
  go_wp2_with fail
  refine (pix_any _ _ _ HFM (by simp)).mono ?_; rintro e w2 ⟨rfl, hx2⟩
  have A1 : Ext w1 (w1.alloc (.cells #[.int .i64 W, .int .i64 H, .slice a n ca, .int .i64 W', .int .i64 H', .slice b m cb] 24)) := (Ext.refl w1).alloc _
  have E2 := E1.trans (A1.trans hx2)
  have F2 := Lib.hid (F1.out.ext (A1.trans hx2))
  have G2 := Lib.hid (G1.out.ext (A1.trans hx2))
  rw [hpb]
  clear F1 G1 p0 p1 p2 q0 q1 q2 HFM A1 hx2 hx1 EB E1
  obtain ⟨p0, p1, p2⟩ := F2.out
  obtain ⟨q0, q1, q2⟩ := G2.out
  go_wp2_with fail
  refine (c1.out _ (ra.ext E2) (rb.ext E2)).mono ?_; rintro e w3 ⟨x3, rfl, hx3, he3⟩
  have F3 := Lib.hid (F2.out.ext hx3)
  have G3 := Lib.hid (G2.out.ext hx3)
  have E3 := E2.trans hx3
  clear F2 G2 p0 p1 p2 q0 q1 q2
  obtain ⟨p0, p1, p2⟩ := F3.out
  obtain ⟨q0, q1, q2⟩ := G3.out
  go_wp2_with fail
  refine (c2.out _ (ra.ext E3) (rb.ext E3)).mono ?_; rintro e w4 ⟨c, d, i, j, rfl, hx4, he4⟩
  have A4 : Ext w4 (w4.alloc (.cells #[.int .i64 c, .slice d i j] 34)) := (Ext.refl w4).alloc _
  have E4 := (E3.trans hx4).trans A4
  clear p0 p1 p2 q0 q1 q2
  go_wp2_with fail
  refine (first16_any _ (hg.ext E4)).mono ?_; rintro e w5 ⟨rfl, hx5⟩
  obtain ⟨s0, s1⟩ := evar w4 c d i j hx5
  go_wp2_with fail
  refine (same_fall f _ _ _ _ (hg.ext (E4.trans hx5)) (he3.ext (hx4.trans (A4.trans hx5))) (he4.ext (A4.trans hx5))).mono ?_; rintro e w6 ⟨rfl, hx6⟩
  go_wp2
  go_ret
  exact ⟨rfl, (E4.trans hx5).trans hx6⟩
set_option maxHeartbeats 8000000 in
set_option maxRecDepth 20000 in
theorem stu_walk (W H W' H' : Int) (xs ys : List Int) (a b : Option Addr) (n m ca cb : Nat) (w : World) (hg : EtIs w) (ra : Row w (.slice a n ca) xs.length (xs.map (Value.int .i64))) (rb : Row w (.slice b m cb) ys.length (ys.map (Value.int .i64))) (U : Int) (f g : Fall) (hpb : pixB [(W, H, xs), (W', H', ys)] = true) (hU : 0 ≤ U ∧ U ≤ 16320) (hfg : f = none → g = none)
    (c1 : Hid (∀ w, Row w (.slice a n ca) xs.length (xs.map (Value.int .i64)) → Row w (.slice b m cb) ys.length (ys.map (Value.int .i64)) → Calls Tryd.prog 43 #[.agg #[.int .i64 W, .int .i64 H, .slice a n ca], .agg #[.int .i64 W', .int .i64 H', .slice b m cb]] w (IPost w U f)))
    (c2 : Hid (∀ w, Row w (.slice b m cb) ys.length (ys.map (Value.int .i64)) → Row w (.slice a n ca) xs.length (xs.map (Value.int .i64)) → Calls Tryd.prog 43 #[.agg #[.int .i64 W', .int .i64 H', .slice b m cb], .agg #[.int .i64 W, .int .i64 H, .slice a n ca]] w (IPost w U f)))
    (c3 : Hid (∀ w, Row w (.slice a n ca) xs.length (xs.map (Value.int .i64)) → Calls Tryd.prog 43 #[.agg #[.int .i64 W, .int .i64 H, .slice a n ca], .agg #[.int .i64 W, .int .i64 H, .slice a n ca]] w (IPost w 0 g))) :
    Calls Tryd.prog 13 #[.agg #[.int .i64 W, .int .i64 H, .slice a n ca], .agg #[.int .i64 W', .int .i64 H', .slice b m cb]] w fun e w' => e = .returned (.bool true) ∧ Ext w w' := by
  obtain ⟨u1, u2⟩ := hU
  have v1 : decide (0 ≤ U) = true := decide_eq_true u1
  have v2 : decide (U ≤ 16320) = true := decide_eq_true u2
  cases f with
  | none =>
    obtain rfl := hfg rfl
    clear hfg
    have HB0 := Lib.hid (FrBox.two w W H W' H' (.slice a n ca) (.slice b m cb))
    have EB : Ext w ((w.alloc (.cells #[.int .i64 W, .int .i64 H, .slice a n ca] 24)).alloc (.cells #[.int .i64 W', .int .i64 H', .slice b m cb] 24)) := (by repeat (first | exact Ext.refl _ | assumption | refine Ext.alloc ?_ _ | refine Ext.drew ?_ | refine Ext.drewN ?_ _ | refine Ext.setCell ?_ (by first | exact Nat.le_refl _ | (simp; done) | omega) _ | refine Ext.trans ?_ (by assumption)))
    go_enter Tryd.func13, Tryd.ntmps13
    go_wp2_with fail
    revert HB0 EB
    generalize (w.alloc (.cells #[.int .i64 W, .int .i64 H, .slice a n ca] 24)).alloc (.cells #[.int .i64 W', .int .i64 H', .slice b m cb] 24) = w0
    intro HB0 EB
    refine (first16_any _ (hg.ext EB)).mono ?_; rintro e w1 ⟨rfl, hx1⟩
    have F1 := Lib.hid (HB0.out.1.ext hx1)
    have G1 := Lib.hid (HB0.out.2.ext hx1)
    have E1 := EB.trans hx1
    clear HB0
    obtain ⟨p0, p1, p2⟩ := F1.out
    obtain ⟨q0, q1, q2⟩ := G1.out
    have HFM := fms2 w1 W H W' H' a b n m ca cb xs ys (ra.ext E1) (rb.ext E1)
    go_wp2_with fail
    refine (pix_any _ _ _ HFM (by simp)).mono ?_; rintro e w2 ⟨rfl, hx2⟩
    have A1 : Ext w1 (w1.alloc (.cells #[.int .i64 W, .int .i64 H, .slice a n ca, .int .i64 W', .int .i64 H', .slice b m cb] 24)) := (Ext.refl w1).alloc _
    have E2 := E1.trans (A1.trans hx2)
    have F2 := Lib.hid (F1.out.ext (A1.trans hx2))
    have G2 := Lib.hid (G1.out.ext (A1.trans hx2))
    rw [hpb]
    clear F1 G1 p0 p1 p2 q0 q1 q2 HFM A1 hx2 hx1 EB E1
    obtain ⟨p0, p1, p2⟩ := F2.out
    obtain ⟨q0, q1, q2⟩ := G2.out
    go_wp2_with fail
    refine (c1.out _ (ra.ext E2) (rb.ext E2)).mono ?_; rintro e w3 ⟨x3, rfl, hx3, he3⟩
    have F3 := Lib.hid (F2.out.ext hx3)
    have G3 := Lib.hid (G2.out.ext hx3)
    have E3 := E2.trans hx3
    clear F2 G2 p0 p1 p2 q0 q1 q2
    obtain ⟨p0, p1, p2⟩ := F3.out
    obtain ⟨q0, q1, q2⟩ := G3.out
    go_wp2_with fail
    refine (c2.out _ (rb.ext E3) (ra.ext E3)).mono ?_; rintro e w4 ⟨x4, rfl, hx4, he4⟩
    have F4 := Lib.hid (F3.out.ext hx4)
    have E4 := E3.trans hx4
    clear F3 G3 p0 p1 p2 q0 q1 q2
    obtain ⟨p0, p1, p2⟩ := F4.out
    go_wp2_with fail
    refine (c3.out _ (ra.ext E4)).mono ?_; rintro e w5 ⟨x5, rfl, hx5, he5⟩
    have E5 := E4.trans hx5
    clear F4 p0 p1 p2
    obtain rfl : x3 = .nilIface := he3
    obtain rfl : x4 = .nilIface := he4
    obtain rfl : x5 = .nilIface := he5
    have HG := Lib.hid (hg.ext E5)
    go_wp2_with fail
    go_region_held3 (fun w' => Ext w5 w' ∧ Ext w5 w')
      (first | assumption | (exact ⟨Ext.refl _, Ext.refl _⟩) | (exact ⟨(Ext.refl _).drew, (Ext.refl _).drew⟩) | (exact ⟨Ext.trans hE1 hx, Ext.trans hE1 hx⟩) | (go_split_ands; exact ⟨Ext.trans (by assumption) hx, Ext.trans (by assumption) hx⟩))
      ((go_at_call 41; obtain ⟨hE1, _⟩ : Ext w5 _ ∧ Ext w5 _ := (by assumption); refine (first16_any _ (HG.out.ext hE1)).mono ?_; rintro e w' ⟨rfl, hx⟩))
    obtain ⟨hE1, _⟩ : Ext w5 _ ∧ Ext w5 _ := by assumption
    go_wp2
    go_ret
    exact ⟨rfl, E5.trans hE1⟩
  | some f =>
    clear hfg
    have HB0 := Lib.hid (FrBox.two w W H W' H' (.slice a n ca) (.slice b m cb))
    have EB : Ext w ((w.alloc (.cells #[.int .i64 W, .int .i64 H, .slice a n ca] 24)).alloc (.cells #[.int .i64 W', .int .i64 H', .slice b m cb] 24)) := (by repeat (first | exact Ext.refl _ | assumption | refine Ext.alloc ?_ _ | refine Ext.drew ?_ | refine Ext.drewN ?_ _ | refine Ext.setCell ?_ (by first | exact Nat.le_refl _ | (simp; done) | omega) _ | refine Ext.trans ?_ (by assumption)))
    go_enter Tryd.func13, Tryd.ntmps13
    go_wp2_with fail
    revert HB0 EB
    generalize (w.alloc (.cells #[.int .i64 W, .int .i64 H, .slice a n ca] 24)).alloc (.cells #[.int .i64 W', .int .i64 H', .slice b m cb] 24) = w0
    intro HB0 EB
    refine (first16_any _ (hg.ext EB)).mono ?_; rintro e w1 ⟨rfl, hx1⟩
    have F1 := Lib.hid (HB0.out.1.ext hx1)
    have G1 := Lib.hid (HB0.out.2.ext hx1)
    have E1 := EB.trans hx1
    clear HB0
    obtain ⟨p0, p1, p2⟩ := F1.out
    obtain ⟨q0, q1, q2⟩ := G1.out
    have HFM := fms2 w1 W H W' H' a b n m ca cb xs ys (ra.ext E1) (rb.ext E1)
    go_wp2_with fail
    refine (pix_any _ _ _ HFM (by simp)).mono ?_; rintro e w2 ⟨rfl, hx2⟩
    have A1 : Ext w1 (w1.alloc (.cells #[.int .i64 W, .int .i64 H, .slice a n ca, .int .i64 W', .int .i64 H', .slice b m cb] 24)) := (Ext.refl w1).alloc _
    have E2 := E1.trans (A1.trans hx2)
    have F2 := Lib.hid (F1.out.ext (A1.trans hx2))
    have G2 := Lib.hid (G1.out.ext (A1.trans hx2))
    rw [hpb]
    clear F1 G1 p0 p1 p2 q0 q1 q2 HFM A1 hx2 hx1 EB E1
    obtain ⟨p0, p1, p2⟩ := F2.out
    obtain ⟨q0, q1, q2⟩ := G2.out
    go_wp2_with fail
    refine (c1.out _ (ra.ext E2) (rb.ext E2)).mono ?_; rintro e w3 ⟨x3, rfl, hx3, he3⟩
    have F3 := Lib.hid (F2.out.ext hx3)
    have G3 := Lib.hid (G2.out.ext hx3)
    have E3 := E2.trans hx3
    clear F2 G2 p0 p1 p2 q0 q1 q2
    obtain ⟨p0, p1, p2⟩ := F3.out
    obtain ⟨q0, q1, q2⟩ := G3.out
    go_wp2_with fail
    refine (c2.out _ (rb.ext E3) (ra.ext E3)).mono ?_; rintro e w4 ⟨x4, rfl, hx4, he4⟩
    have F4 := Lib.hid (F3.out.ext hx4)
    have E4 := E3.trans hx4
    clear F3 G3 p0 p1 p2 q0 q1 q2
    obtain ⟨p0, p1, p2⟩ := F4.out
    go_wp2_with fail
    refine (c3.out _ (ra.ext E4)).mono ?_; rintro e w5 ⟨x5, rfl, hx5, he5⟩
    have E5 := E4.trans hx5
    clear F4 p0 p1 p2
    obtain ⟨t3, y3, rfl⟩ := he3.ne
    obtain ⟨t4, y4, rfl⟩ := he4.ne
    have HG := Lib.hid (hg.ext E5)
    clear he5
    go_wp2_with fail
    first
      | go_region_held (fun w' => Ext w5 w' ∧ Ext w5 w')
          (first | assumption | (exact ⟨Ext.refl _, Ext.refl _⟩) | (exact ⟨(Ext.refl _).drew, (Ext.refl _).drew⟩) | (exact ⟨Ext.trans hE1 hx, Ext.trans hE1 hx⟩) | (go_split_ands; exact ⟨Ext.trans (by assumption) hx, Ext.trans (by assumption) hx⟩))
          ((go_at_call 41; obtain ⟨hE1, _⟩ : Ext w5 _ ∧ Ext w5 _ := (by assumption); refine (first16_any _ (HG.out.ext hE1)).mono ?_; rintro e w' ⟨rfl, hx⟩))
      | fail
    all_goals
      obtain ⟨hE1, _⟩ : Ext w5 _ ∧ Ext w5 _ := by assumption
      go_wp2
      go_ret
      exact ⟨rfl, E5.trans hE1⟩
theorem sun_law (W H W' H' : Int) (xs ys : List Int) (va vb : Value) (w : World) (hg : EtIs w) (ra : Row w va xs.length (xs.map (Value.int .i64))) (rb : Row w vb ys.length (ys.map (Value.int .i64))) :
    Calls Tryd.prog 10 #[.agg #[.int .i64 W, .int .i64 H, va], .agg #[.int .i64 W', .int .i64 H', vb]] w fun e w' => e = .returned (.bool true) ∧ Ext w w' := by
  obtain ⟨a, ca, rfl⟩ := ra.form
  obtain ⟨b, cb, rfl⟩ := rb.form
  cases hp : pixB [(W, H, xs), (W', H', ys)] with
  | false => exact sun_long W H W' H' xs ys a b _ _ ca cb w hg ra rb hp
  | true =>
    obtain ⟨l1, l2⟩ := pix_two hp
    have l1' := Nat.le_trans l1 (show 20000 ≤ 4611686018427387903 by decide)
    have l2' := Nat.le_trans l2 (show 20000 ≤ 4611686018427387903 by decide)
    exact sun_walk W H W' H' xs ys a b _ _ ca cb w hg ra rb (unlV W H xs W' H' ys) (frAns W H xs W' H' ys) hp (fun w k1 k2 => unlike_any W H W' H' xs ys a b _ _ ca cb w ⟨k1, l1'⟩ ⟨k2, l2'⟩) (fun w k1 k2 => runlike_any W H W' H' xs ys a b _ _ ca cb w ⟨k1, l1'⟩ ⟨k2, l2'⟩)
theorem stu_law (W H W' H' : Int) (xs ys : List Int) (va vb : Value) (w : World) (hg : EtIs w) (ra : Row w va xs.length (xs.map (Value.int .i64))) (rb : Row w vb ys.length (ys.map (Value.int .i64))) :
    Calls Tryd.prog 13 #[.agg #[.int .i64 W, .int .i64 H, va], .agg #[.int .i64 W', .int .i64 H', vb]] w fun e w' => e = .returned (.bool true) ∧ Ext w w' := by
  obtain ⟨a, ca, rfl⟩ := ra.form
  obtain ⟨b, cb, rfl⟩ := rb.form
  cases hp : pixB [(W, H, xs), (W', H', ys)] with
  | false => exact stu_long W H W' H' xs ys a b _ _ ca cb w hg ra rb hp
  | true =>
    obtain ⟨l1, l2⟩ := pix_two hp
    have l1' := Nat.le_trans l1 (show 20000 ≤ 4611686018427387903 by decide)
    have l2' := Nat.le_trans l2 (show 20000 ≤ 4611686018427387903 by decide)
    exact stu_walk W H W' H' xs ys a b _ _ ca cb w hg ra rb (unlV W H xs W' H' ys) (frAns W H xs W' H' ys) (frAns W H xs W H xs) hp (unlV_small W H xs W' H' ys) frAns_self
      (fun w k1 k2 => unlike_any W H W' H' xs ys a b _ _ ca cb w ⟨k1, l1'⟩ ⟨k2, l2'⟩)
      (fun w k2 k1 => by have := unlike_any W' H' W H ys xs b a _ _ cb ca w ⟨k2, l2'⟩ ⟨k1, l1'⟩; rwa [unlV_comm, frAns_comm W' H' ys W H xs] at this)
      (fun w k1 => by have := unlike_any W H W H xs xs a a _ _ ca ca w ⟨k1, l1'⟩ ⟨k1, l1'⟩; rwa [unlV_self] at this)
end Go.Proofs.YtkighedghgcdjaaDoor
