/- kinref.Frame of any two; kinlaw6.PlaneAsks: the walk. -/
import Derived.Test.YtkighedghgcdjaaDoorPl1
import Derived.Test.YtkighedghgcdjaaDoorRFr
import Derived.BigRegion
import Derived.Deep.RegionHeld3
namespace Go.Proofs.YtkighedghgcdjaaDoor
set_option linter.unusedVariables false
set_option linter.unusedSimpArgs false
open Go.RowKit Go.Extern.Stop Go.Stop Go.Extern

def frB (W H : Int) (xs : List Int) (W' H' : Int) (ys : List Int) : Bool := decide (W = W') && (decide (H = H') && decide (xs = ys))
set_option maxRecDepth 20000 in
set_option maxHeartbeats 1000000 in
theorem frame_any (W H W' H' : Int) (xs ys : List Int) (a b : Option Addr) (n m ca cb : Nat) (w : World) (ha : Ints w (.slice a n ca) xs) (hb : Ints w (.slice b m cb) ys) :
    Calls Tryd.prog 19 #[.agg #[.int .i64 W, .int .i64 H, .slice a n ca], .agg #[.int .i64 W', .int .i64 H', .slice b m cb]] w fun e w' => e = .returned (.bool (frB W H xs W' H' ys)) ∧ Ext w w' := by
  have EB : Ext w ((w.alloc (.cells #[.int .i64 W, .int .i64 H, .slice a n ca] 24)).alloc (.cells #[.int .i64 W', .int .i64 H', .slice b m cb] 24)) := (by repeat (first | exact Ext.refl _ | assumption | refine Ext.alloc ?_ _ | refine Ext.drew ?_ | refine Ext.drewN ?_ _ | refine Ext.setCell ?_ (by first | exact Nat.le_refl _ | (simp; done) | omega) _ | refine Ext.trans ?_ (by assumption)))
  by_cases h1 : W = W'
  · by_cases h2 : H = H'
    · have HR : Hid (frB W H xs W' H' ys = decide (xs = ys)) := by show _ = _; unfold frB; simp [h1, h2]
      have b1 : (W == W') = true := by simpa using h1
      have b2 : (H == H') = true := by simpa using h2
      clear h1 h2
      go_enter Tryd.func19, Tryd.ntmps19
      go_wp2_with fail
      refine (ints_same xs ys _ _ _ (ha.ext (by repeat (first | exact Ext.refl _ | assumption | refine Ext.alloc ?_ _ | refine Ext.drew ?_ | refine Ext.drewN ?_ _ | refine Ext.setCell ?_ (by first | exact Nat.le_refl _ | (simp; done) | omega) _ | refine Ext.trans ?_ (by assumption)))) (hb.ext (by repeat (first | exact Ext.refl _ | assumption | refine Ext.alloc ?_ _ | refine Ext.drew ?_ | refine Ext.drewN ?_ _ | refine Ext.setCell ?_ (by first | exact Nat.le_refl _ | (simp; done) | omega) _ | refine Ext.trans ?_ (by assumption))))).mono ?_; rintro e w1 ⟨rfl, hx1⟩
      rw [← HR.out]
      cases hd : frB W H xs W' H' ys with
      | true =>
        go_wp2
        go_ret
        exact ⟨by rw [hd]; rfl, EB.trans hx1⟩
      | false =>
        go_wp2
        go_ret
        exact ⟨by rw [hd]; rfl, EB.trans hx1⟩
    · have HR : Hid (frB W H xs W' H' ys = false) := by show _ = _; unfold frB; simp [h2]
      have b1 : (W == W') = true := by simpa using h1
      have b2 : (H == H') = false := by simpa using h2
      clear h1 h2
      go_enter Tryd.func19, Tryd.ntmps19
      go_wp2
      go_ret
      exact ⟨by rw [HR.out]; rfl, EB⟩
  · have HR : Hid (frB W H xs W' H' ys = false) := by show _ = _; unfold frB; simp [h1]
    have b1 : (W == W') = false := by simpa using h1
    clear h1
    go_enter Tryd.func19, Tryd.ntmps19
    go_wp2
    go_ret
    exact ⟨by rw [HR.out]; rfl, EB⟩
theorem asks_same (W H : Int) (xs : List Int) (W' H' : Int) (ys : List Int) : (decide (may W H xs) && (decide (may W' H' ys) && frB W H xs W' H' ys)) = sameB W H xs W' H' ys := by
  unfold sameB
  cases hf : frB W H xs W' H' ys with
  | true =>
    have h := hf
    unfold frB at h
    simp only [Bool.and_eq_true, decide_eq_true_eq] at h
    obtain ⟨rfl, rfl, rfl⟩ := h
    simp
  | false => unfold frB at hf; rw [hf]; simp
set_option maxHeartbeats 2000000 in
set_option maxRecDepth 20000 in
theorem asks_long (W H W' H' x y : Int) (a b : Option Addr) (n m ca cb : Nat) (w : World) (hg : EtIs w) (hl : 5000 < n ∨ ¬ 5000 < n ∧ 5000 < m) :
    Calls Tryd.prog 4 #[.agg #[.int .i64 W, .int .i64 H, .slice a n ca], .agg #[.int .i64 W', .int .i64 H', .slice b m cb], .int .i64 x, .int .i64 y] w fun e w' => e = .returned (.bool true) ∧ Ext w w' := by
  rcases hl with h1 | ⟨h1, h2⟩
  · have HB0 := Lib.hid (FrBox.two w W H W' H' (.slice a n ca) (.slice b m cb))
    have EB : Ext w ((w.alloc (.cells #[.int .i64 W, .int .i64 H, .slice a n ca] 24)).alloc (.cells #[.int .i64 W', .int .i64 H', .slice b m cb] 24)) := (by repeat (first | exact Ext.refl _ | assumption | refine Ext.alloc ?_ _ | refine Ext.drew ?_ | refine Ext.drewN ?_ _ | refine Ext.setCell ?_ (by first | exact Nat.le_refl _ | (simp; done) | omega) _ | refine Ext.trans ?_ (by assumption)))
    go_enter Tryd.func4, Tryd.ntmps4
    go_wp2_with fail
    revert HB0 EB
    generalize (w.alloc (.cells #[.int .i64 W, .int .i64 H, .slice a n ca] 24)).alloc (.cells #[.int .i64 W', .int .i64 H', .slice b m cb] 24) = w0
    intro HB0 EB
    refine (first6_any _ (hg.ext (by repeat (first | exact Ext.refl _ | assumption | refine Ext.alloc ?_ _ | refine Ext.drew ?_ | refine Ext.drewN ?_ _ | refine Ext.setCell ?_ (by first | exact Nat.le_refl _ | (simp; done) | omega) _ | refine Ext.trans ?_ (by assumption))))).mono ?_; rintro e w1 ⟨rfl, hx1⟩
    have F1 := Lib.hid (HB0.out.1.ext hx1)
    have G1 := Lib.hid (HB0.out.2.ext hx1)
    clear HB0
    obtain ⟨p0, p1, p2⟩ := F1.out
    obtain ⟨q0, q1, q2⟩ := G1.out
    go_wp2_with fail
    refine (few_any W H a n ca _).mono ?_; rintro e w2 ⟨rfl, hx2⟩
    have F2 := Lib.hid (F1.out.ext hx2)
    have G2 := Lib.hid (G1.out.ext hx2)
    clear F1 G1 p0 p1 p2 q0 q1 q2
    obtain ⟨p0, p1, p2⟩ := F2.out
    obtain ⟨q0, q1, q2⟩ := G2.out
    rw [decide_eq_false (by omega)]
    go_wp2_with fail
    refine (first6_any _ (hg.ext (by repeat (first | exact Ext.refl _ | assumption | refine Ext.alloc ?_ _ | refine Ext.drew ?_ | refine Ext.drewN ?_ _ | refine Ext.setCell ?_ (by first | exact Nat.le_refl _ | (simp; done) | omega) _ | refine Ext.trans ?_ (by assumption))))).mono ?_; rintro e w9 ⟨rfl, hx9⟩
    go_wp2
    go_ret
    exact ⟨rfl, (by repeat (first | exact Ext.refl _ | assumption | refine Ext.alloc ?_ _ | refine Ext.drew ?_ | refine Ext.drewN ?_ _ | refine Ext.setCell ?_ (by first | exact Nat.le_refl _ | (simp; done) | omega) _ | refine Ext.trans ?_ (by assumption)))⟩
  · have HB0 := Lib.hid (FrBox.two w W H W' H' (.slice a n ca) (.slice b m cb))
    have EB : Ext w ((w.alloc (.cells #[.int .i64 W, .int .i64 H, .slice a n ca] 24)).alloc (.cells #[.int .i64 W', .int .i64 H', .slice b m cb] 24)) := (by repeat (first | exact Ext.refl _ | assumption | refine Ext.alloc ?_ _ | refine Ext.drew ?_ | refine Ext.drewN ?_ _ | refine Ext.setCell ?_ (by first | exact Nat.le_refl _ | (simp; done) | omega) _ | refine Ext.trans ?_ (by assumption)))
    go_enter Tryd.func4, Tryd.ntmps4
    go_wp2_with fail
    revert HB0 EB
    generalize (w.alloc (.cells #[.int .i64 W, .int .i64 H, .slice a n ca] 24)).alloc (.cells #[.int .i64 W', .int .i64 H', .slice b m cb] 24) = w0
    intro HB0 EB
    refine (first6_any _ (hg.ext (by repeat (first | exact Ext.refl _ | assumption | refine Ext.alloc ?_ _ | refine Ext.drew ?_ | refine Ext.drewN ?_ _ | refine Ext.setCell ?_ (by first | exact Nat.le_refl _ | (simp; done) | omega) _ | refine Ext.trans ?_ (by assumption))))).mono ?_; rintro e w1 ⟨rfl, hx1⟩
    have F1 := Lib.hid (HB0.out.1.ext hx1)
    have G1 := Lib.hid (HB0.out.2.ext hx1)
    clear HB0
    obtain ⟨p0, p1, p2⟩ := F1.out
    obtain ⟨q0, q1, q2⟩ := G1.out
    go_wp2_with fail
    refine (few_any W H a n ca _).mono ?_; rintro e w2 ⟨rfl, hx2⟩
    have F2 := Lib.hid (F1.out.ext hx2)
    have G2 := Lib.hid (G1.out.ext hx2)
    clear F1 G1 p0 p1 p2 q0 q1 q2
    obtain ⟨p0, p1, p2⟩ := F2.out
    obtain ⟨q0, q1, q2⟩ := G2.out
    rw [decide_eq_true (by omega)]
    go_wp2_with fail
    refine (few_any W' H' b m cb _).mono ?_; rintro e w3 ⟨rfl, hx3⟩
    have F3 := Lib.hid (F2.out.ext hx3)
    have G3 := Lib.hid (G2.out.ext hx3)
    clear F2 G2 p0 p1 p2 q0 q1 q2
    obtain ⟨p0, p1, p2⟩ := F3.out
    obtain ⟨q0, q1, q2⟩ := G3.out
    rw [decide_eq_false (by omega)]
    go_wp2_with fail
    refine (first6_any _ (hg.ext (by repeat (first | exact Ext.refl _ | assumption | refine Ext.alloc ?_ _ | refine Ext.drew ?_ | refine Ext.drewN ?_ _ | refine Ext.setCell ?_ (by first | exact Nat.le_refl _ | (simp; done) | omega) _ | refine Ext.trans ?_ (by assumption))))).mono ?_; rintro e w9 ⟨rfl, hx9⟩
    go_wp2
    go_ret
    exact ⟨rfl, (by repeat (first | exact Ext.refl _ | assumption | refine Ext.alloc ?_ _ | refine Ext.drew ?_ | refine Ext.drewN ?_ _ | refine Ext.setCell ?_ (by first | exact Nat.le_refl _ | (simp; done) | omega) _ | refine Ext.trans ?_ (by assumption)))⟩
set_option maxHeartbeats 8000000 in
set_option maxRecDepth 20000 in
theorem asks_walk (W H W' H' x y P0 S0 V : Int) (xs ys : List Int) (f : Fall) (b0 b1 b2 b3 : Bool) (a b : Option Addr) (n m ca cb : Nat) (w : World) (hg : EtIs w) (ha : Ints w (.slice a n ca) xs) (hb : Ints w (.slice b m cb) ys) (h1 : ¬ 5000 < n) (h2 : ¬ 5000 < m)
    (c1 : Hid (∀ w, Ints w (.slice a n ca) xs → Ints w (.slice b m cb) ys → Calls Tryd.prog 25 #[.agg #[.int .i64 W, .int .i64 H, .slice a n ca], .agg #[.int .i64 W', .int .i64 H', .slice b m cb]] w (IPost w P0 f)))
    (c2 : Hid (∀ w, Ints w (.slice a n ca) xs → Ints w (.slice b m cb) ys → Calls Tryd.prog 26 #[.agg #[.int .i64 W, .int .i64 H, .slice a n ca], .agg #[.int .i64 W', .int .i64 H', .slice b m cb]] w (RIPost w P0 f)))
    (c3 : Hid (∀ w, Ints w (.slice a n ca) xs → Ints w (.slice b m cb) ys → Calls Tryd.prog 27 #[.agg #[.int .i64 W, .int .i64 H, .slice a n ca], .agg #[.int .i64 W', .int .i64 H', .slice b m cb]] w (IPost w S0 f)))
    (c4 : Hid (∀ w, Ints w (.slice a n ca) xs → Ints w (.slice b m cb) ys → Calls Tryd.prog 28 #[.agg #[.int .i64 W, .int .i64 H, .slice a n ca], .agg #[.int .i64 W', .int .i64 H', .slice b m cb]] w (RIPost w S0 f)))
    (c5 : Hid (∀ w, Ints w (.slice a n ca) xs → Calls Tryd.prog 22 #[.agg #[.int .i64 W, .int .i64 H, .slice a n ca]] w fun e w' => e = .returned (.bool b1) ∧ Ext w w'))
    (c6 : Hid (∀ w, Ints w (.slice b m cb) ys → Calls Tryd.prog 22 #[.agg #[.int .i64 W', .int .i64 H', .slice b m cb]] w fun e w' => e = .returned (.bool b2) ∧ Ext w w'))
    (c7 : Hid (∀ w, Ints w (.slice a n ca) xs → Ints w (.slice b m cb) ys → Calls Tryd.prog 19 #[.agg #[.int .i64 W, .int .i64 H, .slice a n ca], .agg #[.int .i64 W', .int .i64 H', .slice b m cb]] w fun e w' => e = .returned (.bool b3) ∧ Ext w w'))
    (c8 : Hid (∀ w, Ints w (.slice a n ca) xs → Ints w (.slice b m cb) ys → Calls Tryd.prog 31 #[.agg #[.int .i64 W, .int .i64 H, .slice a n ca], .agg #[.int .i64 W', .int .i64 H', .slice b m cb]] w fun e w' => e = .returned (.bool b0) ∧ Ext w w'))
    (c9 : Hid (∀ w, Ints w (.slice a n ca) xs → Calls Tryd.prog 29 #[.agg #[.int .i64 W, .int .i64 H, .slice a n ca], .int .i64 x, .int .i64 y] w fun e w' => e = .returned (.int .i64 V) ∧ Ext w w'))
    (c10 : Hid (∀ w, Ints w (.slice a n ca) xs → Calls Tryd.prog 30 #[.agg #[.int .i64 W, .int .i64 H, .slice a n ca], .int .i64 x, .int .i64 y] w fun e w' => e = .returned (.int .i64 V) ∧ Ext w w'))
    (k0 : (b1 && (b2 && b3)) = b0) :
    Calls Tryd.prog 4 #[.agg #[.int .i64 W, .int .i64 H, .slice a n ca], .agg #[.int .i64 W', .int .i64 H', .slice b m cb], .int .i64 x, .int .i64 y] w fun e w' => e = .returned (.bool true) ∧ Ext w w' := by
  cases b1 with
  | false =>
    obtain rfl : b0 = false := by rw [← k0]; rfl
    clear k0 c6 c7
    have HB0 := Lib.hid (FrBox.two w W H W' H' (.slice a n ca) (.slice b m cb))
    have EB : Ext w ((w.alloc (.cells #[.int .i64 W, .int .i64 H, .slice a n ca] 24)).alloc (.cells #[.int .i64 W', .int .i64 H', .slice b m cb] 24)) := (by repeat (first | exact Ext.refl _ | assumption | refine Ext.alloc ?_ _ | refine Ext.drew ?_ | refine Ext.drewN ?_ _ | refine Ext.setCell ?_ (by first | exact Nat.le_refl _ | (simp; done) | omega) _ | refine Ext.trans ?_ (by assumption)))
    go_enter Tryd.func4, Tryd.ntmps4
    go_wp2_with fail
    revert HB0 EB
    generalize (w.alloc (.cells #[.int .i64 W, .int .i64 H, .slice a n ca] 24)).alloc (.cells #[.int .i64 W', .int .i64 H', .slice b m cb] 24) = w0
    intro HB0 EB
    refine (first6_any _ (hg.ext (by repeat (first | exact Ext.refl _ | assumption | refine Ext.alloc ?_ _ | refine Ext.drew ?_ | refine Ext.drewN ?_ _ | refine Ext.setCell ?_ (by first | exact Nat.le_refl _ | (simp; done) | omega) _ | refine Ext.trans ?_ (by assumption))))).mono ?_; rintro e w1 ⟨rfl, hx1⟩
    have F1 := Lib.hid (HB0.out.1.ext hx1)
    have G1 := Lib.hid (HB0.out.2.ext hx1)
    clear HB0
    obtain ⟨p0, p1, p2⟩ := F1.out
    obtain ⟨q0, q1, q2⟩ := G1.out
    go_wp2_with fail
    refine (few_any W H a n ca _).mono ?_; rintro e w2 ⟨rfl, hx2⟩
    have F2 := Lib.hid (F1.out.ext hx2)
    have G2 := Lib.hid (G1.out.ext hx2)
    clear F1 G1 p0 p1 p2 q0 q1 q2
    obtain ⟨p0, p1, p2⟩ := F2.out
    obtain ⟨q0, q1, q2⟩ := G2.out
    rw [decide_eq_true (by omega)]
    go_wp2_with fail
    refine (few_any W' H' b m cb _).mono ?_; rintro e w3 ⟨rfl, hx3⟩
    have F3 := Lib.hid (F2.out.ext hx3)
    have G3 := Lib.hid (G2.out.ext hx3)
    clear F2 G2 p0 p1 p2 q0 q1 q2
    obtain ⟨p0, p1, p2⟩ := F3.out
    obtain ⟨q0, q1, q2⟩ := G3.out
    rw [decide_eq_true (by omega)]
    go_wp2_with fail
    refine (c1.out _ (ha.ext (by repeat (first | exact Ext.refl _ | assumption | refine Ext.alloc ?_ _ | refine Ext.drew ?_ | refine Ext.drewN ?_ _ | refine Ext.setCell ?_ (by first | exact Nat.le_refl _ | (simp; done) | omega) _ | refine Ext.trans ?_ (by assumption)))) (hb.ext (by repeat (first | exact Ext.refl _ | assumption | refine Ext.alloc ?_ _ | refine Ext.drew ?_ | refine Ext.drewN ?_ _ | refine Ext.setCell ?_ (by first | exact Nat.le_refl _ | (simp; done) | omega) _ | refine Ext.trans ?_ (by assumption))))).mono ?_; rintro e w4 ⟨x4, rfl, hx4, he4⟩
    have F4 := Lib.hid (F3.out.ext hx4)
    have G4 := Lib.hid (G3.out.ext hx4)
    clear F3 G3 p0 p1 p2 q0 q1 q2
    obtain ⟨p0, p1, p2⟩ := F4.out
    obtain ⟨q0, q1, q2⟩ := G4.out
    go_wp2_with fail
    refine (c2.out _ (ha.ext (by repeat (first | exact Ext.refl _ | assumption | refine Ext.alloc ?_ _ | refine Ext.drew ?_ | refine Ext.drewN ?_ _ | refine Ext.setCell ?_ (by first | exact Nat.le_refl _ | (simp; done) | omega) _ | refine Ext.trans ?_ (by assumption)))) (hb.ext (by repeat (first | exact Ext.refl _ | assumption | refine Ext.alloc ?_ _ | refine Ext.drew ?_ | refine Ext.drewN ?_ _ | refine Ext.setCell ?_ (by first | exact Nat.le_refl _ | (simp; done) | omega) _ | refine Ext.trans ?_ (by assumption))))).mono ?_; rintro e w5 ⟨c, d, i, j, rfl, hx5, he5⟩
    have A5 : Ext w5 (w5.alloc (.cells #[.int .i64 c, .slice d i j] 34)) := (Ext.refl w5).alloc _
    have F5 := Lib.hid ((F4.out.ext hx5).ext A5)
    have G5 := Lib.hid ((G4.out.ext hx5).ext A5)
    have V5 := Lib.hid (evar w5 c d i j (Ext.refl _))
    clear F4 G4 p0 p1 p2 q0 q1 q2
    obtain ⟨p0, p1, p2⟩ := F5.out
    obtain ⟨q0, q1, q2⟩ := G5.out
    go_wp2_with fail
    refine (c3.out _ (ha.ext (by repeat (first | exact Ext.refl _ | assumption | refine Ext.alloc ?_ _ | refine Ext.drew ?_ | refine Ext.drewN ?_ _ | refine Ext.setCell ?_ (by first | exact Nat.le_refl _ | (simp; done) | omega) _ | refine Ext.trans ?_ (by assumption)))) (hb.ext (by repeat (first | exact Ext.refl _ | assumption | refine Ext.alloc ?_ _ | refine Ext.drew ?_ | refine Ext.drewN ?_ _ | refine Ext.setCell ?_ (by first | exact Nat.le_refl _ | (simp; done) | omega) _ | refine Ext.trans ?_ (by assumption))))).mono ?_; rintro e w6 ⟨x6, rfl, hx6, he6⟩
    have F6 := Lib.hid (F5.out.ext hx6)
    have G6 := Lib.hid (G5.out.ext hx6)
    have V6 := Lib.hid (And.intro (hx6.cell V5.out.1) (hx6.cell V5.out.2))
    clear F5 G5 V5 p0 p1 p2 q0 q1 q2
    obtain ⟨p0, p1, p2⟩ := F6.out
    obtain ⟨q0, q1, q2⟩ := G6.out
    go_wp2_with fail
    refine (c4.out _ (ha.ext (by repeat (first | exact Ext.refl _ | assumption | refine Ext.alloc ?_ _ | refine Ext.drew ?_ | refine Ext.drewN ?_ _ | refine Ext.setCell ?_ (by first | exact Nat.le_refl _ | (simp; done) | omega) _ | refine Ext.trans ?_ (by assumption)))) (hb.ext (by repeat (first | exact Ext.refl _ | assumption | refine Ext.alloc ?_ _ | refine Ext.drew ?_ | refine Ext.drewN ?_ _ | refine Ext.setCell ?_ (by first | exact Nat.le_refl _ | (simp; done) | omega) _ | refine Ext.trans ?_ (by assumption))))).mono ?_; rintro e w7 ⟨c', d', i', j', rfl, hx7, he7⟩
    have A7 : Ext w7 (w7.alloc (.cells #[.int .i64 c', .slice d' i' j'] 34)) := (Ext.refl w7).alloc _
    have P := (F6.out.ext hx7).ext A7
    have Q := (G6.out.ext hx7).ext A7
    have R := And.intro (A7.cell (hx7.cell V6.out.1)) (A7.cell (hx7.cell V6.out.2))
    have S := evar w7 c' d' i' j' (Ext.refl _)
    have EW : Ext w (w7.alloc (.cells #[.int .i64 c', .slice d' i' j'] 34)) := (by repeat (first | exact Ext.refl _ | assumption | refine Ext.alloc ?_ _ | refine Ext.drew ?_ | refine Ext.drewN ?_ _ | refine Ext.setCell ?_ (by first | exact Nat.le_refl _ | (simp; done) | omega) _ | refine Ext.trans ?_ (by assumption)))
    have X4 := he4.ext (hx5.trans (A5.trans (hx6.trans (hx7.trans A7))))
    have X5 := he5.ext (A5.trans (hx6.trans (hx7.trans A7)))
    have X6 := he6.ext (hx7.trans A7)
    have X7 := he7.ext A7
    clear F6 G6 V6 p0 p1 p2 q0 q1 q2
    obtain ⟨p0, p1, p2⟩ := id P
    obtain ⟨q0, q1, q2⟩ := id Q
    go_wp2_with fail
    clear p0 p1 p2 q0 q1 q2
    revert P Q R S EW X4 X5 X6 X7
    generalize w7.alloc (.cells #[.int .i64 c', .slice d' i' j'] 34) = wR
    intro P Q R S EW X4 X5 X6 X7
    have HP := Lib.hid P
    have HQ := Lib.hid Q
    have HR := Lib.hid R
    have HS := Lib.hid S
    have HX4 := Lib.hid X4
    have HX5 := Lib.hid X5
    have HX6 := Lib.hid X6
    have HX7 := Lib.hid X7
    clear P Q R S X4 X5 X6 X7 A5 A7 hx1 hx2 hx3 hx4 hx5 hx6 hx7 he4 he5 he6 he7 EB c1 c2 c3 c4
    obtain ⟨p0, p1, p2⟩ := HP.out
    obtain ⟨q0, q1, q2⟩ := HQ.out
    refine (c5.out _ (ha.ext EW)).mono ?_; rintro e w8 ⟨rfl, hx8⟩
    have EL := hx8
    have EV := EW.trans hx8
    clear p0 p1 p2 q0 q1 q2
    go_wp2_with fail
    have HA := Lib.hid (ha.ext EV)
    have HBB := Lib.hid (hb.ext EV)
    have HG := Lib.hid (hg.ext EV)
    obtain ⟨p0, p1, p2⟩ := HP.out.ext EL
    obtain ⟨q0, q1, q2⟩ := HQ.out.ext EL
    obtain ⟨r0', r1'⟩ := HR.out
    have r0 := EL.cell r0'
    have r1 := EL.cell r1'
    obtain ⟨s0', s1'⟩ := HS.out
    have s0 := EL.cell s0'
    have s1 := EL.cell s1'
    have HX4 := Lib.hid (HX4.out.ext EL)
    have HX5 := Lib.hid (HX5.out.ext EL)
    have HX6 := Lib.hid (HX6.out.ext EL)
    have HX7 := Lib.hid (HX7.out.ext EL)
    clear r0' r1' s0' s1' HP HQ HR HS EL EW
    go_region_held3 (fun w' => w'.cell? ⟨w.heap.size, 0, none⟩ = some (.int .i64 W) ∧ w'.cell? ⟨w.heap.size, 1, none⟩ = some (.int .i64 H) ∧ w'.cell? ⟨w.heap.size, 2, none⟩ = some (.slice a n ca) ∧ w'.cell? ⟨w.heap.size + 1, 0, none⟩ = some (.int .i64 W') ∧ w'.cell? ⟨w.heap.size + 1, 1, none⟩ = some (.int .i64 H') ∧ w'.cell? ⟨w.heap.size + 1, 2, none⟩ = some (.slice b m cb) ∧ w'.cell? ⟨w5.heap.size, 0, none⟩ = some (.int .i64 c) ∧ w'.cell? ⟨w5.heap.size, 1, none⟩ = some (.slice d i j) ∧ w'.cell? ⟨w7.heap.size, 0, none⟩ = some (.int .i64 c') ∧ w'.cell? ⟨w7.heap.size, 1, none⟩ = some (.slice d' i' j') ∧ Ext w8 w')
      (first | assumption | (exact ⟨p0, p1, p2, q0, q1, q2, r0, r1, s0, s1, Ext.refl _⟩) | (exact ⟨p0, p1, p2, q0, q1, q2, r0, r1, s0, s1, (Ext.refl _).drew⟩) | (go_split_ands; exact ⟨hx.cell (by assumption), hx.cell (by assumption), hx.cell (by assumption), hx.cell (by assumption), hx.cell (by assumption), hx.cell (by assumption), hx.cell (by assumption), hx.cell (by assumption), hx.cell (by assumption), hx.cell (by assumption), Ext.trans (by assumption) hx⟩))
      ((first | (go_at_call 15; obtain ⟨_, _, _, _, _, _, _, _, _, _, hE1⟩ : _ ∧ _ ∧ _ ∧ _ ∧ _ ∧ _ ∧ _ ∧ _ ∧ _ ∧ _ ∧ Ext w8 _ := (by assumption); refine (first6_any _ (HG.out.ext hE1)).mono ?_; rintro e w' ⟨rfl, hx⟩) | (go_at_call 29; obtain ⟨_, _, _, _, _, _, _, _, _, _, hE1⟩ : _ ∧ _ ∧ _ ∧ _ ∧ _ ∧ _ ∧ _ ∧ _ ∧ _ ∧ _ ∧ Ext w8 _ := (by assumption); refine (c9.out _ (HA.out.ext hE1)).mono ?_; rintro e w' ⟨rfl, hx⟩) | (go_at_call 30; obtain ⟨_, _, _, _, _, _, _, _, _, _, hE1⟩ : _ ∧ _ ∧ _ ∧ _ ∧ _ ∧ _ ∧ _ ∧ _ ∧ _ ∧ _ ∧ Ext w8 _ := (by assumption); refine (c10.out _ (HA.out.ext hE1)).mono ?_; rintro e w' ⟨rfl, hx⟩) | (go_at_call 20; obtain ⟨_, _, _, _, _, _, _, _, _, _, hE1⟩ : _ ∧ _ ∧ _ ∧ _ ∧ _ ∧ _ ∧ _ ∧ _ ∧ _ ∧ _ ∧ Ext w8 _ := (by assumption); (first | with_reducible refine (same_fall f _ _ _ _ (HG.out.ext hE1) (HX4.out.ext hE1) (HX5.out.ext hE1)).mono ?_ | refine (same_fall f _ _ _ _ (HG.out.ext hE1) (HX6.out.ext hE1) (HX7.out.ext hE1)).mono ?_); rintro e w' ⟨rfl, hx⟩) | (go_at_call 31; obtain ⟨_, _, _, _, _, _, _, _, _, _, hE1⟩ : _ ∧ _ ∧ _ ∧ _ ∧ _ ∧ _ ∧ _ ∧ _ ∧ _ ∧ _ ∧ Ext w8 _ := (by assumption); refine (c8.out _ (HA.out.ext hE1) (HBB.out.ext hE1)).mono ?_; rintro e w' ⟨rfl, hx⟩)))
    obtain ⟨_, _, _, _, _, _, _, _, _, _, hE1⟩ : _ ∧ _ ∧ _ ∧ _ ∧ _ ∧ _ ∧ _ ∧ _ ∧ _ ∧ _ ∧ Ext w8 _ := by assumption
    go_wp2
    go_ret
    exact ⟨rfl, EV.trans hE1⟩
  | true =>
    cases b2 with
    | false =>
      obtain rfl : b0 = false := by rw [← k0]; rfl
      clear k0 c7
      have HB0 := Lib.hid (FrBox.two w W H W' H' (.slice a n ca) (.slice b m cb))
      have EB : Ext w ((w.alloc (.cells #[.int .i64 W, .int .i64 H, .slice a n ca] 24)).alloc (.cells #[.int .i64 W', .int .i64 H', .slice b m cb] 24)) := (by repeat (first | exact Ext.refl _ | assumption | refine Ext.alloc ?_ _ | refine Ext.drew ?_ | refine Ext.drewN ?_ _ | refine Ext.setCell ?_ (by first | exact Nat.le_refl _ | (simp; done) | omega) _ | refine Ext.trans ?_ (by assumption)))
      go_enter Tryd.func4, Tryd.ntmps4
      go_wp2_with fail
      revert HB0 EB
      generalize (w.alloc (.cells #[.int .i64 W, .int .i64 H, .slice a n ca] 24)).alloc (.cells #[.int .i64 W', .int .i64 H', .slice b m cb] 24) = w0
      intro HB0 EB
      refine (first6_any _ (hg.ext (by repeat (first | exact Ext.refl _ | assumption | refine Ext.alloc ?_ _ | refine Ext.drew ?_ | refine Ext.drewN ?_ _ | refine Ext.setCell ?_ (by first | exact Nat.le_refl _ | (simp; done) | omega) _ | refine Ext.trans ?_ (by assumption))))).mono ?_; rintro e w1 ⟨rfl, hx1⟩
      have F1 := Lib.hid (HB0.out.1.ext hx1)
      have G1 := Lib.hid (HB0.out.2.ext hx1)
      clear HB0
      obtain ⟨p0, p1, p2⟩ := F1.out
      obtain ⟨q0, q1, q2⟩ := G1.out
      go_wp2_with fail
      refine (few_any W H a n ca _).mono ?_; rintro e w2 ⟨rfl, hx2⟩
      have F2 := Lib.hid (F1.out.ext hx2)
      have G2 := Lib.hid (G1.out.ext hx2)
      clear F1 G1 p0 p1 p2 q0 q1 q2
      obtain ⟨p0, p1, p2⟩ := F2.out
      obtain ⟨q0, q1, q2⟩ := G2.out
      rw [decide_eq_true (by omega)]
      go_wp2_with fail
      refine (few_any W' H' b m cb _).mono ?_; rintro e w3 ⟨rfl, hx3⟩
      have F3 := Lib.hid (F2.out.ext hx3)
      have G3 := Lib.hid (G2.out.ext hx3)
      clear F2 G2 p0 p1 p2 q0 q1 q2
      obtain ⟨p0, p1, p2⟩ := F3.out
      obtain ⟨q0, q1, q2⟩ := G3.out
      rw [decide_eq_true (by omega)]
      go_wp2_with fail
      refine (c1.out _ (ha.ext (by repeat (first | exact Ext.refl _ | assumption | refine Ext.alloc ?_ _ | refine Ext.drew ?_ | refine Ext.drewN ?_ _ | refine Ext.setCell ?_ (by first | exact Nat.le_refl _ | (simp; done) | omega) _ | refine Ext.trans ?_ (by assumption)))) (hb.ext (by repeat (first | exact Ext.refl _ | assumption | refine Ext.alloc ?_ _ | refine Ext.drew ?_ | refine Ext.drewN ?_ _ | refine Ext.setCell ?_ (by first | exact Nat.le_refl _ | (simp; done) | omega) _ | refine Ext.trans ?_ (by assumption))))).mono ?_; rintro e w4 ⟨x4, rfl, hx4, he4⟩
      have F4 := Lib.hid (F3.out.ext hx4)
      have G4 := Lib.hid (G3.out.ext hx4)
      clear F3 G3 p0 p1 p2 q0 q1 q2
      obtain ⟨p0, p1, p2⟩ := F4.out
      obtain ⟨q0, q1, q2⟩ := G4.out
      go_wp2_with fail
      refine (c2.out _ (ha.ext (by repeat (first | exact Ext.refl _ | assumption | refine Ext.alloc ?_ _ | refine Ext.drew ?_ | refine Ext.drewN ?_ _ | refine Ext.setCell ?_ (by first | exact Nat.le_refl _ | (simp; done) | omega) _ | refine Ext.trans ?_ (by assumption)))) (hb.ext (by repeat (first | exact Ext.refl _ | assumption | refine Ext.alloc ?_ _ | refine Ext.drew ?_ | refine Ext.drewN ?_ _ | refine Ext.setCell ?_ (by first | exact Nat.le_refl _ | (simp; done) | omega) _ | refine Ext.trans ?_ (by assumption))))).mono ?_; rintro e w5 ⟨c, d, i, j, rfl, hx5, he5⟩
      have A5 : Ext w5 (w5.alloc (.cells #[.int .i64 c, .slice d i j] 34)) := (Ext.refl w5).alloc _
      have F5 := Lib.hid ((F4.out.ext hx5).ext A5)
      have G5 := Lib.hid ((G4.out.ext hx5).ext A5)
      have V5 := Lib.hid (evar w5 c d i j (Ext.refl _))
      clear F4 G4 p0 p1 p2 q0 q1 q2
      obtain ⟨p0, p1, p2⟩ := F5.out
      obtain ⟨q0, q1, q2⟩ := G5.out
      go_wp2_with fail
      refine (c3.out _ (ha.ext (by repeat (first | exact Ext.refl _ | assumption | refine Ext.alloc ?_ _ | refine Ext.drew ?_ | refine Ext.drewN ?_ _ | refine Ext.setCell ?_ (by first | exact Nat.le_refl _ | (simp; done) | omega) _ | refine Ext.trans ?_ (by assumption)))) (hb.ext (by repeat (first | exact Ext.refl _ | assumption | refine Ext.alloc ?_ _ | refine Ext.drew ?_ | refine Ext.drewN ?_ _ | refine Ext.setCell ?_ (by first | exact Nat.le_refl _ | (simp; done) | omega) _ | refine Ext.trans ?_ (by assumption))))).mono ?_; rintro e w6 ⟨x6, rfl, hx6, he6⟩
      have F6 := Lib.hid (F5.out.ext hx6)
      have G6 := Lib.hid (G5.out.ext hx6)
      have V6 := Lib.hid (And.intro (hx6.cell V5.out.1) (hx6.cell V5.out.2))
      clear F5 G5 V5 p0 p1 p2 q0 q1 q2
      obtain ⟨p0, p1, p2⟩ := F6.out
      obtain ⟨q0, q1, q2⟩ := G6.out
      go_wp2_with fail
      refine (c4.out _ (ha.ext (by repeat (first | exact Ext.refl _ | assumption | refine Ext.alloc ?_ _ | refine Ext.drew ?_ | refine Ext.drewN ?_ _ | refine Ext.setCell ?_ (by first | exact Nat.le_refl _ | (simp; done) | omega) _ | refine Ext.trans ?_ (by assumption)))) (hb.ext (by repeat (first | exact Ext.refl _ | assumption | refine Ext.alloc ?_ _ | refine Ext.drew ?_ | refine Ext.drewN ?_ _ | refine Ext.setCell ?_ (by first | exact Nat.le_refl _ | (simp; done) | omega) _ | refine Ext.trans ?_ (by assumption))))).mono ?_; rintro e w7 ⟨c', d', i', j', rfl, hx7, he7⟩
      have A7 : Ext w7 (w7.alloc (.cells #[.int .i64 c', .slice d' i' j'] 34)) := (Ext.refl w7).alloc _
      have P := (F6.out.ext hx7).ext A7
      have Q := (G6.out.ext hx7).ext A7
      have R := And.intro (A7.cell (hx7.cell V6.out.1)) (A7.cell (hx7.cell V6.out.2))
      have S := evar w7 c' d' i' j' (Ext.refl _)
      have EW : Ext w (w7.alloc (.cells #[.int .i64 c', .slice d' i' j'] 34)) := (by repeat (first | exact Ext.refl _ | assumption | refine Ext.alloc ?_ _ | refine Ext.drew ?_ | refine Ext.drewN ?_ _ | refine Ext.setCell ?_ (by first | exact Nat.le_refl _ | (simp; done) | omega) _ | refine Ext.trans ?_ (by assumption)))
      have X4 := he4.ext (hx5.trans (A5.trans (hx6.trans (hx7.trans A7))))
      have X5 := he5.ext (A5.trans (hx6.trans (hx7.trans A7)))
      have X6 := he6.ext (hx7.trans A7)
      have X7 := he7.ext A7
      clear F6 G6 V6 p0 p1 p2 q0 q1 q2
      obtain ⟨p0, p1, p2⟩ := id P
      obtain ⟨q0, q1, q2⟩ := id Q
      go_wp2_with fail
      clear p0 p1 p2 q0 q1 q2
      revert P Q R S EW X4 X5 X6 X7
      generalize w7.alloc (.cells #[.int .i64 c', .slice d' i' j'] 34) = wR
      intro P Q R S EW X4 X5 X6 X7
      have HP := Lib.hid P
      have HQ := Lib.hid Q
      have HR := Lib.hid R
      have HS := Lib.hid S
      have HX4 := Lib.hid X4
      have HX5 := Lib.hid X5
      have HX6 := Lib.hid X6
      have HX7 := Lib.hid X7
      clear P Q R S X4 X5 X6 X7 A5 A7 hx1 hx2 hx3 hx4 hx5 hx6 hx7 he4 he5 he6 he7 EB c1 c2 c3 c4
      obtain ⟨p0, p1, p2⟩ := HP.out
      obtain ⟨q0, q1, q2⟩ := HQ.out
      refine (c5.out _ (ha.ext EW)).mono ?_; rintro e w8 ⟨rfl, hx8⟩
      clear p0 p1 p2 q0 q1 q2
      obtain ⟨q0, q1, q2⟩ := HQ.out.ext hx8
      go_wp2_with fail
      refine (c6.out _ (hb.ext (EW.trans hx8))).mono ?_; rintro e w9 ⟨rfl, hx9⟩
      have EL := hx8.trans hx9
      have EV := EW.trans EL
      clear q0 q1 q2
      go_wp2_with fail
      have HA := Lib.hid (ha.ext EV)
      have HBB := Lib.hid (hb.ext EV)
      have HG := Lib.hid (hg.ext EV)
      obtain ⟨p0, p1, p2⟩ := HP.out.ext EL
      obtain ⟨q0, q1, q2⟩ := HQ.out.ext EL
      obtain ⟨r0', r1'⟩ := HR.out
      have r0 := EL.cell r0'
      have r1 := EL.cell r1'
      obtain ⟨s0', s1'⟩ := HS.out
      have s0 := EL.cell s0'
      have s1 := EL.cell s1'
      have HX4 := Lib.hid (HX4.out.ext EL)
      have HX5 := Lib.hid (HX5.out.ext EL)
      have HX6 := Lib.hid (HX6.out.ext EL)
      have HX7 := Lib.hid (HX7.out.ext EL)
      clear r0' r1' s0' s1' HP HQ HR HS EL EW
      go_region_held3 (fun w' => w'.cell? ⟨w.heap.size, 0, none⟩ = some (.int .i64 W) ∧ w'.cell? ⟨w.heap.size, 1, none⟩ = some (.int .i64 H) ∧ w'.cell? ⟨w.heap.size, 2, none⟩ = some (.slice a n ca) ∧ w'.cell? ⟨w.heap.size + 1, 0, none⟩ = some (.int .i64 W') ∧ w'.cell? ⟨w.heap.size + 1, 1, none⟩ = some (.int .i64 H') ∧ w'.cell? ⟨w.heap.size + 1, 2, none⟩ = some (.slice b m cb) ∧ w'.cell? ⟨w5.heap.size, 0, none⟩ = some (.int .i64 c) ∧ w'.cell? ⟨w5.heap.size, 1, none⟩ = some (.slice d i j) ∧ w'.cell? ⟨w7.heap.size, 0, none⟩ = some (.int .i64 c') ∧ w'.cell? ⟨w7.heap.size, 1, none⟩ = some (.slice d' i' j') ∧ Ext w9 w')
        (first | assumption | (exact ⟨p0, p1, p2, q0, q1, q2, r0, r1, s0, s1, Ext.refl _⟩) | (exact ⟨p0, p1, p2, q0, q1, q2, r0, r1, s0, s1, (Ext.refl _).drew⟩) | (go_split_ands; exact ⟨hx.cell (by assumption), hx.cell (by assumption), hx.cell (by assumption), hx.cell (by assumption), hx.cell (by assumption), hx.cell (by assumption), hx.cell (by assumption), hx.cell (by assumption), hx.cell (by assumption), hx.cell (by assumption), Ext.trans (by assumption) hx⟩))
        ((first | (go_at_call 15; obtain ⟨_, _, _, _, _, _, _, _, _, _, hE1⟩ : _ ∧ _ ∧ _ ∧ _ ∧ _ ∧ _ ∧ _ ∧ _ ∧ _ ∧ _ ∧ Ext w9 _ := (by assumption); refine (first6_any _ (HG.out.ext hE1)).mono ?_; rintro e w' ⟨rfl, hx⟩) | (go_at_call 29; obtain ⟨_, _, _, _, _, _, _, _, _, _, hE1⟩ : _ ∧ _ ∧ _ ∧ _ ∧ _ ∧ _ ∧ _ ∧ _ ∧ _ ∧ _ ∧ Ext w9 _ := (by assumption); refine (c9.out _ (HA.out.ext hE1)).mono ?_; rintro e w' ⟨rfl, hx⟩) | (go_at_call 30; obtain ⟨_, _, _, _, _, _, _, _, _, _, hE1⟩ : _ ∧ _ ∧ _ ∧ _ ∧ _ ∧ _ ∧ _ ∧ _ ∧ _ ∧ _ ∧ Ext w9 _ := (by assumption); refine (c10.out _ (HA.out.ext hE1)).mono ?_; rintro e w' ⟨rfl, hx⟩) | (go_at_call 20; obtain ⟨_, _, _, _, _, _, _, _, _, _, hE1⟩ : _ ∧ _ ∧ _ ∧ _ ∧ _ ∧ _ ∧ _ ∧ _ ∧ _ ∧ _ ∧ Ext w9 _ := (by assumption); (first | with_reducible refine (same_fall f _ _ _ _ (HG.out.ext hE1) (HX4.out.ext hE1) (HX5.out.ext hE1)).mono ?_ | refine (same_fall f _ _ _ _ (HG.out.ext hE1) (HX6.out.ext hE1) (HX7.out.ext hE1)).mono ?_); rintro e w' ⟨rfl, hx⟩) | (go_at_call 31; obtain ⟨_, _, _, _, _, _, _, _, _, _, hE1⟩ : _ ∧ _ ∧ _ ∧ _ ∧ _ ∧ _ ∧ _ ∧ _ ∧ _ ∧ _ ∧ Ext w9 _ := (by assumption); refine (c8.out _ (HA.out.ext hE1) (HBB.out.ext hE1)).mono ?_; rintro e w' ⟨rfl, hx⟩)))
      obtain ⟨_, _, _, _, _, _, _, _, _, _, hE1⟩ : _ ∧ _ ∧ _ ∧ _ ∧ _ ∧ _ ∧ _ ∧ _ ∧ _ ∧ _ ∧ Ext w9 _ := by assumption
      go_wp2
      go_ret
      exact ⟨rfl, EV.trans hE1⟩
    | true =>
      obtain rfl : b3 = b0 := by rw [← k0]; rfl
      clear k0
      have HB0 := Lib.hid (FrBox.two w W H W' H' (.slice a n ca) (.slice b m cb))
      have EB : Ext w ((w.alloc (.cells #[.int .i64 W, .int .i64 H, .slice a n ca] 24)).alloc (.cells #[.int .i64 W', .int .i64 H', .slice b m cb] 24)) := (by repeat (first | exact Ext.refl _ | assumption | refine Ext.alloc ?_ _ | refine Ext.drew ?_ | refine Ext.drewN ?_ _ | refine Ext.setCell ?_ (by first | exact Nat.le_refl _ | (simp; done) | omega) _ | refine Ext.trans ?_ (by assumption)))
      go_enter Tryd.func4, Tryd.ntmps4
      go_wp2_with fail
      revert HB0 EB
      generalize (w.alloc (.cells #[.int .i64 W, .int .i64 H, .slice a n ca] 24)).alloc (.cells #[.int .i64 W', .int .i64 H', .slice b m cb] 24) = w0
      intro HB0 EB
      refine (first6_any _ (hg.ext (by repeat (first | exact Ext.refl _ | assumption | refine Ext.alloc ?_ _ | refine Ext.drew ?_ | refine Ext.drewN ?_ _ | refine Ext.setCell ?_ (by first | exact Nat.le_refl _ | (simp; done) | omega) _ | refine Ext.trans ?_ (by assumption))))).mono ?_; rintro e w1 ⟨rfl, hx1⟩
      have F1 := Lib.hid (HB0.out.1.ext hx1)
      have G1 := Lib.hid (HB0.out.2.ext hx1)
      clear HB0
      obtain ⟨p0, p1, p2⟩ := F1.out
      obtain ⟨q0, q1, q2⟩ := G1.out
      go_wp2_with fail
      refine (few_any W H a n ca _).mono ?_; rintro e w2 ⟨rfl, hx2⟩
      have F2 := Lib.hid (F1.out.ext hx2)
      have G2 := Lib.hid (G1.out.ext hx2)
      clear F1 G1 p0 p1 p2 q0 q1 q2
      obtain ⟨p0, p1, p2⟩ := F2.out
      obtain ⟨q0, q1, q2⟩ := G2.out
      rw [decide_eq_true (by omega)]
      go_wp2_with fail
      refine (few_any W' H' b m cb _).mono ?_; rintro e w3 ⟨rfl, hx3⟩
      have F3 := Lib.hid (F2.out.ext hx3)
      have G3 := Lib.hid (G2.out.ext hx3)
      clear F2 G2 p0 p1 p2 q0 q1 q2
      obtain ⟨p0, p1, p2⟩ := F3.out
      obtain ⟨q0, q1, q2⟩ := G3.out
      rw [decide_eq_true (by omega)]
      go_wp2_with fail
      refine (c1.out _ (ha.ext (by repeat (first | exact Ext.refl _ | assumption | refine Ext.alloc ?_ _ | refine Ext.drew ?_ | refine Ext.drewN ?_ _ | refine Ext.setCell ?_ (by first | exact Nat.le_refl _ | (simp; done) | omega) _ | refine Ext.trans ?_ (by assumption)))) (hb.ext (by repeat (first | exact Ext.refl _ | assumption | refine Ext.alloc ?_ _ | refine Ext.drew ?_ | refine Ext.drewN ?_ _ | refine Ext.setCell ?_ (by first | exact Nat.le_refl _ | (simp; done) | omega) _ | refine Ext.trans ?_ (by assumption))))).mono ?_; rintro e w4 ⟨x4, rfl, hx4, he4⟩
      have F4 := Lib.hid (F3.out.ext hx4)
      have G4 := Lib.hid (G3.out.ext hx4)
      clear F3 G3 p0 p1 p2 q0 q1 q2
      obtain ⟨p0, p1, p2⟩ := F4.out
      obtain ⟨q0, q1, q2⟩ := G4.out
      go_wp2_with fail
      refine (c2.out _ (ha.ext (by repeat (first | exact Ext.refl _ | assumption | refine Ext.alloc ?_ _ | refine Ext.drew ?_ | refine Ext.drewN ?_ _ | refine Ext.setCell ?_ (by first | exact Nat.le_refl _ | (simp; done) | omega) _ | refine Ext.trans ?_ (by assumption)))) (hb.ext (by repeat (first | exact Ext.refl _ | assumption | refine Ext.alloc ?_ _ | refine Ext.drew ?_ | refine Ext.drewN ?_ _ | refine Ext.setCell ?_ (by first | exact Nat.le_refl _ | (simp; done) | omega) _ | refine Ext.trans ?_ (by assumption))))).mono ?_; rintro e w5 ⟨c, d, i, j, rfl, hx5, he5⟩
      have A5 : Ext w5 (w5.alloc (.cells #[.int .i64 c, .slice d i j] 34)) := (Ext.refl w5).alloc _
      have F5 := Lib.hid ((F4.out.ext hx5).ext A5)
      have G5 := Lib.hid ((G4.out.ext hx5).ext A5)
      have V5 := Lib.hid (evar w5 c d i j (Ext.refl _))
      clear F4 G4 p0 p1 p2 q0 q1 q2
      obtain ⟨p0, p1, p2⟩ := F5.out
      obtain ⟨q0, q1, q2⟩ := G5.out
      go_wp2_with fail
      refine (c3.out _ (ha.ext (by repeat (first | exact Ext.refl _ | assumption | refine Ext.alloc ?_ _ | refine Ext.drew ?_ | refine Ext.drewN ?_ _ | refine Ext.setCell ?_ (by first | exact Nat.le_refl _ | (simp; done) | omega) _ | refine Ext.trans ?_ (by assumption)))) (hb.ext (by repeat (first | exact Ext.refl _ | assumption | refine Ext.alloc ?_ _ | refine Ext.drew ?_ | refine Ext.drewN ?_ _ | refine Ext.setCell ?_ (by first | exact Nat.le_refl _ | (simp; done) | omega) _ | refine Ext.trans ?_ (by assumption))))).mono ?_; rintro e w6 ⟨x6, rfl, hx6, he6⟩
      have F6 := Lib.hid (F5.out.ext hx6)
      have G6 := Lib.hid (G5.out.ext hx6)
      have V6 := Lib.hid (And.intro (hx6.cell V5.out.1) (hx6.cell V5.out.2))
      clear F5 G5 V5 p0 p1 p2 q0 q1 q2
      obtain ⟨p0, p1, p2⟩ := F6.out
      obtain ⟨q0, q1, q2⟩ := G6.out
      go_wp2_with fail
      refine (c4.out _ (ha.ext (by repeat (first | exact Ext.refl _ | assumption | refine Ext.alloc ?_ _ | refine Ext.drew ?_ | refine Ext.drewN ?_ _ | refine Ext.setCell ?_ (by first | exact Nat.le_refl _ | (simp; done) | omega) _ | refine Ext.trans ?_ (by assumption)))) (hb.ext (by repeat (first | exact Ext.refl _ | assumption | refine Ext.alloc ?_ _ | refine Ext.drew ?_ | refine Ext.drewN ?_ _ | refine Ext.setCell ?_ (by first | exact Nat.le_refl _ | (simp; done) | omega) _ | refine Ext.trans ?_ (by assumption))))).mono ?_; rintro e w7 ⟨c', d', i', j', rfl, hx7, he7⟩
      have A7 : Ext w7 (w7.alloc (.cells #[.int .i64 c', .slice d' i' j'] 34)) := (Ext.refl w7).alloc _
      have P := (F6.out.ext hx7).ext A7
      have Q := (G6.out.ext hx7).ext A7
      have R := And.intro (A7.cell (hx7.cell V6.out.1)) (A7.cell (hx7.cell V6.out.2))
      have S := evar w7 c' d' i' j' (Ext.refl _)
      have EW : Ext w (w7.alloc (.cells #[.int .i64 c', .slice d' i' j'] 34)) := (by repeat (first | exact Ext.refl _ | assumption | refine Ext.alloc ?_ _ | refine Ext.drew ?_ | refine Ext.drewN ?_ _ | refine Ext.setCell ?_ (by first | exact Nat.le_refl _ | (simp; done) | omega) _ | refine Ext.trans ?_ (by assumption)))
      have X4 := he4.ext (hx5.trans (A5.trans (hx6.trans (hx7.trans A7))))
      have X5 := he5.ext (A5.trans (hx6.trans (hx7.trans A7)))
      have X6 := he6.ext (hx7.trans A7)
      have X7 := he7.ext A7
      clear F6 G6 V6 p0 p1 p2 q0 q1 q2
      obtain ⟨p0, p1, p2⟩ := id P
      obtain ⟨q0, q1, q2⟩ := id Q
      go_wp2_with fail
      clear p0 p1 p2 q0 q1 q2
      revert P Q R S EW X4 X5 X6 X7
      generalize w7.alloc (.cells #[.int .i64 c', .slice d' i' j'] 34) = wR
      intro P Q R S EW X4 X5 X6 X7
      have HP := Lib.hid P
      have HQ := Lib.hid Q
      have HR := Lib.hid R
      have HS := Lib.hid S
      have HX4 := Lib.hid X4
      have HX5 := Lib.hid X5
      have HX6 := Lib.hid X6
      have HX7 := Lib.hid X7
      clear P Q R S X4 X5 X6 X7 A5 A7 hx1 hx2 hx3 hx4 hx5 hx6 hx7 he4 he5 he6 he7 EB c1 c2 c3 c4
      obtain ⟨p0, p1, p2⟩ := HP.out
      obtain ⟨q0, q1, q2⟩ := HQ.out
      refine (c5.out _ (ha.ext EW)).mono ?_; rintro e w8 ⟨rfl, hx8⟩
      clear p0 p1 p2 q0 q1 q2
      obtain ⟨q0, q1, q2⟩ := HQ.out.ext hx8
      go_wp2_with fail
      refine (c6.out _ (hb.ext (EW.trans hx8))).mono ?_; rintro e w9 ⟨rfl, hx9⟩
      have E9 := hx8.trans hx9
      clear q0 q1 q2
      obtain ⟨p0, p1, p2⟩ := HP.out.ext E9
      obtain ⟨q0, q1, q2⟩ := HQ.out.ext E9
      go_wp2_with fail
      refine (c7.out _ (ha.ext (EW.trans E9)) (hb.ext (EW.trans E9))).mono ?_; rintro e wA ⟨rfl, hxA⟩
      have EL := E9.trans hxA
      have EV := EW.trans EL
      clear p0 p1 p2 q0 q1 q2 E9 hx8 hx9 hxA
      go_wp2_with fail
      have HA := Lib.hid (ha.ext EV)
      have HBB := Lib.hid (hb.ext EV)
      have HG := Lib.hid (hg.ext EV)
      obtain ⟨p0, p1, p2⟩ := HP.out.ext EL
      obtain ⟨q0, q1, q2⟩ := HQ.out.ext EL
      obtain ⟨r0', r1'⟩ := HR.out
      have r0 := EL.cell r0'
      have r1 := EL.cell r1'
      obtain ⟨s0', s1'⟩ := HS.out
      have s0 := EL.cell s0'
      have s1 := EL.cell s1'
      have HX4 := Lib.hid (HX4.out.ext EL)
      have HX5 := Lib.hid (HX5.out.ext EL)
      have HX6 := Lib.hid (HX6.out.ext EL)
      have HX7 := Lib.hid (HX7.out.ext EL)
      clear r0' r1' s0' s1' HP HQ HR HS EL EW
      go_region_held3 (fun w' => w'.cell? ⟨w.heap.size, 0, none⟩ = some (.int .i64 W) ∧ w'.cell? ⟨w.heap.size, 1, none⟩ = some (.int .i64 H) ∧ w'.cell? ⟨w.heap.size, 2, none⟩ = some (.slice a n ca) ∧ w'.cell? ⟨w.heap.size + 1, 0, none⟩ = some (.int .i64 W') ∧ w'.cell? ⟨w.heap.size + 1, 1, none⟩ = some (.int .i64 H') ∧ w'.cell? ⟨w.heap.size + 1, 2, none⟩ = some (.slice b m cb) ∧ w'.cell? ⟨w5.heap.size, 0, none⟩ = some (.int .i64 c) ∧ w'.cell? ⟨w5.heap.size, 1, none⟩ = some (.slice d i j) ∧ w'.cell? ⟨w7.heap.size, 0, none⟩ = some (.int .i64 c') ∧ w'.cell? ⟨w7.heap.size, 1, none⟩ = some (.slice d' i' j') ∧ Ext wA w')
        (first | assumption | (exact ⟨p0, p1, p2, q0, q1, q2, r0, r1, s0, s1, Ext.refl _⟩) | (exact ⟨p0, p1, p2, q0, q1, q2, r0, r1, s0, s1, (Ext.refl _).drew⟩) | (go_split_ands; exact ⟨hx.cell (by assumption), hx.cell (by assumption), hx.cell (by assumption), hx.cell (by assumption), hx.cell (by assumption), hx.cell (by assumption), hx.cell (by assumption), hx.cell (by assumption), hx.cell (by assumption), hx.cell (by assumption), Ext.trans (by assumption) hx⟩))
        ((first | (go_at_call 15; obtain ⟨_, _, _, _, _, _, _, _, _, _, hE1⟩ : _ ∧ _ ∧ _ ∧ _ ∧ _ ∧ _ ∧ _ ∧ _ ∧ _ ∧ _ ∧ Ext wA _ := (by assumption); refine (first6_any _ (HG.out.ext hE1)).mono ?_; rintro e w' ⟨rfl, hx⟩) | (go_at_call 29; obtain ⟨_, _, _, _, _, _, _, _, _, _, hE1⟩ : _ ∧ _ ∧ _ ∧ _ ∧ _ ∧ _ ∧ _ ∧ _ ∧ _ ∧ _ ∧ Ext wA _ := (by assumption); refine (c9.out _ (HA.out.ext hE1)).mono ?_; rintro e w' ⟨rfl, hx⟩) | (go_at_call 30; obtain ⟨_, _, _, _, _, _, _, _, _, _, hE1⟩ : _ ∧ _ ∧ _ ∧ _ ∧ _ ∧ _ ∧ _ ∧ _ ∧ _ ∧ _ ∧ Ext wA _ := (by assumption); refine (c10.out _ (HA.out.ext hE1)).mono ?_; rintro e w' ⟨rfl, hx⟩) | (go_at_call 20; obtain ⟨_, _, _, _, _, _, _, _, _, _, hE1⟩ : _ ∧ _ ∧ _ ∧ _ ∧ _ ∧ _ ∧ _ ∧ _ ∧ _ ∧ _ ∧ Ext wA _ := (by assumption); (first | with_reducible refine (same_fall f _ _ _ _ (HG.out.ext hE1) (HX4.out.ext hE1) (HX5.out.ext hE1)).mono ?_ | refine (same_fall f _ _ _ _ (HG.out.ext hE1) (HX6.out.ext hE1) (HX7.out.ext hE1)).mono ?_); rintro e w' ⟨rfl, hx⟩) | (go_at_call 31; obtain ⟨_, _, _, _, _, _, _, _, _, _, hE1⟩ : _ ∧ _ ∧ _ ∧ _ ∧ _ ∧ _ ∧ _ ∧ _ ∧ _ ∧ _ ∧ Ext wA _ := (by assumption); refine (c8.out _ (HA.out.ext hE1) (HBB.out.ext hE1)).mono ?_; rintro e w' ⟨rfl, hx⟩)))
      obtain ⟨_, _, _, _, _, _, _, _, _, _, hE1⟩ : _ ∧ _ ∧ _ ∧ _ ∧ _ ∧ _ ∧ _ ∧ _ ∧ _ ∧ _ ∧ Ext wA _ := by assumption
      go_wp2
      go_ret
      exact ⟨rfl, EV.trans hE1⟩
theorem asks_law (W H W' H' x y : Int) (xs ys : List Int) (va vb : Value) (w : World) (hg : EtIs w) (hra : Row w va xs.length (xs.map (Value.int .i64))) (hrb : Row w vb ys.length (ys.map (Value.int .i64))) :
    Calls Tryd.prog 4 #[.agg #[.int .i64 W, .int .i64 H, va], .agg #[.int .i64 W', .int .i64 H', vb], .int .i64 x, .int .i64 y] w fun e w' => e = .returned (.bool true) ∧ Ext w w' := by
  by_cases h1 : 5000 < xs.length
  · obtain ⟨a, ca, rfl⟩ := hra.form
    obtain ⟨b, cb, rfl⟩ := hrb.form
    exact asks_long W H W' H' x y a b _ _ ca cb w hg (Or.inl h1)
  · by_cases h2 : 5000 < ys.length
    · obtain ⟨a, ca, rfl⟩ := hra.form
      obtain ⟨b, cb, rfl⟩ := hrb.form
      exact asks_long W H W' H' x y a b _ _ ca cb w hg (Or.inr ⟨h1, h2⟩)
    · have ha : Ints w va xs := ⟨hra, by omega⟩
      have hb : Ints w vb ys := ⟨hrb, by omega⟩
      obtain ⟨a, ca, rfl⟩ := ha.form
      obtain ⟨b, cb, rfl⟩ := hb.form
      exact asks_walk W H W' H' x y (peakV W H xs W' H' ys) (sumV W H xs W' H' ys) (atA W H xs x y) xs ys (frAns W H xs W' H' ys) (sameB W H xs W' H' ys) (decide (may W H xs)) (decide (may W' H' ys)) (frB W H xs W' H' ys) a b _ _ ca cb w hg ha hb h1 h2
        (fun w h k => peak_any W H W' H' xs ys a b _ _ ca cb w h k) (fun w h k => rpeak_any W H W' H' xs ys a b _ _ ca cb w h k)
        (fun w h k => sum_any W H W' H' xs ys a b _ _ ca cb w h k) (fun w h k => rsum_any W H W' H' xs ys a b _ _ ca cb w h k)
        (fun w h => rmay_any W H xs a _ ca w h) (fun w h => rmay_any W' H' ys b _ cb w h) (fun w h k => frame_any W H W' H' xs ys a b _ _ ca cb w h k) (fun w h k => same_any W H W' H' xs ys a b _ _ ca cb w h k)
        (fun w h => At_any W H x y xs a _ ca w h) (fun w h => rAt_any W H x y xs a _ ca w h) (asks_same W H xs W' H' ys)
end Go.Proofs.YtkighedghgcdjaaDoor
