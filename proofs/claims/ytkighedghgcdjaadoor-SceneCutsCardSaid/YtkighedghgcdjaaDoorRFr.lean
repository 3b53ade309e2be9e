/- kinref6.both, Sum, Peak: contracts over this seat's translation. -/
import Derived.Test.YtkighedghgcdjaaDoorFr2
import Derived.Test.YtkighedghgcdjaaDoorRes
import Derived.Test.YtkighedghgcdjaaDoorRMay
import Derived.Test.YtkighedghgcdjaaDoorTwF
import Derived.BigRegion
namespace Go.Proofs.YtkighedghgcdjaaDoor
set_option linter.unusedVariables false
set_option linter.unusedSimpArgs false
open Go.RowKit Go.Extern.Stop Go.Stop Go.Extern

theorem rfall_plain {w : World} {p : List (ByteArray × Int)} {k c : Int} (h : RErrIs w (some (p, k)) c (.slice none 0 0)) : p = [] ∧ c = k ∧ k ≠ 0 := by
  obtain ⟨h1, h2, h3⟩ := h
  obtain ⟨a, cap, e⟩ := h3.form
  simp only [Value.slice.injEq] at e
  exact ⟨List.eq_nil_of_length_eq_zero e.2.1.symm, h1, h2⟩
/-- the document's error, with no path -/
def BPost (w : World) (f : Fall) (e : Ending) (w' : World) : Prop := ∃ c, e = .returned (.agg #[.int .i64 c, .slice none 0 0]) ∧ Ext w w' ∧ RErrIs w' f c (.slice none 0 0)
set_option maxRecDepth 20000 in
set_option maxHeartbeats 2000000 in
theorem rboth_any (W H W' H' : Int) (xs ys : List Int) (a b : Option Addr) (n m ca cb : Nat) (w : World) (ha : Ints w (.slice a n ca) xs) (hb : Ints w (.slice b m cb) ys) :
    Calls Tryd.prog 62 #[.agg #[.int .i64 W, .int .i64 H, .slice a n ca], .agg #[.int .i64 W', .int .i64 H', .slice b m cb]] w (BPost w (frAns W H xs W' H' ys)) := by
  have M1 := Lib.hid (fun w h => rmay_any W H xs a n ca w h)
  have M2 := Lib.hid (fun w h => rmay_any W' H' ys b m cb w h)
  by_cases h1 : may W H xs
  · have H1 := Lib.hid h1
    by_cases h2 : may W' H' ys
    · have H2 := Lib.hid h2
      by_cases h3 : W = W'
      · by_cases h4 : H = H'
        · have HR : Hid (frAns W H xs W' H' ys = none) := by show _ = _; unfold frAns; rw [if_pos ⟨h1, h2⟩, if_pos ⟨h3, h4⟩]
          have b3 : (W != W') = false := by simpa using h3
          have b4 : (H != H') = false := by simpa using h4
          clear h1 h2 h3 h4
          have FG0 := FrBox.two w W H W' H' (.slice a n ca) (.slice b m cb)
          have RV : ResAt (((w.alloc (.cells #[.int .i64 W, .int .i64 H, .slice a n ca] 24)).alloc (.cells #[.int .i64 W', .int .i64 H', .slice b m cb] 24)).alloc (.cells #[.int .i64 0, .slice none 0 0] 34)) (w.heap.size + 2) := by
            have := ResAt.new ((w.alloc (.cells #[.int .i64 W, .int .i64 H, .slice a n ca] 24)).alloc (.cells #[.int .i64 W', .int .i64 H', .slice b m cb] 24))
            simpa using this
          have FB := FG0.1.ext ((Ext.refl _).alloc (.cells #[.int .i64 0, .slice none 0 0] 34))
          have GB := FG0.2.ext ((Ext.refl _).alloc (.cells #[.int .i64 0, .slice none 0 0] 34))
          clear FG0
          have EB : Ext w (((w.alloc (.cells #[.int .i64 W, .int .i64 H, .slice a n ca] 24)).alloc (.cells #[.int .i64 W', .int .i64 H', .slice b m cb] 24)).alloc (.cells #[.int .i64 0, .slice none 0 0] 34)) := (by repeat (first | exact Ext.refl _ | assumption | refine Ext.alloc ?_ _ | refine Ext.drew ?_ | refine Ext.drewN ?_ _ | refine Ext.setCell ?_ (by first | exact Nat.le_refl _ | (simp; done) | omega) _ | refine Ext.trans ?_ (by assumption)))
          go_enter Tryd.func62, Tryd.ntmps62
          go_wp2_with fail
          revert RV FB GB EB
          generalize ((w.alloc (.cells #[.int .i64 W, .int .i64 H, .slice a n ca] 24)).alloc (.cells #[.int .i64 W', .int .i64 H', .slice b m cb] 24)).alloc (.cells #[.int .i64 0, .slice none 0 0] 34) = w0
          intro RV FB GB EB
          have FH := Lib.hid FB
          have GH := Lib.hid GB
          have RH := Lib.hid RV
          obtain ⟨p0, p1, p2⟩ := FB
          obtain ⟨q0, q1, q2⟩ := GB
          clear RV
          refine (M1.out _ (ha.ext (by repeat (first | exact Ext.refl _ | assumption | refine Ext.alloc ?_ _ | refine Ext.drew ?_ | refine Ext.drewN ?_ _ | refine Ext.setCell ?_ (by first | exact Nat.le_refl _ | (simp; done) | omega) _ | refine Ext.trans ?_ (by assumption))))).mono ?_; rintro e w1 ⟨rfl, hx1⟩
          have FH := Lib.hid (FH.out.ext hx1)
          have GH := Lib.hid (GH.out.ext hx1)
          have RH := Lib.hid (RH.out.ext hx1)
          clear p0 p1 p2 q0 q1 q2
          obtain ⟨p0, p1, p2⟩ := FH.out
          obtain ⟨q0, q1, q2⟩ := GH.out
          rw [decide_eq_true H1.out]
          go_wp2_with fail
          refine (M2.out _ (hb.ext (by repeat (first | exact Ext.refl _ | assumption | refine Ext.alloc ?_ _ | refine Ext.drew ?_ | refine Ext.drewN ?_ _ | refine Ext.setCell ?_ (by first | exact Nat.le_refl _ | (simp; done) | omega) _ | refine Ext.trans ?_ (by assumption))))).mono ?_; rintro e w2 ⟨rfl, hx2⟩
          have FH := Lib.hid (FH.out.ext hx2)
          have GH := Lib.hid (GH.out.ext hx2)
          have RH := Lib.hid (RH.out.ext hx2)
          clear p0 p1 p2 q0 q1 q2
          obtain ⟨p0, p1, p2⟩ := FH.out
          obtain ⟨q0, q1, q2⟩ := GH.out
          rw [decide_eq_true H2.out]
          obtain ⟨r0, r1, f0, f1⟩ := RH.out
          have E9 : Ext w w2 := (by repeat (first | exact Ext.refl _ | assumption | refine Ext.alloc ?_ _ | refine Ext.drew ?_ | refine Ext.drewN ?_ _ | refine Ext.setCell ?_ (by first | exact Nat.le_refl _ | (simp; done) | omega) _ | refine Ext.trans ?_ (by assumption)))
          go_wp2
          obtain ⟨e0, e1⟩ := res_cells (c := 0) r0 r1 (.slice none 0 0)
          exact bodyPost_ret (v := .agg #[.int .i64 0, .slice none 0 0]) (by simp [results, Tryd.results62, go_sem, e0, e1]) rfl ⟨_, rfl, (E9.setCell (p := ⟨w.heap.size + 2, 0, none⟩) (Nat.le_add_right _ 2) _).setCell (p := ⟨w.heap.size + 2, 1, none⟩) (Nat.le_add_right _ 2) _, by rw [HR.out]; exact RErrIs.zero⟩
        · have HR : Hid (frAns W H xs W' H' ys = fit) := by show _ = _; unfold frAns; rw [if_pos ⟨h1, h2⟩, if_neg (fun e => h4 e.2)]
          have b3 : (W != W') = false := by simpa using h3
          have b4 : (H != H') = true := by simpa using h4
          clear h1 h2 h3 h4
          have FG0 := FrBox.two w W H W' H' (.slice a n ca) (.slice b m cb)
          have RV : ResAt (((w.alloc (.cells #[.int .i64 W, .int .i64 H, .slice a n ca] 24)).alloc (.cells #[.int .i64 W', .int .i64 H', .slice b m cb] 24)).alloc (.cells #[.int .i64 0, .slice none 0 0] 34)) (w.heap.size + 2) := by
            have := ResAt.new ((w.alloc (.cells #[.int .i64 W, .int .i64 H, .slice a n ca] 24)).alloc (.cells #[.int .i64 W', .int .i64 H', .slice b m cb] 24))
            simpa using this
          have FB := FG0.1.ext ((Ext.refl _).alloc (.cells #[.int .i64 0, .slice none 0 0] 34))
          have GB := FG0.2.ext ((Ext.refl _).alloc (.cells #[.int .i64 0, .slice none 0 0] 34))
          clear FG0
          have EB : Ext w (((w.alloc (.cells #[.int .i64 W, .int .i64 H, .slice a n ca] 24)).alloc (.cells #[.int .i64 W', .int .i64 H', .slice b m cb] 24)).alloc (.cells #[.int .i64 0, .slice none 0 0] 34)) := (by repeat (first | exact Ext.refl _ | assumption | refine Ext.alloc ?_ _ | refine Ext.drew ?_ | refine Ext.drewN ?_ _ | refine Ext.setCell ?_ (by first | exact Nat.le_refl _ | (simp; done) | omega) _ | refine Ext.trans ?_ (by assumption)))
          go_enter Tryd.func62, Tryd.ntmps62
          go_wp2_with fail
          revert RV FB GB EB
          generalize ((w.alloc (.cells #[.int .i64 W, .int .i64 H, .slice a n ca] 24)).alloc (.cells #[.int .i64 W', .int .i64 H', .slice b m cb] 24)).alloc (.cells #[.int .i64 0, .slice none 0 0] 34) = w0
          intro RV FB GB EB
          have FH := Lib.hid FB
          have GH := Lib.hid GB
          have RH := Lib.hid RV
          obtain ⟨p0, p1, p2⟩ := FB
          obtain ⟨q0, q1, q2⟩ := GB
          clear RV
          refine (M1.out _ (ha.ext (by repeat (first | exact Ext.refl _ | assumption | refine Ext.alloc ?_ _ | refine Ext.drew ?_ | refine Ext.drewN ?_ _ | refine Ext.setCell ?_ (by first | exact Nat.le_refl _ | (simp; done) | omega) _ | refine Ext.trans ?_ (by assumption))))).mono ?_; rintro e w1 ⟨rfl, hx1⟩
          have FH := Lib.hid (FH.out.ext hx1)
          have GH := Lib.hid (GH.out.ext hx1)
          have RH := Lib.hid (RH.out.ext hx1)
          clear p0 p1 p2 q0 q1 q2
          obtain ⟨p0, p1, p2⟩ := FH.out
          obtain ⟨q0, q1, q2⟩ := GH.out
          rw [decide_eq_true H1.out]
          go_wp2_with fail
          refine (M2.out _ (hb.ext (by repeat (first | exact Ext.refl _ | assumption | refine Ext.alloc ?_ _ | refine Ext.drew ?_ | refine Ext.drewN ?_ _ | refine Ext.setCell ?_ (by first | exact Nat.le_refl _ | (simp; done) | omega) _ | refine Ext.trans ?_ (by assumption))))).mono ?_; rintro e w2 ⟨rfl, hx2⟩
          have FH := Lib.hid (FH.out.ext hx2)
          have GH := Lib.hid (GH.out.ext hx2)
          have RH := Lib.hid (RH.out.ext hx2)
          clear p0 p1 p2 q0 q1 q2
          obtain ⟨p0, p1, p2⟩ := FH.out
          obtain ⟨q0, q1, q2⟩ := GH.out
          rw [decide_eq_true H2.out]
          go_wp2_with fail
          refine (fail_any 14 _).mono ?_; rintro e w9 ⟨rfl, hx9⟩
          obtain ⟨r0, r1, f0, f1⟩ := RH.out.ext hx9
          have E9 : Ext w w9 := (by repeat (first | exact Ext.refl _ | assumption | refine Ext.alloc ?_ _ | refine Ext.drew ?_ | refine Ext.drewN ?_ _ | refine Ext.setCell ?_ (by first | exact Nat.le_refl _ | (simp; done) | omega) _ | refine Ext.trans ?_ (by assumption)))
          go_wp2
          obtain ⟨e0, e1⟩ := res_cells (c := 14) r0 r1 (.slice none 0 0)
          exact bodyPost_ret (v := .agg #[.int .i64 14, .slice none 0 0]) (by simp [results, Tryd.results62, go_sem, e0, e1]) rfl ⟨_, rfl, (E9.setCell (p := ⟨w.heap.size + 2, 0, none⟩) (Nat.le_add_right _ 2) _).setCell (p := ⟨w.heap.size + 2, 1, none⟩) (Nat.le_add_right _ 2) _, by rw [HR.out]; exact RErrIs.code (by decide)⟩
      · have HR : Hid (frAns W H xs W' H' ys = fit) := by show _ = _; unfold frAns; rw [if_pos ⟨h1, h2⟩, if_neg (fun e => h3 e.1)]
        have b3 : (W != W') = true := by simpa using h3
        clear h1 h2 h3
        have FG0 := FrBox.two w W H W' H' (.slice a n ca) (.slice b m cb)
        have RV : ResAt (((w.alloc (.cells #[.int .i64 W, .int .i64 H, .slice a n ca] 24)).alloc (.cells #[.int .i64 W', .int .i64 H', .slice b m cb] 24)).alloc (.cells #[.int .i64 0, .slice none 0 0] 34)) (w.heap.size + 2) := by
          have := ResAt.new ((w.alloc (.cells #[.int .i64 W, .int .i64 H, .slice a n ca] 24)).alloc (.cells #[.int .i64 W', .int .i64 H', .slice b m cb] 24))
          simpa using this
        have FB := FG0.1.ext ((Ext.refl _).alloc (.cells #[.int .i64 0, .slice none 0 0] 34))
        have GB := FG0.2.ext ((Ext.refl _).alloc (.cells #[.int .i64 0, .slice none 0 0] 34))
        clear FG0
        have EB : Ext w (((w.alloc (.cells #[.int .i64 W, .int .i64 H, .slice a n ca] 24)).alloc (.cells #[.int .i64 W', .int .i64 H', .slice b m cb] 24)).alloc (.cells #[.int .i64 0, .slice none 0 0] 34)) := (by repeat (first | exact Ext.refl _ | assumption | refine Ext.alloc ?_ _ | refine Ext.drew ?_ | refine Ext.drewN ?_ _ | refine Ext.setCell ?_ (by first | exact Nat.le_refl _ | (simp; done) | omega) _ | refine Ext.trans ?_ (by assumption)))
        go_enter Tryd.func62, Tryd.ntmps62
        go_wp2_with fail
        revert RV FB GB EB
        generalize ((w.alloc (.cells #[.int .i64 W, .int .i64 H, .slice a n ca] 24)).alloc (.cells #[.int .i64 W', .int .i64 H', .slice b m cb] 24)).alloc (.cells #[.int .i64 0, .slice none 0 0] 34) = w0
        intro RV FB GB EB
        have FH := Lib.hid FB
        have GH := Lib.hid GB
        have RH := Lib.hid RV
        obtain ⟨p0, p1, p2⟩ := FB
        obtain ⟨q0, q1, q2⟩ := GB
        clear RV
        refine (M1.out _ (ha.ext (by repeat (first | exact Ext.refl _ | assumption | refine Ext.alloc ?_ _ | refine Ext.drew ?_ | refine Ext.drewN ?_ _ | refine Ext.setCell ?_ (by first | exact Nat.le_refl _ | (simp; done) | omega) _ | refine Ext.trans ?_ (by assumption))))).mono ?_; rintro e w1 ⟨rfl, hx1⟩
        have FH := Lib.hid (FH.out.ext hx1)
        have GH := Lib.hid (GH.out.ext hx1)
        have RH := Lib.hid (RH.out.ext hx1)
        clear p0 p1 p2 q0 q1 q2
        obtain ⟨p0, p1, p2⟩ := FH.out
        obtain ⟨q0, q1, q2⟩ := GH.out
        rw [decide_eq_true H1.out]
        go_wp2_with fail
        refine (M2.out _ (hb.ext (by repeat (first | exact Ext.refl _ | assumption | refine Ext.alloc ?_ _ | refine Ext.drew ?_ | refine Ext.drewN ?_ _ | refine Ext.setCell ?_ (by first | exact Nat.le_refl _ | (simp; done) | omega) _ | refine Ext.trans ?_ (by assumption))))).mono ?_; rintro e w2 ⟨rfl, hx2⟩
        have FH := Lib.hid (FH.out.ext hx2)
        have GH := Lib.hid (GH.out.ext hx2)
        have RH := Lib.hid (RH.out.ext hx2)
        clear p0 p1 p2 q0 q1 q2
        obtain ⟨p0, p1, p2⟩ := FH.out
        obtain ⟨q0, q1, q2⟩ := GH.out
        rw [decide_eq_true H2.out]
        go_wp2_with fail
        refine (fail_any 14 _).mono ?_; rintro e w9 ⟨rfl, hx9⟩
        obtain ⟨r0, r1, f0, f1⟩ := RH.out.ext hx9
        have E9 : Ext w w9 := (by repeat (first | exact Ext.refl _ | assumption | refine Ext.alloc ?_ _ | refine Ext.drew ?_ | refine Ext.drewN ?_ _ | refine Ext.setCell ?_ (by first | exact Nat.le_refl _ | (simp; done) | omega) _ | refine Ext.trans ?_ (by assumption)))
        go_wp2
        obtain ⟨e0, e1⟩ := res_cells (c := 14) r0 r1 (.slice none 0 0)
        exact bodyPost_ret (v := .agg #[.int .i64 14, .slice none 0 0]) (by simp [results, Tryd.results62, go_sem, e0, e1]) rfl ⟨_, rfl, (E9.setCell (p := ⟨w.heap.size + 2, 0, none⟩) (Nat.le_add_right _ 2) _).setCell (p := ⟨w.heap.size + 2, 1, none⟩) (Nat.le_add_right _ 2) _, by rw [HR.out]; exact RErrIs.code (by decide)⟩
    · have HR : Hid (frAns W H xs W' H' ys = form) := by show _ = _; unfold frAns; rw [if_neg (fun e => h2 e.2)]
      have H2 := Lib.hid h2
      clear h1 h2
      have FG0 := FrBox.two w W H W' H' (.slice a n ca) (.slice b m cb)
      have RV : ResAt (((w.alloc (.cells #[.int .i64 W, .int .i64 H, .slice a n ca] 24)).alloc (.cells #[.int .i64 W', .int .i64 H', .slice b m cb] 24)).alloc (.cells #[.int .i64 0, .slice none 0 0] 34)) (w.heap.size + 2) := by
        have := ResAt.new ((w.alloc (.cells #[.int .i64 W, .int .i64 H, .slice a n ca] 24)).alloc (.cells #[.int .i64 W', .int .i64 H', .slice b m cb] 24))
        simpa using this
      have FB := FG0.1.ext ((Ext.refl _).alloc (.cells #[.int .i64 0, .slice none 0 0] 34))
      have GB := FG0.2.ext ((Ext.refl _).alloc (.cells #[.int .i64 0, .slice none 0 0] 34))
      clear FG0
      have EB : Ext w (((w.alloc (.cells #[.int .i64 W, .int .i64 H, .slice a n ca] 24)).alloc (.cells #[.int .i64 W', .int .i64 H', .slice b m cb] 24)).alloc (.cells #[.int .i64 0, .slice none 0 0] 34)) := (by repeat (first | exact Ext.refl _ | assumption | refine Ext.alloc ?_ _ | refine Ext.drew ?_ | refine Ext.drewN ?_ _ | refine Ext.setCell ?_ (by first | exact Nat.le_refl _ | (simp; done) | omega) _ | refine Ext.trans ?_ (by assumption)))
      go_enter Tryd.func62, Tryd.ntmps62
      go_wp2_with fail
      revert RV FB GB EB
      generalize ((w.alloc (.cells #[.int .i64 W, .int .i64 H, .slice a n ca] 24)).alloc (.cells #[.int .i64 W', .int .i64 H', .slice b m cb] 24)).alloc (.cells #[.int .i64 0, .slice none 0 0] 34) = w0
      intro RV FB GB EB
      have FH := Lib.hid FB
      have GH := Lib.hid GB
      have RH := Lib.hid RV
      obtain ⟨p0, p1, p2⟩ := FB
      obtain ⟨q0, q1, q2⟩ := GB
      clear RV
      refine (M1.out _ (ha.ext (by repeat (first | exact Ext.refl _ | assumption | refine Ext.alloc ?_ _ | refine Ext.drew ?_ | refine Ext.drewN ?_ _ | refine Ext.setCell ?_ (by first | exact Nat.le_refl _ | (simp; done) | omega) _ | refine Ext.trans ?_ (by assumption))))).mono ?_; rintro e w1 ⟨rfl, hx1⟩
      have FH := Lib.hid (FH.out.ext hx1)
      have GH := Lib.hid (GH.out.ext hx1)
      have RH := Lib.hid (RH.out.ext hx1)
      clear p0 p1 p2 q0 q1 q2
      obtain ⟨p0, p1, p2⟩ := FH.out
      obtain ⟨q0, q1, q2⟩ := GH.out
      rw [decide_eq_true H1.out]
      go_wp2_with fail
      refine (M2.out _ (hb.ext (by repeat (first | exact Ext.refl _ | assumption | refine Ext.alloc ?_ _ | refine Ext.drew ?_ | refine Ext.drewN ?_ _ | refine Ext.setCell ?_ (by first | exact Nat.le_refl _ | (simp; done) | omega) _ | refine Ext.trans ?_ (by assumption))))).mono ?_; rintro e w2 ⟨rfl, hx2⟩
      have FH := Lib.hid (FH.out.ext hx2)
      have GH := Lib.hid (GH.out.ext hx2)
      have RH := Lib.hid (RH.out.ext hx2)
      clear p0 p1 p2 q0 q1 q2
      obtain ⟨p0, p1, p2⟩ := FH.out
      obtain ⟨q0, q1, q2⟩ := GH.out
      rw [decide_eq_false H2.out]
      go_wp2_with fail
      refine (fail_any 2 _).mono ?_; rintro e w9 ⟨rfl, hx9⟩
      obtain ⟨r0, r1, f0, f1⟩ := RH.out.ext hx9
      have E9 : Ext w w9 := (by repeat (first | exact Ext.refl _ | assumption | refine Ext.alloc ?_ _ | refine Ext.drew ?_ | refine Ext.drewN ?_ _ | refine Ext.setCell ?_ (by first | exact Nat.le_refl _ | (simp; done) | omega) _ | refine Ext.trans ?_ (by assumption)))
      go_wp2
      obtain ⟨e0, e1⟩ := res_cells (c := 2) r0 r1 (.slice none 0 0)
      exact bodyPost_ret (v := .agg #[.int .i64 2, .slice none 0 0]) (by simp [results, Tryd.results62, go_sem, e0, e1]) rfl ⟨_, rfl, (E9.setCell (p := ⟨w.heap.size + 2, 0, none⟩) (Nat.le_add_right _ 2) _).setCell (p := ⟨w.heap.size + 2, 1, none⟩) (Nat.le_add_right _ 2) _, by rw [HR.out]; exact RErrIs.code (by decide)⟩
  · have HR : Hid (frAns W H xs W' H' ys = form) := by show _ = _; unfold frAns; rw [if_neg (fun e => h1 e.1)]
    have H1 := Lib.hid h1
    clear h1
    have FG0 := FrBox.two w W H W' H' (.slice a n ca) (.slice b m cb)
    have RV : ResAt (((w.alloc (.cells #[.int .i64 W, .int .i64 H, .slice a n ca] 24)).alloc (.cells #[.int .i64 W', .int .i64 H', .slice b m cb] 24)).alloc (.cells #[.int .i64 0, .slice none 0 0] 34)) (w.heap.size + 2) := by
      have := ResAt.new ((w.alloc (.cells #[.int .i64 W, .int .i64 H, .slice a n ca] 24)).alloc (.cells #[.int .i64 W', .int .i64 H', .slice b m cb] 24))
      simpa using this
    have FB := FG0.1.ext ((Ext.refl _).alloc (.cells #[.int .i64 0, .slice none 0 0] 34))
    have GB := FG0.2.ext ((Ext.refl _).alloc (.cells #[.int .i64 0, .slice none 0 0] 34))
    clear FG0
    have EB : Ext w (((w.alloc (.cells #[.int .i64 W, .int .i64 H, .slice a n ca] 24)).alloc (.cells #[.int .i64 W', .int .i64 H', .slice b m cb] 24)).alloc (.cells #[.int .i64 0, .slice none 0 0] 34)) := (by repeat (first | exact Ext.refl _ | assumption | refine Ext.alloc ?_ _ | refine Ext.drew ?_ | refine Ext.drewN ?_ _ | refine Ext.setCell ?_ (by first | exact Nat.le_refl _ | (simp; done) | omega) _ | refine Ext.trans ?_ (by assumption)))
    go_enter Tryd.func62, Tryd.ntmps62
    go_wp2_with fail
    revert RV FB GB EB
    generalize ((w.alloc (.cells #[.int .i64 W, .int .i64 H, .slice a n ca] 24)).alloc (.cells #[.int .i64 W', .int .i64 H', .slice b m cb] 24)).alloc (.cells #[.int .i64 0, .slice none 0 0] 34) = w0
    intro RV FB GB EB
    have FH := Lib.hid FB
    have GH := Lib.hid GB
    have RH := Lib.hid RV
    obtain ⟨p0, p1, p2⟩ := FB
    obtain ⟨q0, q1, q2⟩ := GB
    clear RV
    refine (M1.out _ (ha.ext (by repeat (first | exact Ext.refl _ | assumption | refine Ext.alloc ?_ _ | refine Ext.drew ?_ | refine Ext.drewN ?_ _ | refine Ext.setCell ?_ (by first | exact Nat.le_refl _ | (simp; done) | omega) _ | refine Ext.trans ?_ (by assumption))))).mono ?_; rintro e w1 ⟨rfl, hx1⟩
    have FH := Lib.hid (FH.out.ext hx1)
    have GH := Lib.hid (GH.out.ext hx1)
    have RH := Lib.hid (RH.out.ext hx1)
    clear p0 p1 p2 q0 q1 q2
    obtain ⟨p0, p1, p2⟩ := FH.out
    obtain ⟨q0, q1, q2⟩ := GH.out
    rw [decide_eq_false H1.out]
    go_wp2_with fail
    refine (fail_any 2 _).mono ?_; rintro e w9 ⟨rfl, hx9⟩
    obtain ⟨r0, r1, f0, f1⟩ := RH.out.ext hx9
    have E9 : Ext w w9 := (by repeat (first | exact Ext.refl _ | assumption | refine Ext.alloc ?_ _ | refine Ext.drew ?_ | refine Ext.drewN ?_ _ | refine Ext.setCell ?_ (by first | exact Nat.le_refl _ | (simp; done) | omega) _ | refine Ext.trans ?_ (by assumption)))
    go_wp2
    obtain ⟨e0, e1⟩ := res_cells (c := 2) r0 r1 (.slice none 0 0)
    exact bodyPost_ret (v := .agg #[.int .i64 2, .slice none 0 0]) (by simp [results, Tryd.results62, go_sem, e0, e1]) rfl ⟨_, rfl, (E9.setCell (p := ⟨w.heap.size + 2, 0, none⟩) (Nat.le_add_right _ 2) _).setCell (p := ⟨w.heap.size + 2, 1, none⟩) (Nat.le_add_right _ 2) _, by rw [HR.out]; exact RErrIs.code (by decide)⟩
set_option maxRecDepth 20000 in
set_option maxHeartbeats 4000000 in
theorem rsum_any (W H W' H' : Int) (xs ys : List Int) (a b : Option Addr) (n m ca cb : Nat) (w : World) (ha : Ints w (.slice a n ca) xs) (hb : Ints w (.slice b m cb) ys) :
    Calls Tryd.prog 28 #[.agg #[.int .i64 W, .int .i64 H, .slice a n ca], .agg #[.int .i64 W', .int .i64 H', .slice b m cb]] w (RIPost w (sumV W H xs W' H' ys) (frAns W H xs W' H' ys)) := by
  have RT := Lib.hid (fun w h k => rboth_any W H W' H' xs ys a b n m ca cb w h k)
  cases hm : frAns W H xs W' H' ys with
  | some f =>
    obtain ⟨p, k⟩ := f
    have HV : Hid (sumV W H xs W' H' ys = 0) := by show _ = _; unfold sumV; rw [hm]
    rw [hm] at RT
    clear hm
    have FG0 := FrBox.two w W H W' H' (.slice a n ca) (.slice b m cb)
    have RV : ResAt (((w.alloc (.cells #[.int .i64 W, .int .i64 H, .slice a n ca] 24)).alloc (.cells #[.int .i64 W', .int .i64 H', .slice b m cb] 24)).alloc (.cells #[.int .i64 0, .slice none 0 0] 34)) (w.heap.size + 2) := by
      have := ResAt.new ((w.alloc (.cells #[.int .i64 W, .int .i64 H, .slice a n ca] 24)).alloc (.cells #[.int .i64 W', .int .i64 H', .slice b m cb] 24))
      simpa using this
    have FB := FG0.1.ext ((Ext.refl _).alloc (.cells #[.int .i64 0, .slice none 0 0] 34))
    have GB := FG0.2.ext ((Ext.refl _).alloc (.cells #[.int .i64 0, .slice none 0 0] 34))
    clear FG0
    have EB : Ext w (((w.alloc (.cells #[.int .i64 W, .int .i64 H, .slice a n ca] 24)).alloc (.cells #[.int .i64 W', .int .i64 H', .slice b m cb] 24)).alloc (.cells #[.int .i64 0, .slice none 0 0] 34)) := (by repeat (first | exact Ext.refl _ | assumption | refine Ext.alloc ?_ _ | refine Ext.drew ?_ | refine Ext.drewN ?_ _ | refine Ext.setCell ?_ (by first | exact Nat.le_refl _ | (simp; done) | omega) _ | refine Ext.trans ?_ (by assumption)))
    go_enter Tryd.func28, Tryd.ntmps28
    go_wp2_with fail
    revert RV FB GB EB
    generalize ((w.alloc (.cells #[.int .i64 W, .int .i64 H, .slice a n ca] 24)).alloc (.cells #[.int .i64 W', .int .i64 H', .slice b m cb] 24)).alloc (.cells #[.int .i64 0, .slice none 0 0] 34) = w0
    intro RV FB GB EB
    have FH := Lib.hid FB
    have GH := Lib.hid GB
    have RH := Lib.hid RV
    obtain ⟨p0, p1, p2⟩ := FB
    obtain ⟨q0, q1, q2⟩ := GB
    clear RV
    refine (RT.out _ (ha.ext (by repeat (first | exact Ext.refl _ | assumption | refine Ext.alloc ?_ _ | refine Ext.drew ?_ | refine Ext.drewN ?_ _ | refine Ext.setCell ?_ (by first | exact Nat.le_refl _ | (simp; done) | omega) _ | refine Ext.trans ?_ (by assumption)))) (hb.ext (by repeat (first | exact Ext.refl _ | assumption | refine Ext.alloc ?_ _ | refine Ext.drew ?_ | refine Ext.drewN ?_ _ | refine Ext.setCell ?_ (by first | exact Nat.le_refl _ | (simp; done) | omega) _ | refine Ext.trans ?_ (by assumption))))).mono ?_; rintro e w1 ⟨c, rfl, hx1, hr1⟩
    have A1 : Ext w1 (w1.alloc (.cells #[.int .i64 c, .slice none 0 0] 34)) := (Ext.refl w1).alloc _
    have E1 : Ext w (w1.alloc (.cells #[.int .i64 c, .slice none 0 0] 34)) := EB.trans (hx1.trans A1)
    have FH := (FH.out.ext hx1).ext A1
    have GH := (GH.out.ext hx1).ext A1
    have RV := (RH.out.ext hx1).ext A1
    have s0 : (w1.alloc (.cells #[.int .i64 c, .slice none 0 0] 34)).cell? ⟨w1.heap.size, 0, none⟩ = some (.int .i64 c) := by simp
    have s1 : (w1.alloc (.cells #[.int .i64 c, .slice none 0 0] 34)).cell? ⟨w1.heap.size, 1, none⟩ = some (.slice none 0 0) := by simp
    clear p0 p1 p2 q0 q1 q2 RH A1
    go_wp2_with fail
    obtain ⟨B, hB⟩ : ∃ B, B = w1.heap.size := ⟨_, rfl⟩
    rw [← hB] at s0 s1 ⊢
    clear hB EB
    revert E1 FH GH RV s0 s1
    generalize w1.alloc (.cells #[.int .i64 c, .slice none 0 0] 34) = wS
    intro E1 FH GH RV s0 s1
    have FH := Lib.hid FH
    have GH := Lib.hid GH
    clear hx1
    obtain ⟨rfl, rfl, hc⟩ := rfall_plain hr1
    have hc0 : (c == 0) = false := by simpa using hc
    have HC := Lib.hid hc
    clear hc
    refine wp_loop_rounds 1 ?_
    rw [rounds_succ]
    go_wp2_with fail
    refine (ok_any c _ _).mono ?_; rintro e wA ⟨rfl, hxA⟩
    rw [hc0]
    obtain ⟨r0, r1, f0, f1⟩ := RV.ext hxA
    have t0 := hxA.cell s0
    have t1 := hxA.cell s1
    have E9 : Ext w wA := (by repeat (first | exact Ext.refl _ | assumption | refine Ext.alloc ?_ _ | refine Ext.drew ?_ | refine Ext.drewN ?_ _ | refine Ext.setCell ?_ (by first | exact Nat.le_refl _ | (simp; done) | omega) _ | refine Ext.trans ?_ (by assumption)))
    clear RV s0 s1
    go_wp2
    go_region
    go_wp2
    obtain ⟨e0, e1⟩ := res_cells (c := c) r0 r1 (.slice none 0 0)
    exact bodyPost_ret (v := .tuple #[.int .i64 0, .agg #[.int .i64 c, .slice none 0 0]]) (by simp [results, Tryd.results28, go_sem, e0, e1]) rfl ⟨_, _, _, _, by rw [HV.out], ((E9.setCell (p := ⟨w.heap.size + 2, 0, none⟩) (Nat.le_add_right _ 2) _).setCell (p := ⟨w.heap.size + 2, 1, none⟩) (Nat.le_add_right _ 2) _).drew, RErrIs.code HC.out⟩
  | none =>
    obtain ⟨h1, h2, -, -⟩ := frAns_none hm
    have hl := frAns_len hm
    have hlen := may_len h1
    have HX := Lib.hid (may_getD h1)
    have HY := Lib.hid (may_getD h2)
    have HV : Hid (sumV W H xs W' H' ys = sadF (fun i => xs.getD i 0) (fun i => ys.getD i 0) xs.length) := by show _ = _; unfold sumV; rw [hm]
    rw [hm] at RT
    have hn := ha.len
    have hm' := hb.len
    rw [← hn] at HV hlen hl
    rw [← hm'] at hl
    have HN := Lib.hid hn
    have HL := Lib.hid hm'
    have HNM := Lib.hid hl
    clear hl
    have AG := Lib.hid ha.had
    have BG := Lib.hid hb.had
    clear hm h1 h2 hn hm'
    have FG0 := FrBox.two w W H W' H' (.slice a n ca) (.slice b m cb)
    have RV : ResAt (((w.alloc (.cells #[.int .i64 W, .int .i64 H, .slice a n ca] 24)).alloc (.cells #[.int .i64 W', .int .i64 H', .slice b m cb] 24)).alloc (.cells #[.int .i64 0, .slice none 0 0] 34)) (w.heap.size + 2) := by
      have := ResAt.new ((w.alloc (.cells #[.int .i64 W, .int .i64 H, .slice a n ca] 24)).alloc (.cells #[.int .i64 W', .int .i64 H', .slice b m cb] 24))
      simpa using this
    have FB := FG0.1.ext ((Ext.refl _).alloc (.cells #[.int .i64 0, .slice none 0 0] 34))
    have GB := FG0.2.ext ((Ext.refl _).alloc (.cells #[.int .i64 0, .slice none 0 0] 34))
    clear FG0
    have EB : Ext w (((w.alloc (.cells #[.int .i64 W, .int .i64 H, .slice a n ca] 24)).alloc (.cells #[.int .i64 W', .int .i64 H', .slice b m cb] 24)).alloc (.cells #[.int .i64 0, .slice none 0 0] 34)) := (by repeat (first | exact Ext.refl _ | assumption | refine Ext.alloc ?_ _ | refine Ext.drew ?_ | refine Ext.drewN ?_ _ | refine Ext.setCell ?_ (by first | exact Nat.le_refl _ | (simp; done) | omega) _ | refine Ext.trans ?_ (by assumption)))
    go_enter Tryd.func28, Tryd.ntmps28
    go_wp2_with fail
    revert RV FB GB EB
    generalize ((w.alloc (.cells #[.int .i64 W, .int .i64 H, .slice a n ca] 24)).alloc (.cells #[.int .i64 W', .int .i64 H', .slice b m cb] 24)).alloc (.cells #[.int .i64 0, .slice none 0 0] 34) = w0
    intro RV FB GB EB
    have FH := Lib.hid FB
    have GH := Lib.hid GB
    have RH := Lib.hid RV
    obtain ⟨p0, p1, p2⟩ := FB
    obtain ⟨q0, q1, q2⟩ := GB
    clear RV
    refine (RT.out _ (ha.ext (by repeat (first | exact Ext.refl _ | assumption | refine Ext.alloc ?_ _ | refine Ext.drew ?_ | refine Ext.drewN ?_ _ | refine Ext.setCell ?_ (by first | exact Nat.le_refl _ | (simp; done) | omega) _ | refine Ext.trans ?_ (by assumption)))) (hb.ext (by repeat (first | exact Ext.refl _ | assumption | refine Ext.alloc ?_ _ | refine Ext.drew ?_ | refine Ext.drewN ?_ _ | refine Ext.setCell ?_ (by first | exact Nat.le_refl _ | (simp; done) | omega) _ | refine Ext.trans ?_ (by assumption))))).mono ?_; rintro e w1 ⟨c, rfl, hx1, hr1⟩
    have A1 : Ext w1 (w1.alloc (.cells #[.int .i64 c, .slice none 0 0] 34)) := (Ext.refl w1).alloc _
    have E1 : Ext w (w1.alloc (.cells #[.int .i64 c, .slice none 0 0] 34)) := EB.trans (hx1.trans A1)
    have FH := (FH.out.ext hx1).ext A1
    have GH := (GH.out.ext hx1).ext A1
    have RV := (RH.out.ext hx1).ext A1
    have s0 : (w1.alloc (.cells #[.int .i64 c, .slice none 0 0] 34)).cell? ⟨w1.heap.size, 0, none⟩ = some (.int .i64 c) := by simp
    have s1 : (w1.alloc (.cells #[.int .i64 c, .slice none 0 0] 34)).cell? ⟨w1.heap.size, 1, none⟩ = some (.slice none 0 0) := by simp
    clear p0 p1 p2 q0 q1 q2 RH A1
    go_wp2_with fail
    obtain ⟨B, hB⟩ : ∃ B, B = w1.heap.size := ⟨_, rfl⟩
    rw [← hB] at s0 s1 ⊢
    clear hB EB
    revert E1 FH GH RV s0 s1
    generalize w1.alloc (.cells #[.int .i64 c, .slice none 0 0] 34) = wS
    intro E1 FH GH RV s0 s1
    have FH := Lib.hid FH
    have GH := Lib.hid GH
    clear hx1
    obtain ⟨rfl, -⟩ := hr1
    go_loopw [7, 8] (fun sv iv wr => ∃ k : Nat, k ≤ n ∧ iv = .int .i64 k ∧ sv = .int .i64 (sadF (fun i => xs.getD i 0) (fun i => ys.getD i 0) k) ∧ Ext wS wr) (fun _ iv _ => n - (intOf iv).toNat)
    case atStart => exact ⟨0, Nat.zero_le _, rfl, rfl, Ext.refl _⟩
    case round =>
      obtain ⟨k, hk, rfl, rfl, hE⟩ := hrel
      have t0 := hE.cell s0
      have t1 := hE.cell s1
      go_wp2_with fail
      refine (ok_any 0 _ _).mono ?_; rintro e wA ⟨rfl, hxA⟩
      rw [show ((0 : Int) == 0) = true from rfl]
      have hE : Ext wS wA := hE.trans hxA
      obtain ⟨p0, p1, p2⟩ := FH.out.ext hE
      obtain ⟨q0, q1, q2⟩ := GH.out.ext hE
      clear hxA t0 t1
      by_cases hlt : k < n
      · obtain ⟨x, hx'⟩ : ∃ x, xs.getD k 0 = x := ⟨_, rfl⟩
        obtain ⟨y, hy'⟩ : ∃ y, ys.getD k 0 = y := ⟨_, rfl⟩
        obtain ⟨g, off, rfl⟩ := AG.out (by omega)
        have hkm : k < m := by have := HNM.out; omega
        obtain ⟨g', off', rfl⟩ := BG.out (by omega)
        have cx := (E1.trans hE).cell (ha.at (get_of_lt (by rw [← HN.out]; exact hlt)))
        have cy := (E1.trans hE).cell (hb.at (get_of_lt (by rw [← HL.out]; exact hkm)))
        have bx := HX.out k
        have by' := HY.out k
        have b0 := sadF_le HX.out HY.out k
        have b1 := sadF_pos (fun i => xs.getD i 0) (fun i => ys.getD i 0) k
        have HS2 : Hid (sadF (fun i => xs.getD i 0) (fun i => ys.getD i 0) (k + 1) = stepOfsum (sadF (fun i => xs.getD i 0) (fun i => ys.getD i 0) k) x y) := by show _ = _; rw [← hx', ← hy']; rfl
        rw [hx'] at cx bx
        rw [hy'] at cy by'
        clear hx' hy'
        revert b0 b1 HS2
        generalize sadF (fun i => xs.getD i 0) (fun i => ys.getD i 0) k = s
        intro b0 b1 HS2
        have r1 := mx2
        have r3 := mx3
        have e1 : IntKind.i64.wrap (x - y) = x - y := by rw [IntKind.wrap_i64]; omega
        have e2 : IntKind.i64.wrap (y - x) = y - x := by rw [IntKind.wrap_i64]; omega
        have e3 : IntKind.i64.wrap (s + max (x - y) (y - x)) = s + max (x - y) (y - x) := by rw [IntKind.wrap_i64]; omega
        go_wp2
        go_quiet (fail)
        go_wp2
        go_roundw
        case rel => exact ⟨k + 1, by omega, by go_num, by rw [HS2.out]; unfold stepOfsum; congr 1 <;> omega, hE.drewN _⟩
        case measure => simp [intOf]; omega
      · obtain rfl : k = n := by omega
        obtain ⟨r0, r1, f0, f1⟩ := RV.ext hE
        have t0 := hE.cell s0
        have t1 := hE.cell s1
        have E9 := E1.trans hE
        clear s0 s1 RV
        go_wp2
        go_region
        go_wp2
        obtain ⟨e0, e1⟩ := res_cells (c := 0) r0 r1 (.slice none 0 0)
        exact bodyPost_ret (v := .tuple #[.int .i64 (sadF (fun i => xs.getD i 0) (fun i => ys.getD i 0) k), .agg #[.int .i64 0, .slice none 0 0]]) (by simp [results, Tryd.results28, go_sem, e0, e1]) rfl ⟨_, _, _, _, by rw [HV.out], ((E9.setCell (p := ⟨w.heap.size + 2, 0, none⟩) (Nat.le_add_right _ 2) _).setCell (p := ⟨w.heap.size + 2, 1, none⟩) (Nat.le_add_right _ 2) _).drew, RErrIs.zero⟩
set_option maxRecDepth 20000 in
set_option maxHeartbeats 4000000 in
theorem rpeak_any (W H W' H' : Int) (xs ys : List Int) (a b : Option Addr) (n m ca cb : Nat) (w : World) (ha : Ints w (.slice a n ca) xs) (hb : Ints w (.slice b m cb) ys) :
    Calls Tryd.prog 26 #[.agg #[.int .i64 W, .int .i64 H, .slice a n ca], .agg #[.int .i64 W', .int .i64 H', .slice b m cb]] w (RIPost w (peakV W H xs W' H' ys) (frAns W H xs W' H' ys)) := by
  have RT := Lib.hid (fun w h k => rboth_any W H W' H' xs ys a b n m ca cb w h k)
  cases hm : frAns W H xs W' H' ys with
  | some f =>
    obtain ⟨p, k⟩ := f
    have HV : Hid (peakV W H xs W' H' ys = 0) := by show _ = _; unfold peakV; rw [hm]
    rw [hm] at RT
    clear hm
    have FG0 := FrBox.two w W H W' H' (.slice a n ca) (.slice b m cb)
    have RV : ResAt (((w.alloc (.cells #[.int .i64 W, .int .i64 H, .slice a n ca] 24)).alloc (.cells #[.int .i64 W', .int .i64 H', .slice b m cb] 24)).alloc (.cells #[.int .i64 0, .slice none 0 0] 34)) (w.heap.size + 2) := by
      have := ResAt.new ((w.alloc (.cells #[.int .i64 W, .int .i64 H, .slice a n ca] 24)).alloc (.cells #[.int .i64 W', .int .i64 H', .slice b m cb] 24))
      simpa using this
    have FB := FG0.1.ext ((Ext.refl _).alloc (.cells #[.int .i64 0, .slice none 0 0] 34))
    have GB := FG0.2.ext ((Ext.refl _).alloc (.cells #[.int .i64 0, .slice none 0 0] 34))
    clear FG0
    have EB : Ext w (((w.alloc (.cells #[.int .i64 W, .int .i64 H, .slice a n ca] 24)).alloc (.cells #[.int .i64 W', .int .i64 H', .slice b m cb] 24)).alloc (.cells #[.int .i64 0, .slice none 0 0] 34)) := (by repeat (first | exact Ext.refl _ | assumption | refine Ext.alloc ?_ _ | refine Ext.drew ?_ | refine Ext.drewN ?_ _ | refine Ext.setCell ?_ (by first | exact Nat.le_refl _ | (simp; done) | omega) _ | refine Ext.trans ?_ (by assumption)))
    go_enter Tryd.func26, Tryd.ntmps26
    go_wp2_with fail
    revert RV FB GB EB
    generalize ((w.alloc (.cells #[.int .i64 W, .int .i64 H, .slice a n ca] 24)).alloc (.cells #[.int .i64 W', .int .i64 H', .slice b m cb] 24)).alloc (.cells #[.int .i64 0, .slice none 0 0] 34) = w0
    intro RV FB GB EB
    have FH := Lib.hid FB
    have GH := Lib.hid GB
    have RH := Lib.hid RV
    obtain ⟨p0, p1, p2⟩ := FB
    obtain ⟨q0, q1, q2⟩ := GB
    clear RV
    refine (RT.out _ (ha.ext (by repeat (first | exact Ext.refl _ | assumption | refine Ext.alloc ?_ _ | refine Ext.drew ?_ | refine Ext.drewN ?_ _ | refine Ext.setCell ?_ (by first | exact Nat.le_refl _ | (simp; done) | omega) _ | refine Ext.trans ?_ (by assumption)))) (hb.ext (by repeat (first | exact Ext.refl _ | assumption | refine Ext.alloc ?_ _ | refine Ext.drew ?_ | refine Ext.drewN ?_ _ | refine Ext.setCell ?_ (by first | exact Nat.le_refl _ | (simp; done) | omega) _ | refine Ext.trans ?_ (by assumption))))).mono ?_; rintro e w1 ⟨c, rfl, hx1, hr1⟩
    have A1 : Ext w1 (w1.alloc (.cells #[.int .i64 c, .slice none 0 0] 34)) := (Ext.refl w1).alloc _
    have E1 : Ext w (w1.alloc (.cells #[.int .i64 c, .slice none 0 0] 34)) := EB.trans (hx1.trans A1)
    have FH := (FH.out.ext hx1).ext A1
    have GH := (GH.out.ext hx1).ext A1
    have RV := (RH.out.ext hx1).ext A1
    have s0 : (w1.alloc (.cells #[.int .i64 c, .slice none 0 0] 34)).cell? ⟨w1.heap.size, 0, none⟩ = some (.int .i64 c) := by simp
    have s1 : (w1.alloc (.cells #[.int .i64 c, .slice none 0 0] 34)).cell? ⟨w1.heap.size, 1, none⟩ = some (.slice none 0 0) := by simp
    clear p0 p1 p2 q0 q1 q2 RH A1
    go_wp2_with fail
    obtain ⟨B, hB⟩ : ∃ B, B = w1.heap.size := ⟨_, rfl⟩
    rw [← hB] at s0 s1 ⊢
    clear hB EB
    revert E1 FH GH RV s0 s1
    generalize w1.alloc (.cells #[.int .i64 c, .slice none 0 0] 34) = wS
    intro E1 FH GH RV s0 s1
    have FH := Lib.hid FH
    have GH := Lib.hid GH
    clear hx1
    obtain ⟨rfl, rfl, hc⟩ := rfall_plain hr1
    have hc0 : (c == 0) = false := by simpa using hc
    have HC := Lib.hid hc
    clear hc
    refine wp_loop_rounds 1 ?_
    rw [rounds_succ]
    go_wp2_with fail
    refine (ok_any c _ _).mono ?_; rintro e wA ⟨rfl, hxA⟩
    rw [hc0]
    obtain ⟨r0, r1, f0, f1⟩ := RV.ext hxA
    have t0 := hxA.cell s0
    have t1 := hxA.cell s1
    have E9 : Ext w wA := (by repeat (first | exact Ext.refl _ | assumption | refine Ext.alloc ?_ _ | refine Ext.drew ?_ | refine Ext.drewN ?_ _ | refine Ext.setCell ?_ (by first | exact Nat.le_refl _ | (simp; done) | omega) _ | refine Ext.trans ?_ (by assumption)))
    clear RV s0 s1
    go_wp2
    go_region
    go_wp2
    obtain ⟨e0, e1⟩ := res_cells (c := c) r0 r1 (.slice none 0 0)
    exact bodyPost_ret (v := .tuple #[.int .i64 0, .agg #[.int .i64 c, .slice none 0 0]]) (by simp [results, Tryd.results26, go_sem, e0, e1]) rfl ⟨_, _, _, _, by rw [HV.out], ((E9.setCell (p := ⟨w.heap.size + 2, 0, none⟩) (Nat.le_add_right _ 2) _).setCell (p := ⟨w.heap.size + 2, 1, none⟩) (Nat.le_add_right _ 2) _).drew, RErrIs.code HC.out⟩
  | none =>
    obtain ⟨h1, h2, -, -⟩ := frAns_none hm
    have hl := frAns_len hm
    have hlen := may_len h1
    have HX := Lib.hid (may_getD h1)
    have HY := Lib.hid (may_getD h2)
    have HV : Hid (peakV W H xs W' H' ys = peakF (fun i => xs.getD i 0) (fun i => ys.getD i 0) xs.length) := by show _ = _; unfold peakV; rw [hm]
    rw [hm] at RT
    have hn := ha.len
    have hm' := hb.len
    rw [← hn] at HV hlen hl
    rw [← hm'] at hl
    have HN := Lib.hid hn
    have HL := Lib.hid hm'
    have HNM := Lib.hid hl
    clear hl
    have AG := Lib.hid ha.had
    have BG := Lib.hid hb.had
    clear hm h1 h2 hn hm'
    have FG0 := FrBox.two w W H W' H' (.slice a n ca) (.slice b m cb)
    have RV : ResAt (((w.alloc (.cells #[.int .i64 W, .int .i64 H, .slice a n ca] 24)).alloc (.cells #[.int .i64 W', .int .i64 H', .slice b m cb] 24)).alloc (.cells #[.int .i64 0, .slice none 0 0] 34)) (w.heap.size + 2) := by
      have := ResAt.new ((w.alloc (.cells #[.int .i64 W, .int .i64 H, .slice a n ca] 24)).alloc (.cells #[.int .i64 W', .int .i64 H', .slice b m cb] 24))
      simpa using this
    have FB := FG0.1.ext ((Ext.refl _).alloc (.cells #[.int .i64 0, .slice none 0 0] 34))
    have GB := FG0.2.ext ((Ext.refl _).alloc (.cells #[.int .i64 0, .slice none 0 0] 34))
    clear FG0
    have EB : Ext w (((w.alloc (.cells #[.int .i64 W, .int .i64 H, .slice a n ca] 24)).alloc (.cells #[.int .i64 W', .int .i64 H', .slice b m cb] 24)).alloc (.cells #[.int .i64 0, .slice none 0 0] 34)) := (by repeat (first | exact Ext.refl _ | assumption | refine Ext.alloc ?_ _ | refine Ext.drew ?_ | refine Ext.drewN ?_ _ | refine Ext.setCell ?_ (by first | exact Nat.le_refl _ | (simp; done) | omega) _ | refine Ext.trans ?_ (by assumption)))
    go_enter Tryd.func26, Tryd.ntmps26
    go_wp2_with fail
    revert RV FB GB EB
    generalize ((w.alloc (.cells #[.int .i64 W, .int .i64 H, .slice a n ca] 24)).alloc (.cells #[.int .i64 W', .int .i64 H', .slice b m cb] 24)).alloc (.cells #[.int .i64 0, .slice none 0 0] 34) = w0
    intro RV FB GB EB
    have FH := Lib.hid FB
    have GH := Lib.hid GB
    have RH := Lib.hid RV
    obtain ⟨p0, p1, p2⟩ := FB
    obtain ⟨q0, q1, q2⟩ := GB
    clear RV
    refine (RT.out _ (ha.ext (by repeat (first | exact Ext.refl _ | assumption | refine Ext.alloc ?_ _ | refine Ext.drew ?_ | refine Ext.drewN ?_ _ | refine Ext.setCell ?_ (by first | exact Nat.le_refl _ | (simp; done) | omega) _ | refine Ext.trans ?_ (by assumption)))) (hb.ext (by repeat (first | exact Ext.refl _ | assumption | refine Ext.alloc ?_ _ | refine Ext.drew ?_ | refine Ext.drewN ?_ _ | refine Ext.setCell ?_ (by first | exact Nat.le_refl _ | (simp; done) | omega) _ | refine Ext.trans ?_ (by assumption))))).mono ?_; rintro e w1 ⟨c, rfl, hx1, hr1⟩
    have A1 : Ext w1 (w1.alloc (.cells #[.int .i64 c, .slice none 0 0] 34)) := (Ext.refl w1).alloc _
    have E1 : Ext w (w1.alloc (.cells #[.int .i64 c, .slice none 0 0] 34)) := EB.trans (hx1.trans A1)
    have FH := (FH.out.ext hx1).ext A1
    have GH := (GH.out.ext hx1).ext A1
    have RV := (RH.out.ext hx1).ext A1
    have s0 : (w1.alloc (.cells #[.int .i64 c, .slice none 0 0] 34)).cell? ⟨w1.heap.size, 0, none⟩ = some (.int .i64 c) := by simp
    have s1 : (w1.alloc (.cells #[.int .i64 c, .slice none 0 0] 34)).cell? ⟨w1.heap.size, 1, none⟩ = some (.slice none 0 0) := by simp
    clear p0 p1 p2 q0 q1 q2 RH A1
    go_wp2_with fail
    obtain ⟨B, hB⟩ : ∃ B, B = w1.heap.size := ⟨_, rfl⟩
    rw [← hB] at s0 s1 ⊢
    clear hB EB
    revert E1 FH GH RV s0 s1
    generalize w1.alloc (.cells #[.int .i64 c, .slice none 0 0] 34) = wS
    intro E1 FH GH RV s0 s1
    have FH := Lib.hid FH
    have GH := Lib.hid GH
    clear hx1
    obtain ⟨rfl, -⟩ := hr1
    go_loopw [7, 8] (fun sv iv wr => ∃ k : Nat, k ≤ n ∧ iv = .int .i64 k ∧ sv = .int .i64 (peakF (fun i => xs.getD i 0) (fun i => ys.getD i 0) k) ∧ Ext wS wr) (fun _ iv _ => n - (intOf iv).toNat)
    case atStart => exact ⟨0, Nat.zero_le _, rfl, rfl, Ext.refl _⟩
    case round =>
      obtain ⟨k, hk, rfl, rfl, hE⟩ := hrel
      have t0 := hE.cell s0
      have t1 := hE.cell s1
      go_wp2_with fail
      refine (ok_any 0 _ _).mono ?_; rintro e wA ⟨rfl, hxA⟩
      rw [show ((0 : Int) == 0) = true from rfl]
      have hE : Ext wS wA := hE.trans hxA
      obtain ⟨p0, p1, p2⟩ := FH.out.ext hE
      obtain ⟨q0, q1, q2⟩ := GH.out.ext hE
      clear hxA t0 t1
      by_cases hlt : k < n
      · obtain ⟨x, hx'⟩ : ∃ x, xs.getD k 0 = x := ⟨_, rfl⟩
        obtain ⟨y, hy'⟩ : ∃ y, ys.getD k 0 = y := ⟨_, rfl⟩
        obtain ⟨g, off, rfl⟩ := AG.out (by omega)
        have hkm : k < m := by have := HNM.out; omega
        obtain ⟨g', off', rfl⟩ := BG.out (by omega)
        have cx := (E1.trans hE).cell (ha.at (get_of_lt (by rw [← HN.out]; exact hlt)))
        have cy := (E1.trans hE).cell (hb.at (get_of_lt (by rw [← HL.out]; exact hkm)))
        have bx := HX.out k
        have by' := HY.out k
        have b0 := peakF_le HX.out HY.out k
        have b1 := peakF_pos (fun i => xs.getD i 0) (fun i => ys.getD i 0) k
        have HS2 : Hid (peakF (fun i => xs.getD i 0) (fun i => ys.getD i 0) (k + 1) = stepOfpeak (peakF (fun i => xs.getD i 0) (fun i => ys.getD i 0) k) x y) := by show _ = _; rw [← hx', ← hy']; rfl
        rw [hx'] at cx bx
        rw [hy'] at cy by'
        clear hx' hy'
        revert b0 b1 HS2
        generalize peakF (fun i => xs.getD i 0) (fun i => ys.getD i 0) k = s
        intro b0 b1 HS2
        have r1 := mx2
        have r3 := mx3
        have e1 : IntKind.i64.wrap (x - y) = x - y := by rw [IntKind.wrap_i64]; omega
        have e2 : IntKind.i64.wrap (y - x) = y - x := by rw [IntKind.wrap_i64]; omega
        have e3 : IntKind.i64.wrap (s + max (x - y) (y - x)) = s + max (x - y) (y - x) := by rw [IntKind.wrap_i64]; omega
        go_wp2
        go_quiet (fail)
        go_wp2
        go_roundw
        case rel => exact ⟨k + 1, by omega, by go_num, by rw [HS2.out]; unfold stepOfpeak; congr 1 <;> omega, hE.drewN _⟩
        case measure => simp [intOf]; omega
      · obtain rfl : k = n := by omega
        obtain ⟨r0, r1, f0, f1⟩ := RV.ext hE
        have t0 := hE.cell s0
        have t1 := hE.cell s1
        have E9 := E1.trans hE
        clear s0 s1 RV
        go_wp2
        go_region
        go_wp2
        obtain ⟨e0, e1⟩ := res_cells (c := 0) r0 r1 (.slice none 0 0)
        exact bodyPost_ret (v := .tuple #[.int .i64 (peakF (fun i => xs.getD i 0) (fun i => ys.getD i 0) k), .agg #[.int .i64 0, .slice none 0 0]]) (by simp [results, Tryd.results26, go_sem, e0, e1]) rfl ⟨_, _, _, _, by rw [HV.out], ((E9.setCell (p := ⟨w.heap.size + 2, 0, none⟩) (Nat.le_add_right _ 2) _).setCell (p := ⟨w.heap.size + 2, 1, none⟩) (Nat.le_add_right _ 2) _).drew, RErrIs.zero⟩
end Go.Proofs.YtkighedghgcdjaaDoor
