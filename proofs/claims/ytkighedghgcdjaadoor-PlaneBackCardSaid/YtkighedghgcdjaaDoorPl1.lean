/- kinlaw6.first; kinlaw6.PlanePeaks: the walks. -/
import Derived.Test.YtkighedghgcdjaaDoorTwF
import Derived.Test.YtkighedghgcdjaaDoorPlN
namespace Go.Proofs.YtkighedghgcdjaaDoor
set_option linter.unusedVariables false
set_option linter.unusedSimpArgs false
open Go.RowKit Go.Extern.Stop Go.Stop Go.Extern

def Z64 : List Int := rowL 64 fun _ => 128
theorem z64_may : may 8 8 Z64 := by decide +kernel
theorem z64_at : atA 8 8 Z64 (-5) 99 = 128 := by decide +kernel
theorem z64_63 : Z64[63]? = some 128 := by decide +kernel
theorem clip_lo : clipI (-3) = 0 := by decide
theorem clip_hi : clipI 300 = 255 := by decide
set_option maxRecDepth 20000 in
set_option maxHeartbeats 2000000 in
theorem first6_any (w : World) (hg : EtIs w) : Calls Tryd.prog 15 #[] w fun e w' => e = .returned (.bool true) ∧ Ext w w' := by
  have S1 : Hid (∀ W, Calls Tryd.prog 17 #[.int .i64 8, .int .i64 8, .int .i64 128] W (FPost W 8 8 Z64 none)) := fun W => new_ok 8 8 128 W (by decide)
  have S2 : Hid (∀ W, Calls Tryd.prog 17 #[.int .i64 12, .int .i64 8, .int .i64 0] W (FPost W 0 0 [] range)) := fun W => new_no 12 8 0 W (by decide)
  go_enter Tryd.func15, Tryd.ntmps15
  go_wp2_with fail
  refine (S1.out _).mono ?_; rintro e w1 ⟨a1, n1, c1, x1, rfl, hx1, hz1, he1⟩
  obtain rfl : x1 = .nilIface := he1
  have hn1 := hz1.len
  rw [show Z64.length = 64 from rowL_length _ _] at hn1
  subst hn1
  obtain ⟨g, off, rfl⟩ := hz1.had (by decide)
  go_wp2_with fail
  refine (S2.out _).mono ?_; rintro e w2 ⟨a2, n2, c2, x2, rfl, hx2, hz2, he2⟩
  have A2 : Ext w2 (w2.alloc (.cells #[.int .i64 0, .int .i64 0, .slice a2 n2 c2] 24)) := (Ext.refl w2).alloc _
  have FB := Lib.hid (((FrBox.new w1 8 8 (.slice (some ⟨g, off, none⟩) 64 c1)).ext hx2).ext A2)
  obtain ⟨p0, p1, p2⟩ := FB.out
  have c63 : (w2.alloc (.cells #[.int .i64 0, .int .i64 0, .slice a2 n2 c2] 24)).cell? ⟨g, off + 63, none⟩ = some (.int .i64 128) := (hz1.ext (by repeat (first | exact Ext.refl _ | assumption | refine Ext.alloc ?_ _ | refine Ext.drew ?_ | refine Ext.drewN ?_ _ | refine Ext.setCell ?_ (by first | exact Nat.le_refl _ | (simp; done) | omega) _ | refine Ext.trans ?_ (by assumption)))).at z64_63
  clear A2
  go_wp2_with fail
  refine (At_any 8 8 (-5) 99 Z64 _ _ _ _ (hz1.ext (by repeat (first | exact Ext.refl _ | assumption | refine Ext.alloc ?_ _ | refine Ext.drew ?_ | refine Ext.drewN ?_ _ | refine Ext.setCell ?_ (by first | exact Nat.le_refl _ | (simp; done) | omega) _ | refine Ext.trans ?_ (by assumption))))).mono ?_; rintro e w3 ⟨rfl, hx3⟩
  rw [z64_at]
  go_wp2_with fail
  refine (fail_any 3 _).mono ?_; rintro e w4 ⟨rfl, hx4⟩
  go_wp2_with fail
  refine (same_fall range _ _ _ _ (hg.ext (by repeat (first | exact Ext.refl _ | assumption | refine Ext.alloc ?_ _ | refine Ext.drew ?_ | refine Ext.drewN ?_ _ | refine Ext.setCell ?_ (by first | exact Nat.le_refl _ | (simp; done) | omega) _ | refine Ext.trans ?_ (by assumption)))) (he2.ext (by repeat (first | exact Ext.refl _ | assumption | refine Ext.alloc ?_ _ | refine Ext.drew ?_ | refine Ext.drewN ?_ _ | refine Ext.setCell ?_ (by first | exact Nat.le_refl _ | (simp; done) | omega) _ | refine Ext.trans ?_ (by assumption)))) (RErrIs.code (by decide))).mono ?_; rintro e w5 ⟨rfl, hx5⟩
  obtain ⟨q0, q1, q2⟩ := ((FB.out.ext hx3).ext hx4).ext hx5
  go_wp2_with fail
  refine (clip_any _ _).mono ?_; rintro e w6 ⟨rfl, rfl⟩
  rw [clip_lo]
  go_wp2_with fail
  refine (clip_any _ _).mono ?_; rintro e w6 ⟨rfl, rfl⟩
  rw [clip_hi]
  go_wp2_with fail
  refine (may_any 8 8 Z64 _ _ _ _ (hz1.ext (by repeat (first | exact Ext.refl _ | assumption | refine Ext.alloc ?_ _ | refine Ext.drew ?_ | refine Ext.drewN ?_ _ | refine Ext.setCell ?_ (by first | exact Nat.le_refl _ | (simp; done) | omega) _ | refine Ext.trans ?_ (by assumption))))).mono ?_; rintro e w8 ⟨rfl, hx8⟩
  rw [decide_eq_true z64_may]
  go_wp2
  go_ret
  exact ⟨rfl, (by repeat (first | exact Ext.refl _ | assumption | refine Ext.alloc ?_ _ | refine Ext.drew ?_ | refine Ext.drewN ?_ _ | refine Ext.setCell ?_ (by first | exact Nat.le_refl _ | (simp; done) | omega) _ | refine Ext.trans ?_ (by assumption)))⟩

theorem peakF_comm (f g : Nat → Int) (n : Nat) : peakF f g n = peakF g f n := by
  induction n with
  | zero => rfl
  | succ n ih => unfold peakF; omega
theorem peakF_zero (f g : Nat → Int) (n : Nat) : peakF f g n = 0 ↔ ∀ j, j < n → f j = g j := by
  induction n with
  | zero => simp [peakF]
  | succ n ih =>
    have hp := peakF_pos f g n
    unfold peakF
    constructor
    · intro h j hj
      have h0 : peakF f g n = 0 := by omega
      by_cases hjn : j = n
      · subst hjn; omega
      · exact ih.1 h0 j (by omega)
    · intro h
      have h0 := ih.2 fun j hj => h j (by omega)
      have := h n (by omega)
      omega
theorem peak_sad (f g : Nat → Int) (n : Nat) : peakF f g n ≤ sadF f g n := by
  induction n with
  | zero => simp [peakF, sadF]
  | succ n ih => have := sadF_pos f g n; have := peakF_pos f g n; unfold peakF sadF; omega
theorem sad_peak (f g : Nat → Int) (n : Nat) : sadF f g n ≤ peakF f g n * n := by
  induction n with
  | zero => simp [sadF]
  | succ n ih =>
    have h1 : peakF f g n ≤ peakF f g (n + 1) := by show _ ≤ max (peakF f g n) (max (f n - g n) (g n - f n)); omega
    have h2 : max (f n - g n) (g n - f n) ≤ peakF f g (n + 1) := by show _ ≤ max (peakF f g n) (max (f n - g n) (g n - f n)); omega
    have h3 : peakF f g n * n ≤ peakF f g (n + 1) * n := Int.mul_le_mul_of_nonneg_right h1 (by omega)
    have h4 : peakF f g (n + 1) * ((n + 1 : Nat) : Int) = peakF f g (n + 1) * n + peakF f g (n + 1) := by push_cast; rw [Int.mul_add, Int.mul_one]
    rw [h4]
    show sadF f g n + max (f n - g n) (g n - f n) ≤ _
    omega
/-- what PlanePeaks asks of a sum and a peak -/
theorem peak_facts {W H W' H' : Int} {xs ys : List Int} (h : frAns W H xs W' H' ys = none) :
    ((peakV W H xs W' H' ys == 0) = sameB W H xs W' H' ys) ∧ ((sumV W H xs W' H' ys == 0) = sameB W H xs W' H' ys) ∧ sumV W H xs W' H' ys ≤ peakV W H xs W' H' ys * W * H ∧ peakV W H xs W' H' ys ≤ sumV W H xs W' H' ys ∧ 0 ≤ peakV W H xs W' H' ys ∧ peakV W H xs W' H' ys ≤ 255 ∧ 8 ≤ W ∧ W ≤ 32 ∧ 8 ≤ H ∧ H ≤ 32 := by
  have hl := frAns_len h
  have e1 : peakV W H xs W' H' ys = peakF (fun i => xs.getD i 0) (fun i => ys.getD i 0) xs.length := by unfold peakV; rw [h]
  have e2 : sumV W H xs W' H' ys = sadF (fun i => xs.getD i 0) (fun i => ys.getD i 0) xs.length := by unfold sumV; rw [h]
  obtain ⟨h1, h2, rfl, rfl⟩ := frAns_none h
  have sW := sideB_true h1.1
  have sH := sideB_true h1.2.1
  have key : (∀ j, j < xs.length → (fun i => xs.getD i 0) j = (fun i => ys.getD i 0) j) ↔ xs = ys := by
    constructor
    · intro hj
      apply List.ext_getElem?
      intro j
      by_cases hlt : j < xs.length
      · rw [get_of_lt hlt, get_of_lt (by rw [← hl]; exact hlt)]
        exact congrArg some (hj j hlt)
      · rw [List.getElem?_eq_none (by omega), List.getElem?_eq_none (by omega)]
    · rintro rfl j _
      rfl
  have es : sameB W H xs W H ys = decide (xs = ys) := by unfold sameB; simp [h1]
  rw [e1, e2, es]
  refine ⟨?_, ?_, ?_, peak_sad _ _ _, peakF_pos _ _ _, peakF_le (may_getD h1) (may_getD h2) _, sW.1, sW.2.1, sH.1, sH.2.1⟩
  · rw [Bool.eq_iff_iff, decide_eq_true_iff, beq_iff_eq, peakF_zero, key]
  · rw [Bool.eq_iff_iff, decide_eq_true_iff, beq_iff_eq, sadF_zero, key]
  · have := sad_peak (fun i => xs.getD i 0) (fun i => ys.getD i 0) xs.length
    rw [h1.2.2.1, ← Int.mul_assoc] at this
    exact this
theorem peak_no {W H W' H' : Int} {xs ys : List Int} {f : List (ByteArray × Int) × Int} (h : frAns W H xs W' H' ys = some f) : sameB W H xs W' H' ys = false := by
  rw [Bool.eq_false_iff]
  intro hs
  unfold sameB at hs
  simp only [Bool.and_eq_true, decide_eq_true_eq] at hs
  obtain ⟨h1, rfl, rfl, rfl⟩ := hs
  unfold frAns at h
  rw [if_pos ⟨h1, h1⟩, if_pos ⟨rfl, rfl⟩] at h
  cases h
theorem peakV_comm (W H : Int) (xs : List Int) (W' H' : Int) (ys : List Int) : peakV W' H' ys W H xs = peakV W H xs W' H' ys := by
  unfold peakV
  rw [frAns_comm W' H' ys W H xs]
  cases h : frAns W H xs W' H' ys with
  | none => show peakF _ _ _ = peakF _ _ _; rw [peakF_comm, frAns_len h]
  | some f => rfl
theorem sumV_comm (W H : Int) (xs : List Int) (W' H' : Int) (ys : List Int) : sumV W' H' ys W H xs = sumV W H xs W' H' ys := by
  unfold sumV
  rw [frAns_comm W' H' ys W H xs]
  cases h : frAns W H xs W' H' ys with
  | none => show sadF _ _ _ = sadF _ _ _; rw [sadF_comm, frAns_len h]
  | some f => rfl

set_option maxHeartbeats 2000000 in
set_option maxRecDepth 20000 in
theorem peaks_long (W H W' H' : Int) (a b : Option Addr) (n m ca cb : Nat) (w : World) (hg : EtIs w) (hl : 5000 < n ∨ ¬ 5000 < n ∧ 5000 < m) :
    Calls Tryd.prog 7 #[.agg #[.int .i64 W, .int .i64 H, .slice a n ca], .agg #[.int .i64 W', .int .i64 H', .slice b m cb]] w fun e w' => e = .returned (.bool true) ∧ Ext w w' := by
  rcases hl with h1 | ⟨h1, h2⟩
  · have HB0 := Lib.hid (FrBox.two w W H W' H' (.slice a n ca) (.slice b m cb))
    have EB : Ext w ((w.alloc (.cells #[.int .i64 W, .int .i64 H, .slice a n ca] 24)).alloc (.cells #[.int .i64 W', .int .i64 H', .slice b m cb] 24)) := (by repeat (first | exact Ext.refl _ | assumption | refine Ext.alloc ?_ _ | refine Ext.drew ?_ | refine Ext.drewN ?_ _ | refine Ext.setCell ?_ (by first | exact Nat.le_refl _ | (simp; done) | omega) _ | refine Ext.trans ?_ (by assumption)))
    go_enter Tryd.func7, Tryd.ntmps7
    go_wp2_with fail
    revert HB0 EB
    generalize (w.alloc (.cells #[.int .i64 W, .int .i64 H, .slice a n ca] 24)).alloc (.cells #[.int .i64 W', .int .i64 H', .slice b m cb] 24) = w0
    intro HB0 EB
    refine (first6_any _ (hg.ext (by repeat (first | exact Ext.refl _ | assumption | refine Ext.alloc ?_ _ | refine Ext.drew ?_ | refine Ext.drewN ?_ _ | refine Ext.setCell ?_ (by first | exact Nat.le_refl _ | (simp; done) | omega) _ | refine Ext.trans ?_ (by assumption))))).mono ?_; rintro e w1 ⟨rfl, hx1⟩
    have F1 := Lib.hid (HB0.out.1.ext hx1)
    have G1 := Lib.hid (HB0.out.2.ext hx1)
    clear HB0
    obtain ⟨p0, p1, p2⟩ := F1.out
    obtain ⟨q0, q1, q2⟩ := G1.out
    go_wp2_with fail
    refine (few_any W H a n ca _).mono ?_; rintro e w2 ⟨rfl, hx2⟩
    have F2 := Lib.hid (F1.out.ext hx2)
    have G2 := Lib.hid (G1.out.ext hx2)
    clear F1 G1 p0 p1 p2 q0 q1 q2
    obtain ⟨p0, p1, p2⟩ := F2.out
    obtain ⟨q0, q1, q2⟩ := G2.out
    rw [decide_eq_false (by omega)]
    go_wp2_with fail
    refine (first6_any _ (hg.ext (by repeat (first | exact Ext.refl _ | assumption | refine Ext.alloc ?_ _ | refine Ext.drew ?_ | refine Ext.drewN ?_ _ | refine Ext.setCell ?_ (by first | exact Nat.le_refl _ | (simp; done) | omega) _ | refine Ext.trans ?_ (by assumption))))).mono ?_; rintro e w9 ⟨rfl, hx9⟩
    go_wp2
    go_ret
    exact ⟨rfl, (by repeat (first | exact Ext.refl _ | assumption | refine Ext.alloc ?_ _ | refine Ext.drew ?_ | refine Ext.drewN ?_ _ | refine Ext.setCell ?_ (by first | exact Nat.le_refl _ | (simp; done) | omega) _ | refine Ext.trans ?_ (by assumption)))⟩
  · have HB0 := Lib.hid (FrBox.two w W H W' H' (.slice a n ca) (.slice b m cb))
    have EB : Ext w ((w.alloc (.cells #[.int .i64 W, .int .i64 H, .slice a n ca] 24)).alloc (.cells #[.int .i64 W', .int .i64 H', .slice b m cb] 24)) := (by repeat (first | exact Ext.refl _ | assumption | refine Ext.alloc ?_ _ | refine Ext.drew ?_ | refine Ext.drewN ?_ _ | refine Ext.setCell ?_ (by first | exact Nat.le_refl _ | (simp; done) | omega) _ | refine Ext.trans ?_ (by assumption)))
    go_enter Tryd.func7, Tryd.ntmps7
    go_wp2_with fail
    revert HB0 EB
    generalize (w.alloc (.cells #[.int .i64 W, .int .i64 H, .slice a n ca] 24)).alloc (.cells #[.int .i64 W', .int .i64 H', .slice b m cb] 24) = w0
    intro HB0 EB
    refine (first6_any _ (hg.ext (by repeat (first | exact Ext.refl _ | assumption | refine Ext.alloc ?_ _ | refine Ext.drew ?_ | refine Ext.drewN ?_ _ | refine Ext.setCell ?_ (by first | exact Nat.le_refl _ | (simp; done) | omega) _ | refine Ext.trans ?_ (by assumption))))).mono ?_; rintro e w1 ⟨rfl, hx1⟩
    have F1 := Lib.hid (HB0.out.1.ext hx1)
    have G1 := Lib.hid (HB0.out.2.ext hx1)
    clear HB0
    obtain ⟨p0, p1, p2⟩ := F1.out
    obtain ⟨q0, q1, q2⟩ := G1.out
    go_wp2_with fail
    refine (few_any W H a n ca _).mono ?_; rintro e w2 ⟨rfl, hx2⟩
    have F2 := Lib.hid (F1.out.ext hx2)
    have G2 := Lib.hid (G1.out.ext hx2)
    clear F1 G1 p0 p1 p2 q0 q1 q2
    obtain ⟨p0, p1, p2⟩ := F2.out
    obtain ⟨q0, q1, q2⟩ := G2.out
    rw [decide_eq_true (by omega)]
    go_wp2_with fail
    refine (few_any W' H' b m cb _).mono ?_; rintro e w3 ⟨rfl, hx3⟩
    have F3 := Lib.hid (F2.out.ext hx3)
    have G3 := Lib.hid (G2.out.ext hx3)
    clear F2 G2 p0 p1 p2 q0 q1 q2
    obtain ⟨p0, p1, p2⟩ := F3.out
    obtain ⟨q0, q1, q2⟩ := G3.out
    rw [decide_eq_false (by omega)]
    go_wp2_with fail
    refine (first6_any _ (hg.ext (by repeat (first | exact Ext.refl _ | assumption | refine Ext.alloc ?_ _ | refine Ext.drew ?_ | refine Ext.drewN ?_ _ | refine Ext.setCell ?_ (by first | exact Nat.le_refl _ | (simp; done) | omega) _ | refine Ext.trans ?_ (by assumption))))).mono ?_; rintro e w9 ⟨rfl, hx9⟩
    go_wp2
    go_ret
    exact ⟨rfl, (by repeat (first | exact Ext.refl _ | assumption | refine Ext.alloc ?_ _ | refine Ext.drew ?_ | refine Ext.drewN ?_ _ | refine Ext.setCell ?_ (by first | exact Nat.le_refl _ | (simp; done) | omega) _ | refine Ext.trans ?_ (by assumption)))⟩
set_option maxHeartbeats 4000000 in
set_option maxRecDepth 20000 in
theorem peaks_walk (W H W' H' : Int) (xs ys : List Int) (f : Fall) (P S : Int) (b0 : Bool) (a b : Option Addr) (n m ca cb : Nat) (w : World) (hg : EtIs w) (ha : Ints w (.slice a n ca) xs) (hb : Ints w (.slice b m cb) ys) (h1 : ¬ 5000 < n) (h2 : ¬ 5000 < m)
    (c1 : Hid (∀ w, Ints w (.slice a n ca) xs → Ints w (.slice b m cb) ys → Calls Tryd.prog 25 #[.agg #[.int .i64 W, .int .i64 H, .slice a n ca], .agg #[.int .i64 W', .int .i64 H', .slice b m cb]] w (IPost w P f)))
    (c2 : Hid (∀ w, Ints w (.slice a n ca) xs → Ints w (.slice b m cb) ys → Calls Tryd.prog 27 #[.agg #[.int .i64 W, .int .i64 H, .slice a n ca], .agg #[.int .i64 W', .int .i64 H', .slice b m cb]] w (IPost w S f)))
    (c3 : Hid (∀ w, Ints w (.slice b m cb) ys → Ints w (.slice a n ca) xs → Calls Tryd.prog 25 #[.agg #[.int .i64 W', .int .i64 H', .slice b m cb], .agg #[.int .i64 W, .int .i64 H, .slice a n ca]] w (IPost w P f)))
    (c4 : Hid (∀ w, Ints w (.slice b m cb) ys → Ints w (.slice a n ca) xs → Calls Tryd.prog 27 #[.agg #[.int .i64 W', .int .i64 H', .slice b m cb], .agg #[.int .i64 W, .int .i64 H, .slice a n ca]] w (IPost w S f)))
    (c5 : Hid (∀ w, Ints w (.slice a n ca) xs → Ints w (.slice b m cb) ys → Calls Tryd.prog 31 #[.agg #[.int .i64 W, .int .i64 H, .slice a n ca], .agg #[.int .i64 W', .int .i64 H', .slice b m cb]] w fun e w' => e = .returned (.bool b0) ∧ Ext w w'))
    (k0 : f ≠ none → b0 = false) (k1 : f = none → (P == 0) = b0 ∧ (S == 0) = b0 ∧ S ≤ P * W * H ∧ P ≤ S ∧ 0 ≤ P ∧ P ≤ 255 ∧ 8 ≤ W ∧ W ≤ 32 ∧ 8 ≤ H ∧ H ≤ 32) :
    Calls Tryd.prog 7 #[.agg #[.int .i64 W, .int .i64 H, .slice a n ca], .agg #[.int .i64 W', .int .i64 H', .slice b m cb]] w fun e w' => e = .returned (.bool true) ∧ Ext w w' := by
  cases f with
  | some f =>
    obtain rfl := k0 (by simp)
    clear k0 k1
    have HB0 := Lib.hid (FrBox.two w W H W' H' (.slice a n ca) (.slice b m cb))
    have EB : Ext w ((w.alloc (.cells #[.int .i64 W, .int .i64 H, .slice a n ca] 24)).alloc (.cells #[.int .i64 W', .int .i64 H', .slice b m cb] 24)) := (by repeat (first | exact Ext.refl _ | assumption | refine Ext.alloc ?_ _ | refine Ext.drew ?_ | refine Ext.drewN ?_ _ | refine Ext.setCell ?_ (by first | exact Nat.le_refl _ | (simp; done) | omega) _ | refine Ext.trans ?_ (by assumption)))
    go_enter Tryd.func7, Tryd.ntmps7
    go_wp2_with fail
    revert HB0 EB
    generalize (w.alloc (.cells #[.int .i64 W, .int .i64 H, .slice a n ca] 24)).alloc (.cells #[.int .i64 W', .int .i64 H', .slice b m cb] 24) = w0
    intro HB0 EB
    refine (first6_any _ (hg.ext (by repeat (first | exact Ext.refl _ | assumption | refine Ext.alloc ?_ _ | refine Ext.drew ?_ | refine Ext.drewN ?_ _ | refine Ext.setCell ?_ (by first | exact Nat.le_refl _ | (simp; done) | omega) _ | refine Ext.trans ?_ (by assumption))))).mono ?_; rintro e w1 ⟨rfl, hx1⟩
    have F1 := Lib.hid (HB0.out.1.ext hx1)
    have G1 := Lib.hid (HB0.out.2.ext hx1)
    clear HB0
    obtain ⟨p0, p1, p2⟩ := F1.out
    obtain ⟨q0, q1, q2⟩ := G1.out
    go_wp2_with fail
    refine (few_any W H a n ca _).mono ?_; rintro e w2 ⟨rfl, hx2⟩
    have F2 := Lib.hid (F1.out.ext hx2)
    have G2 := Lib.hid (G1.out.ext hx2)
    clear F1 G1 p0 p1 p2 q0 q1 q2
    obtain ⟨p0, p1, p2⟩ := F2.out
    obtain ⟨q0, q1, q2⟩ := G2.out
    rw [decide_eq_true (by omega)]
    go_wp2_with fail
    refine (few_any W' H' b m cb _).mono ?_; rintro e w3 ⟨rfl, hx3⟩
    have F3 := Lib.hid (F2.out.ext hx3)
    have G3 := Lib.hid (G2.out.ext hx3)
    clear F2 G2 p0 p1 p2 q0 q1 q2
    obtain ⟨p0, p1, p2⟩ := F3.out
    obtain ⟨q0, q1, q2⟩ := G3.out
    rw [decide_eq_true (by omega)]
    go_wp2_with fail
    refine (c1.out _ (ha.ext (by repeat (first | exact Ext.refl _ | assumption | refine Ext.alloc ?_ _ | refine Ext.drew ?_ | refine Ext.drewN ?_ _ | refine Ext.setCell ?_ (by first | exact Nat.le_refl _ | (simp; done) | omega) _ | refine Ext.trans ?_ (by assumption)))) (hb.ext (by repeat (first | exact Ext.refl _ | assumption | refine Ext.alloc ?_ _ | refine Ext.drew ?_ | refine Ext.drewN ?_ _ | refine Ext.setCell ?_ (by first | exact Nat.le_refl _ | (simp; done) | omega) _ | refine Ext.trans ?_ (by assumption))))).mono ?_; rintro e w4 ⟨x4, rfl, hx4, he4⟩
    have F4 := Lib.hid (F3.out.ext hx4)
    have G4 := Lib.hid (G3.out.ext hx4)
    clear F3 G3 p0 p1 p2 q0 q1 q2
    obtain ⟨p0, p1, p2⟩ := F4.out
    obtain ⟨q0, q1, q2⟩ := G4.out
    go_wp2_with fail
    refine (c2.out _ (ha.ext (by repeat (first | exact Ext.refl _ | assumption | refine Ext.alloc ?_ _ | refine Ext.drew ?_ | refine Ext.drewN ?_ _ | refine Ext.setCell ?_ (by first | exact Nat.le_refl _ | (simp; done) | omega) _ | refine Ext.trans ?_ (by assumption)))) (hb.ext (by repeat (first | exact Ext.refl _ | assumption | refine Ext.alloc ?_ _ | refine Ext.drew ?_ | refine Ext.drewN ?_ _ | refine Ext.setCell ?_ (by first | exact Nat.le_refl _ | (simp; done) | omega) _ | refine Ext.trans ?_ (by assumption))))).mono ?_; rintro e w5 ⟨x5, rfl, hx5, he5⟩
    have F5 := Lib.hid (F4.out.ext hx5)
    have G5 := Lib.hid (G4.out.ext hx5)
    clear F4 G4 p0 p1 p2 q0 q1 q2
    obtain ⟨p0, p1, p2⟩ := F5.out
    obtain ⟨q0, q1, q2⟩ := G5.out
    go_wp2_with fail
    refine (c3.out _ (hb.ext (by repeat (first | exact Ext.refl _ | assumption | refine Ext.alloc ?_ _ | refine Ext.drew ?_ | refine Ext.drewN ?_ _ | refine Ext.setCell ?_ (by first | exact Nat.le_refl _ | (simp; done) | omega) _ | refine Ext.trans ?_ (by assumption)))) (ha.ext (by repeat (first | exact Ext.refl _ | assumption | refine Ext.alloc ?_ _ | refine Ext.drew ?_ | refine Ext.drewN ?_ _ | refine Ext.setCell ?_ (by first | exact Nat.le_refl _ | (simp; done) | omega) _ | refine Ext.trans ?_ (by assumption))))).mono ?_; rintro e w6 ⟨x6, rfl, hx6, he6⟩
    have F6 := Lib.hid (F5.out.ext hx6)
    have G6 := Lib.hid (G5.out.ext hx6)
    clear F5 G5 p0 p1 p2 q0 q1 q2
    obtain ⟨p0, p1, p2⟩ := F6.out
    obtain ⟨q0, q1, q2⟩ := G6.out
    go_wp2_with fail
    refine (c4.out _ (hb.ext (by repeat (first | exact Ext.refl _ | assumption | refine Ext.alloc ?_ _ | refine Ext.drew ?_ | refine Ext.drewN ?_ _ | refine Ext.setCell ?_ (by first | exact Nat.le_refl _ | (simp; done) | omega) _ | refine Ext.trans ?_ (by assumption)))) (ha.ext (by repeat (first | exact Ext.refl _ | assumption | refine Ext.alloc ?_ _ | refine Ext.drew ?_ | refine Ext.drewN ?_ _ | refine Ext.setCell ?_ (by first | exact Nat.le_refl _ | (simp; done) | omega) _ | refine Ext.trans ?_ (by assumption))))).mono ?_; rintro e w7 ⟨x7, rfl, hx7, he7⟩
    have F7 := Lib.hid (F6.out.ext hx7)
    have G7 := Lib.hid (G6.out.ext hx7)
    clear F6 G6 p0 p1 p2 q0 q1 q2
    obtain ⟨t4, y4, rfl⟩ := he4.ne
    obtain ⟨t5, y5, rfl⟩ := he5.ne
    obtain ⟨t6, y6, rfl⟩ := he6.ne
    obtain ⟨t7, y7, rfl⟩ := he7.ne
    go_wp2_with fail
    refine (first6_any _ (hg.ext (by repeat (first | exact Ext.refl _ | assumption | refine Ext.alloc ?_ _ | refine Ext.drew ?_ | refine Ext.drewN ?_ _ | refine Ext.setCell ?_ (by first | exact Nat.le_refl _ | (simp; done) | omega) _ | refine Ext.trans ?_ (by assumption))))).mono ?_; rintro e w8 ⟨rfl, hx8⟩
    obtain ⟨p0, p1, p2⟩ := F7.out.ext hx8
    obtain ⟨q0, q1, q2⟩ := G7.out.ext hx8
    go_wp2_with fail
    refine (c5.out _ (ha.ext (by repeat (first | exact Ext.refl _ | assumption | refine Ext.alloc ?_ _ | refine Ext.drew ?_ | refine Ext.drewN ?_ _ | refine Ext.setCell ?_ (by first | exact Nat.le_refl _ | (simp; done) | omega) _ | refine Ext.trans ?_ (by assumption)))) (hb.ext (by repeat (first | exact Ext.refl _ | assumption | refine Ext.alloc ?_ _ | refine Ext.drew ?_ | refine Ext.drewN ?_ _ | refine Ext.setCell ?_ (by first | exact Nat.le_refl _ | (simp; done) | omega) _ | refine Ext.trans ?_ (by assumption))))).mono ?_; rintro e w9 ⟨rfl, hx9⟩
    go_wp2
    go_ret
    exact ⟨rfl, (by repeat (first | exact Ext.refl _ | assumption | refine Ext.alloc ?_ _ | refine Ext.drew ?_ | refine Ext.drewN ?_ _ | refine Ext.setCell ?_ (by first | exact Nat.le_refl _ | (simp; done) | omega) _ | refine Ext.trans ?_ (by assumption)))⟩
  | none =>
    obtain ⟨e1, e2, e3, e4, e5, e6, e7, e8, e9, e10⟩ := k1 rfl
    clear k0 k1
    have m1 : 0 ≤ P * W := Int.mul_nonneg e5 (by omega)
    have m2 : P * W ≤ 255 * 32 := Int.mul_le_mul e6 e8 (by omega) (by omega)
    have m3 : 0 ≤ P * W * H := Int.mul_nonneg m1 (by omega)
    have m4 : P * W * H ≤ 255 * 32 * 32 := Int.mul_le_mul m2 e10 (by omega) (by omega)
    have m5 : IntKind.i64.wrap (P * W) = P * W := by rw [IntKind.wrap_i64]; omega
    have m6 : IntKind.i64.wrap (P * W * H) = P * W * H := by rw [IntKind.wrap_i64]; omega
    clear m1 m2 m3 m4
    have HB0 := Lib.hid (FrBox.two w W H W' H' (.slice a n ca) (.slice b m cb))
    have EB : Ext w ((w.alloc (.cells #[.int .i64 W, .int .i64 H, .slice a n ca] 24)).alloc (.cells #[.int .i64 W', .int .i64 H', .slice b m cb] 24)) := (by repeat (first | exact Ext.refl _ | assumption | refine Ext.alloc ?_ _ | refine Ext.drew ?_ | refine Ext.drewN ?_ _ | refine Ext.setCell ?_ (by first | exact Nat.le_refl _ | (simp; done) | omega) _ | refine Ext.trans ?_ (by assumption)))
    go_enter Tryd.func7, Tryd.ntmps7
    go_wp2_with fail
    revert HB0 EB
    generalize (w.alloc (.cells #[.int .i64 W, .int .i64 H, .slice a n ca] 24)).alloc (.cells #[.int .i64 W', .int .i64 H', .slice b m cb] 24) = w0
    intro HB0 EB
    refine (first6_any _ (hg.ext (by repeat (first | exact Ext.refl _ | assumption | refine Ext.alloc ?_ _ | refine Ext.drew ?_ | refine Ext.drewN ?_ _ | refine Ext.setCell ?_ (by first | exact Nat.le_refl _ | (simp; done) | omega) _ | refine Ext.trans ?_ (by assumption))))).mono ?_; rintro e w1 ⟨rfl, hx1⟩
    have F1 := Lib.hid (HB0.out.1.ext hx1)
    have G1 := Lib.hid (HB0.out.2.ext hx1)
    clear HB0
    obtain ⟨p0, p1, p2⟩ := F1.out
    obtain ⟨q0, q1, q2⟩ := G1.out
    go_wp2_with fail
    refine (few_any W H a n ca _).mono ?_; rintro e w2 ⟨rfl, hx2⟩
    have F2 := Lib.hid (F1.out.ext hx2)
    have G2 := Lib.hid (G1.out.ext hx2)
    clear F1 G1 p0 p1 p2 q0 q1 q2
    obtain ⟨p0, p1, p2⟩ := F2.out
    obtain ⟨q0, q1, q2⟩ := G2.out
    rw [decide_eq_true (by omega)]
    go_wp2_with fail
    refine (few_any W' H' b m cb _).mono ?_; rintro e w3 ⟨rfl, hx3⟩
    have F3 := Lib.hid (F2.out.ext hx3)
    have G3 := Lib.hid (G2.out.ext hx3)
    clear F2 G2 p0 p1 p2 q0 q1 q2
    obtain ⟨p0, p1, p2⟩ := F3.out
    obtain ⟨q0, q1, q2⟩ := G3.out
    rw [decide_eq_true (by omega)]
    go_wp2_with fail
    refine (c1.out _ (ha.ext (by repeat (first | exact Ext.refl _ | assumption | refine Ext.alloc ?_ _ | refine Ext.drew ?_ | refine Ext.drewN ?_ _ | refine Ext.setCell ?_ (by first | exact Nat.le_refl _ | (simp; done) | omega) _ | refine Ext.trans ?_ (by assumption)))) (hb.ext (by repeat (first | exact Ext.refl _ | assumption | refine Ext.alloc ?_ _ | refine Ext.drew ?_ | refine Ext.drewN ?_ _ | refine Ext.setCell ?_ (by first | exact Nat.le_refl _ | (simp; done) | omega) _ | refine Ext.trans ?_ (by assumption))))).mono ?_; rintro e w4 ⟨x4, rfl, hx4, he4⟩
    have F4 := Lib.hid (F3.out.ext hx4)
    have G4 := Lib.hid (G3.out.ext hx4)
    clear F3 G3 p0 p1 p2 q0 q1 q2
    obtain ⟨p0, p1, p2⟩ := F4.out
    obtain ⟨q0, q1, q2⟩ := G4.out
    go_wp2_with fail
    refine (c2.out _ (ha.ext (by repeat (first | exact Ext.refl _ | assumption | refine Ext.alloc ?_ _ | refine Ext.drew ?_ | refine Ext.drewN ?_ _ | refine Ext.setCell ?_ (by first | exact Nat.le_refl _ | (simp; done) | omega) _ | refine Ext.trans ?_ (by assumption)))) (hb.ext (by repeat (first | exact Ext.refl _ | assumption | refine Ext.alloc ?_ _ | refine Ext.drew ?_ | refine Ext.drewN ?_ _ | refine Ext.setCell ?_ (by first | exact Nat.le_refl _ | (simp; done) | omega) _ | refine Ext.trans ?_ (by assumption))))).mono ?_; rintro e w5 ⟨x5, rfl, hx5, he5⟩
    have F5 := Lib.hid (F4.out.ext hx5)
    have G5 := Lib.hid (G4.out.ext hx5)
    clear F4 G4 p0 p1 p2 q0 q1 q2
    obtain ⟨p0, p1, p2⟩ := F5.out
    obtain ⟨q0, q1, q2⟩ := G5.out
    go_wp2_with fail
    refine (c3.out _ (hb.ext (by repeat (first | exact Ext.refl _ | assumption | refine Ext.alloc ?_ _ | refine Ext.drew ?_ | refine Ext.drewN ?_ _ | refine Ext.setCell ?_ (by first | exact Nat.le_refl _ | (simp; done) | omega) _ | refine Ext.trans ?_ (by assumption)))) (ha.ext (by repeat (first | exact Ext.refl _ | assumption | refine Ext.alloc ?_ _ | refine Ext.drew ?_ | refine Ext.drewN ?_ _ | refine Ext.setCell ?_ (by first | exact Nat.le_refl _ | (simp; done) | omega) _ | refine Ext.trans ?_ (by assumption))))).mono ?_; rintro e w6 ⟨x6, rfl, hx6, he6⟩
    have F6 := Lib.hid (F5.out.ext hx6)
    have G6 := Lib.hid (G5.out.ext hx6)
    clear F5 G5 p0 p1 p2 q0 q1 q2
    obtain ⟨p0, p1, p2⟩ := F6.out
    obtain ⟨q0, q1, q2⟩ := G6.out
    go_wp2_with fail
    refine (c4.out _ (hb.ext (by repeat (first | exact Ext.refl _ | assumption | refine Ext.alloc ?_ _ | refine Ext.drew ?_ | refine Ext.drewN ?_ _ | refine Ext.setCell ?_ (by first | exact Nat.le_refl _ | (simp; done) | omega) _ | refine Ext.trans ?_ (by assumption)))) (ha.ext (by repeat (first | exact Ext.refl _ | assumption | refine Ext.alloc ?_ _ | refine Ext.drew ?_ | refine Ext.drewN ?_ _ | refine Ext.setCell ?_ (by first | exact Nat.le_refl _ | (simp; done) | omega) _ | refine Ext.trans ?_ (by assumption))))).mono ?_; rintro e w7 ⟨x7, rfl, hx7, he7⟩
    have F7 := Lib.hid (F6.out.ext hx7)
    have G7 := Lib.hid (G6.out.ext hx7)
    clear F6 G6 p0 p1 p2 q0 q1 q2
    obtain rfl : x4 = .nilIface := he4
    obtain rfl : x5 = .nilIface := he5
    obtain rfl : x6 = .nilIface := he6
    obtain rfl : x7 = .nilIface := he7
    go_wp2_with fail
    refine (first6_any _ (hg.ext (by repeat (first | exact Ext.refl _ | assumption | refine Ext.alloc ?_ _ | refine Ext.drew ?_ | refine Ext.drewN ?_ _ | refine Ext.setCell ?_ (by first | exact Nat.le_refl _ | (simp; done) | omega) _ | refine Ext.trans ?_ (by assumption))))).mono ?_; rintro e w8 ⟨rfl, hx8⟩
    have F8 := Lib.hid (F7.out.ext hx8)
    have G8 := Lib.hid (G7.out.ext hx8)
    obtain ⟨p0, p1, p2⟩ := F8.out
    obtain ⟨q0, q1, q2⟩ := G8.out
    go_wp2_with fail
    refine (c5.out _ (ha.ext (by repeat (first | exact Ext.refl _ | assumption | refine Ext.alloc ?_ _ | refine Ext.drew ?_ | refine Ext.drewN ?_ _ | refine Ext.setCell ?_ (by first | exact Nat.le_refl _ | (simp; done) | omega) _ | refine Ext.trans ?_ (by assumption)))) (hb.ext (by repeat (first | exact Ext.refl _ | assumption | refine Ext.alloc ?_ _ | refine Ext.drew ?_ | refine Ext.drewN ?_ _ | refine Ext.setCell ?_ (by first | exact Nat.le_refl _ | (simp; done) | omega) _ | refine Ext.trans ?_ (by assumption))))).mono ?_; rintro e w9 ⟨rfl, hx9⟩
    have F9 := F8.out.ext hx9
    clear F7 G7 F8 G8 p0 p1 p2 q0 q1 q2
    obtain ⟨p0, p1, p2⟩ := F9
    cases b0 with
    | true =>
      go_wp2
      go_ret
      exact ⟨rfl, (by repeat (first | exact Ext.refl _ | assumption | refine Ext.alloc ?_ _ | refine Ext.drew ?_ | refine Ext.drewN ?_ _ | refine Ext.setCell ?_ (by first | exact Nat.le_refl _ | (simp; done) | omega) _ | refine Ext.trans ?_ (by assumption)))⟩
    | false =>
      go_wp2
      go_ret
      exact ⟨rfl, (by repeat (first | exact Ext.refl _ | assumption | refine Ext.alloc ?_ _ | refine Ext.drew ?_ | refine Ext.drewN ?_ _ | refine Ext.setCell ?_ (by first | exact Nat.le_refl _ | (simp; done) | omega) _ | refine Ext.trans ?_ (by assumption)))⟩
theorem peaks_law (W H W' H' : Int) (xs ys : List Int) (va vb : Value) (w : World) (hg : EtIs w) (hra : Row w va xs.length (xs.map (Value.int .i64))) (hrb : Row w vb ys.length (ys.map (Value.int .i64))) :
    Calls Tryd.prog 7 #[.agg #[.int .i64 W, .int .i64 H, va], .agg #[.int .i64 W', .int .i64 H', vb]] w fun e w' => e = .returned (.bool true) ∧ Ext w w' := by
  by_cases h1 : 5000 < xs.length
  · obtain ⟨a, ca, rfl⟩ := hra.form
    obtain ⟨b, cb, rfl⟩ := hrb.form
    exact peaks_long W H W' H' a b _ _ ca cb w hg (Or.inl h1)
  · by_cases h2 : 5000 < ys.length
    · obtain ⟨a, ca, rfl⟩ := hra.form
      obtain ⟨b, cb, rfl⟩ := hrb.form
      exact peaks_long W H W' H' a b _ _ ca cb w hg (Or.inr ⟨h1, h2⟩)
    · have ha : Ints w va xs := ⟨hra, by omega⟩
      have hb : Ints w vb ys := ⟨hrb, by omega⟩
      obtain ⟨a, ca, rfl⟩ := ha.form
      obtain ⟨b, cb, rfl⟩ := hb.form
      refine peaks_walk W H W' H' xs ys (frAns W H xs W' H' ys) (peakV W H xs W' H' ys) (sumV W H xs W' H' ys) (sameB W H xs W' H' ys) a b _ _ ca cb w hg ha hb h1 h2
        (fun w h k => peak_any W H W' H' xs ys a b _ _ ca cb w h k) (fun w h k => sum_any W H W' H' xs ys a b _ _ ca cb w h k)
        (fun w h k => ?_) (fun w h k => ?_) (fun w h k => same_any W H W' H' xs ys a b _ _ ca cb w h k) (fun hf => ?_) peak_facts
      · rw [← peakV_comm, ← frAns_comm W' H' ys W H xs]
        exact peak_any W' H' W H ys xs b a _ _ cb ca w h k
      · rw [← sumV_comm, ← frAns_comm W' H' ys W H xs]
        exact sum_any W' H' W H ys xs b a _ _ cb ca w h k
      · cases hc : frAns W H xs W' H' ys with
        | none => exact absurd hc hf
        | some g => exact peak_no hc
end Go.Proofs.YtkighedghgcdjaaDoor
