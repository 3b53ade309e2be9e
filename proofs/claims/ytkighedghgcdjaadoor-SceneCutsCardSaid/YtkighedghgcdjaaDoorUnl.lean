/- scene.Unlike, kinref16.Unlike: contracts over this seat's translation. -/
import Derived.Test.YtkighedghgcdjaaDoorRFr
namespace Go.Proofs.YtkighedghgcdjaaDoor
set_option linter.unusedVariables false
set_option linter.unusedSimpArgs false
open Go.RowKit Go.Extern.Stop Go.Stop Go.Extern

/-- how unlike two frames are, per 64 samples -/
def unlV (W H : Int) (xs : List Int) (W' H' : Int) (ys : List Int) : Int := match frAns W H xs W' H' ys with
  | none => Int.tdiv (64 * sumV W H xs W' H' ys) (W * H)
  | some _ => 0
theorem sum_small {W H W' H' : Int} {xs ys : List Int} (h : frAns W H xs W' H' ys = none) : 0 ≤ sumV W H xs W' H' ys ∧ sumV W H xs W' H' ys ≤ 255 * (W * H) ∧ 64 ≤ W * H ∧ W * H ≤ 1024 := by
  have e2 : sumV W H xs W' H' ys = sadF (fun i => xs.getD i 0) (fun i => ys.getD i 0) xs.length := by unfold sumV; rw [h]
  obtain ⟨h1, h2, -, -⟩ := frAns_none h
  have b1 := sadF_le (may_getD h1) (may_getD h2) xs.length
  rw [h1.2.2.1] at b1
  rw [e2]
  exact ⟨sadF_pos _ _ _, b1, may_area h1⟩
theorem unl_small {s A : Int} (h0 : 0 ≤ s) (h1 : s ≤ 255 * A) (h2 : 64 ≤ A) : 0 ≤ Int.tdiv (64 * s) A ∧ Int.tdiv (64 * s) A ≤ 16320 := by
  rw [Int.tdiv_eq_ediv_of_nonneg (by omega)]
  refine ⟨Int.ediv_nonneg (by omega) (by omega), ?_⟩
  have : 64 * s ≤ 16320 * A := by omega
  exact Int.ediv_le_of_le_mul (by omega) this
theorem Row.zero {w w' : World} {v : Value} (h : Row w v 0 []) : Row w' v 0 [] := by
  obtain ⟨a, cap, h0, h1, h2, h3, -⟩ := h
  exact ⟨a, cap, h0, h1, h2, h3, fun _ _ _ j u hu => by simp at hu⟩
theorem frAns_path {W H W' H' : Int} {xs ys : List Int} {f : List (ByteArray × Int) × Int} (h : frAns W H xs W' H' ys = some f) : f.1 = [] := by
  unfold frAns form fit at h
  split at h
  · split at h
    · cases h
    · cases h; rfl
  · cases h; rfl
set_option maxRecDepth 20000 in
set_option maxHeartbeats 2000000 in
theorem unlike_any (W H W' H' : Int) (xs ys : List Int) (a b : Option Addr) (n m ca cb : Nat) (w : World) (ha : Ints w (.slice a n ca) xs) (hb : Ints w (.slice b m cb) ys) :
    Calls Tryd.prog 43 #[.agg #[.int .i64 W, .int .i64 H, .slice a n ca], .agg #[.int .i64 W', .int .i64 H', .slice b m cb]] w (IPost w (unlV W H xs W' H' ys) (frAns W H xs W' H' ys)) := by
  have M := Lib.hid (fun w h k => sum_any W H W' H' xs ys a b n m ca cb w h k)
  cases hm : frAns W H xs W' H' ys with
  | some f =>
    have HV : Hid (unlV W H xs W' H' ys = 0) := by show _ = _; unfold unlV; rw [hm]
    rw [hm] at M
    clear hm
    go_enter Tryd.func43, Tryd.ntmps43
    go_wp2_with fail
    refine (M.out _ (ha.ext (by repeat (first | exact Ext.refl _ | assumption | refine Ext.alloc ?_ _ | refine Ext.drew ?_ | refine Ext.drewN ?_ _ | refine Ext.setCell ?_ (by first | exact Nat.le_refl _ | (simp; done) | omega) _ | refine Ext.trans ?_ (by assumption)))) (hb.ext (by repeat (first | exact Ext.refl _ | assumption | refine Ext.alloc ?_ _ | refine Ext.drew ?_ | refine Ext.drewN ?_ _ | refine Ext.setCell ?_ (by first | exact Nat.le_refl _ | (simp; done) | omega) _ | refine Ext.trans ?_ (by assumption))))).mono ?_; rintro e w1 ⟨x, rfl, hx, he⟩
    obtain ⟨t, y, rfl⟩ := he.ne
    go_wp2
    go_ret2
    exact ⟨_, by rw [HV.out]; rfl, (by repeat (first | exact Ext.refl _ | assumption | refine Ext.alloc ?_ _ | refine Ext.drew ?_ | refine Ext.drewN ?_ _ | refine Ext.setCell ?_ (by first | exact Nat.le_refl _ | (simp; done) | omega) _ | refine Ext.trans ?_ (by assumption))), he⟩
  | none =>
    obtain ⟨b1, b2, b3, b4⟩ := sum_small hm
    have b5 := unl_small b1 b2 b3
    have HV : Hid (unlV W H xs W' H' ys = Int.tdiv (64 * sumV W H xs W' H' ys) (W * H)) := by show _ = _; unfold unlV; rw [hm]
    rw [hm] at M
    clear hm
    have HB := FrBox.two w W H W' H' (.slice a n ca) (.slice b m cb)
    revert M HV b1 b2 b5
    generalize sumV W H xs W' H' ys = s
    intro M b1 b2 b5 HV
    obtain ⟨Q, hQ⟩ : ∃ Q, Int.tdiv (64 * s) (W * H) = Q := ⟨_, rfl⟩
    rw [hQ] at HV b5
    have e1 : IntKind.i64.wrap (64 * s) = 64 * s := by rw [IntKind.wrap_i64]; omega
    have e2 : IntKind.i64.wrap (W * H) = W * H := by rw [IntKind.wrap_i64]; omega
    have e3 : IntKind.i64.wrap Q = Q := by rw [IntKind.wrap_i64]; omega
    have e4 : ¬ W * H = 0 := by omega
    have HBB := Lib.hid HB
    clear b1 b2 b3 b4 b5 HB
    go_enter Tryd.func43, Tryd.ntmps43
    go_wp2_with fail
    refine (M.out _ (ha.ext (by repeat (first | exact Ext.refl _ | assumption | refine Ext.alloc ?_ _ | refine Ext.drew ?_ | refine Ext.drewN ?_ _ | refine Ext.setCell ?_ (by first | exact Nat.le_refl _ | (simp; done) | omega) _ | refine Ext.trans ?_ (by assumption)))) (hb.ext (by repeat (first | exact Ext.refl _ | assumption | refine Ext.alloc ?_ _ | refine Ext.drew ?_ | refine Ext.drewN ?_ _ | refine Ext.setCell ?_ (by first | exact Nat.le_refl _ | (simp; done) | omega) _ | refine Ext.trans ?_ (by assumption))))).mono ?_; rintro e w1 ⟨x, rfl, hx, he⟩
    obtain rfl : x = .nilIface := he
    obtain ⟨p0, p1, p2⟩ := HBB.out.1.ext hx
    go_wp2
    go_ret2
    exact ⟨_, by rw [HV.out]; rfl, (by repeat (first | exact Ext.refl _ | assumption | refine Ext.alloc ?_ _ | refine Ext.drew ?_ | refine Ext.drewN ?_ _ | refine Ext.setCell ?_ (by first | exact Nat.le_refl _ | (simp; done) | omega) _ | refine Ext.trans ?_ (by assumption))), rfl⟩
set_option maxRecDepth 20000 in
set_option maxHeartbeats 2000000 in
theorem runlike_any (W H W' H' : Int) (xs ys : List Int) (a b : Option Addr) (n m ca cb : Nat) (w : World) (ha : Ints w (.slice a n ca) xs) (hb : Ints w (.slice b m cb) ys) :
    Calls Tryd.prog 44 #[.agg #[.int .i64 W, .int .i64 H, .slice a n ca], .agg #[.int .i64 W', .int .i64 H', .slice b m cb]] w (RIPost w (unlV W H xs W' H' ys) (frAns W H xs W' H' ys)) := by
  have M := Lib.hid (fun w h k => rsum_any W H W' H' xs ys a b n m ca cb w h k)
  cases hm : frAns W H xs W' H' ys with
  | some f =>
    have HV : Hid (unlV W H xs W' H' ys = 0) := by show _ = _; unfold unlV; rw [hm]
    rw [hm] at M
    have HPF := Lib.hid (frAns_path hm)
    clear hm
    have FG0 := FrBox.two w W H W' H' (.slice a n ca) (.slice b m cb)
    have RV : ResAt (((w.alloc (.cells #[.int .i64 W, .int .i64 H, .slice a n ca] 24)).alloc (.cells #[.int .i64 W', .int .i64 H', .slice b m cb] 24)).alloc (.cells #[.int .i64 0, .slice none 0 0] 34)) (w.heap.size + 2) := by
      have := ResAt.new ((w.alloc (.cells #[.int .i64 W, .int .i64 H, .slice a n ca] 24)).alloc (.cells #[.int .i64 W', .int .i64 H', .slice b m cb] 24))
      simpa using this
    have FB := FG0.1.ext ((Ext.refl _).alloc (.cells #[.int .i64 0, .slice none 0 0] 34))
    have GB := FG0.2.ext ((Ext.refl _).alloc (.cells #[.int .i64 0, .slice none 0 0] 34))
    clear FG0
    have EB : Ext w (((w.alloc (.cells #[.int .i64 W, .int .i64 H, .slice a n ca] 24)).alloc (.cells #[.int .i64 W', .int .i64 H', .slice b m cb] 24)).alloc (.cells #[.int .i64 0, .slice none 0 0] 34)) := (by repeat (first | exact Ext.refl _ | assumption | refine Ext.alloc ?_ _ | refine Ext.drew ?_ | refine Ext.drewN ?_ _ | refine Ext.setCell ?_ (by first | exact Nat.le_refl _ | (simp; done) | omega) _ | refine Ext.trans ?_ (by assumption)))
    go_enter Tryd.func44, Tryd.ntmps44
    go_wp2_with fail
    revert RV FB GB EB
    generalize ((w.alloc (.cells #[.int .i64 W, .int .i64 H, .slice a n ca] 24)).alloc (.cells #[.int .i64 W', .int .i64 H', .slice b m cb] 24)).alloc (.cells #[.int .i64 0, .slice none 0 0] 34) = w0
    intro RV FB GB EB
    have FH := Lib.hid FB
    have RH := Lib.hid RV
    clear RV FB GB
    refine (M.out _ (ha.ext EB) (hb.ext EB)).mono ?_; rintro e w1 ⟨c, d, i, j, rfl, hx1, hr1⟩
    have A1 : Ext w1 (w1.alloc (.cells #[.int .i64 c, .slice d i j] 34)) := (Ext.refl w1).alloc _
    have E1 : Ext w (w1.alloc (.cells #[.int .i64 c, .slice d i j] 34)) := EB.trans (hx1.trans A1)
    have FH := Lib.hid ((FH.out.ext hx1).ext A1)
    have RH := Lib.hid ((RH.out.ext hx1).ext A1)
    have s0 : (w1.alloc (.cells #[.int .i64 c, .slice d i j] 34)).cell? ⟨w1.heap.size, 0, none⟩ = some (.int .i64 c) := by simp
    have s1 : (w1.alloc (.cells #[.int .i64 c, .slice d i j] 34)).cell? ⟨w1.heap.size, 1, none⟩ = some (.slice d i j) := by simp
    have hr1 := hr1.ext A1
    clear EB hx1 A1
    go_wp2_with fail
    revert E1 FH RH s0 s1 hr1
    generalize w1.alloc (.cells #[.int .i64 c, .slice d i j] 34) = wS
    intro E1 FH RH s0 s1 hr1
    refine (ok_any c _ _).mono ?_; rintro e wA ⟨rfl, hxA⟩
    have t0 := hxA.cell s0
    have t1 := hxA.cell s1
    have RA := Lib.hid (RH.out.ext hxA)
    have FA := Lib.hid (FH.out.ext hxA)
    have E9 : Ext w wA := E1.trans hxA
    have hr9 := hr1.ext hxA
    clear s0 s1 FH RH E1 hxA hr1
    have hc0 : (c == 0) = false := by obtain ⟨p, k⟩ := f; obtain ⟨q1, q2, -⟩ := hr9; simpa [q1] using q2
    have HR9 := Lib.hid hr9
    clear hr9
    rw [hc0]
    obtain ⟨r0, r1, f0, f1⟩ := RA.out
    go_wp2
    go_region
    go_wp2
    obtain ⟨e0, e1⟩ := res_cells (c := c) r0 r1 (.slice d i j)
    have EZ := ((E9.setCell (p := ⟨w.heap.size + 2, 0, none⟩) (Nat.le_add_right _ 2) (.int .i64 c)).setCell (p := ⟨w.heap.size + 2, 1, none⟩) (Nat.le_add_right _ 2) (.slice d i j)).drew
    exact bodyPost_ret (v := .tuple #[.int .i64 0, .agg #[.int .i64 c, .slice d i j]]) (by simp [results, Tryd.results44, go_sem, e0, e1]) rfl ⟨_, _, _, _, by rw [HV.out], EZ, by
      obtain ⟨p, k⟩ := f
      obtain ⟨q1, q2, q3⟩ := HR9.out
      obtain rfl : p = [] := HPF.out
      exact ⟨q1, q2, q3.zero⟩⟩
  | none =>
    obtain ⟨b1, b2, b3, b4⟩ := sum_small hm
    have b5 := unl_small b1 b2 b3
    have HV : Hid (unlV W H xs W' H' ys = Int.tdiv (64 * sumV W H xs W' H' ys) (W * H)) := by show _ = _; unfold unlV; rw [hm]
    rw [hm] at M
    clear hm
    revert M HV b1 b2 b5
    generalize sumV W H xs W' H' ys = s
    intro M b1 b2 b5 HV
    obtain ⟨Q, hQ⟩ : ∃ Q, Int.tdiv (64 * s) (W * H) = Q := ⟨_, rfl⟩
    rw [hQ] at HV b5
    have e1 : IntKind.i64.wrap (64 * s) = 64 * s := by rw [IntKind.wrap_i64]; omega
    have e2 : IntKind.i64.wrap (W * H) = W * H := by rw [IntKind.wrap_i64]; omega
    have e3 : IntKind.i64.wrap Q = Q := by rw [IntKind.wrap_i64]; omega
    have e4 : ¬ W * H = 0 := by omega
    clear b1 b2 b3 b4 b5
    have FG0 := FrBox.two w W H W' H' (.slice a n ca) (.slice b m cb)
    have RV : ResAt (((w.alloc (.cells #[.int .i64 W, .int .i64 H, .slice a n ca] 24)).alloc (.cells #[.int .i64 W', .int .i64 H', .slice b m cb] 24)).alloc (.cells #[.int .i64 0, .slice none 0 0] 34)) (w.heap.size + 2) := by
      have := ResAt.new ((w.alloc (.cells #[.int .i64 W, .int .i64 H, .slice a n ca] 24)).alloc (.cells #[.int .i64 W', .int .i64 H', .slice b m cb] 24))
      simpa using this
    have FB := FG0.1.ext ((Ext.refl _).alloc (.cells #[.int .i64 0, .slice none 0 0] 34))
    have GB := FG0.2.ext ((Ext.refl _).alloc (.cells #[.int .i64 0, .slice none 0 0] 34))
    clear FG0
    have EB : Ext w (((w.alloc (.cells #[.int .i64 W, .int .i64 H, .slice a n ca] 24)).alloc (.cells #[.int .i64 W', .int .i64 H', .slice b m cb] 24)).alloc (.cells #[.int .i64 0, .slice none 0 0] 34)) := (by repeat (first | exact Ext.refl _ | assumption | refine Ext.alloc ?_ _ | refine Ext.drew ?_ | refine Ext.drewN ?_ _ | refine Ext.setCell ?_ (by first | exact Nat.le_refl _ | (simp; done) | omega) _ | refine Ext.trans ?_ (by assumption)))
    go_enter Tryd.func44, Tryd.ntmps44
    go_wp2_with fail
    revert RV FB GB EB
    generalize ((w.alloc (.cells #[.int .i64 W, .int .i64 H, .slice a n ca] 24)).alloc (.cells #[.int .i64 W', .int .i64 H', .slice b m cb] 24)).alloc (.cells #[.int .i64 0, .slice none 0 0] 34) = w0
    intro RV FB GB EB
    have FH := Lib.hid FB
    have RH := Lib.hid RV
    clear RV FB GB
    refine (M.out _ (ha.ext EB) (hb.ext EB)).mono ?_; rintro e w1 ⟨c, d, i, j, rfl, hx1, hr1⟩
    have A1 : Ext w1 (w1.alloc (.cells #[.int .i64 c, .slice d i j] 34)) := (Ext.refl w1).alloc _
    have E1 : Ext w (w1.alloc (.cells #[.int .i64 c, .slice d i j] 34)) := EB.trans (hx1.trans A1)
    have FH := Lib.hid ((FH.out.ext hx1).ext A1)
    have RH := Lib.hid ((RH.out.ext hx1).ext A1)
    have s0 : (w1.alloc (.cells #[.int .i64 c, .slice d i j] 34)).cell? ⟨w1.heap.size, 0, none⟩ = some (.int .i64 c) := by simp
    have s1 : (w1.alloc (.cells #[.int .i64 c, .slice d i j] 34)).cell? ⟨w1.heap.size, 1, none⟩ = some (.slice d i j) := by simp
    have hr1 := hr1.ext A1
    clear EB hx1 A1
    go_wp2_with fail
    revert E1 FH RH s0 s1 hr1
    generalize w1.alloc (.cells #[.int .i64 c, .slice d i j] 34) = wS
    intro E1 FH RH s0 s1 hr1
    refine (ok_any c _ _).mono ?_; rintro e wA ⟨rfl, hxA⟩
    have t0 := hxA.cell s0
    have t1 := hxA.cell s1
    have RA := Lib.hid (RH.out.ext hxA)
    have FA := Lib.hid (FH.out.ext hxA)
    have E9 : Ext w wA := E1.trans hxA
    have hr9 := hr1.ext hxA
    clear s0 s1 FH RH E1 hxA hr1
    obtain ⟨rfl, hd⟩ := hr9
    simp only [Value.slice.injEq] at hd
    obtain ⟨rfl, rfl, rfl⟩ := hd
    rw [show ((0 : Int) == 0) = true from rfl]
    obtain ⟨r0, r1, f0, f1⟩ := RA.out
    obtain ⟨p0, p1, p2⟩ := FA.out
    go_wp2
    go_region
    all_goals go_wp2
    all_goals
      obtain ⟨e0, e1⟩ := res_cells (c := 0) r0 r1 (.slice none 0 0)
      have EZ := ((E9.setCell (p := ⟨w.heap.size + 2, 0, none⟩) (Nat.le_add_right _ 2) (.int .i64 0)).setCell (p := ⟨w.heap.size + 2, 1, none⟩) (Nat.le_add_right _ 2) (.slice none 0 0)).drew
      exact bodyPost_ret (v := .tuple #[.int .i64 Q, .agg #[.int .i64 0, .slice none 0 0]]) (by simp [results, Tryd.results44, go_sem, e0, e1]) rfl ⟨_, _, _, _, by rw [HV.out], EZ, RErrIs.zero⟩
end Go.Proofs.YtkighedghgcdjaaDoor
