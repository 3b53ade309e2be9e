/- kinref7.two, Sad: contracts over this seat's translation. -/
import Derived.Test.YtbhlbiandelimaaDoorBlk2
import Derived.Test.YtbhlbiandelimaaDoorRes
import Derived.Deep.RegionHeld3
namespace Go.Proofs.YtbhlbiandelimaaDoor
set_option linter.unusedVariables false
set_option linter.unusedSimpArgs false
open Go.RowKit Go.Extern.Stop Go.Stop Go.Extern

theorem within_far {zs : List Int} : within (-1048576) 1048576 zs ↔ zs.any farB = false := by
  constructor
  · intro h
    rw [Bool.eq_false_iff]
    intro ht
    obtain ⟨x, hx, hp⟩ := List.any_eq_true.1 ht
    have := h x hx
    unfold farB at hp
    simp at hp
    omega
  · intro h x hx
    cases hp : farB x with
    | false => exact farB_no hp
    | true => rw [List.any_eq_true.2 ⟨x, hx, hp⟩] at h; cases h
theorem within_far_no {zs : List Int} (h : zs.any farB = true) : ¬ within (-1048576) 1048576 zs := fun k => by rw [within_far.1 k] at h; cases h
set_option maxRecDepth 20000 in
set_option maxHeartbeats 1000000 in
theorem rtwo_any (xs ys : List Int) (v u : Value) (w : World) (ha : Ints w v xs) (hb : Ints w u ys) :
    Calls Tryd.prog 68 #[v, u] w fun e w' => ∃ c, e = .returned (.agg #[.int .i64 c, .slice none 0 0]) ∧ Ext w w' ∧ RErrIs w' (matAns xs ys) c (.slice none 0 0) := by
  have R1 := ResAt.new w
  have W1 := Lib.hid (within_any xs (-1048576) 1048576)
  have W2 := Lib.hid (within_any ys (-1048576) 1048576)
  obtain ⟨a, cap, rfl⟩ := ha.form
  obtain ⟨b, cap', rfl⟩ := hb.form
  by_cases hl : xs.length = ys.length
  · have b1 : ((xs.length : Int) != (ys.length : Int)) = false := by simp; omega
    cases hx : xs.any farB with
    | true =>
      have HR : Hid (matAns xs ys = range) := by show _ = _; unfold matAns; rw [if_pos hl, if_pos (Or.inl hx)]
      have HW := Lib.hid (within_far_no hx)
      clear hl hx
      go_enter Tryd.func68, Tryd.ntmps68
      go_wp2_with fail
      refine (W1.out _ _ (ha.ext (by repeat (first | exact Ext.refl _ | assumption | refine Ext.alloc ?_ _ | refine Ext.drew ?_ | refine Ext.drewN ?_ _ | refine Ext.setCell ?_ (by first | exact Nat.le_refl _ | (simp; done) | omega) _ | refine Ext.trans ?_ (by assumption))))).mono ?_; rintro e w1 ⟨rfl, hx1⟩
      rw [decide_eq_false HW.out]
      go_wp2_with fail
      refine (fail_any 3 _).mono ?_; rintro e w2 ⟨rfl, hx2⟩
      obtain ⟨r0, r1, f0, f1⟩ := R1.ext (hx1.trans hx2)
      clear R1
      go_wp2
      obtain ⟨e0, e1⟩ := res_cells (c := 3) r0 r1 (.slice none 0 0)
      exact bodyPost_ret (v := .agg #[.int .i64 3, .slice none 0 0]) (by simp [results, Tryd.results68, go_sem, e0, e1]) rfl ⟨_, rfl, (by repeat (first | exact Ext.refl _ | assumption | refine Ext.alloc ?_ _ | refine Ext.drew ?_ | refine Ext.drewN ?_ _ | refine Ext.setCell ?_ (by first | exact Nat.le_refl _ | (simp; done) | omega) _ | refine Ext.trans ?_ (by assumption))), by rw [HR.out]; exact RErrIs.code (by decide)⟩
    | false =>
      have HW := Lib.hid (within_far.2 hx)
      cases hy : ys.any farB with
      | true =>
        have HR : Hid (matAns xs ys = range) := by show _ = _; unfold matAns; rw [if_pos hl, if_pos (Or.inr hy)]
        have HV := Lib.hid (within_far_no hy)
        clear hl hx hy
        go_enter Tryd.func68, Tryd.ntmps68
        go_wp2_with fail
        refine (W1.out _ _ (ha.ext (by repeat (first | exact Ext.refl _ | assumption | refine Ext.alloc ?_ _ | refine Ext.drew ?_ | refine Ext.drewN ?_ _ | refine Ext.setCell ?_ (by first | exact Nat.le_refl _ | (simp; done) | omega) _ | refine Ext.trans ?_ (by assumption))))).mono ?_; rintro e w1 ⟨rfl, hx1⟩
        rw [decide_eq_true HW.out]
        go_wp2_with fail
        refine (W2.out _ _ (hb.ext (by repeat (first | exact Ext.refl _ | assumption | refine Ext.alloc ?_ _ | refine Ext.drew ?_ | refine Ext.drewN ?_ _ | refine Ext.setCell ?_ (by first | exact Nat.le_refl _ | (simp; done) | omega) _ | refine Ext.trans ?_ (by assumption))))).mono ?_; rintro e w2 ⟨rfl, hx2⟩
        rw [decide_eq_false HV.out]
        go_wp2_with fail
        refine (fail_any 3 _).mono ?_; rintro e w3 ⟨rfl, hx3⟩
        obtain ⟨r0, r1, f0, f1⟩ := R1.ext ((hx1.trans hx2).trans hx3)
        clear R1
        go_wp2
        obtain ⟨e0, e1⟩ := res_cells (c := 3) r0 r1 (.slice none 0 0)
        exact bodyPost_ret (v := .agg #[.int .i64 3, .slice none 0 0]) (by simp [results, Tryd.results68, go_sem, e0, e1]) rfl ⟨_, rfl, (by repeat (first | exact Ext.refl _ | assumption | refine Ext.alloc ?_ _ | refine Ext.drew ?_ | refine Ext.drewN ?_ _ | refine Ext.setCell ?_ (by first | exact Nat.le_refl _ | (simp; done) | omega) _ | refine Ext.trans ?_ (by assumption))), by rw [HR.out]; exact RErrIs.code (by decide)⟩
      | false =>
        have HR : Hid (matAns xs ys = none) := by show _ = _; unfold matAns; rw [if_pos hl, if_neg (by rw [hx, hy]; decide)]
        have HV := Lib.hid (within_far.2 hy)
        clear hl hx hy
        go_enter Tryd.func68, Tryd.ntmps68
        go_wp2_with fail
        refine (W1.out _ _ (ha.ext (by repeat (first | exact Ext.refl _ | assumption | refine Ext.alloc ?_ _ | refine Ext.drew ?_ | refine Ext.drewN ?_ _ | refine Ext.setCell ?_ (by first | exact Nat.le_refl _ | (simp; done) | omega) _ | refine Ext.trans ?_ (by assumption))))).mono ?_; rintro e w1 ⟨rfl, hx1⟩
        rw [decide_eq_true HW.out]
        go_wp2_with fail
        refine (W2.out _ _ (hb.ext (by repeat (first | exact Ext.refl _ | assumption | refine Ext.alloc ?_ _ | refine Ext.drew ?_ | refine Ext.drewN ?_ _ | refine Ext.setCell ?_ (by first | exact Nat.le_refl _ | (simp; done) | omega) _ | refine Ext.trans ?_ (by assumption))))).mono ?_; rintro e w2 ⟨rfl, hx2⟩
        rw [decide_eq_true HV.out]
        obtain ⟨r0, r1, f0, f1⟩ := R1.ext (hx1.trans hx2)
        clear R1
        go_wp2
        obtain ⟨e0, e1⟩ := res_cells (c := 0) r0 r1 (.slice none 0 0)
        exact bodyPost_ret (v := .agg #[.int .i64 0, .slice none 0 0]) (by simp [results, Tryd.results68, go_sem, e0, e1]) rfl ⟨_, rfl, (by repeat (first | exact Ext.refl _ | assumption | refine Ext.alloc ?_ _ | refine Ext.drew ?_ | refine Ext.drewN ?_ _ | refine Ext.setCell ?_ (by first | exact Nat.le_refl _ | (simp; done) | omega) _ | refine Ext.trans ?_ (by assumption))), by rw [HR.out]; exact RErrIs.zero⟩
  · have b1 : ((xs.length : Int) != (ys.length : Int)) = true := by simp; omega
    have HR : Hid (matAns xs ys = fit) := by show _ = _; unfold matAns; rw [if_neg hl]
    clear hl
    go_enter Tryd.func68, Tryd.ntmps68
    go_wp2_with fail
    refine (fail_any 14 _).mono ?_; rintro e w2 ⟨rfl, hx2⟩
    obtain ⟨r0, r1, f0, f1⟩ := R1.ext hx2
    clear R1
    go_wp2
    obtain ⟨e0, e1⟩ := res_cells (c := 14) r0 r1 (.slice none 0 0)
    exact bodyPost_ret (v := .agg #[.int .i64 14, .slice none 0 0]) (by simp [results, Tryd.results68, go_sem, e0, e1]) rfl ⟨_, rfl, (by repeat (first | exact Ext.refl _ | assumption | refine Ext.alloc ?_ _ | refine Ext.drew ?_ | refine Ext.drewN ?_ _ | refine Ext.setCell ?_ (by first | exact Nat.le_refl _ | (simp; done) | omega) _ | refine Ext.trans ?_ (by assumption))), by rw [HR.out]; exact RErrIs.code (by decide)⟩
end Go.Proofs.YtbhlbiandelimaaDoor
