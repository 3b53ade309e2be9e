/- kinlaw3.CodesUnfolds, CodesRises, CodesBounds: the walks. -/
import Derived.Test.YtehmgieocoppjaaDoorCo7
import Derived.Test.YtehmgieocoppjaaDoorZu
namespace Go.Proofs.YtehmgieocoppjaaDoor
set_option linter.unusedVariables false
set_option linter.unusedSimpArgs false
open Go.RowKit Go.Extern.Stop Go.Stop Go.Extern

set_option maxHeartbeats 8000000 in
set_option maxRecDepth 20000 in
theorem unfolds_out (a b : Int) (w : World) (hg : EtIs w) (h : 2305843009213693952 < a ∨ a < -2305843009213693952 ∨ 2305843009213693952 < b ∨ b < -2305843009213693952) :
    Calls Tryd.prog 8 #[.int .i64 a, .int .i64 b] w fun e w' => e = .returned (.bool true) ∧ Ext w w' := by
  have h' : 2305843009213693952 < a ∨ ¬ 2305843009213693952 < a ∧ (a < -2305843009213693952 ∨ ¬ a < -2305843009213693952 ∧ (2305843009213693952 < b ∨ ¬ 2305843009213693952 < b ∧ b < -2305843009213693952)) := by omega
  clear h
  rcases h' with h1 | ⟨h1, h2 | ⟨h2, h3 | ⟨h3, h4⟩⟩⟩
  all_goals
    go_enter Tryd.func8, Tryd.ntmps8
    go_wp2_with fail
    refine (first3_any _ hg).mono ?_; rintro e w1 ⟨rfl, hx1⟩
    go_wp2_with fail
    refine (first3_any _ (hg.ext hx1)).mono ?_; rintro e w2 ⟨rfl, hx2⟩
    go_wp2
    go_ret
    exact ⟨rfl, hx1.trans hx2⟩
set_option maxHeartbeats 8000000 in
set_option maxRecDepth 20000 in
theorem unfolds_law (a b : Int) (w : World) (hg : EtIs w) :
    Calls Tryd.prog 8 #[.int .i64 a, .int .i64 b] w fun e w' => e = .returned (.bool true) ∧ Ext w w' := by
  by_cases h : 2305843009213693952 < a ∨ a < -2305843009213693952 ∨ 2305843009213693952 < b ∨ b < -2305843009213693952
  · exact unfolds_out a b w hg h
  · have h1 : ¬ 2305843009213693952 < a := by omega
    have h2 : ¬ a < -2305843009213693952 := by omega
    have h3 : ¬ 2305843009213693952 < b := by omega
    have h4 : ¬ b < -2305843009213693952 := by omega
    clear h
    have A1 := Lib.hid (fun w => fold_any a w)
    have B1 := Lib.hid (fun w => fold_any b w)
    have A2 := Lib.hid (fun w => unfold_any (foldI a) w)
    have B2 := Lib.hid (fun w => unfold_any (foldI b) w)
    have ua := unfold_fold (v := a) (by omega)
    have ub := unfold_fold (v := b) (by omega)
    rw [ua] at A2
    rw [ub] at B2
    have hx0 : 0 ≤ foldI a := by unfold foldI; rw [if_neg (by omega)]; split <;> omega
    have hgr : absI b < absI a → foldI b < foldI a := fun h => by
      unfold absI at h
      have ea : foldI a = if 0 < a then 2 * a - 1 else -2 * a := by unfold foldI; rw [if_neg (by omega)]
      have eb : foldI b = if 0 < b then 2 * b - 1 else -2 * b := by unfold foldI; rw [if_neg (by omega)]
      rw [ea, eb]
      split <;> split <;> omega
    have heq : (foldI a == foldI b) = (a == b) := by
      by_cases hab : a = b
      · rw [hab]; simp
      · have : foldI a ≠ foldI b := fun h => hab (by rw [← ua, ← ub, h])
        rw [beq_eq_false_iff_ne.2 hab, beq_eq_false_iff_ne.2 this]
    obtain ⟨s, hs⟩ : ∃ s, absI a = s := ⟨_, rfl⟩
    obtain ⟨t, ht⟩ : ∃ t, absI b = t := ⟨_, rfl⟩
    rw [hs, ht] at hgr
    have i1 : IntKind.i64.wrap (-a) = -a := by rw [IntKind.wrap_i64]; omega
    have i2 : IntKind.i64.wrap (-b) = -b := by rw [IntKind.wrap_i64]; omega
    have i3 : max a (-a) = s := hs
    have i4 : max b (-b) = t := ht
    have r2 := mx2
    clear hs ht ua ub
    generalize foldI a = x at *
    generalize foldI b = y at *
    have cases3 : (x == y) = true ∧ (a == b) = true ∨ (x == y) = false ∧ (a == b) = false := by
      rw [heq]
      cases (a == b) <;> simp
    clear heq
    have cases4 : (t < s ∧ y < x) ∨ ¬ t < s := by
      by_cases h : t < s
      · exact .inl ⟨h, hgr h⟩
      · exact .inr h
    clear hgr
    rcases cases3 with ⟨e1, e2⟩ | ⟨e1, e2⟩
    all_goals rcases cases4 with ⟨g1, g2⟩ | g1
    all_goals
      go_enter Tryd.func8, Tryd.ntmps8
      go_wp2_with fail
      refine (first3_any _ hg).mono ?_; rintro e w1 ⟨rfl, hx1⟩
      go_wp2_with fail
      refine (A1.out _).mono ?_; rintro e w2 ⟨rfl, rfl⟩
      go_wp2_with fail
      refine (B1.out _).mono ?_; rintro e w2 ⟨rfl, rfl⟩
      go_wp2_with fail
      refine (first3_any _ (hg.ext hx1)).mono ?_; rintro e w2 ⟨rfl, hx2⟩
      go_wp2_with fail
      refine (A2.out _).mono ?_; rintro e w3 ⟨rfl, rfl⟩
      go_wp2_with fail
      refine (B2.out _).mono ?_; rintro e w3 ⟨rfl, rfl⟩
      go_wp2
      go_ret
      exact ⟨rfl, hx1.trans hx2⟩
/-- what the puts of two numbers add to no bits, and what is told of their sizes -/
theorem ri_facts (a b k : Int) : (cuL [] a).length = (szUe a).toNat ∧ (crL (cuL [] a) b k).length = (szUe a).toNat + (szRi b k).toNat ∧ (cuL [] a).length ≤ 61 := by
  have h1 : (cuL [] a).length = (szUe a).toNat := by
    unfold cuL
    split
    · rename_i h; rw [(szUe_yes h).1]; simp
    · rename_i h; rw [szUe_no h]; rfl
  refine ⟨h1, ?_, ?_⟩
  · have h2 : (crL (cuL [] a) b k).length = (cuL [] a).length + (szRi b k).toNat := by
      unfold crL
      split
      · rename_i h; rw [(szRi_yes h).1, List.length_append]; simp
      · rename_i h; rw [szRi_no h]; rfl
    rw [h2, h1]
  · rw [h1]
    by_cases h : ueOk a
    · have := szUe_yes h; omega
    · rw [szUe_no h]; decide
end Go.Proofs.YtehmgieocoppjaaDoor
