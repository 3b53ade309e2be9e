/- How unlike two lists are, plain. -/
import Derived.Test.YtbhlbiandelimaaDoorBlk
namespace Go.Proofs.YtbhlbiandelimaaDoor
set_option linter.unusedVariables false
set_option linter.unusedSimpArgs false
open Go.RowKit Go.Extern.Stop Go.Stop Go.Extern

theorem matAns_comm (xs ys : List Int) : matAns xs ys = matAns ys xs := by
  unfold matAns
  by_cases h : xs.length = ys.length
  · rw [if_pos h, if_pos h.symm]
    by_cases k : xs.any farB = true ∨ ys.any farB = true
    · rw [if_pos k, if_pos k.symm]
    · rw [if_neg k, if_neg (fun e => k e.symm)]
  · rw [if_neg h, if_neg (fun e => h e.symm)]
theorem sadV_comm (xs ys : List Int) : sadV xs ys = sadV ys xs := by
  unfold sadV
  rw [matAns_comm]
  cases h : matAns ys xs with
  | none =>
    simp only
    rw [sadF_comm, (matAns_none h).1]
  | some f => rfl
theorem sadV_bound {xs ys : List Int} (hn : xs.length ≤ 5000) : 0 ≤ sadV xs ys ∧ sadV xs ys ≤ 20000000000 := by
  unfold sadV
  cases h : matAns xs ys with
  | none =>
    obtain ⟨h1, h2, h3⟩ := matAns_none h
    have b1 := sadF_bound h2 h3 xs.length
    have b2 := sadF_pos (fun i => xs.getD i 0) (fun i => ys.getD i 0) xs.length
    simp only
    omega
  | some f => simp
theorem getD_eq_of {xs ys : List Int} (hl : xs.length = ys.length) (h : ∀ j, j < xs.length → xs.getD j 0 = ys.getD j 0) : xs = ys := by
  apply eq_of_gets hl
  intro j hj
  rw [get_of_lt hj, get_of_lt (by omega), h j hj]
theorem sadV_zero {xs ys : List Int} (h : matAns xs ys = none) : (sadV xs ys == 0) = decide (xs = ys) := by
  have hl := (matAns_none h).1
  unfold sadV
  rw [h]
  rw [Bool.eq_iff_iff]
  simp only [beq_iff_eq, decide_eq_true_eq]
  rw [sadF_zero]
  constructor
  · intro k; exact getD_eq_of hl k
  · intro k j _; rw [k]
theorem matAns_trans {xs ys zs : List Int} (h : matAns xs ys = none) (k : matAns ys zs = none) : matAns xs zs = none := by
  unfold matAns at *
  split at h
  · split at h
    · cases h
    · split at k
      · split at k
        · cases k
        · rename_i a b c d
          rw [if_pos (a.trans c), if_neg]
          rintro (e | e)
          · exact b (Or.inl e)
          · exact d (Or.inr e)
      · cases k
  · cases h
theorem sadV_tri {xs ys zs : List Int} (h : matAns xs ys = none) (k : matAns ys zs = none) : sadV xs zs ≤ sadV xs ys + sadV ys zs := by
  have e := matAns_trans h k
  unfold sadV
  rw [h, k, e]
  simp only
  rw [← (matAns_none h).1]
  exact sadF_tri _ _ _ _

theorem far_no {zs : List Int} (h : ∀ x ∈ zs, -1048576 ≤ x ∧ x ≤ 1048576) : zs.any farB = false := by
  rw [Bool.eq_false_iff]
  intro ht
  obtain ⟨x, hx, hp⟩ := List.any_eq_true.1 ht
  have := h x hx
  unfold farB at hp
  simp at hp
  omega
theorem matAns_ok {xs ys : List Int} (hl : xs.length = ys.length) (h : ∀ x ∈ xs, -1048576 ≤ x ∧ x ≤ 1048576) (k : ∀ x ∈ ys, -1048576 ≤ x ∧ x ≤ 1048576) : matAns xs ys = none := by
  unfold matAns
  rw [if_pos hl, if_neg]
  rw [far_no h, far_no k]
  decide
theorem self_none {xs ys : List Int} (h : matAns xs ys = none) : matAns xs xs = none := matAns_trans h (by rw [matAns_comm]; exact h)
end Go.Proofs.YtbhlbiandelimaaDoor
