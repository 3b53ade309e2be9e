/- Levels' values lie near. -/
import Derived.Test.YtbmknmenaaanaaaDoorQuant
namespace Go.Proofs.YtbmknmenaaanaaaDoor
set_option linter.unusedVariables false
set_option linter.unusedSimpArgs false

theorem near (c qp : Int) (h : okQ qp) : levelOf c qp * stepOf qp - c ≤ stepOf qp / 2 ∧ c - levelOf c qp * stepOf qp ≤ stepOf qp / 2 := by
  obtain ⟨s0, s1⟩ := stepOf_ok h
  have e : ∀ x : Int, 0 ≤ x → (x + stepOf qp / 2) / stepOf qp * stepOf qp - x ≤ stepOf qp / 2 ∧ x - (x + stepOf qp / 2) / stepOf qp * stepOf qp ≤ stepOf qp / 2 := fun x hx => by
    have h1 := Int.mul_ediv_add_emod (x + stepOf qp / 2) (stepOf qp)
    have h2 := Int.emod_nonneg (x + stepOf qp / 2) (show stepOf qp ≠ 0 by omega)
    have h3 := Int.emod_lt_of_pos (x + stepOf qp / 2) (show 0 < stepOf qp by omega)
    rw [Int.mul_comm] at h1
    omega
  unfold levelOf
  split
  · have := e (-c) (by omega)
    rw [Int.neg_mul]
    omega
  · exact e c (by omega)
end Go.Proofs.YtbmknmenaaanaaaDoor
