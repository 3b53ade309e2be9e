/- Contracts of this seat: DeL, DeN, DeP. -/
import Derived.Test.YtcekpngkfldgkaaGreatDoorXTk
import Derived.Test.YtcekpngkfldgkaaGreatDoorXHc
import Derived.Test.YtcekpngkfldgkaaGreatDoorXGk
namespace Go.Proofs.YtcekpngkfldgkaaGreatDoor
set_option linter.unusedVariables false
set_option linter.unusedSimpArgs false
open Go.RowKit Go.Extern.Stop Go.Stop Go.Extern
section
variable {σ : Type} {A : World → (Nat → Prop) → σ → Prop} {w0 w : World}
end
theorem pixB_out {M : List Fr} (h : pixB M = true) : M.length ≤ 40 ∧ ∀ (q : Nat) (f : Fr), M[q]? = some f → f.2.2.length ≤ 20000 := by
 have mono : ∀ {i j : Nat}, i ≤ j → pixN M i ≤ pixN M j := fun {i j} h => by
  obtain ⟨d, rfl⟩ := Nat.le.dest h
  clear h
  induction d with
  | zero => exact Int.le_refl _
  | succ d ih => rw [← Nat.add_assoc]; show pixN M i ≤ pixN M (i + d) + min _ _; omega
 unfold pixB at h
 rw [Bool.and_eq_true, decide_eq_true_eq, decide_eq_true_eq] at h
 refine ⟨h.1, fun q c hq => ?_⟩
 have hlt := (List.getElem?_eq_some_iff.1 hq).1
 have h1 := mono (show q + 1 ≤ min M.length 40 by omega)
 have h2 := (pixN_bound M q).1
 have e : pixN M (q + 1) = pixN M q + min ((c.2.2.length : Nat) : Int) 20001 := by show pixN M q + _ = _; rw [List.getD, hq]; rfl
 omega
end Go.Proofs.YtcekpngkfldgkaaGreatDoor