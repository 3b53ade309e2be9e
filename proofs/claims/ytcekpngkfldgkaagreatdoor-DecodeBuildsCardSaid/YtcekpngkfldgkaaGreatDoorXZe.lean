/- Contracts of this seat: Pa7, Pf1, Px4, Pc1, Py1, Py2, Py3, Pw1. -/
import Derived.Test.YtcekpngkfldgkaaGreatDoorXZc
import Derived.Test.YtcekpngkfldgkaaGreatDoorXZd
import Derived.Test.YtcekpngkfldgkaaGreatDoorXZb
import Derived.BigQuiet
import Derived.Deep.QuietTactic
import Derived.BigRegion
namespace Go.Proofs.YtcekpngkfldgkaaGreatDoor
set_option linter.unusedVariables false
set_option linter.unusedSimpArgs false
open Go.RowKit Go.Extern.Stop Go.Stop Go.Extern
theorem own_block {w w' : World} {base : Nat} {e : TypeId} {size n : Nat} {v : Value} {xs : List Value} (h : w.ownsRow base e size v n xs) (k : ∀ g, v.ownBlock = some g → w'.heap[g]? = w.heap[g]?) : w'.ownsRow base e size v n xs := by
 obtain ⟨h1, h2⟩ := h
 refine ⟨h1, ?_⟩
 rcases h2 with h2 | ⟨g, cap, cur, rfl, hg, hh, r⟩
 · exact .inl h2
 · exact .inr ⟨g, cap, cur, rfl, hg, (k g rfl).trans hh, r⟩
structure Xc where
 pos : Nat
 dd : Nat
 rr : Nat
section
variable {w w' : World} {b : Nat} {v : Value} {s : Xc}
end
end Go.Proofs.YtcekpngkfldgkaaGreatDoor