/- Contracts of this seat: Pa7, Pf1, Px4, Pc1, Py1, Py2, Py3, Pw1. -/
import Derived.Test.YtcekpngkfldgkaaGreatDoorWZc
import Derived.Test.YtcekpngkfldgkaaGreatDoorWZd
import Derived.Test.YtcekpngkfldgkaaGreatDoorWZb
import Derived.BigQuiet
import Derived.Deep.QuietTactic
import Derived.BigRegion
/- (*rac.Encoder).End: its contract over this seat's translation. -/
namespace Go.Proofs.YtcekpngkfldgkaaGreatDoor
set_option linter.unusedVariables false
set_option linter.unusedSimpArgs false
open Go.RowKit Go.Extern.Stop Go.Stop Go.Extern

end Go.Proofs.YtcekpngkfldgkaaGreatDoor

/- kinlaw12.first; an encoder and a decoder beside each other. -/
namespace Go.Proofs.YtcekpngkfldgkaaGreatDoor
set_option linter.unusedVariables false
set_option linter.unusedSimpArgs false
open Go.RowKit Go.Extern.Stop Go.Stop Go.Extern

end Go.Proofs.YtcekpngkfldgkaaGreatDoor

/- kinref12.Encoder's End: its contract over this seat's translation. -/
namespace Go.Proofs.YtcekpngkfldgkaaGreatDoor
set_option linter.unusedVariables false
set_option linter.unusedSimpArgs false
open Go.RowKit Go.Extern.Stop Go.Stop Go.Extern

end Go.Proofs.YtcekpngkfldgkaaGreatDoor

/- The landed encoder and the document's beside each other: contracts. -/
namespace Go.Proofs.YtcekpngkfldgkaaGreatDoor
set_option linter.unusedVariables false
set_option linter.unusedSimpArgs false
open Go.RowKit Go.Extern.Stop Go.Stop Go.Extern

theorem own_block {w w' : World} {base : Nat} {e : TypeId} {size n : Nat} {v : Value} {xs : List Value} (h : w.ownsRow base e size v n xs) (k : ∀ g, v.ownBlock = some g → w'.heap[g]? = w.heap[g]?) : w'.ownsRow base e size v n xs := by
  obtain ⟨h1, h2⟩ := h
  refine ⟨h1, ?_⟩
  rcases h2 with h2 | ⟨g, cap, cur, rfl, hg, hh, r⟩
  · exact .inl h2
  · exact .inr ⟨g, cap, cur, rfl, hg, (k g rfl).trans hh, r⟩
end Go.Proofs.YtcekpngkfldgkaaGreatDoor

/- A document's decoder of bits (kinref12): plain; next: its contract over this seat's translation. -/
namespace Go.Proofs.YtcekpngkfldgkaaGreatDoor
set_option linter.unusedVariables false
set_option linter.unusedSimpArgs false
open Go.RowKit Go.Extern.Stop Go.Stop Go.Extern

structure Xc where
  pos : Nat
  dd : Nat
  rr : Nat
section
variable {w w' : World} {b : Nat} {v : Value} {s : Xc}
end
end Go.Proofs.YtcekpngkfldgkaaGreatDoor

/- kinref12's decoder: narrows, Flat, Code, Over: contracts over this seat's translation. -/
namespace Go.Proofs.YtcekpngkfldgkaaGreatDoor
set_option linter.unusedVariables false
set_option linter.unusedSimpArgs false
open Go.RowKit Go.Extern.Stop Go.Stop Go.Extern

end Go.Proofs.YtcekpngkfldgkaaGreatDoor

/- kinref12's decoder: Code, NewDecoder: contracts over this seat's translation; the two decoders side by side. -/
namespace Go.Proofs.YtcekpngkfldgkaaGreatDoor
set_option linter.unusedVariables false
set_option linter.unusedSimpArgs false
open Go.RowKit Go.Extern.Stop Go.Stop Go.Extern

end Go.Proofs.YtcekpngkfldgkaaGreatDoor

/- The landed decoder and the document's, step by step: plain. -/
namespace Go.Proofs.YtcekpngkfldgkaaGreatDoor
set_option linter.unusedVariables false
set_option linter.unusedSimpArgs false
open Go.RowKit Go.Extern.Stop Go.Stop Go.Extern

end Go.Proofs.YtcekpngkfldgkaaGreatDoor

