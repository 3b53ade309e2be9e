/- kinref20.kind, Code. -/
import Derived.Test.YtcekpngkfldgkaaGreatDoorWSz8
import Derived.Test.YtcekpngkfldgkaaGreatDoorWZu
import Derived.Deep.RegionHeld3
import Derived.Deep.RegionWith
namespace Go.Proofs.YtcekpngkfldgkaaGreatDoor
set_option linter.unusedVariables false
set_option linter.unusedSimpArgs false
open Go.RowKit Go.Extern.Stop Go.Stop Go.Extern

section
variable {σ : Type} {A : World → (Nat → Prop) → σ → Prop} {w : World}
end
end Go.Proofs.YtcekpngkfldgkaaGreatDoor

