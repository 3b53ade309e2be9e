/- Contracts of this seat: Da3. -/
import Derived.Test.YtcekpngkfldgkaaGreatDoorWDa2
import Derived.Test.YtcekpngkfldgkaaGreatDoorWZr
/- kinref14.Code of lists that may not be; within the laws. -/
namespace Go.Proofs.YtcekpngkfldgkaaGreatDoor
set_option linter.unusedVariables false
set_option linter.unusedSimpArgs false
open Go.RowKit Go.Extern.Stop Go.Stop Go.Extern

section
variable {σ : Type} {A : World → (Nat → Prop) → σ → Prop} {w0 w : World} {P : World → Prop}
end
end Go.Proofs.YtcekpngkfldgkaaGreatDoor

