/- Contracts of this seat: Da3. -/
import Derived.Test.YtpofabebmeickaaGreatDoorVrDa2
import Derived.Test.YtpofabebmeickaaGreatDoorVrZr
/- kinref14.Code of lists that may not be; within the laws. -/
namespace Go.Proofs.YtpofabebmeickaaGreatDoor
set_option linter.unusedVariables false
set_option linter.unusedSimpArgs false
open Go.RowKit Go.Extern.Stop Go.Stop Go.Extern

section
variable {σ : Type} {A : World → (Nat → Prop) → σ → Prop} {w0 w : World} {P : World → Prop}
end
end Go.Proofs.YtpofabebmeickaaGreatDoor

