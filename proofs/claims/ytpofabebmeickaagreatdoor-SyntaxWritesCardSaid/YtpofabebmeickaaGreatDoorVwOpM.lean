/- A list of kinlaw13's operations opened: three numbers and a yes or no each. -/
import Derived.Test.YtpofabebmeickaaGreatDoorVwZb
import Derived.Test.YtpofabebmeickaaGreatDoorVwZi
import Derived.Deep.Slices
import Derived.Deep.Grids
namespace Go.Proofs.YtpofabebmeickaaGreatDoor
set_option linter.unusedVariables false
set_option linter.unusedSimpArgs false
open Go.ChangeShapes Go.WideShapes Go.ChangeAt Go.RowKit Go.Joins Go.Deep

section
variable {H : Type} {enc : TypeId × Value → H} {w : World}
end
end Go.Proofs.YtpofabebmeickaaGreatDoor

