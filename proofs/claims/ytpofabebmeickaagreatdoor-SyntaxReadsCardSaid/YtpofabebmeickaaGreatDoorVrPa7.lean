/- (*rac.Encoder).End: its contract over this seat's translation. -/
import Derived.Test.YtpofabebmeickaaGreatDoorVrZc
namespace Go.Proofs.YtpofabebmeickaaGreatDoor
set_option linter.unusedVariables false
set_option linter.unusedSimpArgs false
open Go.RowKit Go.Extern.Stop Go.Stop Go.Extern

end Go.Proofs.YtpofabebmeickaaGreatDoor

