/- Contracts of this seat: R10p, R10q, R10. -/
import Derived.Test.YtcekpngkfldgkaaGreatDoorWGa
import Derived.Test.YtcekpngkfldgkaaGreatDoorWZb
/- kinref10.Predict: its contract over this seat's translation. -/
namespace Go.Proofs.YtcekpngkfldgkaaGreatDoor
set_option linter.unusedVariables false
set_option linter.unusedSimpArgs false
open Go.RowKit Go.Extern.Stop Go.Stop Go.Extern

end Go.Proofs.YtcekpngkfldgkaaGreatDoor

/- kinref10.Predict where it answers: its contract over this seat's translation. -/
namespace Go.Proofs.YtcekpngkfldgkaaGreatDoor
set_option linter.unusedVariables false
set_option linter.unusedSimpArgs false
open Go.RowKit Go.Extern.Stop Go.Stop Go.Extern

end Go.Proofs.YtcekpngkfldgkaaGreatDoor

/- kinref10.Predict: its contract over this seat's translation. -/
namespace Go.Proofs.YtcekpngkfldgkaaGreatDoor
set_option linter.unusedVariables false
set_option linter.unusedSimpArgs false
open Go.RowKit Go.Extern.Stop Go.Stop Go.Extern

end Go.Proofs.YtcekpngkfldgkaaGreatDoor

