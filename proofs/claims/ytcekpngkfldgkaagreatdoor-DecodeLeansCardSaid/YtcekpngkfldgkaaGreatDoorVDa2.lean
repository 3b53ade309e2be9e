/- kinref14.Code: contracts over this seat's translation. -/
import Derived.Test.YtcekpngkfldgkaaGreatDoorVZt
import Derived.Test.YtcekpngkfldgkaaGreatDoorVZq
import Derived.Test.YtcekpngkfldgkaaGreatDoorVZb
import Derived.Test.YtcekpngkfldgkaaGreatDoorVZk
import Derived.Test.YtcekpngkfldgkaaGreatDoorVZa
namespace Go.Proofs.YtcekpngkfldgkaaGreatDoor
set_option linter.unusedVariables false
set_option linter.unusedSimpArgs false
open Go.RowKit Go.Extern.Stop Go.Stop Go.Extern

end Go.Proofs.YtcekpngkfldgkaaGreatDoor

