/- kinref14.Code: contracts over this seat's translation. -/
import Derived.Test.YtcekpngkfldgkaaGreatDoorWZt
import Derived.Test.YtcekpngkfldgkaaGreatDoorWZq
import Derived.Test.YtcekpngkfldgkaaGreatDoorWZb
import Derived.Test.YtcekpngkfldgkaaGreatDoorWZk
import Derived.Test.YtcekpngkfldgkaaGreatDoorWZa
namespace Go.Proofs.YtcekpngkfldgkaaGreatDoor
set_option linter.unusedVariables false
set_option linter.unusedSimpArgs false
open Go.RowKit Go.Extern.Stop Go.Stop Go.Extern

end Go.Proofs.YtcekpngkfldgkaaGreatDoor

