/- What the walks of DecodeSquares, DecodeBuilds and DecodeFrames need of the contracts below them. -/
import Derived.Test.YtcekpngkfldgkaaGreatDoorWHd
import Derived.Test.YtcekpngkfldgkaaGreatDoorWGk
import Derived.Test.YtcekpngkfldgkaaGreatDoorWZb
import Derived.Test.YtcekpngkfldgkaaGreatDoorWZo
import Derived.Test.YtcekpngkfldgkaaGreatDoorWZr
import Derived.Test.YtcekpngkfldgkaaGreatDoorWGj
import Derived.Test.YtcekpngkfldgkaaGreatDoorWGi
import Derived.Test.YtcekpngkfldgkaaGreatDoorWGe
import Derived.Test.YtcekpngkfldgkaaGreatDoorWGh
import Derived.Test.YtcekpngkfldgkaaGreatDoorWGb
import Derived.Test.YtcekpngkfldgkaaGreatDoorWGg
import Derived.Test.YtcekpngkfldgkaaGreatDoorWGa
import Derived.Test.YtcekpngkfldgkaaGreatDoorWZv
namespace Go.Proofs.YtcekpngkfldgkaaGreatDoor
set_option linter.unusedVariables false
set_option linter.unusedSimpArgs false
theorem umd : True := trivial
end Go.Proofs.YtcekpngkfldgkaaGreatDoor

