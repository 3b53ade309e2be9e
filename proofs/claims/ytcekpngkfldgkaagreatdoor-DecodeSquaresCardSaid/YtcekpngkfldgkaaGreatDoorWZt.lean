/- Contracts of this seat: Md8, Md9, Md10, Md11, Da1, ROrd. -/
import Derived.Test.YtcekpngkfldgkaaGreatDoorWZi
import Derived.Test.YtcekpngkfldgkaaGreatDoorWZj
import Derived.Deep.WholeRow
import Derived.Test.YtcekpngkfldgkaaGreatDoorWZq
import Derived.Test.YtcekpngkfldgkaaGreatDoorWZb
/- kinref13.Coder as a writer: an object and the blocks that it lies in: contracts over this seat's translation. -/
namespace Go.Proofs.YtcekpngkfldgkaaGreatDoor
set_option linter.unusedVariables false
set_option linter.unusedSimpArgs false
open Go.RowKit Go.Extern.Stop Go.Stop Go.Extern

end Go.Proofs.YtcekpngkfldgkaaGreatDoor

/- kinref13: Writer; Kind, Mode, Part, and kinlaw13.wants with a writer: contracts over this seat's translation. -/
namespace Go.Proofs.YtcekpngkfldgkaaGreatDoor
set_option linter.unusedVariables false
set_option linter.unusedSimpArgs false
open Go.RowKit Go.Extern.Stop Go.Stop Go.Extern

end Go.Proofs.YtcekpngkfldgkaaGreatDoor

/- kinref13.Coder as a reader: an object and the blocks that it lies in: contracts over this seat's translation. -/
namespace Go.Proofs.YtcekpngkfldgkaaGreatDoor
set_option linter.unusedVariables false
set_option linter.unusedSimpArgs false
open Go.RowKit Go.Extern.Stop Go.Stop Go.Extern

end Go.Proofs.YtcekpngkfldgkaaGreatDoor

/- kinref13: Kind, Mode, Part, and kinlaw13.wants with a reader: contracts over this seat's translation. -/
namespace Go.Proofs.YtcekpngkfldgkaaGreatDoor
set_option linter.unusedVariables false
set_option linter.unusedSimpArgs false
open Go.RowKit Go.Extern.Stop Go.Stop Go.Extern

end Go.Proofs.YtcekpngkfldgkaaGreatDoor

/- kinref14.size, rest: contracts over this seat's translation. -/
namespace Go.Proofs.YtcekpngkfldgkaaGreatDoor
set_option linter.unusedVariables false
set_option linter.unusedSimpArgs false
open Go.RowKit Go.Extern.Stop Go.Stop Go.Extern

end Go.Proofs.YtcekpngkfldgkaaGreatDoor

/- kinref7.Order: its contract over this seat's translation. -/
namespace Go.Proofs.YtcekpngkfldgkaaGreatDoor
set_option linter.unusedVariables false
set_option linter.unusedSimpArgs false
open Go.RowKit Go.Extern.Stop Go.Stop Go.Extern

end Go.Proofs.YtcekpngkfldgkaaGreatDoor

