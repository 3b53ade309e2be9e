/- Contracts of this seat: Sz9, Sy9, SyF, OpL, SyK, OpM, Mrd, SyR. -/
import Derived.Test.YtcekpngkfldgkaaGreatDoorWSz8
import Derived.Test.YtcekpngkfldgkaaGreatDoorWZl
import Derived.Test.YtcekpngkfldgkaaGreatDoorWZj
import Derived.Test.YtcekpngkfldgkaaGreatDoorWZb
import Derived.Test.YtcekpngkfldgkaaGreatDoorWHb
import Derived.Test.YtcekpngkfldgkaaGreatDoorWZk
import Derived.Test.YtcekpngkfldgkaaGreatDoorWZi
import Derived.Deep.Slices
import Derived.Deep.Grids
import Derived.Test.YtcekpngkfldgkaaGreatDoorWZt
import Derived.Deep.CutRange
import Derived.Deep.RegionHeld3
import Derived.Test.YtcekpngkfldgkaaGreatDoorWSza
/- kinlaw20.Plain, parts, Same. -/
namespace Go.Proofs.YtcekpngkfldgkaaGreatDoor
set_option linter.unusedVariables false
set_option linter.unusedSimpArgs false
open Go.RowKit Go.Extern.Stop Go.Stop Go.Extern


end Go.Proofs.YtcekpngkfldgkaaGreatDoor

/- syntax.Code of two special squares, kinlaw20.first. -/
namespace Go.Proofs.YtcekpngkfldgkaaGreatDoor
set_option linter.unusedVariables false
set_option linter.unusedSimpArgs false
open Go.RowKit Go.Extern.Stop Go.Stop Go.Extern

end Go.Proofs.YtcekpngkfldgkaaGreatDoor

/- kinlaw20.first: its contract over this seat's translation. -/
namespace Go.Proofs.YtcekpngkfldgkaaGreatDoor
set_option linter.unusedVariables false
set_option linter.unusedSimpArgs false
open Go.RowKit Go.Extern.Stop Go.Stop Go.Extern

end Go.Proofs.YtcekpngkfldgkaaGreatDoor

/- A list of yes and no opened. -/
namespace Go.Proofs.YtcekpngkfldgkaaGreatDoor
set_option linter.unusedVariables false
set_option linter.unusedSimpArgs false
open Go.ChangeShapes Go.WideShapes Go.ChangeAt Go.RowKit Go.Joins Go.Deep

section
variable {H : Type} {enc : TypeId × Value → H} {w : World}
end
end Go.Proofs.YtcekpngkfldgkaaGreatDoor

/- kinlaw20.SyntaxKinds: the walk. -/
namespace Go.Proofs.YtcekpngkfldgkaaGreatDoor
set_option linter.unusedVariables false
set_option linter.unusedSimpArgs false
open Go.RowKit Go.Extern.Stop Go.Stop Go.Extern

section
variable {σ τ : Type} {A : World → (Nat → Prop) → σ → Prop} {B : World → (Nat → Prop) → τ → Prop} {w0 w : World} {P : World → Prop}
end
end Go.Proofs.YtcekpngkfldgkaaGreatDoor

/- A list of kinlaw13's operations opened: three numbers and a yes or no each. -/
namespace Go.Proofs.YtcekpngkfldgkaaGreatDoor
set_option linter.unusedVariables false
set_option linter.unusedSimpArgs false
open Go.ChangeShapes Go.WideShapes Go.ChangeAt Go.RowKit Go.Joins Go.Deep

section
variable {H : Type} {enc : TypeId × Value → H} {w : World}
end
end Go.Proofs.YtcekpngkfldgkaaGreatDoor

/- kinlaw13.ModelReads: the walk. -/
namespace Go.Proofs.YtcekpngkfldgkaaGreatDoor
set_option linter.unusedVariables false
set_option linter.unusedSimpArgs false
open Go.RowKit Go.Extern.Stop Go.Stop Go.Extern

section
variable {d c y : Nat} {bs : List Nat} {w0 w : World} {s : Ms Dc} {t : Ms Xc}
end
end Go.Proofs.YtcekpngkfldgkaaGreatDoor

/- kinlaw20.SyntaxReads: the walk. -/
namespace Go.Proofs.YtcekpngkfldgkaaGreatDoor
set_option linter.unusedVariables false
set_option linter.unusedSimpArgs false
open Go.RowKit Go.Extern.Stop Go.Stop Go.Extern

end Go.Proofs.YtcekpngkfldgkaaGreatDoor

