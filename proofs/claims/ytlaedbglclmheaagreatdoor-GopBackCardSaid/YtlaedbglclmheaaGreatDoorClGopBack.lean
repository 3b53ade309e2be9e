/- The closed fact of the row GopBack. -/
import Derived.Test.YtlaedbglclmheaaGreatDoorLaw
namespace Go.Proofs.YtlaedbglclmheaaGreatDoor
set_option linter.unusedVariables false
set_option linter.unusedSimpArgs false
open Go.ChangeShapes Go.WideShapes Go.ChangeAt Go.RowKit
theorem clGopBack : joinedFacts Tryz.pinned.checked.prog 5 Tryz.f5 (OpenSpec.ofChange Rows.gopBackSpec).bare Rows.gopBackRow = true := by kernel_rfl
end Go.Proofs.YtlaedbglclmheaaGreatDoor
