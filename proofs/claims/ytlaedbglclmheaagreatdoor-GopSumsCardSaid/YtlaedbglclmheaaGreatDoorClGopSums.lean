/- The closed fact of the row GopSums. -/
import Derived.Test.YtlaedbglclmheaaGreatDoorLaw
namespace Go.Proofs.YtlaedbglclmheaaGreatDoor
set_option linter.unusedVariables false
set_option linter.unusedSimpArgs false
open Go.ChangeShapes Go.WideShapes Go.ChangeAt Go.RowKit
theorem clGopSums : joinedFacts Tryz.pinned.checked.prog 6 Tryz.f6 (OpenSpec.ofChange Rows.gopSumsSpec).bare Rows.gopSumsRow = true := by kernel_rfl
end Go.Proofs.YtlaedbglclmheaaGreatDoor
