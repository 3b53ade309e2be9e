/- What the rows of layers 1 and 15 list: errors.errorType, the table of strconv.Itoa, two of math/bits. -/
import Derived.Test.YtgohlhgapboijaaDoorLaw
import Derived.Test.YtgohlhgapboijaaDoorFt1
import Derived.Stop.LaidErr
import Derived.Lib.LaidTab
namespace Go.Proofs.YtgohlhgapboijaaDoor
set_option linter.unusedVariables false
set_option linter.unusedSimpArgs false
open Go.ChangeShapes Go.WideShapes Go.ChangeAt Go.RowKit

theorem pow_laid : (Rows.laid_internal_strconv_uint64pow10 : DataW Unit) = Lib.tabData .u64 Lib.pow10Tab := by kernel_rfl
theorem facts_of_laidF {W : World} (h : laidMetH Tryd.prog [("math/bits.deBruijn32tab", Rows.laid_math_bits_deBruijn32tab), ("math/bits.deBruijn64tab", Rows.laid_math_bits_deBruijn64tab), ("internal/strconv.uint64pow10", Rows.laid_internal_strconv_uint64pow10), ("errors.errorType", Rows.laid_errors_errorType)] W) : EtIs W ∧ PwIs W := by
  have h' : laidMet Tryd.prog [("math/bits.deBruijn32tab", Rows.laid_math_bits_deBruijn32tab), ("math/bits.deBruijn64tab", Rows.laid_math_bits_deBruijn64tab), ("internal/strconv.uint64pow10", Rows.laid_internal_strconv_uint64pow10)] W ∧ handlesMet Tryd.prog [("errors.errorType", Rows.laid_errors_errorType)] W := h
  refine ⟨et_of_handles (List.mem_singleton.2 rfl) h'.2, ?_⟩
  have h3 := h'.1.tail.tail
  rw [pow_laid] at h3
  exact Lib.tabIs_of_head pw_glob (show (Tryd.prog.globals[1]?).map (·.type) = some 155 by kernel_rfl) (show Tryd.prog.underlying 155 = some (.array 20 149) by kernel_rfl) (show Tryd.prog.underlying 149 = some (.int .u64) by kernel_rfl) (by kernel_rfl) (by kernel_rfl) h3
/-- a world that meets what the rows list -/
noncomputable def laidWorldF (os : Os) : World :=
  let w0 := laidWorld os
  let w1 := { w0 with heap := w0.heap.modify 1 fun
      | .cells _ t frozen => .cells (Lib.pow10Tab.map fun n => Value.int .u64 n).toArray t frozen
      | o => o }
  let w2 := { w1 with heap := w1.heap.modify 3 fun
      | .cells _ t frozen => .cells ([0, 1, 56, 2, 57, 49, 28, 3, 61, 58, 42, 50, 38, 29, 17, 4, 62, 47, 59, 36, 45, 43, 51, 22, 53, 39, 33, 30, 24, 18, 12, 5, 63, 55, 48, 27, 60, 41, 37, 16, 46, 35, 44, 21, 52, 32, 23, 11, 54, 26, 40, 15, 34, 20, 31, 10, 25, 14, 19, 9, 13, 8, 7, 6].map fun n => Value.int .u8 n).toArray t frozen
      | o => o }
  { w2 with heap := w2.heap.modify 2 fun
      | .cells _ t frozen => .cells ([0, 1, 28, 2, 29, 14, 24, 3, 30, 22, 20, 15, 25, 17, 4, 8, 31, 27, 13, 23, 21, 19, 16, 7, 26, 12, 18, 6, 11, 5, 10, 9].map fun n => Value.int .u8 n).toArray t frozen
      | o => o }
set_option maxRecDepth 100000 in
theorem laidWorldF_met (os : Os) (args : Array Value) : laidMetH Tryd.prog [("math/bits.deBruijn32tab", Rows.laid_math_bits_deBruijn32tab), ("math/bits.deBruijn64tab", Rows.laid_math_bits_deBruijn64tab), ("internal/strconv.uint64pow10", Rows.laid_internal_strconv_uint64pow10), ("errors.errorType", Rows.laid_errors_errorType)] ((laidWorldF os).forCall (fun _ _ => 0) ⟨#[], args, []⟩).memory :=
  laidMetH_of_parts (laidMet_of_run' 8 (by kernel_rfl) (by kernel_rfl)) (by kernel_rfl)
end Go.Proofs.YtgohlhgapboijaaDoor
