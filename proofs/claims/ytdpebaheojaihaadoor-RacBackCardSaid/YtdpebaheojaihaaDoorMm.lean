/- The builtins max and min of ints, as rules for a walk. -/
import Derived.Test.YtdpebaheojaihaaDoorErrFacts
namespace Go.Proofs.YtdpebaheojaihaaDoor
set_option linter.unusedVariables false
set_option linter.unusedSimpArgs false
open Go.RowKit

theorem mx2 : ∀ (x y : Int) ts ty W, (Builtin.max_ ts ty #[.int .i64 x, .int .i64 y]).run Tryd.prog W = .ok (.int .i64 (max x y)) W := fun x y ts ty W => by
  have e : max x y = if x < y then y else x := by omega
  simp [Builtin.max_, Builtin.max2, e]
theorem mn2 : ∀ (x y : Int) ts ty W, (Builtin.min_ ts ty #[.int .i64 x, .int .i64 y]).run Tryd.prog W = .ok (.int .i64 (min x y)) W := fun x y ts ty W => by
  have e : min x y = if y < x then y else x := by omega
  simp [Builtin.min_, Builtin.min2, e]
theorem mx3 : ∀ (x y z : Int) ts ty W, (Builtin.max_ ts ty #[.int .i64 x, .int .i64 y, .int .i64 z]).run Tryd.prog W = .ok (.int .i64 (max (max x y) z)) W := fun x y z ts ty W => by
  have e : max (max x y) z = if (if x < y then y else x) < z then z else (if x < y then y else x) := by omega
  simp [Builtin.max_, Builtin.max2, e]
end Go.Proofs.YtdpebaheojaihaaDoor
