/- block.Sub, Add, Zero: contracts over this seat's translation. -/
import Derived.Test.YtbhlbiandelimaaDoorBlk
namespace Go.Proofs.YtbhlbiandelimaaDoor
set_option linter.unusedVariables false
set_option linter.unusedSimpArgs false
open Go.RowKit Go.Extern.Stop Go.Stop Go.Extern

theorem rowL_congrb {N : Nat} {f g : Nat → Int} (h : ∀ j, j < N → f j = g j) : rowL N f = rowL N g := by
  unfold rowL
  apply List.map_congr_left
  intro j hj
  exact h j (List.mem_range.1 hj)
theorem zeros_rowb (n : Nat) : (madeCells (Value.int .i64 0).cells (n * 1)).toList = (rowL n fun _ => 0).map (Value.int .i64) := by
  apply List.ext_getElem?
  intro j
  by_cases hj : j < n <;> simp [madeCells, rowL, Value.cells, hj, Nat.mod_one]
def subF (x y : Int) : Int := x - y
def addF (x y : Int) : Int := clipI (x + y)
/-- two lists, number by number -/
def twoV (f : Int → Int → Int) (xs ys : List Int) : List Int := match matAns xs ys with
  | none => rowL xs.length fun i => f (xs.getD i 0) (ys.getD i 0)
  | some _ => []
end Go.Proofs.YtbhlbiandelimaaDoor
