/- block.matched, Sad, Sub, Add, Zero: contracts over this seat's translation. -/
import Derived.Test.YtdpebaheojaihaaDoorAnyB
import Derived.Test.YtdpebaheojaihaaDoorFr
import Derived.Test.YtdpebaheojaihaaDoorBMath
import Derived.Test.YtdpebaheojaihaaDoorWOwn
import Derived.Test.YtdpebaheojaihaaDoorPush
import Derived.BigRegion
import Derived.BigQuiet
import Derived.Deep.QuietTactic
namespace Go.Proofs.YtdpebaheojaihaaDoor
set_option linter.unusedVariables false
set_option linter.unusedSimpArgs false
open Go.RowKit Go.Extern.Stop Go.Stop Go.Extern

def fit : Fall := some ([], 14)
def range : Fall := some ([], 3)
/-- what forbids to hold two lists against one another -/
def matAns (xs ys : List Int) : Fall := if xs.length = ys.length then (if xs.any farB = true ∨ ys.any farB = true then range else none) else fit
theorem farB_no {x : Int} (h : farB x = false) : -1048576 ≤ x ∧ x ≤ 1048576 := by
  unfold farB at h
  simp at h
  omega
theorem any_false {zs : List Int} {p : Int → Bool} (h : zs.any p = false) (j : Nat) (d : Int) (hd : p d = false) : p (zs.getD j d) = false := by
  by_cases hj : j < zs.length
  · have hm : zs.getD j d ∈ zs := by simp [List.getD, hj]
    cases hp : p (zs.getD j d) with
    | false => rfl
    | true => rw [List.any_eq_true.2 ⟨_, hm, hp⟩] at h; cases h
  · simpa [List.getD, List.getElem?_eq_none (Nat.not_lt.1 hj)] using hd
theorem matAns_none {xs ys : List Int} (h : matAns xs ys = none) : xs.length = ys.length ∧ (∀ j, -1048576 ≤ xs.getD j 0 ∧ xs.getD j 0 ≤ 1048576) ∧ ∀ j, -1048576 ≤ ys.getD j 0 ∧ ys.getD j 0 ≤ 1048576 := by
  unfold matAns at h
  split at h
  · rename_i h1
    split at h
    · cases h
    · rename_i h2
      refine ⟨h1, fun j => farB_no (any_false ?_ j 0 rfl), fun j => farB_no (any_false ?_ j 0 rfl)⟩
      · cases hx : xs.any farB with
        | false => rfl
        | true => exact absurd (Or.inl hx) h2
      · cases hx : ys.any farB with
        | false => rfl
        | true => exact absurd (Or.inr hx) h2
  · cases h

/-- how unlike two lists are -/
def sadV (xs ys : List Int) : Int := match matAns xs ys with
  | none => sadF (fun i => xs.getD i 0) (fun i => ys.getD i 0) xs.length
  | some _ => 0
theorem getD_of_get {zs : List Int} {j : Nat} {x : Int} (h : zs[j]? = some x) : zs.getD j 0 = x := by simp [List.getD, h]
theorem get_of_lt {zs : List Int} {j : Nat} (h : j < zs.length) : zs[j]? = some (zs.getD j 0) := by simp [List.getD, h]

end Go.Proofs.YtdpebaheojaihaaDoor
