/- Frames: what they are, which may be; plane.isSide, isSample, Clip, May and the document's: contracts over this seat's translation. -/
import Derived.Test.YtdpebaheojaihaaDoorFall
import Derived.Test.YtdpebaheojaihaaDoorMm
namespace Go.Proofs.YtdpebaheojaihaaDoor
set_option linter.unusedVariables false
set_option linter.unusedSimpArgs false
open Go.RowKit Go.Extern.Stop Go.Stop Go.Extern

def sideB (n : Int) : Bool := decide (8 ≤ n) && decide (n ≤ 32) && decide (n % 8 = 0)
/-- may a frame of these sides and samples be? -/
def may (W H : Int) (zs : List Int) : Prop := sideB W = true ∧ sideB H = true ∧ (zs.length : Int) = W * H ∧ within 0 255 zs
instance (W H : Int) (zs : List Int) : Decidable (may W H zs) := by unfold may; exact inferInstance
theorem sideB_true {n : Int} (h : sideB n = true) : 8 ≤ n ∧ n ≤ 32 ∧ n % 8 = 0 := by
  unfold sideB at h
  simp at h
  omega
theorem sideB_cases {n : Int} (h : sideB n = true) : n = 8 ∨ n = 16 ∨ n = 24 ∨ n = 32 := by
  have := sideB_true h
  omega
theorem may_area {W H : Int} {zs : List Int} (h : may W H zs) : 64 ≤ W * H ∧ W * H ≤ 1024 := by
  rcases sideB_cases h.1 with rfl | rfl | rfl | rfl <;> rcases sideB_cases h.2.1 with rfl | rfl | rfl | rfl <;> decide
theorem side_area {W H : Int} (h : sideB W = true) (k : sideB H = true) : 64 ≤ W * H ∧ W * H ≤ 1024 := by
  rcases sideB_cases h with rfl | rfl | rfl | rfl <;> rcases sideB_cases k with rfl | rfl | rfl | rfl <;> decide

def smpB (n : Int) : Bool := decide (0 ≤ n) && decide (n ≤ 255)
def clipI (n : Int) : Int := max 0 (min n 255)
end Go.Proofs.YtdpebaheojaihaaDoor
