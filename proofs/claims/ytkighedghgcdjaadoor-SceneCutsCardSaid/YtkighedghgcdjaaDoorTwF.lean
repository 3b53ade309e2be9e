/- Two frames in the boxes of a law: their cells. -/
import Derived.Test.YtkighedghgcdjaaDoorCop
namespace Go.Proofs.YtkighedghgcdjaaDoor
set_option linter.unusedVariables false
set_option linter.unusedSimpArgs false
open Go.RowKit Go.Extern.Stop Go.Stop Go.Extern

/-- a frame's three cells -/
def FrBox (w : World) (b : Nat) (W H : Int) (v : Value) : Prop := w.cell? ⟨b, 0, none⟩ = some (.int .i64 W) ∧ w.cell? ⟨b, 1, none⟩ = some (.int .i64 H) ∧ w.cell? ⟨b, 2, none⟩ = some v
theorem FrBox.ext {w w' : World} {b : Nat} {W H : Int} {v : Value} (h : FrBox w b W H v) (k : Ext w w') : FrBox w' b W H v := ⟨k.cell h.1, k.cell h.2.1, k.cell h.2.2⟩
theorem FrBox.new (w : World) (W H : Int) (v : Value) : FrBox (w.alloc (.cells #[.int .i64 W, .int .i64 H, v] 24)) w.heap.size W H v := ⟨by simp, by simp, by simp⟩
theorem FrBox.two (w : World) (W H W' H' : Int) (v v' : Value) :
    FrBox ((w.alloc (.cells #[.int .i64 W, .int .i64 H, v] 24)).alloc (.cells #[.int .i64 W', .int .i64 H', v'] 24)) w.heap.size W H v ∧
    FrBox ((w.alloc (.cells #[.int .i64 W, .int .i64 H, v] 24)).alloc (.cells #[.int .i64 W', .int .i64 H', v'] 24)) (w.heap.size + 1) W' H' v' := by
  refine ⟨(FrBox.new w W H v).ext ((Ext.refl _).alloc _), ?_⟩
  have := FrBox.new (w.alloc (.cells #[.int .i64 W, .int .i64 H, v] 24)) W' H' v'
  simpa using this
end Go.Proofs.YtkighedghgcdjaaDoor
