/- Contracts of this seat: CpF. -/
import Derived.Test.YtlaedbglclmheaaGreatDoorZh
import Derived.Deep.RegionWith
/- kinref.CopyFrame: its contract over this seat's translation. -/
namespace Go.Proofs.YtlaedbglclmheaaGreatDoor
set_option linter.unusedVariables false
set_option linter.unusedSimpArgs false
open Go.RowKit Go.Extern.Stop Go.Stop Go.Extern

theorem fr_cells {w : World} {B : Nat} (W H : Int) (v : Value) (h0 : w.cell? ⟨B, 0, none⟩ = some (.int .i64 0)) (h1 : w.cell? ⟨B, 1, none⟩ = some (.int .i64 0)) (h2 : w.cell? ⟨B, 2, none⟩ = some (.slice none 0 0)) :
    (((w.setCell ⟨B, 0, none⟩ (.int .i64 W)).setCell ⟨B, 1, none⟩ (.int .i64 H)).setCell ⟨B, 2, none⟩ v).cell? ⟨B, 0, none⟩ = some (.int .i64 W) ∧
    (((w.setCell ⟨B, 0, none⟩ (.int .i64 W)).setCell ⟨B, 1, none⟩ (.int .i64 H)).setCell ⟨B, 2, none⟩ v).cell? ⟨B, 1, none⟩ = some (.int .i64 H) ∧
    (((w.setCell ⟨B, 0, none⟩ (.int .i64 W)).setCell ⟨B, 1, none⟩ (.int .i64 H)).setCell ⟨B, 2, none⟩ v).cell? ⟨B, 2, none⟩ = some v := by
  have a0 := World.cell?_setCell_same _ _ (.int .i64 W) h0
  have a1 := (World.cell?_setCell_other w ⟨B, 0, none⟩ ⟨B, 1, none⟩ (.int .i64 W) (by simp)).trans h1
  have a2 := (World.cell?_setCell_other w ⟨B, 0, none⟩ ⟨B, 2, none⟩ (.int .i64 W) (by simp)).trans h2
  have b0 := (World.cell?_setCell_other _ ⟨B, 1, none⟩ ⟨B, 0, none⟩ (.int .i64 H) (by simp)).trans a0
  have b1 := World.cell?_setCell_same _ _ (.int .i64 H) a1
  have b2 := (World.cell?_setCell_other _ ⟨B, 1, none⟩ ⟨B, 2, none⟩ (.int .i64 H) (by simp)).trans a2
  have c0 := (World.cell?_setCell_other _ ⟨B, 2, none⟩ ⟨B, 0, none⟩ v (by simp)).trans b0
  have c1 := (World.cell?_setCell_other _ ⟨B, 2, none⟩ ⟨B, 1, none⟩ v (by simp)).trans b1
  have c2 := World.cell?_setCell_same _ _ v b2
  exact ⟨c0, c1, c2⟩
/-- a frame's three cells, nought, that may be written -/
def FrAt (w : World) (B : Nat) : Prop := (w.cell? ⟨B, 0, none⟩ = some (.int .i64 0) ∧ w.cell? ⟨B, 1, none⟩ = some (.int .i64 0) ∧ w.cell? ⟨B, 2, none⟩ = some (.slice none 0 0)) ∧ w.frozen? ⟨B, 0, none⟩ = false ∧ w.frozen? ⟨B, 1, none⟩ = false ∧ w.frozen? ⟨B, 2, none⟩ = false
theorem FrAt.new (w : World) : FrAt (w.alloc (.cells #[.int .i64 0, .int .i64 0, .slice none 0 0] 99)) w.heap.size := by
  refine ⟨⟨by simp, by simp, by simp⟩, by simp, by simp, by simp⟩
theorem FrAt.ext {w w' : World} {B : Nat} (h : FrAt w B) (k : Ext w w') : FrAt w' B := by
  obtain ⟨⟨h0, h1, h2⟩, f0, f1, f2⟩ := h
  have hB := Ext.lt h0
  exact ⟨⟨k.cell h0, k.cell h1, k.cell h2⟩, (k.frozen (Ext.lt h0)).trans f0, (Below.frozen k (Ext.lt h1)).trans f1, (Below.frozen k (Ext.lt h2)).trans f2⟩
end Go.Proofs.YtlaedbglclmheaaGreatDoor
