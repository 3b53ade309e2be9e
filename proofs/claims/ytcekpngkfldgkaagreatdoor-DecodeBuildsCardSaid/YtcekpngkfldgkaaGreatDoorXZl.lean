/- Contracts of this seat: Sy6, Pk, Sy7, Sy8. -/
import Derived.Test.YtcekpngkfldgkaaGreatDoorXZk
import Derived.Deep.RegionHeld3
import Derived.Deep.RegionWith
import Derived.Test.YtcekpngkfldgkaaGreatDoorXZb
import Derived.Test.YtcekpngkfldgkaaGreatDoorXZi
namespace Go.Proofs.YtcekpngkfldgkaaGreatDoor
set_option linter.unusedVariables false
set_option linter.unusedSimpArgs false
open Go.RowKit Go.Extern.Stop Go.Stop Go.Extern
def BoxIs (w : World) (b : Nat) (cs : Array Value) (T : TypeId) : Prop := w.heap[b]? = some (.cells cs T (0, 0))
theorem BoxIs.new (w : World) (cs : Array Value) (T : TypeId) : BoxIs (w.alloc (.cells cs T)) w.heap.size cs T := heap_alloc_new w _
theorem BoxIs.lt {w : World} {b : Nat} {cs : Array Value} {T : TypeId} (h : BoxIs w b cs T) : b < w.heap.size := (Array.getElem?_eq_some_iff.1 h).1
theorem BoxIs.ext {w w' : World} {b : Nat} {cs : Array Value} {T : TypeId} (h : BoxIs w b cs T) (k : Ext w w') : BoxIs w' b cs T := (k.block h.lt).trans h
theorem BoxIs.cell {w : World} {b i : Nat} {cs : Array Value} {T : TypeId} {v : Value} (h : BoxIs w b cs T) (hi : cs[i]? = some v) : w.cell? ⟨b, i, none⟩ = some v := by
 unfold BoxIs at h
 simp [World.cell?, h, hi]
theorem BoxIs.free {w : World} {b i : Nat} {cs : Array Value} {T : TypeId} (h : BoxIs w b cs T) : w.frozen? ⟨b, i, none⟩ = false := by
 unfold BoxIs at h
 simp [World.frozen?, h]
theorem BoxIs.set {w : World} {b i : Nat} {cs : Array Value} {T : TypeId} (h : BoxIs w b cs T) (v : Value) : BoxIs (w.setCell ⟨b, i, none⟩ v) b (cs.setIfInBounds i v) T := heap_setCell_same w b i cs T v h
theorem BoxIs.other {w : World} {b : Nat} {p : Addr} {cs : Array Value} {T : TypeId} (h : BoxIs w b cs T) (hp : p.block ≠ b) (v : Value) : BoxIs (w.setCell p v) b cs T := (Below.heap_setCell w p v b (Ne.symm hp)).trans h
theorem sq_put {w : World} {B : Nat} {c0 c1 c2 c3 c4 c5 c6 c7 c8 c9 c10 c11 c12 v0 v1 v2 v3 v4 v5 v6 v7 v8 v9 v10 v11 v12 : Value} {T : TypeId} (h : BoxIs w B #[c0, c1, c2, c3, c4, c5, c6, c7, c8, c9, c10, c11, c12] T) : BoxIs (((((((((((((w.setCell ⟨B, 0, none⟩ v0).setCell ⟨B, 1, none⟩ v1).setCell ⟨B, 2, none⟩ v2).setCell ⟨B, 3, none⟩ v3).setCell ⟨B, 4, none⟩ v4).setCell ⟨B, 5, none⟩ v5).setCell ⟨B, 6, none⟩ v6).setCell ⟨B, 7, none⟩ v7).setCell ⟨B, 8, none⟩ v8).setCell ⟨B, 9, none⟩ v9).setCell ⟨B, 10, none⟩ v10).setCell ⟨B, 11, none⟩ v11).setCell ⟨B, 12, none⟩ v12) B #[v0, v1, v2, v3, v4, v5, v6, v7, v8, v9, v10, v11, v12] T := by
 have h0 : BoxIs (w.setCell ⟨B, 0, none⟩ v0) B #[v0, c1, c2, c3, c4, c5, c6, c7, c8, c9, c10, c11, c12] T := h.set (i := 0) v0
 have h1 : BoxIs ((w.setCell ⟨B, 0, none⟩ v0).setCell ⟨B, 1, none⟩ v1) B #[v0, v1, c2, c3, c4, c5, c6, c7, c8, c9, c10, c11, c12] T := h0.set (i := 1) v1
 have h2 : BoxIs (((w.setCell ⟨B, 0, none⟩ v0).setCell ⟨B, 1, none⟩ v1).setCell ⟨B, 2, none⟩ v2) B #[v0, v1, v2, c3, c4, c5, c6, c7, c8, c9, c10, c11, c12] T := h1.set (i := 2) v2
 have h3 : BoxIs ((((w.setCell ⟨B, 0, none⟩ v0).setCell ⟨B, 1, none⟩ v1).setCell ⟨B, 2, none⟩ v2).setCell ⟨B, 3, none⟩ v3) B #[v0, v1, v2, v3, c4, c5, c6, c7, c8, c9, c10, c11, c12] T := h2.set (i := 3) v3
 have h4 : BoxIs (((((w.setCell ⟨B, 0, none⟩ v0).setCell ⟨B, 1, none⟩ v1).setCell ⟨B, 2, none⟩ v2).setCell ⟨B, 3, none⟩ v3).setCell ⟨B, 4, none⟩ v4) B #[v0, v1, v2, v3, v4, c5, c6, c7, c8, c9, c10, c11, c12] T := h3.set (i := 4) v4
 have h5 : BoxIs ((((((w.setCell ⟨B, 0, none⟩ v0).setCell ⟨B, 1, none⟩ v1).setCell ⟨B, 2, none⟩ v2).setCell ⟨B, 3, none⟩ v3).setCell ⟨B, 4, none⟩ v4).setCell ⟨B, 5, none⟩ v5) B #[v0, v1, v2, v3, v4, v5, c6, c7, c8, c9, c10, c11, c12] T := h4.set (i := 5) v5
 have h6 : BoxIs (((((((w.setCell ⟨B, 0, none⟩ v0).setCell ⟨B, 1, none⟩ v1).setCell ⟨B, 2, none⟩ v2).setCell ⟨B, 3, none⟩ v3).setCell ⟨B, 4, none⟩ v4).setCell ⟨B, 5, none⟩ v5).setCell ⟨B, 6, none⟩ v6) B #[v0, v1, v2, v3, v4, v5, v6, c7, c8, c9, c10, c11, c12] T := h5.set (i := 6) v6
 have h7 : BoxIs ((((((((w.setCell ⟨B, 0, none⟩ v0).setCell ⟨B, 1, none⟩ v1).setCell ⟨B, 2, none⟩ v2).setCell ⟨B, 3, none⟩ v3).setCell ⟨B, 4, none⟩ v4).setCell ⟨B, 5, none⟩ v5).setCell ⟨B, 6, none⟩ v6).setCell ⟨B, 7, none⟩ v7) B #[v0, v1, v2, v3, v4, v5, v6, v7, c8, c9, c10, c11, c12] T := h6.set (i := 7) v7
 have h8 : BoxIs (((((((((w.setCell ⟨B, 0, none⟩ v0).setCell ⟨B, 1, none⟩ v1).setCell ⟨B, 2, none⟩ v2).setCell ⟨B, 3, none⟩ v3).setCell ⟨B, 4, none⟩ v4).setCell ⟨B, 5, none⟩ v5).setCell ⟨B, 6, none⟩ v6).setCell ⟨B, 7, none⟩ v7).setCell ⟨B, 8, none⟩ v8) B #[v0, v1, v2, v3, v4, v5, v6, v7, v8, c9, c10, c11, c12] T := h7.set (i := 8) v8
 have h9 : BoxIs ((((((((((w.setCell ⟨B, 0, none⟩ v0).setCell ⟨B, 1, none⟩ v1).setCell ⟨B, 2, none⟩ v2).setCell ⟨B, 3, none⟩ v3).setCell ⟨B, 4, none⟩ v4).setCell ⟨B, 5, none⟩ v5).setCell ⟨B, 6, none⟩ v6).setCell ⟨B, 7, none⟩ v7).setCell ⟨B, 8, none⟩ v8).setCell ⟨B, 9, none⟩ v9) B #[v0, v1, v2, v3, v4, v5, v6, v7, v8, v9, c10, c11, c12] T := h8.set (i := 9) v9
 have h10 : BoxIs (((((((((((w.setCell ⟨B, 0, none⟩ v0).setCell ⟨B, 1, none⟩ v1).setCell ⟨B, 2, none⟩ v2).setCell ⟨B, 3, none⟩ v3).setCell ⟨B, 4, none⟩ v4).setCell ⟨B, 5, none⟩ v5).setCell ⟨B, 6, none⟩ v6).setCell ⟨B, 7, none⟩ v7).setCell ⟨B, 8, none⟩ v8).setCell ⟨B, 9, none⟩ v9).setCell ⟨B, 10, none⟩ v10) B #[v0, v1, v2, v3, v4, v5, v6, v7, v8, v9, v10, c11, c12] T := h9.set (i := 10) v10
 have h11 : BoxIs ((((((((((((w.setCell ⟨B, 0, none⟩ v0).setCell ⟨B, 1, none⟩ v1).setCell ⟨B, 2, none⟩ v2).setCell ⟨B, 3, none⟩ v3).setCell ⟨B, 4, none⟩ v4).setCell ⟨B, 5, none⟩ v5).setCell ⟨B, 6, none⟩ v6).setCell ⟨B, 7, none⟩ v7).setCell ⟨B, 8, none⟩ v8).setCell ⟨B, 9, none⟩ v9).setCell ⟨B, 10, none⟩ v10).setCell ⟨B, 11, none⟩ v11) B #[v0, v1, v2, v3, v4, v5, v6, v7, v8, v9, v10, v11, c12] T := h10.set (i := 11) v11
 have h12 : BoxIs (((((((((((((w.setCell ⟨B, 0, none⟩ v0).setCell ⟨B, 1, none⟩ v1).setCell ⟨B, 2, none⟩ v2).setCell ⟨B, 3, none⟩ v3).setCell ⟨B, 4, none⟩ v4).setCell ⟨B, 5, none⟩ v5).setCell ⟨B, 6, none⟩ v6).setCell ⟨B, 7, none⟩ v7).setCell ⟨B, 8, none⟩ v8).setCell ⟨B, 9, none⟩ v9).setCell ⟨B, 10, none⟩ v10).setCell ⟨B, 11, none⟩ v11).setCell ⟨B, 12, none⟩ v12) B #[v0, v1, v2, v3, v4, v5, v6, v7, v8, v9, v10, v11, v12] T := h11.set (i := 12) v12
 exact h12
theorem sq_cells {w : World} {B : Nat} {v0 v1 v2 v3 v4 v5 v6 v7 v8 v9 v10 v11 v12 : Value} {T : TypeId} (h : BoxIs w B #[v0, v1, v2, v3, v4, v5, v6, v7, v8, v9, v10, v11, v12] T) : (w.cell? ⟨B, 0, none⟩ = some v0 ∧ w.cell? ⟨B, 1, none⟩ = some v1 ∧ w.cell? ⟨B, 2, none⟩ = some v2 ∧ w.cell? ⟨B, 3, none⟩ = some v3 ∧ w.cell? ⟨B, 4, none⟩ = some v4 ∧ w.cell? ⟨B, 5, none⟩ = some v5 ∧ w.cell? ⟨B, 6, none⟩ = some v6 ∧ w.cell? ⟨B, 7, none⟩ = some v7 ∧ w.cell? ⟨B, 8, none⟩ = some v8 ∧ w.cell? ⟨B, 9, none⟩ = some v9 ∧ w.cell? ⟨B, 10, none⟩ = some v10 ∧ w.cell? ⟨B, 11, none⟩ = some v11 ∧ w.cell? ⟨B, 12, none⟩ = some v12) ∧ w.frozen? ⟨B, 0, none⟩ = false ∧ w.frozen? ⟨B, 1, none⟩ = false ∧ w.frozen? ⟨B, 2, none⟩ = false ∧ w.frozen? ⟨B, 3, none⟩ = false ∧ w.frozen? ⟨B, 4, none⟩ = false ∧ w.frozen? ⟨B, 5, none⟩ = false ∧ w.frozen? ⟨B, 6, none⟩ = false ∧ w.frozen? ⟨B, 7, none⟩ = false ∧ w.frozen? ⟨B, 8, none⟩ = false ∧ w.frozen? ⟨B, 9, none⟩ = false ∧ w.frozen? ⟨B, 10, none⟩ = false ∧ w.frozen? ⟨B, 11, none⟩ = false ∧ w.frozen? ⟨B, 12, none⟩ = false :=
 ⟨⟨h.cell rfl, h.cell rfl, h.cell rfl, h.cell rfl, h.cell rfl, h.cell rfl, h.cell rfl, h.cell rfl, h.cell rfl, h.cell rfl, h.cell rfl, h.cell rfl, h.cell rfl⟩, h.free, h.free, h.free, h.free, h.free, h.free, h.free, h.free, h.free, h.free, h.free, h.free, h.free⟩
def sqV (k m a b c d x y : Int) (L s0 s1 s2 s3 : Value) : Value := .agg #[.int .i64 k, .int .i64 m, .int .i64 a, .int .i64 b, .int .i64 c, .int .i64 d, .int .i64 x, .int .i64 y, L, s0, s1, s2, s3]
abbrev nilS : Value := .slice none 0 0
theorem isr_yes (p : Value) (xT : TypeId) (w : World) : (Instr.typeAssert (.iface 122 p) xT 122 true).run Tryz.prog w = .ok (.tuple #[p, .bool true]) w := by
 simp [Instr.typeAssert, run_underlying Tryz.underlying122, Result.andThen]
set_option maxRecDepth 20000 in
theorem isr_r (p : Value) (w : World) : Calls Tryz.prog 109 #[.iface 122 p] w fun e w' => e = .returned (.bool true) ∧ Ext w w' := by
 have hn := isr_yes p
 go_enter Tryz.func109, Tryz.ntmps109
 go_wp2
 go_ret
 exact ⟨rfl, Ext.refl w⟩
end Go.Proofs.YtcekpngkfldgkaaGreatDoor