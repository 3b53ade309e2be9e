/- Contracts of this seat: Sy6, Pk, Sy7, Sy8. -/
import Derived.Test.YtpofabebmeickaaGreatDoorVwZk
import Derived.Deep.RegionHeld3
import Derived.Deep.RegionWith
import Derived.Test.YtpofabebmeickaaGreatDoorVwZb
import Derived.Test.YtpofabebmeickaaGreatDoorVwMd4
/- kinref20.Read: its contract over this seat's translation. -/
namespace Go.Proofs.YtpofabebmeickaaGreatDoor
set_option linter.unusedVariables false
set_option linter.unusedSimpArgs false
open Go.RowKit Go.Extern.Stop Go.Stop Go.Extern

end Go.Proofs.YtpofabebmeickaaGreatDoor

/- An append of one int, and what it leaves of blocks of other types. -/
namespace Go.Proofs.YtpofabebmeickaaGreatDoor
set_option linter.unusedVariables false
set_option linter.unusedSimpArgs false
open Go.RowKit Go.Extern.Stop Go.Stop Go.Extern

/-- a block known whole -/
def BoxIs (w : World) (b : Nat) (cs : Array Value) (T : TypeId) : Prop := w.heap[b]? = some (.cells cs T (0, 0))
theorem BoxIs.new (w : World) (cs : Array Value) (T : TypeId) : BoxIs (w.alloc (.cells cs T)) w.heap.size cs T := heap_alloc_new w _
theorem BoxIs.lt {w : World} {b : Nat} {cs : Array Value} {T : TypeId} (h : BoxIs w b cs T) : b < w.heap.size := (Array.getElem?_eq_some_iff.1 h).1
theorem BoxIs.ext {w w' : World} {b : Nat} {cs : Array Value} {T : TypeId} (h : BoxIs w b cs T) (k : Ext w w') : BoxIs w' b cs T := (k.block h.lt).trans h
theorem BoxIs.cell {w : World} {b i : Nat} {cs : Array Value} {T : TypeId} {v : Value} (h : BoxIs w b cs T) (hi : cs[i]? = some v) : w.cell? ⟨b, i, none⟩ = some v := by
  unfold BoxIs at h
  simp [World.cell?, h, hi]
theorem BoxIs.free {w : World} {b i : Nat} {cs : Array Value} {T : TypeId} (h : BoxIs w b cs T) : w.frozen? ⟨b, i, none⟩ = false := by
  unfold BoxIs at h
  simp [World.frozen?, h]
theorem BoxIs.apart {w : World} {b : Nat} {cs : Array Value} {T : TypeId} (h : BoxIs w b cs T) {base : Nat} {e : TypeId} {size : Nat} {v : Value} {n : Nat} {xs : List Value} (k : w.ownsRow base e size v n xs) (hT : T ≠ e) : some b ≠ v.ownBlock := by
  intro hb
  rcases k.2 with ⟨rfl, -⟩ | ⟨g, cap, cur, rfl, -, hg, -⟩
  · simp [Value.ownBlock] at hb
  · simp only [Value.ownBlock, Option.some.injEq] at hb
    subst hb
    unfold BoxIs at h
    rw [h] at hg
    simp only [Option.some.injEq, Obj.cells.injEq] at hg
    exact hT hg.2.1
theorem BoxIs.grown {w w' : World} {b : Nat} {cs : Array Value} {T : TypeId} (h : BoxIs w b cs T) {base : Nat} {e : TypeId} {size : Nat} {v : Value} {n : Nat} {xs : List Value} (k : w.ownsRow base e size v n xs) (hT : T ≠ e) (hg : w.grownBy w' v.ownBlock) : BoxIs w' b cs T :=
  (hg.block b h.lt (h.apart k hT)).trans h
end Go.Proofs.YtpofabebmeickaaGreatDoor

/- A square in memory; syntax.blank. -/
namespace Go.Proofs.YtpofabebmeickaaGreatDoor
set_option linter.unusedVariables false
set_option linter.unusedSimpArgs false
open Go.RowKit Go.Extern.Stop Go.Stop Go.Extern

theorem BoxIs.set {w : World} {b i : Nat} {cs : Array Value} {T : TypeId} (h : BoxIs w b cs T) (v : Value) : BoxIs (w.setCell ⟨b, i, none⟩ v) b (cs.setIfInBounds i v) T := heap_setCell_same w b i cs T v h
theorem BoxIs.other {w : World} {b : Nat} {p : Addr} {cs : Array Value} {T : TypeId} (h : BoxIs w b cs T) (hp : p.block ≠ b) (v : Value) : BoxIs (w.setCell p v) b cs T := (Below.heap_setCell w p v b (Ne.symm hp)).trans h
theorem BoxIs.below {w w' : World} {b B : Nat} {cs : Array Value} {T : TypeId} (h : BoxIs w b cs T) (k : Below B w w') (hb : b < B) : BoxIs w' b cs T := (Below.block k b hb).trans h
theorem sq_put {w : World} {B : Nat} {c0 c1 c2 c3 c4 c5 c6 c7 c8 c9 c10 c11 c12 v0 v1 v2 v3 v4 v5 v6 v7 v8 v9 v10 v11 v12 : Value} {T : TypeId} (h : BoxIs w B #[c0, c1, c2, c3, c4, c5, c6, c7, c8, c9, c10, c11, c12] T) : BoxIs (((((((((((((w.setCell ⟨B, 0, none⟩ v0).setCell ⟨B, 1, none⟩ v1).setCell ⟨B, 2, none⟩ v2).setCell ⟨B, 3, none⟩ v3).setCell ⟨B, 4, none⟩ v4).setCell ⟨B, 5, none⟩ v5).setCell ⟨B, 6, none⟩ v6).setCell ⟨B, 7, none⟩ v7).setCell ⟨B, 8, none⟩ v8).setCell ⟨B, 9, none⟩ v9).setCell ⟨B, 10, none⟩ v10).setCell ⟨B, 11, none⟩ v11).setCell ⟨B, 12, none⟩ v12) B #[v0, v1, v2, v3, v4, v5, v6, v7, v8, v9, v10, v11, v12] T := by
  have h0 : BoxIs (w.setCell ⟨B, 0, none⟩ v0) B #[v0, c1, c2, c3, c4, c5, c6, c7, c8, c9, c10, c11, c12] T := h.set (i := 0) v0
  have h1 : BoxIs ((w.setCell ⟨B, 0, none⟩ v0).setCell ⟨B, 1, none⟩ v1) B #[v0, v1, c2, c3, c4, c5, c6, c7, c8, c9, c10, c11, c12] T := h0.set (i := 1) v1
  have h2 : BoxIs (((w.setCell ⟨B, 0, none⟩ v0).setCell ⟨B, 1, none⟩ v1).setCell ⟨B, 2, none⟩ v2) B #[v0, v1, v2, c3, c4, c5, c6, c7, c8, c9, c10, c11, c12] T := h1.set (i := 2) v2
  have h3 : BoxIs ((((w.setCell ⟨B, 0, none⟩ v0).setCell ⟨B, 1, none⟩ v1).setCell ⟨B, 2, none⟩ v2).setCell ⟨B, 3, none⟩ v3) B #[v0, v1, v2, v3, c4, c5, c6, c7, c8, c9, c10, c11, c12] T := h2.set (i := 3) v3
  have h4 : BoxIs (((((w.setCell ⟨B, 0, none⟩ v0).setCell ⟨B, 1, none⟩ v1).setCell ⟨B, 2, none⟩ v2).setCell ⟨B, 3, none⟩ v3).setCell ⟨B, 4, none⟩ v4) B #[v0, v1, v2, v3, v4, c5, c6, c7, c8, c9, c10, c11, c12] T := h3.set (i := 4) v4
  have h5 : BoxIs ((((((w.setCell ⟨B, 0, none⟩ v0).setCell ⟨B, 1, none⟩ v1).setCell ⟨B, 2, none⟩ v2).setCell ⟨B, 3, none⟩ v3).setCell ⟨B, 4, none⟩ v4).setCell ⟨B, 5, none⟩ v5) B #[v0, v1, v2, v3, v4, v5, c6, c7, c8, c9, c10, c11, c12] T := h4.set (i := 5) v5
  have h6 : BoxIs (((((((w.setCell ⟨B, 0, none⟩ v0).setCell ⟨B, 1, none⟩ v1).setCell ⟨B, 2, none⟩ v2).setCell ⟨B, 3, none⟩ v3).setCell ⟨B, 4, none⟩ v4).setCell ⟨B, 5, none⟩ v5).setCell ⟨B, 6, none⟩ v6) B #[v0, v1, v2, v3, v4, v5, v6, c7, c8, c9, c10, c11, c12] T := h5.set (i := 6) v6
  have h7 : BoxIs ((((((((w.setCell ⟨B, 0, none⟩ v0).setCell ⟨B, 1, none⟩ v1).setCell ⟨B, 2, none⟩ v2).setCell ⟨B, 3, none⟩ v3).setCell ⟨B, 4, none⟩ v4).setCell ⟨B, 5, none⟩ v5).setCell ⟨B, 6, none⟩ v6).setCell ⟨B, 7, none⟩ v7) B #[v0, v1, v2, v3, v4, v5, v6, v7, c8, c9, c10, c11, c12] T := h6.set (i := 7) v7
  have h8 : BoxIs (((((((((w.setCell ⟨B, 0, none⟩ v0).setCell ⟨B, 1, none⟩ v1).setCell ⟨B, 2, none⟩ v2).setCell ⟨B, 3, none⟩ v3).setCell ⟨B, 4, none⟩ v4).setCell ⟨B, 5, none⟩ v5).setCell ⟨B, 6, none⟩ v6).setCell ⟨B, 7, none⟩ v7).setCell ⟨B, 8, none⟩ v8) B #[v0, v1, v2, v3, v4, v5, v6, v7, v8, c9, c10, c11, c12] T := h7.set (i := 8) v8
  have h9 : BoxIs ((((((((((w.setCell ⟨B, 0, none⟩ v0).setCell ⟨B, 1, none⟩ v1).setCell ⟨B, 2, none⟩ v2).setCell ⟨B, 3, none⟩ v3).setCell ⟨B, 4, none⟩ v4).setCell ⟨B, 5, none⟩ v5).setCell ⟨B, 6, none⟩ v6).setCell ⟨B, 7, none⟩ v7).setCell ⟨B, 8, none⟩ v8).setCell ⟨B, 9, none⟩ v9) B #[v0, v1, v2, v3, v4, v5, v6, v7, v8, v9, c10, c11, c12] T := h8.set (i := 9) v9
  have h10 : BoxIs (((((((((((w.setCell ⟨B, 0, none⟩ v0).setCell ⟨B, 1, none⟩ v1).setCell ⟨B, 2, none⟩ v2).setCell ⟨B, 3, none⟩ v3).setCell ⟨B, 4, none⟩ v4).setCell ⟨B, 5, none⟩ v5).setCell ⟨B, 6, none⟩ v6).setCell ⟨B, 7, none⟩ v7).setCell ⟨B, 8, none⟩ v8).setCell ⟨B, 9, none⟩ v9).setCell ⟨B, 10, none⟩ v10) B #[v0, v1, v2, v3, v4, v5, v6, v7, v8, v9, v10, c11, c12] T := h9.set (i := 10) v10
  have h11 : BoxIs ((((((((((((w.setCell ⟨B, 0, none⟩ v0).setCell ⟨B, 1, none⟩ v1).setCell ⟨B, 2, none⟩ v2).setCell ⟨B, 3, none⟩ v3).setCell ⟨B, 4, none⟩ v4).setCell ⟨B, 5, none⟩ v5).setCell ⟨B, 6, none⟩ v6).setCell ⟨B, 7, none⟩ v7).setCell ⟨B, 8, none⟩ v8).setCell ⟨B, 9, none⟩ v9).setCell ⟨B, 10, none⟩ v10).setCell ⟨B, 11, none⟩ v11) B #[v0, v1, v2, v3, v4, v5, v6, v7, v8, v9, v10, v11, c12] T := h10.set (i := 11) v11
  have h12 : BoxIs (((((((((((((w.setCell ⟨B, 0, none⟩ v0).setCell ⟨B, 1, none⟩ v1).setCell ⟨B, 2, none⟩ v2).setCell ⟨B, 3, none⟩ v3).setCell ⟨B, 4, none⟩ v4).setCell ⟨B, 5, none⟩ v5).setCell ⟨B, 6, none⟩ v6).setCell ⟨B, 7, none⟩ v7).setCell ⟨B, 8, none⟩ v8).setCell ⟨B, 9, none⟩ v9).setCell ⟨B, 10, none⟩ v10).setCell ⟨B, 11, none⟩ v11).setCell ⟨B, 12, none⟩ v12) B #[v0, v1, v2, v3, v4, v5, v6, v7, v8, v9, v10, v11, v12] T := h11.set (i := 12) v12
  exact h12
theorem sq_cells {w : World} {B : Nat} {v0 v1 v2 v3 v4 v5 v6 v7 v8 v9 v10 v11 v12 : Value} {T : TypeId} (h : BoxIs w B #[v0, v1, v2, v3, v4, v5, v6, v7, v8, v9, v10, v11, v12] T) : (w.cell? ⟨B, 0, none⟩ = some v0 ∧ w.cell? ⟨B, 1, none⟩ = some v1 ∧ w.cell? ⟨B, 2, none⟩ = some v2 ∧ w.cell? ⟨B, 3, none⟩ = some v3 ∧ w.cell? ⟨B, 4, none⟩ = some v4 ∧ w.cell? ⟨B, 5, none⟩ = some v5 ∧ w.cell? ⟨B, 6, none⟩ = some v6 ∧ w.cell? ⟨B, 7, none⟩ = some v7 ∧ w.cell? ⟨B, 8, none⟩ = some v8 ∧ w.cell? ⟨B, 9, none⟩ = some v9 ∧ w.cell? ⟨B, 10, none⟩ = some v10 ∧ w.cell? ⟨B, 11, none⟩ = some v11 ∧ w.cell? ⟨B, 12, none⟩ = some v12) ∧ w.frozen? ⟨B, 0, none⟩ = false ∧ w.frozen? ⟨B, 1, none⟩ = false ∧ w.frozen? ⟨B, 2, none⟩ = false ∧ w.frozen? ⟨B, 3, none⟩ = false ∧ w.frozen? ⟨B, 4, none⟩ = false ∧ w.frozen? ⟨B, 5, none⟩ = false ∧ w.frozen? ⟨B, 6, none⟩ = false ∧ w.frozen? ⟨B, 7, none⟩ = false ∧ w.frozen? ⟨B, 8, none⟩ = false ∧ w.frozen? ⟨B, 9, none⟩ = false ∧ w.frozen? ⟨B, 10, none⟩ = false ∧ w.frozen? ⟨B, 11, none⟩ = false ∧ w.frozen? ⟨B, 12, none⟩ = false :=
  ⟨⟨h.cell rfl, h.cell rfl, h.cell rfl, h.cell rfl, h.cell rfl, h.cell rfl, h.cell rfl, h.cell rfl, h.cell rfl, h.cell rfl, h.cell rfl, h.cell rfl, h.cell rfl⟩, h.free, h.free, h.free, h.free, h.free, h.free, h.free, h.free, h.free, h.free, h.free, h.free, h.free⟩
def sqV (k m a b c d x y : Int) (L s0 s1 s2 s3 : Value) : Value := .agg #[.int .i64 k, .int .i64 m, .int .i64 a, .int .i64 b, .int .i64 c, .int .i64 d, .int .i64 x, .int .i64 y, L, s0, s1, s2, s3]
set_option maxHeartbeats 4000000 in
set_option maxRecDepth 20000 in
theorem blank_ext (w : World) : Calls Tryz.prog 34 #[] w fun e w' => ∃ L s0 s1 s2 s3 : Addr, e = .returned (sqV 0 0 0 0 0 0 0 0 (.slice (some L) 64 64) (.slice (some s0) 16 16) (.slice (some s1) 16 16) (.slice (some s2) 16 16) (.slice (some s3) 16 16)) ∧ Ext w w' := by
  obtain ⟨i0, hi, hz0, hz1, hz2⟩ := info_parts infoInt
  have B0 := BoxIs.new w #[.int .i64 0, .int .i64 0, .int .i64 0, .int .i64 0, .int .i64 0, .int .i64 0, .int .i64 0, .int .i64 0, .slice none 0 0, .slice none 0 0, .slice none 0 0, .slice none 0 0, .slice none 0 0] 36
  have E0 := (Ext.refl w).alloc (.cells #[.int .i64 0, .int .i64 0, .int .i64 0, .int .i64 0, .int .i64 0, .int .i64 0, .int .i64 0, .int .i64 0, .slice none 0 0, .slice none 0 0, .slice none 0 0, .slice none 0 0, .slice none 0 0] 36)
  go_enter Tryz.func34, Tryz.ntmps34
  go_wp2_with (at_make; generalize hw0 : w.alloc (.cells #[.int .i64 0, .int .i64 0, .int .i64 0, .int .i64 0, .int .i64 0, .int .i64 0, .int .i64 0, .int .i64 0, .slice none 0 0, .slice none 0 0, .slice none 0 0, .slice none 0 0, .slice none 0 0] 36) = w0 at B0 E0 ⊢; clear hw0; refine wpList_make_full _ rfl _ _ 33 rfl w0.heap.size 3 i0 (.int .i64 0) 1 Tryz.underlying33 hi hz0 hz1 .i64 .i64 _ _ 64 rfl rfl rfl rfl (by rw [hz2]; decide) (by decide) (Nat.le_refl _) ?_; intro w1 hown hgrow)
  have B0 := Lib.hid B0
  have E0 := Lib.hid E0
  have E1 : Ext w0 w1 := Below.grown (Ext.refl w0) hgrow (Nat.le_refl _) (fun k hk => by cases hk)
  have b2 := BoxIs.new w1 #[.int .i64 0, .int .i64 0, .int .i64 0, .int .i64 0, .int .i64 0, .int .i64 0, .int .i64 0, .int .i64 0, .slice (some ⟨w0.heap.size, 0, none⟩) 64 64, .slice none 0 0, .slice none 0 0, .slice none 0 0, .slice none 0 0] 36
  have hE2 : Ext w0 (w1.alloc (.cells #[.int .i64 0, .int .i64 0, .int .i64 0, .int .i64 0, .int .i64 0, .int .i64 0, .int .i64 0, .int .i64 0, .slice (some ⟨w0.heap.size, 0, none⟩) 64 64, .slice none 0 0, .slice none 0 0, .slice none 0 0, .slice none 0 0] 36)) := E1.alloc _
  generalize hu0 : w1.alloc (.cells #[.int .i64 0, .int .i64 0, .int .i64 0, .int .i64 0, .int .i64 0, .int .i64 0, .int .i64 0, .int .i64 0, .slice (some ⟨w0.heap.size, 0, none⟩) 64 64, .slice none 0 0, .slice none 0 0, .slice none 0 0, .slice none 0 0] 36) = u0 at b2 hE2 ⊢
  have B2 := Lib.hid b2
  have R2 := Lib.hid (B0.out.ext hE2)
  have E2 := Lib.hid (E0.out.trans hE2)
  have hlt := B2.out.lt
  have hne : w.heap.size ≠ w1.heap.size := by have := B0.out.lt; have := E1.size; omega
  have hbl : w.heap.size ≤ w1.heap.size := by have := B0.out.lt; have := E1.size; omega
  clear hu0 b2 hE2 E1 hown hgrow B0 E0
  refine wp_loop_rounds 5 ?_
  rw [rounds_succ]
  have c := B2.out.cell (i := 9) (v := .slice none 0 0) rfl
  have f := B2.out.free (i := 9)
  go_wp2_with (at_make; refine wpList_make_full _ rfl _ _ 33 rfl u0.heap.size 3 i0 (.int .i64 0) 1 Tryz.underlying33 hi hz0 hz1 .i64 .i64 _ _ 16 rfl rfl rfl rfl (by rw [hz2]; decide) (by decide) (Nat.le_refl _) ?_; intro x0 hown hgrow; have EE : Ext u0 x0 := Below.grown (Ext.refl u0) hgrow (Nat.le_refl _) (fun k hk => by cases hk); have d := EE.cell c; have g := (B2.out.ext EE).free (i := 9))
  have b2 : BoxIs (x0.setCell ⟨w1.heap.size, 9, none⟩ (.slice (some ⟨u0.heap.size, 0, none⟩) 16 16)) w1.heap.size #[.int .i64 0, .int .i64 0, .int .i64 0, .int .i64 0, .int .i64 0, .int .i64 0, .int .i64 0, .int .i64 0, .slice (some ⟨w0.heap.size, 0, none⟩) 64 64, .slice (some ⟨u0.heap.size, 0, none⟩) 16 16, .slice none 0 0, .slice none 0 0, .slice none 0 0] 36 := (B2.out.ext EE).set (i := 9) (.slice (some ⟨u0.heap.size, 0, none⟩) 16 16)
  have e2 := (E2.out.trans EE).setCell (p := ⟨w1.heap.size, 9, none⟩) hbl (.slice (some ⟨u0.heap.size, 0, none⟩) 16 16)
  have r2 := (R2.out.ext EE).other (p := ⟨w1.heap.size, 9, none⟩) (Ne.symm hne) (.slice (some ⟨u0.heap.size, 0, none⟩) 16 16)
  clear B2 R2 E2 c f d g hown hgrow EE
  generalize x0.setCell ⟨w1.heap.size, 9, none⟩ (.slice (some ⟨u0.heap.size, 0, none⟩) 16 16) = u1 at b2 e2 r2 ⊢
  have B2 := Lib.hid b2
  have R2 := Lib.hid r2
  have E2 := Lib.hid e2
  clear b2 e2 r2
  rw [rounds_succ]
  have c := B2.out.cell (i := 10) (v := .slice none 0 0) rfl
  have f := B2.out.free (i := 10)
  go_wp2_with (at_make; refine wpList_make_full _ rfl _ _ 33 rfl u1.heap.size 3 i0 (.int .i64 0) 1 Tryz.underlying33 hi hz0 hz1 .i64 .i64 _ _ 16 rfl rfl rfl rfl (by rw [hz2]; decide) (by decide) (Nat.le_refl _) ?_; intro x1 hown hgrow; have EE : Ext u1 x1 := Below.grown (Ext.refl u1) hgrow (Nat.le_refl _) (fun k hk => by cases hk); have d := EE.cell c; have g := (B2.out.ext EE).free (i := 10))
  have b2 : BoxIs (x1.setCell ⟨w1.heap.size, 10, none⟩ (.slice (some ⟨u1.heap.size, 0, none⟩) 16 16)) w1.heap.size #[.int .i64 0, .int .i64 0, .int .i64 0, .int .i64 0, .int .i64 0, .int .i64 0, .int .i64 0, .int .i64 0, .slice (some ⟨w0.heap.size, 0, none⟩) 64 64, .slice (some ⟨u0.heap.size, 0, none⟩) 16 16, .slice (some ⟨u1.heap.size, 0, none⟩) 16 16, .slice none 0 0, .slice none 0 0] 36 := (B2.out.ext EE).set (i := 10) (.slice (some ⟨u1.heap.size, 0, none⟩) 16 16)
  have e2 := (E2.out.trans EE).setCell (p := ⟨w1.heap.size, 10, none⟩) hbl (.slice (some ⟨u1.heap.size, 0, none⟩) 16 16)
  have r2 := (R2.out.ext EE).other (p := ⟨w1.heap.size, 10, none⟩) (Ne.symm hne) (.slice (some ⟨u1.heap.size, 0, none⟩) 16 16)
  clear B2 R2 E2 c f d g hown hgrow EE
  generalize x1.setCell ⟨w1.heap.size, 10, none⟩ (.slice (some ⟨u1.heap.size, 0, none⟩) 16 16) = u2 at b2 e2 r2 ⊢
  have B2 := Lib.hid b2
  have R2 := Lib.hid r2
  have E2 := Lib.hid e2
  clear b2 e2 r2
  rw [rounds_succ]
  have c := B2.out.cell (i := 11) (v := .slice none 0 0) rfl
  have f := B2.out.free (i := 11)
  go_wp2_with (at_make; refine wpList_make_full _ rfl _ _ 33 rfl u2.heap.size 3 i0 (.int .i64 0) 1 Tryz.underlying33 hi hz0 hz1 .i64 .i64 _ _ 16 rfl rfl rfl rfl (by rw [hz2]; decide) (by decide) (Nat.le_refl _) ?_; intro x2 hown hgrow; have EE : Ext u2 x2 := Below.grown (Ext.refl u2) hgrow (Nat.le_refl _) (fun k hk => by cases hk); have d := EE.cell c; have g := (B2.out.ext EE).free (i := 11))
  have b2 : BoxIs (x2.setCell ⟨w1.heap.size, 11, none⟩ (.slice (some ⟨u2.heap.size, 0, none⟩) 16 16)) w1.heap.size #[.int .i64 0, .int .i64 0, .int .i64 0, .int .i64 0, .int .i64 0, .int .i64 0, .int .i64 0, .int .i64 0, .slice (some ⟨w0.heap.size, 0, none⟩) 64 64, .slice (some ⟨u0.heap.size, 0, none⟩) 16 16, .slice (some ⟨u1.heap.size, 0, none⟩) 16 16, .slice (some ⟨u2.heap.size, 0, none⟩) 16 16, .slice none 0 0] 36 := (B2.out.ext EE).set (i := 11) (.slice (some ⟨u2.heap.size, 0, none⟩) 16 16)
  have e2 := (E2.out.trans EE).setCell (p := ⟨w1.heap.size, 11, none⟩) hbl (.slice (some ⟨u2.heap.size, 0, none⟩) 16 16)
  have r2 := (R2.out.ext EE).other (p := ⟨w1.heap.size, 11, none⟩) (Ne.symm hne) (.slice (some ⟨u2.heap.size, 0, none⟩) 16 16)
  clear B2 R2 E2 c f d g hown hgrow EE
  generalize x2.setCell ⟨w1.heap.size, 11, none⟩ (.slice (some ⟨u2.heap.size, 0, none⟩) 16 16) = u3 at b2 e2 r2 ⊢
  have B2 := Lib.hid b2
  have R2 := Lib.hid r2
  have E2 := Lib.hid e2
  clear b2 e2 r2
  rw [rounds_succ]
  have c := B2.out.cell (i := 12) (v := .slice none 0 0) rfl
  have f := B2.out.free (i := 12)
  go_wp2_with (at_make; refine wpList_make_full _ rfl _ _ 33 rfl u3.heap.size 3 i0 (.int .i64 0) 1 Tryz.underlying33 hi hz0 hz1 .i64 .i64 _ _ 16 rfl rfl rfl rfl (by rw [hz2]; decide) (by decide) (Nat.le_refl _) ?_; intro x3 hown hgrow; have EE : Ext u3 x3 := Below.grown (Ext.refl u3) hgrow (Nat.le_refl _) (fun k hk => by cases hk); have d := EE.cell c; have g := (B2.out.ext EE).free (i := 12))
  have b2 : BoxIs (x3.setCell ⟨w1.heap.size, 12, none⟩ (.slice (some ⟨u3.heap.size, 0, none⟩) 16 16)) w1.heap.size #[.int .i64 0, .int .i64 0, .int .i64 0, .int .i64 0, .int .i64 0, .int .i64 0, .int .i64 0, .int .i64 0, .slice (some ⟨w0.heap.size, 0, none⟩) 64 64, .slice (some ⟨u0.heap.size, 0, none⟩) 16 16, .slice (some ⟨u1.heap.size, 0, none⟩) 16 16, .slice (some ⟨u2.heap.size, 0, none⟩) 16 16, .slice (some ⟨u3.heap.size, 0, none⟩) 16 16] 36 := (B2.out.ext EE).set (i := 12) (.slice (some ⟨u3.heap.size, 0, none⟩) 16 16)
  have e2 := (E2.out.trans EE).setCell (p := ⟨w1.heap.size, 12, none⟩) hbl (.slice (some ⟨u3.heap.size, 0, none⟩) 16 16)
  have r2 := (R2.out.ext EE).other (p := ⟨w1.heap.size, 12, none⟩) (Ne.symm hne) (.slice (some ⟨u3.heap.size, 0, none⟩) 16 16)
  clear B2 R2 E2 c f d g hown hgrow EE
  generalize x3.setCell ⟨w1.heap.size, 12, none⟩ (.slice (some ⟨u3.heap.size, 0, none⟩) 16 16) = u4 at b2 e2 r2 ⊢
  have B2 := Lib.hid b2
  have R2 := Lib.hid r2
  have E2 := Lib.hid e2
  clear b2 e2 r2
  rw [rounds_succ]
  obtain ⟨⟨c0, c1, c2, c3, c4, c5, c6, c7, c8, c9, c10, c11, c12⟩, -⟩ := sq_cells B2.out
  obtain ⟨⟨e0, e1, e2, e3, e4, e5, e6, e7, e8, e9, e10, e11, e12⟩, f0, f1, f2, f3, f4, f5, f6, f7, f8, f9, f10, f11, f12⟩ := sq_cells R2.out
  go_wp2
  obtain ⟨⟨g0, g1, g2, g3, g4, g5, g6, g7, g8, g9, g10, g11, g12⟩, -⟩ := sq_cells (sq_put (v0 := .int .i64 0) (v1 := .int .i64 0) (v2 := .int .i64 0) (v3 := .int .i64 0) (v4 := .int .i64 0) (v5 := .int .i64 0) (v6 := .int .i64 0) (v7 := .int .i64 0) (v8 := .slice (some ⟨w0.heap.size, 0, none⟩) 64 64) (v9 := .slice (some ⟨u0.heap.size, 0, none⟩) 16 16) (v10 := .slice (some ⟨u1.heap.size, 0, none⟩) 16 16) (v11 := .slice (some ⟨u2.heap.size, 0, none⟩) 16 16) (v12 := .slice (some ⟨u3.heap.size, 0, none⟩) 16 16) R2.out)
  exact bodyPost_ret (v := .agg #[.int .i64 0, .int .i64 0, .int .i64 0, .int .i64 0, .int .i64 0, .int .i64 0, .int .i64 0, .int .i64 0, .slice (some ⟨w0.heap.size, 0, none⟩) 64 64, .slice (some ⟨u0.heap.size, 0, none⟩) 16 16, .slice (some ⟨u1.heap.size, 0, none⟩) 16 16, .slice (some ⟨u2.heap.size, 0, none⟩) 16 16, .slice (some ⟨u3.heap.size, 0, none⟩) 16 16]) (by simp [results, Tryz.results34, go_sem, g0, g1, g2, g3, g4, g5, g6, g7, g8, g9, g10, g11, g12]) rfl ⟨_, _, _, _, _, rfl, by
    have e := E2.out
    repeat refine Ext.setCell ?_ (by show w.heap.size ≤ w.heap.size; exact Nat.le_refl _) _
    exact e⟩
end Go.Proofs.YtpofabebmeickaaGreatDoor

/- syntax.Code of two special squares. -/
namespace Go.Proofs.YtpofabebmeickaaGreatDoor
set_option linter.unusedVariables false
set_option linter.unusedSimpArgs false
open Go.RowKit Go.Extern.Stop Go.Stop Go.Extern

abbrev nilS : Value := .slice none 0 0
theorem isr_no (p : Value) (xT : TypeId) (w : World) : (Instr.typeAssert (.iface 25 p) xT 61 true).run Tryz.prog w = .ok (.tuple #[.pointer none, .bool false]) w := by
  have hz : (Tryz.prog.info? 61).map (·.zero) = some (some (.pointer none)) := by kernel_rfl
  obtain ⟨j, hj, hz'⟩ := Option.map_eq_some_iff.1 hz
  simp [Instr.typeAssert, run_underlying Tryz.underlying61, typeInfo, zeroValue, hj, hz']
set_option maxRecDepth 20000 in
theorem isr_w (p : Value) (w : World) : Calls Tryz.prog 35 #[.iface 25 p] w fun e w' => e = .returned (.bool false) ∧ Ext w w' := by
  go_enter Tryz.func35, Tryz.ntmps35
  have hn := isr_no p
  go_wp2
  go_ret
  exact ⟨rfl, Ext.refl w⟩
set_option maxHeartbeats 1000000 in
theorem chk_1 (w : World) : Calls Tryz.prog 36 #[.bool true, sqV 1 0 0 0 0 0 0 0 nilS nilS nilS nilS nilS] w fun e w' => e = .returned (.iface 43 (.int .i64 13)) ∧ Ext w w' := by
  unfold sqV nilS
  go_enter Tryz.func36, Tryz.ntmps36
  go_wp2
  go_ret
  exact ⟨rfl, (Ext.refl w).alloc _⟩
set_option maxHeartbeats 1000000 in
theorem chk_0 (w : World) : Calls Tryz.prog 36 #[.bool false, sqV 0 2 0 0 0 0 0 0 nilS nilS nilS nilS nilS] w fun e w' => e = .returned .nilIface ∧ Ext w w' := by
  unfold sqV nilS
  go_enter Tryz.func36, Tryz.ntmps36
  go_wp2
  go_ret
  exact ⟨rfl, (Ext.refl w).alloc _⟩
set_option maxHeartbeats 1000000 in
theorem tak_0 (R : Value) (w : World) : Calls Tryz.prog 37 #[R, sqV 0 2 0 0 0 0 0 0 nilS nilS nilS nilS nilS] w fun e w' => e = .returned (.tuple #[]) ∧ Ext w w' := by
  unfold sqV nilS
  go_enter Tryz.func37, Tryz.ntmps37
  go_wp2
  go_end0
  exact ⟨rfl, (Ext.refl w).alloc _⟩
end Go.Proofs.YtpofabebmeickaaGreatDoor

