/- Contracts of this seat: Sz9, Sy9, SyF, OpL, SyK, OpM, Mrd, SyR. -/
import Derived.Test.YtcekpngkfldgkaaGreatDoorXSz8
import Derived.Test.YtcekpngkfldgkaaGreatDoorXZl
import Derived.Test.YtcekpngkfldgkaaGreatDoorXZj
import Derived.Test.YtcekpngkfldgkaaGreatDoorXZb
import Derived.Test.YtcekpngkfldgkaaGreatDoorXHb
import Derived.Test.YtcekpngkfldgkaaGreatDoorXZk
import Derived.Test.YtcekpngkfldgkaaGreatDoorXZi
import Derived.Deep.Slices
import Derived.Deep.Grids
import Derived.Test.YtcekpngkfldgkaaGreatDoorXZq
import Derived.Deep.WholeRow
import Derived.Deep.CutRange
import Derived.Deep.RegionHeld3
import Derived.Test.YtcekpngkfldgkaaGreatDoorXZa
import Derived.Test.YtcekpngkfldgkaaGreatDoorXZr
import Derived.Deep.RegionWith
namespace Go.Proofs.YtcekpngkfldgkaaGreatDoor
set_option linter.unusedVariables false
set_option linter.unusedSimpArgs false
open Go.RowKit Go.Extern.Stop Go.Stop Go.Extern
set_option maxRecDepth 20000 in
set_option maxHeartbeats 4000000 in
theorem plain_sq (gk gm ga gb gc gd gx gy : Int) (vL v0 v1 v2 v3 : Value) (w : World) (hL : SlF vL) (h0 : SlF v0) (h1 : SlF v1) (h2 : SlF v2) (h3 : SlF v3) : Calls Tryz.prog 15 #[sqV gk gm ga gb gc gd gx gy vL v0 v1 v2 v3] w fun e w' => e = .returned (sqV gk gm ga gb gc gd gx gy vL v0 v1 v2 v3) ∧ Ext w w' := by
 obtain ⟨aL, lL, cL, rfl⟩ := hL
 obtain ⟨a0, l0, c0, rfl⟩ := h0
 obtain ⟨a1, l1, c1, rfl⟩ := h1
 obtain ⟨a2, l2, c2, rfl⟩ := h2
 obtain ⟨a3, l3, c3, rfl⟩ := h3
 have A0 := (BoxIs.new w #[.int .i64 gk, .int .i64 gm, .int .i64 ga, .int .i64 gb, .int .i64 gc, .int .i64 gd, .int .i64 gx, .int .i64 gy, .slice aL lL cL, .slice a0 l0 c0, .slice a1 l1 c1, .slice a2 l2 c2, .slice a3 l3 c3] 30).ext ((Ext.refl _).alloc (.cells #[.int .i64 0, .int .i64 0, .int .i64 0, .int .i64 0, .int .i64 0, .int .i64 0, .int .i64 0, .int .i64 0, .slice none 0 0, .slice none 0 0, .slice none 0 0, .slice none 0 0, .slice none 0 0] 46))
 have A1 := BoxIs.new (w.alloc (.cells #[.int .i64 gk, .int .i64 gm, .int .i64 ga, .int .i64 gb, .int .i64 gc, .int .i64 gd, .int .i64 gx, .int .i64 gy, .slice aL lL cL, .slice a0 l0 c0, .slice a1 l1 c1, .slice a2 l2 c2, .slice a3 l3 c3] 30)) #[.int .i64 0, .int .i64 0, .int .i64 0, .int .i64 0, .int .i64 0, .int .i64 0, .int .i64 0, .int .i64 0, .slice none 0 0, .slice none 0 0, .slice none 0 0, .slice none 0 0, .slice none 0 0] 46
 have hs : (w.alloc (.cells #[.int .i64 gk, .int .i64 gm, .int .i64 ga, .int .i64 gb, .int .i64 gc, .int .i64 gd, .int .i64 gx, .int .i64 gy, .slice aL lL cL, .slice a0 l0 c0, .slice a1 l1 c1, .slice a2 l2 c2, .slice a3 l3 c3] 30)).heap.size = w.heap.size + 1 := by simp
 rw [hs] at A1
 have E2 := ((Ext.refl w).alloc (.cells #[.int .i64 gk, .int .i64 gm, .int .i64 ga, .int .i64 gb, .int .i64 gc, .int .i64 gd, .int .i64 gx, .int .i64 gy, .slice aL lL cL, .slice a0 l0 c0, .slice a1 l1 c1, .slice a2 l2 c2, .slice a3 l3 c3] 30)).alloc (.cells #[.int .i64 0, .int .i64 0, .int .i64 0, .int .i64 0, .int .i64 0, .int .i64 0, .int .i64 0, .int .i64 0, .slice none 0 0, .slice none 0 0, .slice none 0 0, .slice none 0 0, .slice none 0 0] 46)
 obtain ⟨⟨k0, k1, k2, k3, k4, k5, k6, k7, k8, k9, k10, k11, k12⟩, -⟩ := sq_cells A0
 obtain ⟨⟨e0, e1, e2, e3, e4, e5, e6, e7, e8, e9, e10, e11, e12⟩, f0, f1, f2, f3, f4, f5, f6, f7, f8, f9, f10, f11, f12⟩ := sq_cells A1
 unfold sqV
 go_enter Tryz.func15, Tryz.ntmps15
 go_wp2
 obtain ⟨⟨g0, g1, g2, g3, g4, g5, g6, g7, g8, g9, g10, g11, g12⟩, -⟩ := sq_cells (sq_put (v0 := .int .i64 gk) (v1 := .int .i64 gm) (v2 := .int .i64 ga) (v3 := .int .i64 gb) (v4 := .int .i64 gc) (v5 := .int .i64 gd) (v6 := .int .i64 gx) (v7 := .int .i64 gy) (v8 := .slice aL lL cL) (v9 := .slice a0 l0 c0) (v10 := .slice a1 l1 c1) (v11 := .slice a2 l2 c2) (v12 := .slice a3 l3 c3) A1)
 exact bodyPost_ret (v := .agg #[.int .i64 gk, .int .i64 gm, .int .i64 ga, .int .i64 gb, .int .i64 gc, .int .i64 gd, .int .i64 gx, .int .i64 gy, .slice aL lL cL, .slice a0 l0 c0, .slice a1 l1 c1, .slice a2 l2 c2, .slice a3 l3 c3]) (by simp [results, Tryz.results15, go_sem, g0, g1, g2, g3, g4, g5, g6, g7, g8, g9, g10, g11, g12]) rfl ⟨rfl, ((Ext.refl w).alloc _).alloc _⟩
open Go.ChangeShapes Go.WideShapes Go.ChangeAt Go.RowKit Go.Joins Go.Deep
section
variable {H : Type} {enc : TypeId × Value → H} {w : World}
end
section
variable {σ τ : Type} {A : World → (Nat → Prop) → σ → Prop} {B : World → (Nat → Prop) → τ → Prop} {w0 w : World} {P : World → Prop}
end
section
variable {H : Type} {enc : TypeId × Value → H} {w : World}
end
section
variable {d c y : Nat} {bs : List Nat} {w0 w : World} {s : Ms Dc} {t : Ms Xc}
end
end Go.Proofs.YtcekpngkfldgkaaGreatDoor