/- Contracts of this seat: Grp, Grp2, Of, Sc1, ScG, CpFs, OpSq, OpF, OpHd, Sk1. -/
import Derived.Test.YtcekpngkfldgkaaGreatDoorXGj
import Derived.Test.YtcekpngkfldgkaaGreatDoorXGb
import Derived.Test.YtcekpngkfldgkaaGreatDoorXZk
import Derived.Deep.RegionHeld3
import Derived.Laws.Rows
import Derived.BigQuiet
import Derived.Deep.QuietTactic
import Derived.Test.YtcekpngkfldgkaaGreatDoorXZb
import Derived.Test.YtcekpngkfldgkaaGreatDoorXZs
import Derived.Deep.Slices
import Derived.Lib.SmallJoins
import Derived.Test.YtcekpngkfldgkaaGreatDoorXZv
namespace Go.Proofs.YtcekpngkfldgkaaGreatDoor
set_option linter.unusedVariables false
set_option linter.unusedSimpArgs false
open Go.RowKit Go.Extern.Stop Go.Stop Go.Extern
def P3 : List Int := rowL 64 fun _ => 3
def P0 : List Int := rowL 64 fun _ => 0
def P1 : List Int := rowL 64 fun _ => 1
def L3 : List Fr := [(8, 8, P3), (8, 8, P3), (8, 8, P3)]
open Go.ChangeShapes Go.WideShapes Go.ChangeAt Go.RowKit Go.Joins Go.Deep
instance : Inhabited Sq := ⟨sq0⟩
def RawSq (w : World) (q : Sq) (L s0 s1 s2 s3 : Value) : Prop := Row w L q.L.length (q.L.map (Value.int .i64)) ∧ Row w s0 q.s0.length (q.s0.map (Value.int .i64)) ∧ Row w s1 q.s1.length (q.s1.map (Value.int .i64)) ∧ Row w s2 q.s2.length (q.s2.map (Value.int .i64)) ∧ Row w s3 q.s3.length (q.s3.map (Value.int .i64))
theorem RawSq.ext {w w' : World} {q : Sq} {L s0 s1 s2 s3 : Value} (h : RawSq w q L s0 s1 s2 s3) (k : Ext w w') : RawSq w' q L s0 s1 s2 s3 := ⟨h.1.ext k, h.2.1.ext k, h.2.2.1.ext k, h.2.2.2.1.ext k, h.2.2.2.2.ext k⟩
def sqC (q : Sq) (L s0 s1 s2 s3 : Value) : List Value := [.int .i64 q.k, .int .i64 q.m, .int .i64 q.a, .int .i64 q.b, .int .i64 q.c, .int .i64 q.d, .int .i64 q.x, .int .i64 q.y, L, s0, s1, s2, s3]
section
variable {H : Type} {enc : TypeId × Value → H} {w : World}
theorem raw_of_trod {v : Value} {y : DataW H × List MemPlace} {fuel : Nat} (hf : DataW.trod enc Tryz.prog w 0 (fun _ => true) true fuel 22 [v] = some y) : ∃ zs : List Int, Row w v zs.length (zs.map (Value.int .i64)) := by
 obtain ⟨zs, h, -⟩ := ints_of_trod (fun _ => rfl) hf
 exact ⟨zs, h⟩
set_option maxRecDepth 100000 in
theorem sq_of_trod {fuel : Nat} {cs : List Value} {y : DataW H × List MemPlace} (hl : cs.length = 13) (hf : DataW.trod enc Tryz.prog w 0 (fun _ => true) true fuel 30 cs = some y) :
 ∃ q L s0 s1 s2 s3, cs = sqC q L s0 s1 s2 s3 ∧ RawSq w q L s0 s1 s2 s3 := by
 have c4 : Tryz.prog.cellsOf 25 = 4 := by kernel_rfl
 have c2 : Tryz.prog.cellsOf 27 = 2 := by kernel_rfl
 have cs4 : Tryz.prog.cellsOf 28 = 4 := by kernel_rfl
 have ci : Tryz.prog.cellsOf 3 = 1 := by kernel_rfl
 have cl : Tryz.prog.cellsOf 22 = 1 := by kernel_rfl
 obtain ⟨ys, n', hn', hy, hlen, hyl, hg⟩ := DataW.trod_struct Tryz.underlying30 hf
 match cs, hl, ys, hyl with
 | [v0, v1, v2, v3, v4, v5, v6, v7, v8, v9, v10, v11, v12], _, [y0, y1, y2, y3, y4, y5], _ =>
   have t0 : DataW.trod enc Tryz.prog w 0 (fun _ => true) true n' 3 (([v0, v1, v2, v3, v4, v5, v6, v7, v8, v9, v10, v11, v12].drop 0).take (Tryz.prog.cellsOf 3)) = some y0 := hg 0 _ rfl
   have t1 : DataW.trod enc Tryz.prog w 0 (fun _ => true) true n' 3 (([v0, v1, v2, v3, v4, v5, v6, v7, v8, v9, v10, v11, v12].drop 1).take (Tryz.prog.cellsOf 3)) = some y1 := hg 1 _ rfl
   have t2 : DataW.trod enc Tryz.prog w 0 (fun _ => true) true n' 25 (([v0, v1, v2, v3, v4, v5, v6, v7, v8, v9, v10, v11, v12].drop 2).take (Tryz.prog.cellsOf 25)) = some y2 := hg 2 _ rfl
   have t3 : DataW.trod enc Tryz.prog w 0 (fun _ => true) true n' 27 (([v0, v1, v2, v3, v4, v5, v6, v7, v8, v9, v10, v11, v12].drop 6).take (Tryz.prog.cellsOf 27)) = some y3 := hg 3 _ rfl
   have t4 : DataW.trod enc Tryz.prog w 0 (fun _ => true) true n' 22 (([v0, v1, v2, v3, v4, v5, v6, v7, v8, v9, v10, v11, v12].drop 8).take (Tryz.prog.cellsOf 22)) = some y4 := hg 4 _ rfl
   have t5 : DataW.trod enc Tryz.prog w 0 (fun _ => true) true n' 28 (([v0, v1, v2, v3, v4, v5, v6, v7, v8, v9, v10, v11, v12].drop 9).take (Tryz.prog.cellsOf 28)) = some y5 := hg 5 _ rfl
   rw [ci] at t0 t1
   rw [c4] at t2
   rw [c2] at t3
   rw [cl] at t4
   rw [cs4] at t5
   have t0 : DataW.trod enc Tryz.prog w 0 (fun _ => true) true n' 3 [v0] = some y0 := t0
   have t1 : DataW.trod enc Tryz.prog w 0 (fun _ => true) true n' 3 [v1] = some y1 := t1
   have t2 : DataW.trod enc Tryz.prog w 0 (fun _ => true) true n' 25 [v2, v3, v4, v5] = some y2 := t2
   have t3 : DataW.trod enc Tryz.prog w 0 (fun _ => true) true n' 27 [v6, v7] = some y3 := t3
   have t4 : DataW.trod enc Tryz.prog w 0 (fun _ => true) true n' 22 [v8] = some y4 := t4
   have t5 : DataW.trod enc Tryz.prog w 0 (fun _ => true) true n' 28 [v9, v10, v11, v12] = some y5 := t5
   obtain ⟨m0, e0, -, -⟩ := DataW.trod_int Tryz.underlying3 t0
   obtain ⟨m1, e1, -, -⟩ := DataW.trod_int Tryz.underlying3 t1
   obtain rfl := (List.cons.inj e0).1
   obtain rfl := (List.cons.inj e1).1
   obtain ⟨zs, n2, -, -, -, hz, hz2⟩ := DataW.trod_array Tryz.underlying25 t2
   rw [ci] at hz2
   match zs, hz with
   | [z0, z1, z2, z3], _ =>
     obtain ⟨ma, ea, -, -⟩ := DataW.trod_int Tryz.underlying3 (show DataW.trod enc Tryz.prog w 0 (fun _ => true) true n2 3 [v2] = some z0 from hz2 0 (by decide))
     obtain ⟨mb, eb, -, -⟩ := DataW.trod_int Tryz.underlying3 (show DataW.trod enc Tryz.prog w 0 (fun _ => true) true n2 3 [v3] = some z1 from hz2 1 (by decide))
     obtain ⟨mc, ec, -, -⟩ := DataW.trod_int Tryz.underlying3 (show DataW.trod enc Tryz.prog w 0 (fun _ => true) true n2 3 [v4] = some z2 from hz2 2 (by decide))
     obtain ⟨md, ed, -, -⟩ := DataW.trod_int Tryz.underlying3 (show DataW.trod enc Tryz.prog w 0 (fun _ => true) true n2 3 [v5] = some z3 from hz2 3 (by decide))
     obtain rfl := (List.cons.inj ea).1
     obtain rfl := (List.cons.inj eb).1
     obtain rfl := (List.cons.inj ec).1
     obtain rfl := (List.cons.inj ed).1
     obtain ⟨u0, u1, n3, -, -, h0, h1⟩ := trod_struct2 Tryz.underlying27 t3
     obtain ⟨mx, ex, -, -⟩ := DataW.trod_int Tryz.underlying3 h0
     obtain ⟨my, ey, -, -⟩ := DataW.trod_int Tryz.underlying3 h1
     obtain rfl := (List.cons.inj ex).1
     obtain rfl := (List.cons.inj ey).1
     obtain ⟨L, hL⟩ := raw_of_trod t4
     obtain ⟨ws, n4, -, -, -, hw, hw2⟩ := DataW.trod_array Tryz.underlying28 t5
     rw [cl] at hw2
     match ws, hw with
     | [w0, w1, w2, w3], _ =>
       obtain ⟨s0, hs0⟩ := raw_of_trod (show DataW.trod enc Tryz.prog w 0 (fun _ => true) true n4 22 [v9] = some w0 from hw2 0 (by decide))
       obtain ⟨s1, hs1⟩ := raw_of_trod (show DataW.trod enc Tryz.prog w 0 (fun _ => true) true n4 22 [v10] = some w1 from hw2 1 (by decide))
       obtain ⟨s2, hs2⟩ := raw_of_trod (show DataW.trod enc Tryz.prog w 0 (fun _ => true) true n4 22 [v11] = some w2 from hw2 2 (by decide))
       obtain ⟨s3, hs3⟩ := raw_of_trod (show DataW.trod enc Tryz.prog w 0 (fun _ => true) true n4 22 [v12] = some w3 from hw2 3 (by decide))
       exact ⟨⟨m0, m1, ma, mb, mc, md, mx, my, L, s0, s1, s2, s3⟩, v8, v9, v10, v11, v12, rfl, hL, hs0, hs1, hs2, hs3⟩
set_option maxRecDepth 100000 in
theorem open_sq {r : Reach} {b0 : Nat} {v : Value} {d : DataW H} {p : List MemPlace} (hv : Value.okWide Tryz.prog w r b0 30 v) (h : DataW.Trod enc Tryz.prog w 0 (fun _ => true) true 30 v d p) :
 ∃ q L s0 s1 s2 s3, v = .agg (sqC q L s0 s1 s2 s3).toArray ∧ RawSq w q L s0 s1 s2 s3 := by
 obtain ⟨cs, rfl, hsz⟩ := okWide_struct Tryz.underlying30 hv
 obtain ⟨l⟩ := cs
 obtain ⟨fuel, hf⟩ := h
 have hC : Tryz.prog.cellsOf 30 = 13 := by kernel_rfl
 obtain ⟨q, L, s0, s1, s2, s3, e, hb⟩ := sq_of_trod (cs := l) (by rw [hC] at hsz; simpa using hsz) hf
 exact ⟨q, L, s0, s1, s2, s3, by rw [e], hb⟩
end
section
variable {H : Type} {enc : TypeId × Value → H} {w : World}
end
section
variable {H : Type} {enc : TypeId × Value → H} {w : World}
end
def wg1 (n : Nat) : Int := min (n : Int) 20001
def wgS (q : Sq) : Int := wg1 q.L.length + wg1 q.s0.length + wg1 q.s1.length + wg1 q.s2.length + wg1 q.s3.length
theorem wg1_in (n : Nat) : 0 ≤ wg1 n ∧ wg1 n ≤ 20001 := by unfold wg1; omega
theorem wgS_out {q : Sq} (h : wgS q ≤ 20000) : q.L.length ≤ 20000 ∧ q.s0.length ≤ 20000 ∧ q.s1.length ≤ 20000 ∧ q.s2.length ≤ 20000 ∧ q.s3.length ≤ 20000 := by
 unfold wgS wg1 at h
 omega
theorem RawSq.is {w : World} {q : Sq} {L s0 s1 s2 s3 : Value} (h : RawSq w q L s0 s1 s2 s3) (hw : wgS q ≤ 20000) : SqIs w q L s0 s1 s2 s3 := by
 obtain ⟨h1, h2, h3, h4, h5⟩ := wgS_out hw
 exact ⟨⟨h.1, by omega⟩, ⟨h.2.1, by omega⟩, ⟨h.2.2.1, by omega⟩, ⟨h.2.2.2.1, by omega⟩, ⟨h.2.2.2.2, by omega⟩⟩
set_option maxRecDepth 20000 in
set_option maxHeartbeats 4000000 in
theorem weighs_any (q : Sq) (L s0 s1 s2 s3 : Value) (w : World) (h : RawSq w q L s0 s1 s2 s3) : Calls Tryz.prog 11 #[sqQ q L s0 s1 s2 s3] w fun e w' => e = .returned (.int .i64 (wgS q)) ∧ Ext w w' := by
 obtain ⟨aL, cL, rfl⟩ := h.1.form
 obtain ⟨a0, c0, rfl⟩ := h.2.1.form
 obtain ⟨a1, c1, rfl⟩ := h.2.2.1.form
 obtain ⟨a2, c2, rfl⟩ := h.2.2.2.1.form
 obtain ⟨a3, c3, rfl⟩ := h.2.2.2.2.form
 clear h
 obtain ⟨gk, gm, ga, gb, gc, gd, gx, gy, xL, x0, x1, x2, x3⟩ := q
 unfold sqQ sqV wgS
 dsimp only
 obtain ⟨lL, hlL⟩ : ∃ n, xL.length = n := ⟨_, rfl⟩
 obtain ⟨l0, hl0⟩ : ∃ n, x0.length = n := ⟨_, rfl⟩
 obtain ⟨l1, hl1⟩ : ∃ n, x1.length = n := ⟨_, rfl⟩
 obtain ⟨l2, hl2⟩ : ∃ n, x2.length = n := ⟨_, rfl⟩
 obtain ⟨l3, hl3⟩ : ∃ n, x3.length = n := ⟨_, rfl⟩
 rw [hlL, hl0, hl1, hl2, hl3]
 clear hlL hl0 hl1 hl2 hl3
 obtain ⟨mL, hmL⟩ : ∃ z, wg1 lL = z := ⟨_, rfl⟩
 obtain ⟨m0, hm0⟩ : ∃ z, wg1 l0 = z := ⟨_, rfl⟩
 obtain ⟨m1, hm1⟩ : ∃ z, wg1 l1 = z := ⟨_, rfl⟩
 obtain ⟨m2, hm2⟩ : ∃ z, wg1 l2 = z := ⟨_, rfl⟩
 obtain ⟨m3, hm3⟩ : ∃ z, wg1 l3 = z := ⟨_, rfl⟩
 have bL := wg1_in lL
 have b0 := wg1_in l0
 have b1 := wg1_in l1
 have b2 := wg1_in l2
 have b3 := wg1_in l3
 rw [hmL] at bL
 rw [hm0] at b0
 rw [hm1] at b1
 rw [hm2] at b2
 rw [hm3] at b3
 rw [hmL, hm0, hm1, hm2, hm3]
 unfold wg1 at hmL hm0 hm1 hm2 hm3
 have e0 : IntKind.i64.wrap (mL + m0) = mL + m0 := by rw [IntKind.wrap_i64]; omega
 have e1 : IntKind.i64.wrap (mL + m0 + m1) = mL + m0 + m1 := by rw [IntKind.wrap_i64]; omega
 have e2 : IntKind.i64.wrap (mL + m0 + m1 + m2) = mL + m0 + m1 + m2 := by rw [IntKind.wrap_i64]; omega
 have e3 : IntKind.i64.wrap (mL + m0 + m1 + m2 + m3) = mL + m0 + m1 + m2 + m3 := by rw [IntKind.wrap_i64]; omega
 clear bL b0 b1 b2 b3
 have B0 := BoxIs.new w #[.int .i64 gk, .int .i64 gm, .int .i64 ga, .int .i64 gb, .int .i64 gc, .int .i64 gd, .int .i64 gx, .int .i64 gy, .slice aL lL cL, .slice a0 l0 c0, .slice a1 l1 c1, .slice a2 l2 c2, .slice a3 l3 c3] 30
 have E0 := (Ext.refl w).alloc (.cells #[.int .i64 gk, .int .i64 gm, .int .i64 ga, .int .i64 gb, .int .i64 gc, .int .i64 gd, .int .i64 gx, .int .i64 gy, .slice aL lL cL, .slice a0 l0 c0, .slice a1 l1 c1, .slice a2 l2 c2, .slice a3 l3 c3] 30)
 obtain ⟨u, hu⟩ : ∃ z, w.alloc (.cells #[.int .i64 gk, .int .i64 gm, .int .i64 ga, .int .i64 gb, .int .i64 gc, .int .i64 gd, .int .i64 gx, .int .i64 gy, .slice aL lL cL, .slice a0 l0 c0, .slice a1 l1 c1, .slice a2 l2 c2, .slice a3 l3 c3] 30) = z := ⟨_, rfl⟩
 rw [hu] at B0 E0
 have HE := Lib.hid E0
 have HU := Lib.hid hu
 have HB := Lib.hid B0
 obtain ⟨⟨g0, g1, g2, g3, g4, g5, g6, g7, g8, g9, g10, g11, g12⟩, -⟩ := sq_cells B0
 clear B0 E0 hu
 go_enter Tryz.func11, Tryz.ntmps11
 go_wp2_with fail
 rw [HU.out]
 refine wp_loop_rounds 5 ?_
 rw [rounds_succ]
 go_wp2
 rw [rounds_succ]
 go_wp2
 rw [rounds_succ]
 go_wp2
 rw [rounds_succ]
 go_wp2
 rw [rounds_succ]
 go_wp2
 go_ret
 exact ⟨rfl, HE.out⟩
end Go.Proofs.YtcekpngkfldgkaaGreatDoor