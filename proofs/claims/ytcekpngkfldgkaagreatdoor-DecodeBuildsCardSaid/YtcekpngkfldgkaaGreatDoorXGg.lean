/- Contracts of this seat: StM, R7, R7s, St1, St2, RFr, St3, Mo4. -/
import Derived.Test.YtcekpngkfldgkaaGreatDoorXTk
import Derived.Test.YtcekpngkfldgkaaGreatDoorXGb
import Derived.Test.YtcekpngkfldgkaaGreatDoorXZb
import Derived.Deep.RegionHeld3
import Derived.Test.YtcekpngkfldgkaaGreatDoorXGd
import Derived.Test.YtcekpngkfldgkaaGreatDoorXGa
import Derived.BigRegion
namespace Go.Proofs.YtcekpngkfldgkaaGreatDoor
set_option linter.unusedVariables false
set_option linter.unusedSimpArgs false
open Go.RowKit Go.Extern.Stop Go.Stop Go.Extern
theorem step_push0 {ops : Array Oper} {o : Oper} {a : Act} {K : Act → World → Prop} {Q : Exit → Act → World → Prop} {E : Prop} {W : World} {base : Nat} (hgd : o.guard = none) (s y : Operand) (t : TypeId)
 (ho : o.op = .call { callee := .builtin .append, args := #[s, y], argTypes := #[t, t] }) (ht : Tryz.prog.underlying t = some (.slice 3))
 (v : Value) (n : Nat) (xs : List Value) (x : Int) (hs : a.eval s = v) (hown : W.ownsRow base 3 1 v n xs) (hx : a.eval y = .slice (some ⟨W.heap.size, 0, none⟩) 1 1) (hb : base ≤ W.heap.size) (hn : n ≤ 1000000000000)
 (h : ∀ g cap w', w'.ownsRow base 3 1 (.slice (some ⟨g, 0, none⟩) (n + 1) cap) (n + 1) (xs ++ [.int .i64 x]) → Below base W w' → W.grownBy w' v.ownBlock → K (a.put o.dst (.slice (some ⟨g, 0, none⟩) (n + 1) cap)) w') :
 if Region.wanted o (yielded ops a.tmps) = true then Oper.wp Tryz.prog o a (W.alloc (.cells #[.int .i64 x] 3)) K Q else E := by
 obtain ⟨i0, hi, hz0, hz1, hz2⟩ := info_parts infoInt
 refine step_append_lies _ hgd s y t ho base 3 i0 (.int .i64 0) 1 8 ht hi hz0 hz1 hz2 rfl (by decide) v n xs hs (hown.alloc _) ⟨W.heap.size, 0, none⟩ 1 1 [.int .i64 x] hx rfl (World.news_of_block (cs := #[.int .i64 x]) (t := 3) (fr := (0, 0)) (heap_alloc_new W _)) (one_int _) (by decide) (by unfold maxLen; omega) (by omega) (by simp; omega) (W.heap.size + 1) (by simp) ?_
 intro g cap w' h1 h2 _ _
 refine h g cap w' h1 (Below.grown ((Below.refl base W).alloc hb _) h2 (by simp; omega) (fun k hk => (hown.lt k hk).1)) ⟨h2.os, h2.tape, h2.output, Nat.le_trans (by simp) h2.size, fun k hk hne => ?_⟩
 exact (h2.block k (by simp; omega) hne).trans (Below.heap_alloc W _ k hk)
set_option maxHeartbeats 4000000 in
set_option maxRecDepth 20000 in
theorem rblock_8 (W H x y vx vy : Int) (zs : List Int) (a : Option Addr) (n cap : Nat) (w : World) (h : Ints w (.slice a n cap) zs) (hm : may W H zs) (hv : vecB vx vy = true) (hx : 0 ≤ x ∧ x ≤ 32) (hy : 0 ≤ y ∧ y ≤ 32) :
 Calls Tryz.prog 67 #[.agg #[.int .i64 W, .int .i64 H, .slice a n cap], .int .i64 x, .int .i64 y, .int .i64 8, .agg #[.int .i64 vx, .int .i64 vy]] w fun e w' => ∃ u, e = .returned u ∧ Ext w w' ∧ Ints w' u (rowL 64 (mvF W H zs x y vx vy 8)) := by
 have B1 := Lib.hid (fun w => rvec_any vx vy w)
 have M1 := Lib.hid (fun w h => rmay_any W H zs a n cap w h)
 have A1 := Lib.hid (fun (w : World) (x y : Int) (h : Ints w (.slice a n cap) zs) b1 b2 => rhalf_any W H x y zs a n cap w h hm b1 b2)
 have H1 := Lib.hid hm
 have V1 := Lib.hid hv
 obtain ⟨v1, v2, v3, v4⟩ := vecB_true hv
 obtain ⟨hx1, hx2⟩ := hx
 obtain ⟨hy1, hy2⟩ := hy
 obtain ⟨F0, G0⟩ := FrBox.vec w W H vx vy (.slice a n cap)
 have E0 : Ext w ((w.alloc (.cells #[.int .i64 W, .int .i64 H, .slice a n cap] 24)).alloc (.cells #[.int .i64 vx, .int .i64 vy] 27)) := (by repeat (first | exact Ext.refl _ | assumption | refine Ext.alloc ?_ _ | refine Ext.drew ?_ | refine Ext.drewN ?_ _ | refine Ext.setCell ?_ (by first | exact Nat.le_refl _ | (simp; done) | omega) _ | refine Ext.trans ?_ (by assumption)))
 clear hm hv
 go_enter Tryz.func67, Tryz.ntmps67
 go_wp2_with fail
 revert F0 G0 E0
 generalize (w.alloc (.cells #[.int .i64 W, .int .i64 H, .slice a n cap] 24)).alloc (.cells #[.int .i64 vx, .int .i64 vy] 27) = w0
 intro F0 G0 E0
 have FB := Lib.hid F0
 have GB := Lib.hid G0
 clear F0 G0
 refine (M1.out _ (h.ext E0)).mono ?_; rintro e w1 ⟨rfl, hx1'⟩
 rw [decide_eq_true H1.out]
 obtain ⟨q0, q1⟩ := GB.out.ext hx1'
 go_wp2_with fail
 refine (B1.out _).mono ?_; rintro e w2 ⟨rfl, hx2'⟩
 rw [V1.out]
 have FC := Lib.hid (FB.out.ext (hx1'.trans hx2'))
 have GC := Lib.hid (GB.out.ext (hx1'.trans hx2'))
 have E1 := (E0.trans hx1').trans hx2'
 clear hx1' hx2' q0 q1 FB GB E0
 go_wp2_with fail
 go_loopw [11, 12] (fun bv kv wr => ∃ k : Nat, k ≤ 64 ∧ kv = .int .i64 k ∧ Hid (wr.ownsRow w2.heap.size 3 1 bv k ((rowL k (mvF W H zs x y vx vy 8)).map (Value.int .i64))) ∧ Ext w2 wr) (fun _ kv _ => 64 - (intOf kv).toNat)
 case atStart => exact ⟨0, Nat.zero_le _, rfl, World.ownsRow_nil _ _ _ _, Ext.refl _⟩
 case round =>
  obtain ⟨k, hk, rfl, HO, hE⟩ := hrel
  by_cases hlt : k < 64
  · obtain ⟨i, hi⟩ : ∃ i, i = k % 8 := ⟨_, rfl⟩
    obtain ⟨j, hj⟩ : ∃ j, j = k / 8 := ⟨_, rfl⟩
    have q2 : Int.tmod (k : Int) 8 = (i : Int) := by rw [hi]; exact Int.ofNat_tmod k 8
    have q2' : (k : Int) % 8 = (i : Int) := by rw [hi]; exact Int.natCast_emod k 8
    have q4 : Int.tdiv (k : Int) 8 = (j : Int) := by rw [hj]; exact Int.ofNat_tdiv k 8
    have q4' : (k : Int) / 8 = (j : Int) := by rw [hj]; exact Int.natCast_ediv k 8
    have hil : i < 8 := by omega
    have hjl : j < 8 := by omega
    have q8 : IntKind.i64.wrap (i : Int) = (i : Int) := by rw [IntKind.wrap_i64]; omega
    have q9 : IntKind.i64.wrap (j : Int) = (j : Int) := by rw [IntKind.wrap_i64]; omega
    have d1 : IntKind.i64.wrap (x + (i : Int)) = x + (i : Int) := by rw [IntKind.wrap_i64]; omega
    have d2 : IntKind.i64.wrap (y + (j : Int)) = y + (j : Int) := by rw [IntKind.wrap_i64]; omega
    have d3 : IntKind.i64.wrap (2 * (x + (i : Int))) = 2 * (x + (i : Int)) := by rw [IntKind.wrap_i64]; omega
    have d4 : IntKind.i64.wrap (2 * (y + (j : Int))) = 2 * (y + (j : Int)) := by rw [IntKind.wrap_i64]; omega
    have d5 : IntKind.i64.wrap (2 * (x + (i : Int)) + vx) = 2 * (x + (i : Int)) + vx := by rw [IntKind.wrap_i64]; omega
    have d6 : IntKind.i64.wrap (2 * (y + (j : Int)) + vy) = 2 * (y + (j : Int)) + vy := by rw [IntKind.wrap_i64]; omega
    have HS : Hid (mvF W H zs x y vx vy 8 k = halfV W H zs (2 * (x + (i : Int)) + vx) (2 * (y + (j : Int)) + vy)) := by show _ = _; rw [hi, hj]; rfl
    have A2 := Lib.hid (fun w h => A1.out w (2 * (x + (i : Int)) + vx) (2 * (y + (j : Int)) + vy) h (by omega) (by omega))
    obtain ⟨z, hz⟩ : ∃ z, z = halfV W H zs (2 * (x + (i : Int)) + vx) (2 * (y + (j : Int)) + vy) := ⟨_, rfl⟩
    rw [← hz] at HS A2
    have hD : Ext w2 wr.drew := hE.drew
    obtain ⟨p0, p1, p2⟩ := FC.out.ext hE
    obtain ⟨o0, o1⟩ := GC.out.ext hE
    obtain ⟨P0, P1, P2⟩ := FC.out.ext hD
    obtain ⟨O0, O1⟩ := GC.out.ext hD
    have HD := Lib.hid hD
    have lf : w.heap.size < w2.heap.size := Ext.lt FC.out.1
    have lv : w.heap.size + 1 < w2.heap.size := Ext.lt GC.out.1
    have hBB := hE.size
    clear hi hj hz hD
    go_wp2_with fail
    go_region_held3 (fun w' => w'.cell? ⟨w.heap.size, 0, none⟩ = some (.int .i64 W) ∧ w'.cell? ⟨w.heap.size, 1, none⟩ = some (.int .i64 H) ∧ w'.cell? ⟨w.heap.size, 2, none⟩ = some (.slice a n cap) ∧ w'.cell? ⟨w.heap.size + 1, 0, none⟩ = some (.int .i64 vx) ∧ w'.cell? ⟨w.heap.size + 1, 1, none⟩ = some (.int .i64 vy))
     (first | assumption | (exact ⟨P0, P1, P2, O0, O1⟩) | (exact ⟨Below.cellv h2 (HX5.out.cell P0) lf, Below.cellv h2 (HX5.out.cell P1) lf, Below.cellv h2 (HX5.out.cell P2) lf, Below.cellv h2 (HX5.out.cell O0) lv, Below.cellv h2 (HX5.out.cell O1) lv⟩) | (exact ⟨HX5.out.cell P0, HX5.out.cell P1, HX5.out.cell P2, HX5.out.cell O0, HX5.out.cell O1⟩) | go_keep)
     (first | (go_at_call 99; refine (A2.out _ (h.ext (E1.trans HD.out))).mono ?_; rintro e w5 ⟨rfl, hx⟩; have HX5 := Lib.hid hx; have HO5 := Lib.hid (own_ext (own_ext HO.out (Ext.refl wr).drew) hx); have hB5 := Nat.le_trans hBB hx.size) | (refine step_push0 (by rfl) _ _ 22 (by rfl) Tryz.underlying22 _ k _ z (by rfl) HO5.out (by rfl) hB5 (by omega) ?_; intro ng ncap w7 h1 h2 h3))
    have hE7 := (HD.out.trans HX5.out).of_below h2 (Nat.le_refl _)
    have HO7 := Lib.hid h1
    clear h1 h2 h3
    go_wp2
    go_roundw
    case rel => exact ⟨k + 1, by omega, by go_num, by show World.ownsRow _ _ _ _ _ _ _; rw [rowL_sn, HS.out]; exact HO7.out, hE7⟩
    case measure => simp [intOf]; omega
  · obtain rfl : k = 64 := by omega
    go_wp2
    go_ret
    exact ⟨_, rfl, E1.trans hE, Ints.of_row HO.out (by omega)⟩
end Go.Proofs.YtcekpngkfldgkaaGreatDoor