/- kinlaw21.DecodeBuilds: the walk. -/
import Derived.Test.YtcekpngkfldgkaaGreatDoorXTk
import Derived.Test.YtcekpngkfldgkaaGreatDoorXEd
import Derived.Test.YtcekpngkfldgkaaGreatDoorXEe
import Derived.Test.YtcekpngkfldgkaaGreatDoorXHc
import Derived.Test.YtcekpngkfldgkaaGreatDoorXHd
import Derived.Test.YtcekpngkfldgkaaGreatDoorXGk
import Derived.Test.YtcekpngkfldgkaaGreatDoorXZv
import Derived.Test.YtcekpngkfldgkaaGreatDoorXGj
import Derived.Deep.RegionHeld3
namespace Go.Proofs.YtcekpngkfldgkaaGreatDoor
set_option linter.unusedVariables false
set_option linter.unusedSimpArgs false
open Go.RowKit Go.Extern.Stop Go.Stop Go.Extern
theorem Fms.twoB {w : World} {b : Nat} {W H PW PH : Int} {fa pa : Option Addr} {fn fc pn pc : Nat} {zs ps : List Int} {T : TypeId} (h : BoxIs w b #[.int .i64 W, .int .i64 H, .slice fa fn fc, .int .i64 PW, .int .i64 PH, .slice pa pn pc] T) (hf : Row w (.slice fa fn fc) zs.length (zs.map (Value.int .i64))) (hp : Row w (.slice pa pn pc) ps.length (ps.map (Value.int .i64))) : Fms w (.slice (some ⟨b, 0, none⟩) 2 2) [(W, H, zs), (PW, PH, ps)] := by
 refine ⟨_, _, rfl, fun _ => ⟨b, 0, rfl, fun q c hq => ?_⟩⟩
 have h0 : q = 0 ∨ q = 1 := by have := (List.getElem?_eq_some_iff.1 hq).1; simp at this; omega
 rcases h0 with rfl | rfl
 · simp only [List.getElem?_cons_zero, Option.some.injEq] at hq
   subst hq
   exact ⟨fa, fn, fc, h.cell rfl, h.cell rfl, h.cell rfl, hf⟩
 · simp only [List.getElem?_cons_succ, List.getElem?_cons_zero, Option.some.injEq] at hq
   subst hq
   exact ⟨pa, pn, pc, h.cell rfl, h.cell rfl, h.cell rfl, hp⟩
theorem row_slfB {w : World} {v : Value} {n : Nat} {xs : List Value} (h : Row w v n xs) : SlF v := by
 obtain ⟨a, c, e⟩ := h.form
 exact ⟨_, _, _, e⟩
theorem two_box {wq cur : World} {B16 B17 bn bc base : Nat} {ba : Option Addr} {rW rH ec : Int} {rl : List Int} (A16 : BoxIs cur B16 #[.int .i64 0, .int .i64 0, .slice none 0 0] 24) (A17 : BoxIs cur B17 #[.int .i64 0, .slice none 0 0] 43) (E : Ext wq cur) (l16 : wq.heap.size ≤ B16) (l17 : wq.heap.size ≤ B17) (ho : cur.ownsRow base 3 1 (.slice ba bn bc) bn (rl.map (Value.int .i64))) (hl : rl.length ≤ 1000000) (n16 : ∀ k, (Value.slice ba bn bc).ownBlock = some k → k ≠ B16) (n17 : ∀ k, (Value.slice ba bn bc).ownBlock = some k → k ≠ B17) :
 Ext wq (((cur.setCell ⟨B16, 0, none⟩ (.int .i64 rW)).setCell ⟨B16, 1, none⟩ (.int .i64 rH)).setCell ⟨B16, 2, none⟩ (.slice ba bn bc)) ∧
 (((((cur.setCell ⟨B16, 0, none⟩ (.int .i64 rW)).setCell ⟨B16, 1, none⟩ (.int .i64 rH)).setCell ⟨B16, 2, none⟩ (.slice ba bn bc)).cell? ⟨B17, 0, none⟩ = some (.int .i64 0) ∧ (((cur.setCell ⟨B16, 0, none⟩ (.int .i64 rW)).setCell ⟨B16, 1, none⟩ (.int .i64 rH)).setCell ⟨B16, 2, none⟩ (.slice ba bn bc)).cell? ⟨B17, 1, none⟩ = some (.slice none 0 0)) ∧ (((cur.setCell ⟨B16, 0, none⟩ (.int .i64 rW)).setCell ⟨B16, 1, none⟩ (.int .i64 rH)).setCell ⟨B16, 2, none⟩ (.slice ba bn bc)).frozen? ⟨B17, 0, none⟩ = false ∧ (((cur.setCell ⟨B16, 0, none⟩ (.int .i64 rW)).setCell ⟨B16, 1, none⟩ (.int .i64 rH)).setCell ⟨B16, 2, none⟩ (.slice ba bn bc)).frozen? ⟨B17, 1, none⟩ = false) ∧
 BoxIs (((((cur.setCell ⟨B16, 0, none⟩ (.int .i64 rW)).setCell ⟨B16, 1, none⟩ (.int .i64 rH)).setCell ⟨B16, 2, none⟩ (.slice ba bn bc)).setCell ⟨B17, 0, none⟩ (.int .i64 ec)).setCell ⟨B17, 1, none⟩ (.slice none 0 0)) B16 #[.int .i64 rW, .int .i64 rH, .slice ba bn bc] 24 ∧
 BoxIs (((((cur.setCell ⟨B16, 0, none⟩ (.int .i64 rW)).setCell ⟨B16, 1, none⟩ (.int .i64 rH)).setCell ⟨B16, 2, none⟩ (.slice ba bn bc)).setCell ⟨B17, 0, none⟩ (.int .i64 ec)).setCell ⟨B17, 1, none⟩ (.slice none 0 0)) B17 #[.int .i64 ec, .slice none 0 0] 43 ∧
 Ints (((((cur.setCell ⟨B16, 0, none⟩ (.int .i64 rW)).setCell ⟨B16, 1, none⟩ (.int .i64 rH)).setCell ⟨B16, 2, none⟩ (.slice ba bn bc)).setCell ⟨B17, 0, none⟩ (.int .i64 ec)).setCell ⟨B17, 1, none⟩ (.slice none 0 0)) (.slice ba bn bc) rl ∧
 Ext wq (((((cur.setCell ⟨B16, 0, none⟩ (.int .i64 rW)).setCell ⟨B16, 1, none⟩ (.int .i64 rH)).setCell ⟨B16, 2, none⟩ (.slice ba bn bc)).setCell ⟨B17, 0, none⟩ (.int .i64 ec)).setCell ⟨B17, 1, none⟩ (.slice none 0 0)) := by
 have hneq : B16 ≠ B17 := fun e => by subst e; have h1 : _ = _ := A16.symm.trans A17; simp at h1
 have C16 := A16.set3 (.int .i64 rW) (.int .i64 rH) (.slice ba bn bc); have C17 := A17.other3 hneq (.int .i64 rW) (.int .i64 rH) (.slice ba bn bc); have F := set3_ext E l16 (.int .i64 rW) (.int .i64 rH) (.slice ba bn bc)
 have HH := set3_ho ((HoF.row ho).imp (fun W h => Ints.of_owns (zs := rl) h (by omega))) (fun h => n16 _ h rfl) (.int .i64 rW) (.int .i64 rH) (.slice ba bn bc)
 exact ⟨F, C17.c2, C16.other2 hneq.symm _ _, C17.sets2 _ _, (HoF.setc (p := ⟨B17, 1, none⟩) (v := .slice none 0 0) (HoF.setc (p := ⟨B17, 0, none⟩) (v := .int .i64 ec) HH (fun h => n17 _ h rfl)) (fun h => n17 _ h rfl)).get, set2_ext F l17 _ _⟩
theorem bd_err {W H : Int} {zs : List Int} {PW PH : Int} {ps : List Int} {x y qp : Int} {q : Sq} (w : World) : RErrIs w (bdV W H zs PW PH ps x y qp q).1 (cdF (bdV W H zs PW PH ps x y qp q).1) (.slice none 0 0) := by
 unfold bdV bdW
 cases h : ckD W H zs PW PH ps x y qp q with
 | none => exact RErrIs.zero
 | some e =>
   obtain ⟨h1, h2⟩ := ck_flat e h
   obtain ⟨p, c⟩ := e
   obtain rfl : p = [] := h1
   exact RErrIs.code h2
theorem bd_len {W H : Int} {zs : List Int} {PW PH : Int} {ps : List Int} {x y qp : Int} {q : Sq} : (bdV W H zs PW PH ps x y qp q).2.2.2.length ≤ 1000000 := by
 unfold bdV bdW
 cases h : ckD W H zs PW PH ps x y qp q with
 | none =>
   have hc := ck_none h
   have := may_len (bld_may (x := x) (y := y) (qp := qp) (q := q) (ps := ps) hc.1 hc.2.2.1 (fun h => (hc.2.2.2.2.2.2.2 h).2.2))
   show (bld W H zs ps x y qp q).length ≤ _
   omega
 | some e => exact Nat.zero_le _
theorem own_val {w : World} {B n : Nat} {v : Value} {xs : List Value} (h : w.ownsRow B 3 1 v n xs) : ∃ a c, v = .slice a n c := (Row.of_owns h).form
set_option maxRecDepth 20000 in
set_option maxHeartbeats 8000000 in
theorem builds_law (W H PW PH x y qp : Int) (zs ps : List Int) (fa pa : Option Addr) (fn fc pn pc : Nat) (q : Sq) (vL v0 v1 v2 v3 : Value) (w : World) (hg : EtIs w) (hf : Row w (.slice fa fn fc) zs.length (zs.map (Value.int .i64))) (hp : Row w (.slice pa pn pc) ps.length (ps.map (Value.int .i64))) (hs : RawSq w q vL v0 v1 v2 v3) :
 Calls Tryz.prog 3 #[.agg #[.int .i64 W, .int .i64 H, .slice fa fn fc], .agg #[.int .i64 PW, .int .i64 PH, .slice pa pn pc], .int .i64 x, .int .i64 y, .int .i64 qp, sqQ q vL v0 v1 v2 v3] w fun e w' => e = .returned (.bool true) ∧ Ext w w' := by
 have HET := Lib.hid hg
 have HFR := Lib.hid hf
 have HPR := Lib.hid hp
 have HSR := Lib.hid hs
 have UW := Lib.hid (fun (W' : World) (kx : Ext w W') => weighs_any q vL v0 v1 v2 v3 W' (hs.ext kx))
 obtain ⟨hL, h0, h1, h2, h3⟩ := hs
 obtain ⟨aL, nL, cL, rfl⟩ := row_slfB hL
 obtain ⟨a0, n0, c0, rfl⟩ := row_slfB h0
 obtain ⟨a1, n1, c1, rfl⟩ := row_slfB h1
 obtain ⟨a2, n2, c2, rfl⟩ := row_slfB h2
 obtain ⟨a3, n3, c3, rfl⟩ := row_slfB h3
 clear hf hp hL h0 h1 h2 h3 hg
 obtain ⟨wg, hwg⟩ : ∃ z, wgS q = z := ⟨_, rfl⟩
 rw [hwg] at UW
 have HWG := Lib.hid hwg
 obtain ⟨k, m, a, b, c, d, vx, vy, l, l0, l1, l2, l3⟩ := q
 unfold sqQ sqV at UW ⊢
 dsimp only at UW ⊢
 clear hwg
 have B0 := ((BoxIs.new w #[.int .i64 W, .int .i64 H, .slice fa fn fc] 24).ext ((Ext.refl _).alloc (.cells #[.int .i64 PW, .int .i64 PH, .slice pa pn pc] 24))).ext ((Ext.refl _).alloc (.cells #[.int .i64 k, .int .i64 m, .int .i64 a, .int .i64 b, .int .i64 c, .int .i64 d, .int .i64 vx, .int .i64 vy, .slice aL nL cL, .slice a0 n0 c0, .slice a1 n1 c1, .slice a2 n2 c2, .slice a3 n3 c3] 30))
 have B1 := (BoxIs.new (w.alloc (.cells #[.int .i64 W, .int .i64 H, .slice fa fn fc] 24)) #[.int .i64 PW, .int .i64 PH, .slice pa pn pc] 24).ext ((Ext.refl _).alloc (.cells #[.int .i64 k, .int .i64 m, .int .i64 a, .int .i64 b, .int .i64 c, .int .i64 d, .int .i64 vx, .int .i64 vy, .slice aL nL cL, .slice a0 n0 c0, .slice a1 n1 c1, .slice a2 n2 c2, .slice a3 n3 c3] 30))
 have B2 := BoxIs.new ((w.alloc (.cells #[.int .i64 W, .int .i64 H, .slice fa fn fc] 24)).alloc (.cells #[.int .i64 PW, .int .i64 PH, .slice pa pn pc] 24)) #[.int .i64 k, .int .i64 m, .int .i64 a, .int .i64 b, .int .i64 c, .int .i64 d, .int .i64 vx, .int .i64 vy, .slice aL nL cL, .slice a0 n0 c0, .slice a1 n1 c1, .slice a2 n2 c2, .slice a3 n3 c3] 30
 have E0 := (((Ext.refl w).alloc (.cells #[.int .i64 W, .int .i64 H, .slice fa fn fc] 24)).alloc (.cells #[.int .i64 PW, .int .i64 PH, .slice pa pn pc] 24)).alloc (.cells #[.int .i64 k, .int .i64 m, .int .i64 a, .int .i64 b, .int .i64 c, .int .i64 d, .int .i64 vx, .int .i64 vy, .slice aL nL cL, .slice a0 n0 c0, .slice a1 n1 c1, .slice a2 n2 c2, .slice a3 n3 c3] 30)
 obtain ⟨u, hu⟩ : ∃ z, (((w.alloc (.cells #[.int .i64 W, .int .i64 H, .slice fa fn fc] 24)).alloc (.cells #[.int .i64 PW, .int .i64 PH, .slice pa pn pc] 24)).alloc (.cells #[.int .i64 k, .int .i64 m, .int .i64 a, .int .i64 b, .int .i64 c, .int .i64 d, .int .i64 vx, .int .i64 vy, .slice aL nL cL, .slice a0 n0 c0, .slice a1 n1 c1, .slice a2 n2 c2, .slice a3 n3 c3] 30)) = z := ⟨_, rfl⟩
 rw [hu] at B0 B1 B2 E0; rw [show (w.alloc (.cells #[.int .i64 W, .int .i64 H, .slice fa fn fc] 24)).heap.size = w.heap.size + 1 by simp] at B1; rw [show ((w.alloc (.cells #[.int .i64 W, .int .i64 H, .slice fa fn fc] 24)).alloc (.cells #[.int .i64 PW, .int .i64 PH, .slice pa pn pc] 24)).heap.size = w.heap.size + 1 + 1 by simp] at B2
 have HB0 := Lib.hid B0
 have HB1 := Lib.hid B1
 have HB2 := Lib.hid B2
 have HE := Lib.hid E0
 have HU := Lib.hid hu
 clear B0 B1 B2 E0 hu
 go_enter Tryz.func3, Tryz.ntmps3
 go_wp2_with fail; rw [HU.out]
 refine (first21_any _ (HET.out.ext HE.out)).mono ?_; rintro e w1 ⟨rfl, hx1⟩
 have f0 := (HB0.out.ext hx1).cell (i := 0) (v := .int .i64 W) rfl
 have f1 := (HB0.out.ext hx1).cell (i := 1) (v := .int .i64 H) rfl
 have f2 := (HB0.out.ext hx1).cell (i := 2) (v := .slice fa fn fc) rfl
 have p0 := (HB1.out.ext hx1).cell (i := 0) (v := .int .i64 PW) rfl
 have p1 := (HB1.out.ext hx1).cell (i := 1) (v := .int .i64 PH) rfl
 have p2 := (HB1.out.ext hx1).cell (i := 2) (v := .slice pa pn pc) rfl
 have B3 := BoxIs.new w1 #[.int .i64 W, .int .i64 H, .slice fa fn fc, .int .i64 PW, .int .i64 PH, .slice pa pn pc] 24
 have X3 := hx1.alloc (.cells #[.int .i64 W, .int .i64 H, .slice fa fn fc, .int .i64 PW, .int .i64 PH, .slice pa pn pc] 24)
 obtain ⟨w3, hw3⟩ : ∃ z, w1.alloc (.cells #[.int .i64 W, .int .i64 H, .slice fa fn fc, .int .i64 PW, .int .i64 PH, .slice pa pn pc] 24) = z := ⟨_, rfl⟩
 rw [hw3] at B3 X3
 have HW3 := Lib.hid hw3
 have HX3 := Lib.hid X3
 have HE3 := Lib.hid (HE.out.trans X3)
 have HFM := Lib.hid (Fms.twoB B3 (HFR.out.ext HE3.out) (HPR.out.ext HE3.out))
 clear hw3 B3 X3 hx1 HU; go_wp2_with fail; rw [HW3.out]
 refine (pix_any _ _ _ HFM.out (by simp)).mono ?_; rintro e w4 ⟨rfl, hx4⟩
 clear HFM HW3 f0 f1 f2 p0 p1 p2
 obtain ⟨pb, hpb⟩ : ∃ b, pixB [(W, H, zs), (PW, PH, ps)] = b := ⟨_, rfl⟩
 rw [hpb]
 have HX4 := Lib.hid (HX3.out.trans hx4)
 have HE4 := Lib.hid (HE3.out.trans hx4)
 obtain ⟨⟨g0, g1, g2, g3, g4, g5, g6, g7, g8, g9, g10, g11, g12⟩, -⟩ := sq_cells (HB2.out.ext HX4.out)
 clear hx4 HX3 HE3
 cases pb with
 | false =>
   clear UW; go_wp2_with fail
   refine (first21_any _ (HET.out.ext HE4.out)).mono ?_; rintro e w5 ⟨rfl, hx5⟩
   have E5 := HE4.out.trans hx5
   clear hx5
   go_wp2
   go_ret
   exact ⟨rfl, E5⟩
 | true =>
   have HZL : Hid (zs.length ≤ 20000 ∧ ps.length ≤ 20000) := ⟨(pixB_out hpb).2 0 (W, H, zs) rfl, (pixB_out hpb).2 1 (PW, PH, ps) rfl⟩
   clear hpb; go_wp2_with fail
   refine (UW.out _ HE4.out).mono ?_; rintro e w5 ⟨rfl, hx5⟩
   have HX5 := Lib.hid (HX4.out.trans hx5)
   have HE5 := Lib.hid (HE4.out.trans hx5)
   clear hx5 HX4 HE4 UW g0 g1 g2 g3 g4 g5 g6 g7 g8 g9 g10 g11 g12
   by_cases hbig : 20000 < wg
   · go_wp2_with fail
     refine (first21_any _ (HET.out.ext HE5.out)).mono ?_; rintro e w6 ⟨rfl, hx6⟩
     have E6 := HE5.out.trans hx6
     clear hx6
     go_wp2
     go_ret
     exact ⟨rfl, E6⟩
   · have HSI : Hid (SqIs w ⟨k, m, a, b, c, d, vx, vy, l, l0, l1, l2, l3⟩ (.slice aL nL cL) (.slice a0 n0 c0) (.slice a1 n1 c1) (.slice a2 n2 c2) (.slice a3 n3 c3)) := HSR.out.is (by have := HWG.out; omega)
     have HFI : Hid (Ints w (.slice fa fn fc) zs) := ⟨HFR.out, by have := HZL.out.1; omega⟩
     have HPI : Hid (Ints w (.slice pa pn pc) ps) := ⟨HPR.out, by have := HZL.out.2; omega⟩
     clear HFR HPR HSR HWG
     obtain ⟨r, hr⟩ : ∃ z, bdV W H zs PW PH ps x y qp ⟨k, m, a, b, c, d, vx, vy, l, l0, l1, l2, l3⟩ = z := ⟨_, rfl⟩
     have UD := Lib.hid (fun (W' : World) (kx : Ext w W') ia zn ic (hi : Ints W' (.slice ia zn ic) zs) => dBuildO_any W H PW PH x y qp zs ps ia pa zn ic pn pc _ _ _ _ _ _ W' hi (HPI.out.ext kx) (HSI.out.ext kx))
     have UR := Lib.hid (fun (W' : World) (kx : Ext w W') => rBuild_any W H PW PH x y qp zs ps fa pa fn fc pn pc _ _ _ _ _ _ W' (HFI.out.ext kx) (HPI.out.ext kx) (HSI.out.ext kx))
     have HRE : Hid (∀ W', RErrIs W' r.1 (cdF r.1) (.slice none 0 0)) := fun W' => by rw [← hr]; exact bd_err W'
     have HRL : Hid (r.2.2.2.length ≤ 1000000) := by show _ ≤ _; rw [← hr]; exact bd_len
     rw [hr] at UD UR
     unfold sqQ sqV at UD UR
     dsimp only at UD UR
     clear hr
     obtain ⟨rf, rW, rH, rl⟩ := r
     dsimp only at HRE HRL
     have f0 := (HB0.out.ext HX5.out).cell (i := 0) (v := .int .i64 W) rfl; have f1 := (HB0.out.ext HX5.out).cell (i := 1) (v := .int .i64 H) rfl; have f2 := (HB0.out.ext HX5.out).cell (i := 2) (v := .slice fa fn fc) rfl
     go_wp2_with fail
     refine (copy_frame_own W H zs fa fn fc w5 (HFI.out.ext HE5.out) (by have := HZL.out; omega)).mono ?_; rintro e w6 ⟨u6, rfl, ho6, hx6⟩
     obtain ⟨ia, ic, rfl⟩ := own_val ho6
     obtain ⟨zn, hzn⟩ : ∃ z, zs.length = z := ⟨_, rfl⟩
     rw [hzn] at ho6; rw [hzn]
     have B7 := BoxIs.new w6 #[.int .i64 W, .int .i64 H, .slice ia zn ic] 24
     have X7 := hx6.alloc (.cells #[.int .i64 W, .int .i64 H, .slice ia zn ic] 24)
     have O7 := own_extl ho6 ((Ext.refl w6).alloc (.cells #[.int .i64 W, .int .i64 H, .slice ia zn ic] 24))
     have b0 := (HB1.out.ext (HX5.out.trans X7)).cell (i := 0) (v := .int .i64 PW) rfl; have b1 := (HB1.out.ext (HX5.out.trans X7)).cell (i := 1) (v := .int .i64 PH) rfl; have b2 := (HB1.out.ext (HX5.out.trans X7)).cell (i := 2) (v := .slice pa pn pc) rfl
     obtain ⟨⟨g0, g1, g2, g3, g4, g5, g6, g7, g8, g9, g10, g11, g12⟩, -⟩ := sq_cells (HB2.out.ext (HX5.out.trans X7))
     obtain ⟨w7, hw7⟩ : ∃ z, w6.alloc (.cells #[.int .i64 W, .int .i64 H, .slice ia zn ic] 24) = z := ⟨_, rfl⟩
     rw [hw7] at B7 X7 O7
     have HW7 := Lib.hid hw7; have HB0w := Lib.hid (HB0.out.ext (HX5.out.trans X7)); have HB7 := Lib.hid B7; have HX7 := Lib.hid (HX5.out.trans X7); have HE7 := Lib.hid (HE5.out.trans X7); have HO7 := Lib.hid O7; have HZN := Lib.hid hzn
     have HI7 : Hid (Ints w7 (.slice ia zn ic) zs) := Ints.of_owns O7 (by have := HZL.out; omega)
     clear hw7 B7 X7 O7 hzn hx6 ho6 f0 f1 f2 HE5 hbig; go_wp2_with fail; rw [HW7.out]
     refine (UD.out w7 HE7.out ia zn ic HI7.out).mono ?_; rintro e w8 ⟨u8, x8, rfl, hx8, he8, ho8⟩
     dsimp only at he8 ho8
     obtain ⟨ua, uc, rfl⟩ := own_val ho8
     obtain ⟨un, hun⟩ : ∃ z, rl.length = z := ⟨_, rfl⟩
     rw [hun] at ho8
     dsimp only
     rw [hun]
     have B9 := BoxIs.new w8 #[.int .i64 rW, .int .i64 rH, .slice ua un uc] 24
     have X9 := hx8.alloc (.cells #[.int .i64 rW, .int .i64 rH, .slice ua un uc] 24)
     have O9 := own_extl ho8 ((Ext.refl w8).alloc (.cells #[.int .i64 rW, .int .i64 rH, .slice ua un uc] 24))
     have K9 := he8.ext ((Ext.refl w8).alloc (.cells #[.int .i64 rW, .int .i64 rH, .slice ua un uc] 24))
     have hb8 : ∀ k, (Value.slice ua un uc).ownBlock = some k → k ≠ w8.heap.size := fun k hk => by have := (ho8.lt k hk).2; omega
     obtain ⟨b9, hb9⟩ : ∃ z, w8.heap.size = z := ⟨_, rfl⟩
     obtain ⟨wq, hwq⟩ : ∃ z, w8.alloc (.cells #[.int .i64 rW, .int .i64 rH, .slice ua un uc] 24) = z := ⟨_, rfl⟩
     rw [hwq] at B9 X9 O9 K9; rw [hb9] at B9 hb8
     have HWQ := Lib.hid hwq; have HB9 := Lib.hid B9; have HX9 := Lib.hid X9; have HO9 := Lib.hid O9; have HK9 := Lib.hid K9; have HUN := Lib.hid hun; have HBU := Lib.hid hb8; have HHB := Lib.hid hb9
     have HEq := Lib.hid (HE7.out.trans X9)
     have HI9 : Hid (Ints wq (.slice ua un uc) rl) := Ints.of_owns O9 (by have := HRL.out; omega)
     have HQ0 := Lib.hid (HB0.out.ext (HX7.out.trans X9)); have HQ1 := Lib.hid (HB1.out.ext (HX7.out.trans X9)); have HQ2 := Lib.hid (HB2.out.ext (HX7.out.trans X9)); have HQ7 := Lib.hid (HB7.out.ext X9); have HII := Lib.hid (HI7.out.ext X9)
     clear hwq B9 X9 O9 K9 hun hb8 hb9 hx8 ho8 he8 UD b0 b1 b2 g0 g1 g2 g3 g4 g5 g6 g7 g8 g9 g10 g11 g12 HB0 HB1 HB2 HX5 HW7
     have KS : Hid (∀ w', Ext wq w' → ((w'.cell? ⟨w.heap.size, 0, none⟩ = some (.int .i64 W) ∧ w'.cell? ⟨w.heap.size, 1, none⟩ = some (.int .i64 H) ∧ w'.cell? ⟨w.heap.size, 2, none⟩ = some (.slice fa fn fc)) ∧ (w'.cell? ⟨w.heap.size + 1, 0, none⟩ = some (.int .i64 PW) ∧ w'.cell? ⟨w.heap.size + 1, 1, none⟩ = some (.int .i64 PH) ∧ w'.cell? ⟨w.heap.size + 1, 2, none⟩ = some (.slice pa pn pc)) ∧ (w'.cell? ⟨w.heap.size + 1 + 1, 0, none⟩ = some (.int .i64 k) ∧ w'.cell? ⟨w.heap.size + 1 + 1, 1, none⟩ = some (.int .i64 m) ∧ w'.cell? ⟨w.heap.size + 1 + 1, 2, none⟩ = some (.int .i64 a) ∧ w'.cell? ⟨w.heap.size + 1 + 1, 3, none⟩ = some (.int .i64 b) ∧ w'.cell? ⟨w.heap.size + 1 + 1, 4, none⟩ = some (.int .i64 c) ∧ w'.cell? ⟨w.heap.size + 1 + 1, 5, none⟩ = some (.int .i64 d) ∧ w'.cell? ⟨w.heap.size + 1 + 1, 6, none⟩ = some (.int .i64 vx) ∧ w'.cell? ⟨w.heap.size + 1 + 1, 7, none⟩ = some (.int .i64 vy) ∧ w'.cell? ⟨w.heap.size + 1 + 1, 8, none⟩ = some (.slice aL nL cL) ∧ w'.cell? ⟨w.heap.size + 1 + 1, 9, none⟩ = some (.slice a0 n0 c0) ∧ w'.cell? ⟨w.heap.size + 1 + 1, 10, none⟩ = some (.slice a1 n1 c1) ∧ w'.cell? ⟨w.heap.size + 1 + 1, 11, none⟩ = some (.slice a2 n2 c2) ∧ w'.cell? ⟨w.heap.size + 1 + 1, 12, none⟩ = some (.slice a3 n3 c3))) ∧ Ext wq w') := fun w' kx => ⟨⟨⟨(HQ0.out.ext kx).cell rfl, (HQ0.out.ext kx).cell rfl, (HQ0.out.ext kx).cell rfl⟩, ⟨(HQ1.out.ext kx).cell rfl, (HQ1.out.ext kx).cell rfl, (HQ1.out.ext kx).cell rfl⟩, ⟨(HQ2.out.ext kx).cell rfl, (HQ2.out.ext kx).cell rfl, (HQ2.out.ext kx).cell rfl, (HQ2.out.ext kx).cell rfl, (HQ2.out.ext kx).cell rfl, (HQ2.out.ext kx).cell rfl, (HQ2.out.ext kx).cell rfl, (HQ2.out.ext kx).cell rfl, (HQ2.out.ext kx).cell rfl, (HQ2.out.ext kx).cell rfl, (HQ2.out.ext kx).cell rfl, (HQ2.out.ext kx).cell rfl, (HQ2.out.ext kx).cell rfl⟩⟩, kx⟩
     have UP := Lib.hid (fun (W' : World) => plain_sq k m a b c d vx vy (.slice aL nL cL) (.slice a0 n0 c0) (.slice a1 n1 c1) (.slice a2 n2 c2) (.slice a3 n3 c3) W' ⟨_, _, _, rfl⟩ ⟨_, _, _, rfl⟩ ⟨_, _, _, rfl⟩ ⟨_, _, _, rfl⟩ ⟨_, _, _, rfl⟩)
     unfold sqV at UP
     obtain ⟨ec, hec⟩ : ∃ z, cdF rf = z := ⟨_, rfl⟩
     have UR2 := Lib.hid (fun (W' : World) (kx : Ext w W') => UR.out W' kx)
     unfold RdP at UR2
     dsimp only at UR2
     rw [hec] at UR2 HRE; clear hec UR; go_wp2_with fail; rw [HWQ.out, HHB.out]; clear HWQ HHB
     go_cut [16, 17] from 44 to 55 (fun s16 s17 wx => ∃ (B16 B17 : Nat) (ba : Option Addr) (bn bc : Nat), s16 = .pointer (some ⟨B16, 0, none⟩) ∧ s17 = .pointer (some ⟨B17, 0, none⟩) ∧ Hid (BoxIs wx B16 #[.int .i64 rW, .int .i64 rH, .slice ba bn bc] 24) ∧ Hid (BoxIs wx B17 #[.int .i64 ec, .slice none 0 0] 43) ∧ Hid (Ints wx (.slice ba bn bc) rl) ∧ Hid (Ext wq wx))
     case first =>
      refine wp_region_held_drew (S := fun w' => ((w'.cell? ⟨w.heap.size, 0, none⟩ = some (.int .i64 W) ∧ w'.cell? ⟨w.heap.size, 1, none⟩ = some (.int .i64 H) ∧ w'.cell? ⟨w.heap.size, 2, none⟩ = some (.slice fa fn fc)) ∧ (w'.cell? ⟨w.heap.size + 1, 0, none⟩ = some (.int .i64 PW) ∧ w'.cell? ⟨w.heap.size + 1, 1, none⟩ = some (.int .i64 PH) ∧ w'.cell? ⟨w.heap.size + 1, 2, none⟩ = some (.slice pa pn pc)) ∧ (w'.cell? ⟨w.heap.size + 1 + 1, 0, none⟩ = some (.int .i64 k) ∧ w'.cell? ⟨w.heap.size + 1 + 1, 1, none⟩ = some (.int .i64 m) ∧ w'.cell? ⟨w.heap.size + 1 + 1, 2, none⟩ = some (.int .i64 a) ∧ w'.cell? ⟨w.heap.size + 1 + 1, 3, none⟩ = some (.int .i64 b) ∧ w'.cell? ⟨w.heap.size + 1 + 1, 4, none⟩ = some (.int .i64 c) ∧ w'.cell? ⟨w.heap.size + 1 + 1, 5, none⟩ = some (.int .i64 d) ∧ w'.cell? ⟨w.heap.size + 1 + 1, 6, none⟩ = some (.int .i64 vx) ∧ w'.cell? ⟨w.heap.size + 1 + 1, 7, none⟩ = some (.int .i64 vy) ∧ w'.cell? ⟨w.heap.size + 1 + 1, 8, none⟩ = some (.slice aL nL cL) ∧ w'.cell? ⟨w.heap.size + 1 + 1, 9, none⟩ = some (.slice a0 n0 c0) ∧ w'.cell? ⟨w.heap.size + 1 + 1, 10, none⟩ = some (.slice a1 n1 c1) ∧ w'.cell? ⟨w.heap.size + 1 + 1, 11, none⟩ = some (.slice a2 n2 c2) ∧ w'.cell? ⟨w.heap.size + 1 + 1, 12, none⟩ = some (.slice a3 n3 c3))) ∧ Ext wq w') (by kernel_rfl) (KS.out _ (Ext.refl _).drew) (fun hHeld => ?_)
      have E := (Ext.refl wq).drew
      obtain ⟨wd, hwd⟩ : ∃ z, wq.drew = z := ⟨_, rfl⟩
      rw [hwd] at E hHeld ⊢; clear hwd; refine tkH 0 (v := ?_) rfl ?_ ?_
      case refine_2 => (intro w hSw; (try dsimp only at hSw); go_simp; (try with_reducible rfl))
      try simp only [pA, pB, pC, pD]
      refine tkH 1 (v := ?_) rfl ?_ ?_
      case refine_2 => (intro w hSw; (try dsimp only at hSw); go_simp; (try with_reducible rfl))
      try simp only [pA, pB, pC, pD]
      refine tkH 2 (v := ?_) rfl ?_ ?_
      case refine_2 => (intro w hSw; (try dsimp only at hSw); go_simp; (try with_reducible rfl))
      try simp only [pA, pB, pC, pD]
      refine tkH 3 (v := ?_) rfl ?_ ?_
      case refine_2 => (intro w hSw; (try dsimp only at hSw); go_simp; (try with_reducible rfl))
      try simp only [pA, pB, pC, pD]
      refine tkH 4 (v := ?_) rfl ?_ ?_
      case refine_2 => (intro w hSw; (try dsimp only at hSw); go_simp; (try with_reducible rfl))
      try simp only [pA, pB, pC, pD]
      refine tkH 5 (v := ?_) rfl ?_ ?_
      case refine_2 => (intro w hSw; (try dsimp only at hSw); go_simp; (try with_reducible rfl))
      try simp only [pA, pB, pC, pD]
      refine wpAnyH_ready (rs := [6, 11, 12]) (by kernel_rfl) (by simp) ?_; refine AllReadyH.cons (o := _) rfl (fun K hK => ?_) (AllReadyH.cons (o := _) rfl (fun K hK => ?_) (AllReadyH.cons (o := _) rfl (fun K hK => ?_) AllReadyH.nil))
      · skip
        go_simp
        go_at_call 15
        refine (UP.out _).mono ?_; rintro e wn1 ⟨rfl, X⟩
        refine hK.out _ _ (KS.out _ (E.trans X)) (fun hHeld => ?_); clear hK K; try simp only [pA, pB, pC, pD]
        have E := E.trans X; clear X; refine wpAnyH_ready (rs := [7, 11, 12]) (by kernel_rfl) (by simp) ?_; refine AllReadyH.cons (o := _) rfl (fun K hK => ?_) (AllReadyH.cons (o := _) rfl (fun K hK => ?_) (AllReadyH.cons (o := _) rfl (fun K hK => ?_) AllReadyH.nil))
        · skip
          go_simp
          go_at_call 14
          refine (UR2.out _ (HEq.out.trans E)).mono ?_; rintro e wn2 ⟨ba, bn, bc, rfl, X, ho, hn⟩
          refine hK.out _ _ (KS.out _ (E.trans X)) (fun hHeld => ?_); clear hK K; try simp only [pA, pB, pC, pD]
          have E := E.trans X; clear X
          have HN := Lib.hid hn; clear hn
          refine tkH 8 (v := ?_) rfl ?_ ?_
          case refine_2 => (intro w hSw; (try dsimp only at hSw); go_simp; (try with_reducible rfl))
          try simp only [pA, pB, pC, pD]
          refine tkH 9 (v := ?_) rfl ?_ ?_
          case refine_2 => (intro w hSw; (try dsimp only at hSw); go_simp; (try with_reducible rfl))
          try simp only [pA, pB, pC, pD]
          refine tkH 10 (v := ?_) rfl ?_ ?_
          case refine_2 => (intro w hSw; (try dsimp only at hSw); go_simp; (try with_reducible rfl))
          try simp only [pA, pB, pC, pD]
          refine wpAnyH_ready (rs := [11, 12]) (by kernel_rfl) (by simp) ?_; refine AllReadyH.cons (o := _) rfl (fun K hK => ?_) (AllReadyH.cons (o := _) rfl (fun K hK => ?_) AllReadyH.nil)
          · skip
            go_simp
            have A16 := BoxIs.new wn2 #[.int .i64 0, .int .i64 0, .slice none 0 0] 24
            have X := (Ext.refl wn2).alloc (.cells #[.int .i64 0, .int .i64 0, .slice none 0 0] 24)
            have n16 : ∀ k, (Value.slice ba bn bc).ownBlock = some k → k ≠ wn2.heap.size := fun k hk => by have := (ho.lt k hk).2; omega
            refine hK.out _ _ (KS.out _ (E.trans X)) (fun hHeld => ?_); clear hK K; try simp only [pA, pB, pC, pD]
            obtain ⟨wn3, hnw⟩ : ∃ z, wn2.alloc (.cells #[.int .i64 0, .int .i64 0, .slice none 0 0] 24) = z := ⟨_, rfl⟩
            rw [hnw] at A16 X hHeld ⊢
            obtain ⟨B16, hB⟩ : ∃ z, wn2.heap.size = z := ⟨_, rfl⟩
            have E16 : wq.heap.size ≤ B16 := by have := E.size; omega
            rw [hB] at A16 n16 ⊢
            have ho := own_extl ho X
            have E := E.trans X; clear X; clear hB hnw; refine wpAnyH_ready (rs := [12]) (by kernel_rfl) (by simp) ?_; refine AllReadyH.cons (o := _) rfl (fun K hK => ?_) AllReadyH.nil
            · skip
              go_simp
              have A17 := BoxIs.new wn3 #[.int .i64 0, .slice none 0 0] 43
              have X := (Ext.refl wn3).alloc (.cells #[.int .i64 0, .slice none 0 0] 43)
              have n17 : ∀ k, (Value.slice ba bn bc).ownBlock = some k → k ≠ wn3.heap.size := fun k hk => by have := (ho.lt k hk).2; omega
              refine hK.out _ _ (KS.out _ (E.trans X)) (fun hHeld => ?_); clear hK K; try simp only [pA, pB, pC, pD]
              obtain ⟨wn4, hnw⟩ : ∃ z, wn3.alloc (.cells #[.int .i64 0, .slice none 0 0] 43) = z := ⟨_, rfl⟩
              rw [hnw] at A17 X hHeld ⊢
              obtain ⟨B17, hB⟩ : ∃ z, wn3.heap.size = z := ⟨_, rfl⟩
              have E17 : wq.heap.size ≤ B17 := by have := E.size; omega
              rw [hB] at A17 n17 ⊢; have A16 := A16.ext X
              have ho := own_extl ho X
              have E := E.trans X; clear X; clear hB hnw
              have TB := two_box (rW := rW) (rH := rH) (ec := ec) A16 A17 E E16 E17 ho HRL.out n16 n17
              obtain ⟨m0, m1, m2⟩ := A16.c3; obtain ⟨y0, y1, y2⟩ := A16.f3
              refine wpAnyH_ready (rs := [13]) (by kernel_rfl) (by simp) ?_; refine AllReadyH.cons (o := _) rfl (fun K hK => ?_) AllReadyH.nil; go_simp; refine hK.out _ _ (KS.out _ TB.1) (fun hHeld => ?_); clear hK K; try simp only [pA, pB, pC, pD]
              obtain ⟨wy, hwy⟩ : ∃ z, ((wn4.setCell ⟨B16, 0, none⟩ (.int .i64 rW)).setCell ⟨B16, 1, none⟩ (.int .i64 rH)).setCell ⟨B16, 2, none⟩ (.slice ba bn bc) = z := ⟨_, rfl⟩
              rw [hwy] at TB hHeld ⊢
              obtain ⟨-, ⟨⟨q0, q1⟩, x0, x1⟩, D16, D17, HH2, F2⟩ := TB
              refine wpAnyH_ready (rs := [14]) (by kernel_rfl) (by simp) ?_; refine AllReadyH.cons (o := _) rfl (fun K hK => ?_) AllReadyH.nil; go_simp; refine hK.out _ _ (KS.out _ F2) (fun hHeld => ?_); clear hK K; try simp only [pA, pB, pC, pD]
              refine wpAnyH_done (by kernel_rfl) ?_ _
              clear hHeld; go_wp2_with fail; go_meet
              exact ⟨B16, B17, ba, bn, bc, rfl, rfl, D16, D17, HH2, F2⟩
          · skip
            go_simp
            have A17 := BoxIs.new wn2 #[.int .i64 0, .slice none 0 0] 43
            have X := (Ext.refl wn2).alloc (.cells #[.int .i64 0, .slice none 0 0] 43)
            have n17 : ∀ k, (Value.slice ba bn bc).ownBlock = some k → k ≠ wn2.heap.size := fun k hk => by have := (ho.lt k hk).2; omega
            refine hK.out _ _ (KS.out _ (E.trans X)) (fun hHeld => ?_); clear hK K; try simp only [pA, pB, pC, pD]
            obtain ⟨wn5, hnw⟩ : ∃ z, wn2.alloc (.cells #[.int .i64 0, .slice none 0 0] 43) = z := ⟨_, rfl⟩
            rw [hnw] at A17 X hHeld ⊢
            obtain ⟨B17, hB⟩ : ∃ z, wn2.heap.size = z := ⟨_, rfl⟩
            have E17 : wq.heap.size ≤ B17 := by have := E.size; omega
            rw [hB] at A17 n17 ⊢
            have ho := own_extl ho X
            have E := E.trans X; clear X; clear hB hnw; refine wpAnyH_ready (rs := [11]) (by kernel_rfl) (by simp) ?_; refine AllReadyH.cons (o := _) rfl (fun K hK => ?_) AllReadyH.nil
            · skip
              go_simp
              have A16 := BoxIs.new wn5 #[.int .i64 0, .int .i64 0, .slice none 0 0] 24
              have X := (Ext.refl wn5).alloc (.cells #[.int .i64 0, .int .i64 0, .slice none 0 0] 24)
              have n16 : ∀ k, (Value.slice ba bn bc).ownBlock = some k → k ≠ wn5.heap.size := fun k hk => by have := (ho.lt k hk).2; omega
              refine hK.out _ _ (KS.out _ (E.trans X)) (fun hHeld => ?_); clear hK K; try simp only [pA, pB, pC, pD]
              obtain ⟨wn6, hnw⟩ : ∃ z, wn5.alloc (.cells #[.int .i64 0, .int .i64 0, .slice none 0 0] 24) = z := ⟨_, rfl⟩
              rw [hnw] at A16 X hHeld ⊢
              obtain ⟨B16, hB⟩ : ∃ z, wn5.heap.size = z := ⟨_, rfl⟩
              have E16 : wq.heap.size ≤ B16 := by have := E.size; omega
              rw [hB] at A16 n16 ⊢; have A17 := A17.ext X
              have ho := own_extl ho X
              have E := E.trans X; clear X; clear hB hnw
              have TB := two_box (rW := rW) (rH := rH) (ec := ec) A16 A17 E E16 E17 ho HRL.out n16 n17
              obtain ⟨m0, m1, m2⟩ := A16.c3; obtain ⟨y0, y1, y2⟩ := A16.f3
              refine wpAnyH_ready (rs := [13]) (by kernel_rfl) (by simp) ?_; refine AllReadyH.cons (o := _) rfl (fun K hK => ?_) AllReadyH.nil; go_simp; refine hK.out _ _ (KS.out _ TB.1) (fun hHeld => ?_); clear hK K; try simp only [pA, pB, pC, pD]
              obtain ⟨wy, hwy⟩ : ∃ z, ((wn6.setCell ⟨B16, 0, none⟩ (.int .i64 rW)).setCell ⟨B16, 1, none⟩ (.int .i64 rH)).setCell ⟨B16, 2, none⟩ (.slice ba bn bc) = z := ⟨_, rfl⟩
              rw [hwy] at TB hHeld ⊢
              obtain ⟨-, ⟨⟨q0, q1⟩, x0, x1⟩, D16, D17, HH2, F2⟩ := TB
              refine wpAnyH_ready (rs := [14]) (by kernel_rfl) (by simp) ?_; refine AllReadyH.cons (o := _) rfl (fun K hK => ?_) AllReadyH.nil; go_simp; refine hK.out _ _ (KS.out _ F2) (fun hHeld => ?_); clear hK K; try simp only [pA, pB, pC, pD]
              refine wpAnyH_done (by kernel_rfl) ?_ _
              clear hHeld; go_wp2_with fail; go_meet
              exact ⟨B16, B17, ba, bn, bc, rfl, rfl, D16, D17, HH2, F2⟩
        · skip
          go_simp
          have A16 := BoxIs.new wn1 #[.int .i64 0, .int .i64 0, .slice none 0 0] 24
          have X := (Ext.refl wn1).alloc (.cells #[.int .i64 0, .int .i64 0, .slice none 0 0] 24)
          refine hK.out _ _ (KS.out _ (E.trans X)) (fun hHeld => ?_); clear hK K; try simp only [pA, pB, pC, pD]
          obtain ⟨wn7, hnw⟩ : ∃ z, wn1.alloc (.cells #[.int .i64 0, .int .i64 0, .slice none 0 0] 24) = z := ⟨_, rfl⟩
          rw [hnw] at A16 X hHeld ⊢
          obtain ⟨B16, hB⟩ : ∃ z, wn1.heap.size = z := ⟨_, rfl⟩
          have E16 : wq.heap.size ≤ B16 := by have := E.size; omega
          rw [hB] at A16 ⊢; have E := E.trans X; clear X; clear hB hnw; refine wpAnyH_ready (rs := [7, 12]) (by kernel_rfl) (by simp) ?_; refine AllReadyH.cons (o := _) rfl (fun K hK => ?_) (AllReadyH.cons (o := _) rfl (fun K hK => ?_) AllReadyH.nil)
          · skip
            go_simp
            go_at_call 14
            refine (UR2.out _ (HEq.out.trans E)).mono ?_; rintro e wn8 ⟨ba, bn, bc, rfl, X, ho, hn⟩
            have n16 : ∀ k, (Value.slice ba bn bc).ownBlock = some k → k ≠ B16 := fun k hk => by have := (ho.lt k hk).1; have := A16.lt; omega
            refine hK.out _ _ (KS.out _ (E.trans X)) (fun hHeld => ?_); clear hK K; try simp only [pA, pB, pC, pD]
            have A16 := A16.ext X; have E := E.trans X; clear X
            have HN := Lib.hid hn; clear hn
            refine tkH 8 (v := ?_) rfl ?_ ?_
            case refine_2 => (intro w hSw; (try dsimp only at hSw); go_simp; (try with_reducible rfl))
            try simp only [pA, pB, pC, pD]
            refine tkH 9 (v := ?_) rfl ?_ ?_
            case refine_2 => (intro w hSw; (try dsimp only at hSw); go_simp; (try with_reducible rfl))
            try simp only [pA, pB, pC, pD]
            refine tkH 10 (v := ?_) rfl ?_ ?_
            case refine_2 => (intro w hSw; (try dsimp only at hSw); go_simp; (try with_reducible rfl))
            try simp only [pA, pB, pC, pD]
            refine wpAnyH_ready (rs := [12]) (by kernel_rfl) (by simp) ?_; refine AllReadyH.cons (o := _) rfl (fun K hK => ?_) AllReadyH.nil
            · skip
              go_simp
              have A17 := BoxIs.new wn8 #[.int .i64 0, .slice none 0 0] 43
              have X := (Ext.refl wn8).alloc (.cells #[.int .i64 0, .slice none 0 0] 43)
              have n17 : ∀ k, (Value.slice ba bn bc).ownBlock = some k → k ≠ wn8.heap.size := fun k hk => by have := (ho.lt k hk).2; omega
              refine hK.out _ _ (KS.out _ (E.trans X)) (fun hHeld => ?_); clear hK K; try simp only [pA, pB, pC, pD]
              obtain ⟨wn9, hnw⟩ : ∃ z, wn8.alloc (.cells #[.int .i64 0, .slice none 0 0] 43) = z := ⟨_, rfl⟩
              rw [hnw] at A17 X hHeld ⊢
              obtain ⟨B17, hB⟩ : ∃ z, wn8.heap.size = z := ⟨_, rfl⟩
              have E17 : wq.heap.size ≤ B17 := by have := E.size; omega
              rw [hB] at A17 n17 ⊢; have A16 := A16.ext X
              have ho := own_extl ho X
              have E := E.trans X; clear X; clear hB hnw
              have TB := two_box (rW := rW) (rH := rH) (ec := ec) A16 A17 E E16 E17 ho HRL.out n16 n17
              obtain ⟨m0, m1, m2⟩ := A16.c3; obtain ⟨y0, y1, y2⟩ := A16.f3
              refine wpAnyH_ready (rs := [13]) (by kernel_rfl) (by simp) ?_; refine AllReadyH.cons (o := _) rfl (fun K hK => ?_) AllReadyH.nil; go_simp; refine hK.out _ _ (KS.out _ TB.1) (fun hHeld => ?_); clear hK K; try simp only [pA, pB, pC, pD]
              obtain ⟨wy, hwy⟩ : ∃ z, ((wn9.setCell ⟨B16, 0, none⟩ (.int .i64 rW)).setCell ⟨B16, 1, none⟩ (.int .i64 rH)).setCell ⟨B16, 2, none⟩ (.slice ba bn bc) = z := ⟨_, rfl⟩
              rw [hwy] at TB hHeld ⊢
              obtain ⟨-, ⟨⟨q0, q1⟩, x0, x1⟩, D16, D17, HH2, F2⟩ := TB
              refine wpAnyH_ready (rs := [14]) (by kernel_rfl) (by simp) ?_; refine AllReadyH.cons (o := _) rfl (fun K hK => ?_) AllReadyH.nil; go_simp; refine hK.out _ _ (KS.out _ F2) (fun hHeld => ?_); clear hK K; try simp only [pA, pB, pC, pD]
              refine wpAnyH_done (by kernel_rfl) ?_ _
              clear hHeld; go_wp2_with fail; go_meet
              exact ⟨B16, B17, ba, bn, bc, rfl, rfl, D16, D17, HH2, F2⟩
          · skip
            go_simp
            have A17 := BoxIs.new wn7 #[.int .i64 0, .slice none 0 0] 43
            have X := (Ext.refl wn7).alloc (.cells #[.int .i64 0, .slice none 0 0] 43)
            refine hK.out _ _ (KS.out _ (E.trans X)) (fun hHeld => ?_); clear hK K; try simp only [pA, pB, pC, pD]
            obtain ⟨wn10, hnw⟩ : ∃ z, wn7.alloc (.cells #[.int .i64 0, .slice none 0 0] 43) = z := ⟨_, rfl⟩
            rw [hnw] at A17 X hHeld ⊢
            obtain ⟨B17, hB⟩ : ∃ z, wn7.heap.size = z := ⟨_, rfl⟩
            have E17 : wq.heap.size ≤ B17 := by have := E.size; omega
            rw [hB] at A17 ⊢; have A16 := A16.ext X; have E := E.trans X; clear X; clear hB hnw; refine wpAnyH_ready (rs := [7]) (by kernel_rfl) (by simp) ?_; refine AllReadyH.cons (o := _) rfl (fun K hK => ?_) AllReadyH.nil
            · skip
              go_simp
              go_at_call 14
              refine (UR2.out _ (HEq.out.trans E)).mono ?_; rintro e wn11 ⟨ba, bn, bc, rfl, X, ho, hn⟩
              have n16 : ∀ k, (Value.slice ba bn bc).ownBlock = some k → k ≠ B16 := fun k hk => by have := (ho.lt k hk).1; have := A16.lt; omega
              have n17 : ∀ k, (Value.slice ba bn bc).ownBlock = some k → k ≠ B17 := fun k hk => by have := (ho.lt k hk).1; have := A17.lt; omega
              refine hK.out _ _ (KS.out _ (E.trans X)) (fun hHeld => ?_); clear hK K; try simp only [pA, pB, pC, pD]
              have A16 := A16.ext X; have A17 := A17.ext X; have E := E.trans X; clear X
              have HN := Lib.hid hn; clear hn
              refine tkH 8 (v := ?_) rfl ?_ ?_
              case refine_2 => (intro w hSw; (try dsimp only at hSw); go_simp; (try with_reducible rfl))
              try simp only [pA, pB, pC, pD]
              refine tkH 9 (v := ?_) rfl ?_ ?_
              case refine_2 => (intro w hSw; (try dsimp only at hSw); go_simp; (try with_reducible rfl))
              try simp only [pA, pB, pC, pD]
              refine tkH 10 (v := ?_) rfl ?_ ?_
              case refine_2 => (intro w hSw; (try dsimp only at hSw); go_simp; (try with_reducible rfl))
              try simp only [pA, pB, pC, pD]
              have TB := two_box (rW := rW) (rH := rH) (ec := ec) A16 A17 E E16 E17 ho HRL.out n16 n17
              obtain ⟨m0, m1, m2⟩ := A16.c3; obtain ⟨y0, y1, y2⟩ := A16.f3
              refine wpAnyH_ready (rs := [13]) (by kernel_rfl) (by simp) ?_; refine AllReadyH.cons (o := _) rfl (fun K hK => ?_) AllReadyH.nil; go_simp; refine hK.out _ _ (KS.out _ TB.1) (fun hHeld => ?_); clear hK K; try simp only [pA, pB, pC, pD]
              obtain ⟨wy, hwy⟩ : ∃ z, ((wn11.setCell ⟨B16, 0, none⟩ (.int .i64 rW)).setCell ⟨B16, 1, none⟩ (.int .i64 rH)).setCell ⟨B16, 2, none⟩ (.slice ba bn bc) = z := ⟨_, rfl⟩
              rw [hwy] at TB hHeld ⊢
              obtain ⟨-, ⟨⟨q0, q1⟩, x0, x1⟩, D16, D17, HH2, F2⟩ := TB
              refine wpAnyH_ready (rs := [14]) (by kernel_rfl) (by simp) ?_; refine AllReadyH.cons (o := _) rfl (fun K hK => ?_) AllReadyH.nil; go_simp; refine hK.out _ _ (KS.out _ F2) (fun hHeld => ?_); clear hK K; try simp only [pA, pB, pC, pD]
              refine wpAnyH_done (by kernel_rfl) ?_ _
              clear hHeld; go_wp2_with fail; go_meet
              exact ⟨B16, B17, ba, bn, bc, rfl, rfl, D16, D17, HH2, F2⟩
        · skip
          go_simp
          have A17 := BoxIs.new wn1 #[.int .i64 0, .slice none 0 0] 43
          have X := (Ext.refl wn1).alloc (.cells #[.int .i64 0, .slice none 0 0] 43)
          refine hK.out _ _ (KS.out _ (E.trans X)) (fun hHeld => ?_); clear hK K; try simp only [pA, pB, pC, pD]
          obtain ⟨wn12, hnw⟩ : ∃ z, wn1.alloc (.cells #[.int .i64 0, .slice none 0 0] 43) = z := ⟨_, rfl⟩
          rw [hnw] at A17 X hHeld ⊢
          obtain ⟨B17, hB⟩ : ∃ z, wn1.heap.size = z := ⟨_, rfl⟩
          have E17 : wq.heap.size ≤ B17 := by have := E.size; omega
          rw [hB] at A17 ⊢; have E := E.trans X; clear X; clear hB hnw; refine wpAnyH_ready (rs := [7, 11]) (by kernel_rfl) (by simp) ?_; refine AllReadyH.cons (o := _) rfl (fun K hK => ?_) (AllReadyH.cons (o := _) rfl (fun K hK => ?_) AllReadyH.nil)
          · skip
            go_simp
            go_at_call 14
            refine (UR2.out _ (HEq.out.trans E)).mono ?_; rintro e wn13 ⟨ba, bn, bc, rfl, X, ho, hn⟩
            have n17 : ∀ k, (Value.slice ba bn bc).ownBlock = some k → k ≠ B17 := fun k hk => by have := (ho.lt k hk).1; have := A17.lt; omega
            refine hK.out _ _ (KS.out _ (E.trans X)) (fun hHeld => ?_); clear hK K; try simp only [pA, pB, pC, pD]
            have A17 := A17.ext X; have E := E.trans X; clear X
            have HN := Lib.hid hn; clear hn
            refine tkH 8 (v := ?_) rfl ?_ ?_
            case refine_2 => (intro w hSw; (try dsimp only at hSw); go_simp; (try with_reducible rfl))
            try simp only [pA, pB, pC, pD]
            refine tkH 9 (v := ?_) rfl ?_ ?_
            case refine_2 => (intro w hSw; (try dsimp only at hSw); go_simp; (try with_reducible rfl))
            try simp only [pA, pB, pC, pD]
            refine tkH 10 (v := ?_) rfl ?_ ?_
            case refine_2 => (intro w hSw; (try dsimp only at hSw); go_simp; (try with_reducible rfl))
            try simp only [pA, pB, pC, pD]
            refine wpAnyH_ready (rs := [11]) (by kernel_rfl) (by simp) ?_; refine AllReadyH.cons (o := _) rfl (fun K hK => ?_) AllReadyH.nil
            · skip
              go_simp
              have A16 := BoxIs.new wn13 #[.int .i64 0, .int .i64 0, .slice none 0 0] 24
              have X := (Ext.refl wn13).alloc (.cells #[.int .i64 0, .int .i64 0, .slice none 0 0] 24)
              have n16 : ∀ k, (Value.slice ba bn bc).ownBlock = some k → k ≠ wn13.heap.size := fun k hk => by have := (ho.lt k hk).2; omega
              refine hK.out _ _ (KS.out _ (E.trans X)) (fun hHeld => ?_); clear hK K; try simp only [pA, pB, pC, pD]
              obtain ⟨wn14, hnw⟩ : ∃ z, wn13.alloc (.cells #[.int .i64 0, .int .i64 0, .slice none 0 0] 24) = z := ⟨_, rfl⟩
              rw [hnw] at A16 X hHeld ⊢
              obtain ⟨B16, hB⟩ : ∃ z, wn13.heap.size = z := ⟨_, rfl⟩
              have E16 : wq.heap.size ≤ B16 := by have := E.size; omega
              rw [hB] at A16 n16 ⊢; have A17 := A17.ext X
              have ho := own_extl ho X
              have E := E.trans X; clear X; clear hB hnw
              have TB := two_box (rW := rW) (rH := rH) (ec := ec) A16 A17 E E16 E17 ho HRL.out n16 n17
              obtain ⟨m0, m1, m2⟩ := A16.c3; obtain ⟨y0, y1, y2⟩ := A16.f3
              refine wpAnyH_ready (rs := [13]) (by kernel_rfl) (by simp) ?_; refine AllReadyH.cons (o := _) rfl (fun K hK => ?_) AllReadyH.nil; go_simp; refine hK.out _ _ (KS.out _ TB.1) (fun hHeld => ?_); clear hK K; try simp only [pA, pB, pC, pD]
              obtain ⟨wy, hwy⟩ : ∃ z, ((wn14.setCell ⟨B16, 0, none⟩ (.int .i64 rW)).setCell ⟨B16, 1, none⟩ (.int .i64 rH)).setCell ⟨B16, 2, none⟩ (.slice ba bn bc) = z := ⟨_, rfl⟩
              rw [hwy] at TB hHeld ⊢
              obtain ⟨-, ⟨⟨q0, q1⟩, x0, x1⟩, D16, D17, HH2, F2⟩ := TB
              refine wpAnyH_ready (rs := [14]) (by kernel_rfl) (by simp) ?_; refine AllReadyH.cons (o := _) rfl (fun K hK => ?_) AllReadyH.nil; go_simp; refine hK.out _ _ (KS.out _ F2) (fun hHeld => ?_); clear hK K; try simp only [pA, pB, pC, pD]
              refine wpAnyH_done (by kernel_rfl) ?_ _
              clear hHeld; go_wp2_with fail; go_meet
              exact ⟨B16, B17, ba, bn, bc, rfl, rfl, D16, D17, HH2, F2⟩
          · skip
            go_simp
            have A16 := BoxIs.new wn12 #[.int .i64 0, .int .i64 0, .slice none 0 0] 24
            have X := (Ext.refl wn12).alloc (.cells #[.int .i64 0, .int .i64 0, .slice none 0 0] 24)
            refine hK.out _ _ (KS.out _ (E.trans X)) (fun hHeld => ?_); clear hK K; try simp only [pA, pB, pC, pD]
            obtain ⟨wn15, hnw⟩ : ∃ z, wn12.alloc (.cells #[.int .i64 0, .int .i64 0, .slice none 0 0] 24) = z := ⟨_, rfl⟩
            rw [hnw] at A16 X hHeld ⊢
            obtain ⟨B16, hB⟩ : ∃ z, wn12.heap.size = z := ⟨_, rfl⟩
            have E16 : wq.heap.size ≤ B16 := by have := E.size; omega
            rw [hB] at A16 ⊢; have A17 := A17.ext X; have E := E.trans X; clear X; clear hB hnw; refine wpAnyH_ready (rs := [7]) (by kernel_rfl) (by simp) ?_; refine AllReadyH.cons (o := _) rfl (fun K hK => ?_) AllReadyH.nil
            · skip
              go_simp
              go_at_call 14
              refine (UR2.out _ (HEq.out.trans E)).mono ?_; rintro e wn16 ⟨ba, bn, bc, rfl, X, ho, hn⟩
              have n16 : ∀ k, (Value.slice ba bn bc).ownBlock = some k → k ≠ B16 := fun k hk => by have := (ho.lt k hk).1; have := A16.lt; omega
              have n17 : ∀ k, (Value.slice ba bn bc).ownBlock = some k → k ≠ B17 := fun k hk => by have := (ho.lt k hk).1; have := A17.lt; omega
              refine hK.out _ _ (KS.out _ (E.trans X)) (fun hHeld => ?_); clear hK K; try simp only [pA, pB, pC, pD]
              have A16 := A16.ext X; have A17 := A17.ext X; have E := E.trans X; clear X
              have HN := Lib.hid hn; clear hn
              refine tkH 8 (v := ?_) rfl ?_ ?_
              case refine_2 => (intro w hSw; (try dsimp only at hSw); go_simp; (try with_reducible rfl))
              try simp only [pA, pB, pC, pD]
              refine tkH 9 (v := ?_) rfl ?_ ?_
              case refine_2 => (intro w hSw; (try dsimp only at hSw); go_simp; (try with_reducible rfl))
              try simp only [pA, pB, pC, pD]
              refine tkH 10 (v := ?_) rfl ?_ ?_
              case refine_2 => (intro w hSw; (try dsimp only at hSw); go_simp; (try with_reducible rfl))
              try simp only [pA, pB, pC, pD]
              have TB := two_box (rW := rW) (rH := rH) (ec := ec) A16 A17 E E16 E17 ho HRL.out n16 n17
              obtain ⟨m0, m1, m2⟩ := A16.c3; obtain ⟨y0, y1, y2⟩ := A16.f3
              refine wpAnyH_ready (rs := [13]) (by kernel_rfl) (by simp) ?_; refine AllReadyH.cons (o := _) rfl (fun K hK => ?_) AllReadyH.nil; go_simp; refine hK.out _ _ (KS.out _ TB.1) (fun hHeld => ?_); clear hK K; try simp only [pA, pB, pC, pD]
              obtain ⟨wy, hwy⟩ : ∃ z, ((wn16.setCell ⟨B16, 0, none⟩ (.int .i64 rW)).setCell ⟨B16, 1, none⟩ (.int .i64 rH)).setCell ⟨B16, 2, none⟩ (.slice ba bn bc) = z := ⟨_, rfl⟩
              rw [hwy] at TB hHeld ⊢
              obtain ⟨-, ⟨⟨q0, q1⟩, x0, x1⟩, D16, D17, HH2, F2⟩ := TB
              refine wpAnyH_ready (rs := [14]) (by kernel_rfl) (by simp) ?_; refine AllReadyH.cons (o := _) rfl (fun K hK => ?_) AllReadyH.nil; go_simp; refine hK.out _ _ (KS.out _ F2) (fun hHeld => ?_); clear hK K; try simp only [pA, pB, pC, pD]
              refine wpAnyH_done (by kernel_rfl) ?_ _
              clear hHeld; go_wp2_with fail; go_meet
              exact ⟨B16, B17, ba, bn, bc, rfl, rfl, D16, D17, HH2, F2⟩
      · skip
        go_simp
        have A16 := BoxIs.new wd #[.int .i64 0, .int .i64 0, .slice none 0 0] 24
        have X := (Ext.refl wd).alloc (.cells #[.int .i64 0, .int .i64 0, .slice none 0 0] 24)
        refine hK.out _ _ (KS.out _ (E.trans X)) (fun hHeld => ?_); clear hK K; try simp only [pA, pB, pC, pD]
        obtain ⟨wn17, hnw⟩ : ∃ z, wd.alloc (.cells #[.int .i64 0, .int .i64 0, .slice none 0 0] 24) = z := ⟨_, rfl⟩
        rw [hnw] at A16 X hHeld ⊢
        obtain ⟨B16, hB⟩ : ∃ z, wd.heap.size = z := ⟨_, rfl⟩
        have E16 : wq.heap.size ≤ B16 := by have := E.size; omega
        rw [hB] at A16 ⊢; have E := E.trans X; clear X; clear hB hnw; refine wpAnyH_ready (rs := [6, 12]) (by kernel_rfl) (by simp) ?_; refine AllReadyH.cons (o := _) rfl (fun K hK => ?_) (AllReadyH.cons (o := _) rfl (fun K hK => ?_) AllReadyH.nil)
        · skip
          go_simp
          go_at_call 15
          refine (UP.out _).mono ?_; rintro e wn18 ⟨rfl, X⟩
          refine hK.out _ _ (KS.out _ (E.trans X)) (fun hHeld => ?_); clear hK K; try simp only [pA, pB, pC, pD]
          have A16 := A16.ext X; have E := E.trans X; clear X; refine wpAnyH_ready (rs := [7, 12]) (by kernel_rfl) (by simp) ?_; refine AllReadyH.cons (o := _) rfl (fun K hK => ?_) (AllReadyH.cons (o := _) rfl (fun K hK => ?_) AllReadyH.nil)
          · skip
            go_simp
            go_at_call 14
            refine (UR2.out _ (HEq.out.trans E)).mono ?_; rintro e wn19 ⟨ba, bn, bc, rfl, X, ho, hn⟩
            have n16 : ∀ k, (Value.slice ba bn bc).ownBlock = some k → k ≠ B16 := fun k hk => by have := (ho.lt k hk).1; have := A16.lt; omega
            refine hK.out _ _ (KS.out _ (E.trans X)) (fun hHeld => ?_); clear hK K; try simp only [pA, pB, pC, pD]
            have A16 := A16.ext X; have E := E.trans X; clear X
            have HN := Lib.hid hn; clear hn
            refine tkH 8 (v := ?_) rfl ?_ ?_
            case refine_2 => (intro w hSw; (try dsimp only at hSw); go_simp; (try with_reducible rfl))
            try simp only [pA, pB, pC, pD]
            refine tkH 9 (v := ?_) rfl ?_ ?_
            case refine_2 => (intro w hSw; (try dsimp only at hSw); go_simp; (try with_reducible rfl))
            try simp only [pA, pB, pC, pD]
            refine tkH 10 (v := ?_) rfl ?_ ?_
            case refine_2 => (intro w hSw; (try dsimp only at hSw); go_simp; (try with_reducible rfl))
            try simp only [pA, pB, pC, pD]
            refine wpAnyH_ready (rs := [12]) (by kernel_rfl) (by simp) ?_; refine AllReadyH.cons (o := _) rfl (fun K hK => ?_) AllReadyH.nil
            · skip
              go_simp
              have A17 := BoxIs.new wn19 #[.int .i64 0, .slice none 0 0] 43
              have X := (Ext.refl wn19).alloc (.cells #[.int .i64 0, .slice none 0 0] 43)
              have n17 : ∀ k, (Value.slice ba bn bc).ownBlock = some k → k ≠ wn19.heap.size := fun k hk => by have := (ho.lt k hk).2; omega
              refine hK.out _ _ (KS.out _ (E.trans X)) (fun hHeld => ?_); clear hK K; try simp only [pA, pB, pC, pD]
              obtain ⟨wn20, hnw⟩ : ∃ z, wn19.alloc (.cells #[.int .i64 0, .slice none 0 0] 43) = z := ⟨_, rfl⟩
              rw [hnw] at A17 X hHeld ⊢
              obtain ⟨B17, hB⟩ : ∃ z, wn19.heap.size = z := ⟨_, rfl⟩
              have E17 : wq.heap.size ≤ B17 := by have := E.size; omega
              rw [hB] at A17 n17 ⊢; have A16 := A16.ext X
              have ho := own_extl ho X
              have E := E.trans X; clear X; clear hB hnw
              have TB := two_box (rW := rW) (rH := rH) (ec := ec) A16 A17 E E16 E17 ho HRL.out n16 n17
              obtain ⟨m0, m1, m2⟩ := A16.c3; obtain ⟨y0, y1, y2⟩ := A16.f3
              refine wpAnyH_ready (rs := [13]) (by kernel_rfl) (by simp) ?_; refine AllReadyH.cons (o := _) rfl (fun K hK => ?_) AllReadyH.nil; go_simp; refine hK.out _ _ (KS.out _ TB.1) (fun hHeld => ?_); clear hK K; try simp only [pA, pB, pC, pD]
              obtain ⟨wy, hwy⟩ : ∃ z, ((wn20.setCell ⟨B16, 0, none⟩ (.int .i64 rW)).setCell ⟨B16, 1, none⟩ (.int .i64 rH)).setCell ⟨B16, 2, none⟩ (.slice ba bn bc) = z := ⟨_, rfl⟩
              rw [hwy] at TB hHeld ⊢
              obtain ⟨-, ⟨⟨q0, q1⟩, x0, x1⟩, D16, D17, HH2, F2⟩ := TB
              refine wpAnyH_ready (rs := [14]) (by kernel_rfl) (by simp) ?_; refine AllReadyH.cons (o := _) rfl (fun K hK => ?_) AllReadyH.nil; go_simp; refine hK.out _ _ (KS.out _ F2) (fun hHeld => ?_); clear hK K; try simp only [pA, pB, pC, pD]
              refine wpAnyH_done (by kernel_rfl) ?_ _
              clear hHeld; go_wp2_with fail; go_meet
              exact ⟨B16, B17, ba, bn, bc, rfl, rfl, D16, D17, HH2, F2⟩
          · skip
            go_simp
            have A17 := BoxIs.new wn18 #[.int .i64 0, .slice none 0 0] 43
            have X := (Ext.refl wn18).alloc (.cells #[.int .i64 0, .slice none 0 0] 43)
            refine hK.out _ _ (KS.out _ (E.trans X)) (fun hHeld => ?_); clear hK K; try simp only [pA, pB, pC, pD]
            obtain ⟨wn21, hnw⟩ : ∃ z, wn18.alloc (.cells #[.int .i64 0, .slice none 0 0] 43) = z := ⟨_, rfl⟩
            rw [hnw] at A17 X hHeld ⊢
            obtain ⟨B17, hB⟩ : ∃ z, wn18.heap.size = z := ⟨_, rfl⟩
            have E17 : wq.heap.size ≤ B17 := by have := E.size; omega
            rw [hB] at A17 ⊢; have A16 := A16.ext X; have E := E.trans X; clear X; clear hB hnw; refine wpAnyH_ready (rs := [7]) (by kernel_rfl) (by simp) ?_; refine AllReadyH.cons (o := _) rfl (fun K hK => ?_) AllReadyH.nil
            · skip
              go_simp
              go_at_call 14
              refine (UR2.out _ (HEq.out.trans E)).mono ?_; rintro e wn22 ⟨ba, bn, bc, rfl, X, ho, hn⟩
              have n16 : ∀ k, (Value.slice ba bn bc).ownBlock = some k → k ≠ B16 := fun k hk => by have := (ho.lt k hk).1; have := A16.lt; omega
              have n17 : ∀ k, (Value.slice ba bn bc).ownBlock = some k → k ≠ B17 := fun k hk => by have := (ho.lt k hk).1; have := A17.lt; omega
              refine hK.out _ _ (KS.out _ (E.trans X)) (fun hHeld => ?_); clear hK K; try simp only [pA, pB, pC, pD]
              have A16 := A16.ext X; have A17 := A17.ext X; have E := E.trans X; clear X
              have HN := Lib.hid hn; clear hn
              refine tkH 8 (v := ?_) rfl ?_ ?_
              case refine_2 => (intro w hSw; (try dsimp only at hSw); go_simp; (try with_reducible rfl))
              try simp only [pA, pB, pC, pD]
              refine tkH 9 (v := ?_) rfl ?_ ?_
              case refine_2 => (intro w hSw; (try dsimp only at hSw); go_simp; (try with_reducible rfl))
              try simp only [pA, pB, pC, pD]
              refine tkH 10 (v := ?_) rfl ?_ ?_
              case refine_2 => (intro w hSw; (try dsimp only at hSw); go_simp; (try with_reducible rfl))
              try simp only [pA, pB, pC, pD]
              have TB := two_box (rW := rW) (rH := rH) (ec := ec) A16 A17 E E16 E17 ho HRL.out n16 n17
              obtain ⟨m0, m1, m2⟩ := A16.c3; obtain ⟨y0, y1, y2⟩ := A16.f3
              refine wpAnyH_ready (rs := [13]) (by kernel_rfl) (by simp) ?_; refine AllReadyH.cons (o := _) rfl (fun K hK => ?_) AllReadyH.nil; go_simp; refine hK.out _ _ (KS.out _ TB.1) (fun hHeld => ?_); clear hK K; try simp only [pA, pB, pC, pD]
              obtain ⟨wy, hwy⟩ : ∃ z, ((wn22.setCell ⟨B16, 0, none⟩ (.int .i64 rW)).setCell ⟨B16, 1, none⟩ (.int .i64 rH)).setCell ⟨B16, 2, none⟩ (.slice ba bn bc) = z := ⟨_, rfl⟩
              rw [hwy] at TB hHeld ⊢
              obtain ⟨-, ⟨⟨q0, q1⟩, x0, x1⟩, D16, D17, HH2, F2⟩ := TB
              refine wpAnyH_ready (rs := [14]) (by kernel_rfl) (by simp) ?_; refine AllReadyH.cons (o := _) rfl (fun K hK => ?_) AllReadyH.nil; go_simp; refine hK.out _ _ (KS.out _ F2) (fun hHeld => ?_); clear hK K; try simp only [pA, pB, pC, pD]
              refine wpAnyH_done (by kernel_rfl) ?_ _
              clear hHeld; go_wp2_with fail; go_meet
              exact ⟨B16, B17, ba, bn, bc, rfl, rfl, D16, D17, HH2, F2⟩
        · skip
          go_simp
          have A17 := BoxIs.new wn17 #[.int .i64 0, .slice none 0 0] 43
          have X := (Ext.refl wn17).alloc (.cells #[.int .i64 0, .slice none 0 0] 43)
          refine hK.out _ _ (KS.out _ (E.trans X)) (fun hHeld => ?_); clear hK K; try simp only [pA, pB, pC, pD]
          obtain ⟨wn23, hnw⟩ : ∃ z, wn17.alloc (.cells #[.int .i64 0, .slice none 0 0] 43) = z := ⟨_, rfl⟩
          rw [hnw] at A17 X hHeld ⊢
          obtain ⟨B17, hB⟩ : ∃ z, wn17.heap.size = z := ⟨_, rfl⟩
          have E17 : wq.heap.size ≤ B17 := by have := E.size; omega
          rw [hB] at A17 ⊢; have A16 := A16.ext X; have E := E.trans X; clear X; clear hB hnw; refine wpAnyH_ready (rs := [6]) (by kernel_rfl) (by simp) ?_; refine AllReadyH.cons (o := _) rfl (fun K hK => ?_) AllReadyH.nil
          · skip
            go_simp
            go_at_call 15
            refine (UP.out _).mono ?_; rintro e wn24 ⟨rfl, X⟩
            refine hK.out _ _ (KS.out _ (E.trans X)) (fun hHeld => ?_); clear hK K; try simp only [pA, pB, pC, pD]
            have A16 := A16.ext X; have A17 := A17.ext X; have E := E.trans X; clear X; refine wpAnyH_ready (rs := [7]) (by kernel_rfl) (by simp) ?_; refine AllReadyH.cons (o := _) rfl (fun K hK => ?_) AllReadyH.nil
            · skip
              go_simp
              go_at_call 14
              refine (UR2.out _ (HEq.out.trans E)).mono ?_; rintro e wn25 ⟨ba, bn, bc, rfl, X, ho, hn⟩
              have n16 : ∀ k, (Value.slice ba bn bc).ownBlock = some k → k ≠ B16 := fun k hk => by have := (ho.lt k hk).1; have := A16.lt; omega
              have n17 : ∀ k, (Value.slice ba bn bc).ownBlock = some k → k ≠ B17 := fun k hk => by have := (ho.lt k hk).1; have := A17.lt; omega
              refine hK.out _ _ (KS.out _ (E.trans X)) (fun hHeld => ?_); clear hK K; try simp only [pA, pB, pC, pD]
              have A16 := A16.ext X; have A17 := A17.ext X; have E := E.trans X; clear X
              have HN := Lib.hid hn; clear hn
              refine tkH 8 (v := ?_) rfl ?_ ?_
              case refine_2 => (intro w hSw; (try dsimp only at hSw); go_simp; (try with_reducible rfl))
              try simp only [pA, pB, pC, pD]
              refine tkH 9 (v := ?_) rfl ?_ ?_
              case refine_2 => (intro w hSw; (try dsimp only at hSw); go_simp; (try with_reducible rfl))
              try simp only [pA, pB, pC, pD]
              refine tkH 10 (v := ?_) rfl ?_ ?_
              case refine_2 => (intro w hSw; (try dsimp only at hSw); go_simp; (try with_reducible rfl))
              try simp only [pA, pB, pC, pD]
              have TB := two_box (rW := rW) (rH := rH) (ec := ec) A16 A17 E E16 E17 ho HRL.out n16 n17
              obtain ⟨m0, m1, m2⟩ := A16.c3; obtain ⟨y0, y1, y2⟩ := A16.f3
              refine wpAnyH_ready (rs := [13]) (by kernel_rfl) (by simp) ?_; refine AllReadyH.cons (o := _) rfl (fun K hK => ?_) AllReadyH.nil; go_simp; refine hK.out _ _ (KS.out _ TB.1) (fun hHeld => ?_); clear hK K; try simp only [pA, pB, pC, pD]
              obtain ⟨wy, hwy⟩ : ∃ z, ((wn25.setCell ⟨B16, 0, none⟩ (.int .i64 rW)).setCell ⟨B16, 1, none⟩ (.int .i64 rH)).setCell ⟨B16, 2, none⟩ (.slice ba bn bc) = z := ⟨_, rfl⟩
              rw [hwy] at TB hHeld ⊢
              obtain ⟨-, ⟨⟨q0, q1⟩, x0, x1⟩, D16, D17, HH2, F2⟩ := TB
              refine wpAnyH_ready (rs := [14]) (by kernel_rfl) (by simp) ?_; refine AllReadyH.cons (o := _) rfl (fun K hK => ?_) AllReadyH.nil; go_simp; refine hK.out _ _ (KS.out _ F2) (fun hHeld => ?_); clear hK K; try simp only [pA, pB, pC, pD]
              refine wpAnyH_done (by kernel_rfl) ?_ _
              clear hHeld; go_wp2_with fail; go_meet
              exact ⟨B16, B17, ba, bn, bc, rfl, rfl, D16, D17, HH2, F2⟩
      · skip
        go_simp
        have A17 := BoxIs.new wd #[.int .i64 0, .slice none 0 0] 43
        have X := (Ext.refl wd).alloc (.cells #[.int .i64 0, .slice none 0 0] 43)
        refine hK.out _ _ (KS.out _ (E.trans X)) (fun hHeld => ?_); clear hK K; try simp only [pA, pB, pC, pD]
        obtain ⟨wn26, hnw⟩ : ∃ z, wd.alloc (.cells #[.int .i64 0, .slice none 0 0] 43) = z := ⟨_, rfl⟩
        rw [hnw] at A17 X hHeld ⊢
        obtain ⟨B17, hB⟩ : ∃ z, wd.heap.size = z := ⟨_, rfl⟩
        have E17 : wq.heap.size ≤ B17 := by have := E.size; omega
        rw [hB] at A17 ⊢; have E := E.trans X; clear X; clear hB hnw; refine wpAnyH_ready (rs := [6, 11]) (by kernel_rfl) (by simp) ?_; refine AllReadyH.cons (o := _) rfl (fun K hK => ?_) (AllReadyH.cons (o := _) rfl (fun K hK => ?_) AllReadyH.nil)
        · skip
          go_simp
          go_at_call 15
          refine (UP.out _).mono ?_; rintro e wn27 ⟨rfl, X⟩
          refine hK.out _ _ (KS.out _ (E.trans X)) (fun hHeld => ?_); clear hK K; try simp only [pA, pB, pC, pD]
          have A17 := A17.ext X; have E := E.trans X; clear X; refine wpAnyH_ready (rs := [7, 11]) (by kernel_rfl) (by simp) ?_; refine AllReadyH.cons (o := _) rfl (fun K hK => ?_) (AllReadyH.cons (o := _) rfl (fun K hK => ?_) AllReadyH.nil)
          · skip
            go_simp
            go_at_call 14
            refine (UR2.out _ (HEq.out.trans E)).mono ?_; rintro e wn28 ⟨ba, bn, bc, rfl, X, ho, hn⟩
            have n17 : ∀ k, (Value.slice ba bn bc).ownBlock = some k → k ≠ B17 := fun k hk => by have := (ho.lt k hk).1; have := A17.lt; omega
            refine hK.out _ _ (KS.out _ (E.trans X)) (fun hHeld => ?_); clear hK K; try simp only [pA, pB, pC, pD]
            have A17 := A17.ext X; have E := E.trans X; clear X
            have HN := Lib.hid hn; clear hn
            refine tkH 8 (v := ?_) rfl ?_ ?_
            case refine_2 => (intro w hSw; (try dsimp only at hSw); go_simp; (try with_reducible rfl))
            try simp only [pA, pB, pC, pD]
            refine tkH 9 (v := ?_) rfl ?_ ?_
            case refine_2 => (intro w hSw; (try dsimp only at hSw); go_simp; (try with_reducible rfl))
            try simp only [pA, pB, pC, pD]
            refine tkH 10 (v := ?_) rfl ?_ ?_
            case refine_2 => (intro w hSw; (try dsimp only at hSw); go_simp; (try with_reducible rfl))
            try simp only [pA, pB, pC, pD]
            refine wpAnyH_ready (rs := [11]) (by kernel_rfl) (by simp) ?_; refine AllReadyH.cons (o := _) rfl (fun K hK => ?_) AllReadyH.nil
            · skip
              go_simp
              have A16 := BoxIs.new wn28 #[.int .i64 0, .int .i64 0, .slice none 0 0] 24
              have X := (Ext.refl wn28).alloc (.cells #[.int .i64 0, .int .i64 0, .slice none 0 0] 24)
              have n16 : ∀ k, (Value.slice ba bn bc).ownBlock = some k → k ≠ wn28.heap.size := fun k hk => by have := (ho.lt k hk).2; omega
              refine hK.out _ _ (KS.out _ (E.trans X)) (fun hHeld => ?_); clear hK K; try simp only [pA, pB, pC, pD]
              obtain ⟨wn29, hnw⟩ : ∃ z, wn28.alloc (.cells #[.int .i64 0, .int .i64 0, .slice none 0 0] 24) = z := ⟨_, rfl⟩
              rw [hnw] at A16 X hHeld ⊢
              obtain ⟨B16, hB⟩ : ∃ z, wn28.heap.size = z := ⟨_, rfl⟩
              have E16 : wq.heap.size ≤ B16 := by have := E.size; omega
              rw [hB] at A16 n16 ⊢; have A17 := A17.ext X
              have ho := own_extl ho X
              have E := E.trans X; clear X; clear hB hnw
              have TB := two_box (rW := rW) (rH := rH) (ec := ec) A16 A17 E E16 E17 ho HRL.out n16 n17
              obtain ⟨m0, m1, m2⟩ := A16.c3; obtain ⟨y0, y1, y2⟩ := A16.f3
              refine wpAnyH_ready (rs := [13]) (by kernel_rfl) (by simp) ?_; refine AllReadyH.cons (o := _) rfl (fun K hK => ?_) AllReadyH.nil; go_simp; refine hK.out _ _ (KS.out _ TB.1) (fun hHeld => ?_); clear hK K; try simp only [pA, pB, pC, pD]
              obtain ⟨wy, hwy⟩ : ∃ z, ((wn29.setCell ⟨B16, 0, none⟩ (.int .i64 rW)).setCell ⟨B16, 1, none⟩ (.int .i64 rH)).setCell ⟨B16, 2, none⟩ (.slice ba bn bc) = z := ⟨_, rfl⟩
              rw [hwy] at TB hHeld ⊢
              obtain ⟨-, ⟨⟨q0, q1⟩, x0, x1⟩, D16, D17, HH2, F2⟩ := TB
              refine wpAnyH_ready (rs := [14]) (by kernel_rfl) (by simp) ?_; refine AllReadyH.cons (o := _) rfl (fun K hK => ?_) AllReadyH.nil; go_simp; refine hK.out _ _ (KS.out _ F2) (fun hHeld => ?_); clear hK K; try simp only [pA, pB, pC, pD]
              refine wpAnyH_done (by kernel_rfl) ?_ _
              clear hHeld; go_wp2_with fail; go_meet
              exact ⟨B16, B17, ba, bn, bc, rfl, rfl, D16, D17, HH2, F2⟩
          · skip
            go_simp
            have A16 := BoxIs.new wn27 #[.int .i64 0, .int .i64 0, .slice none 0 0] 24
            have X := (Ext.refl wn27).alloc (.cells #[.int .i64 0, .int .i64 0, .slice none 0 0] 24)
            refine hK.out _ _ (KS.out _ (E.trans X)) (fun hHeld => ?_); clear hK K; try simp only [pA, pB, pC, pD]
            obtain ⟨wn30, hnw⟩ : ∃ z, wn27.alloc (.cells #[.int .i64 0, .int .i64 0, .slice none 0 0] 24) = z := ⟨_, rfl⟩
            rw [hnw] at A16 X hHeld ⊢
            obtain ⟨B16, hB⟩ : ∃ z, wn27.heap.size = z := ⟨_, rfl⟩
            have E16 : wq.heap.size ≤ B16 := by have := E.size; omega
            rw [hB] at A16 ⊢; have A17 := A17.ext X; have E := E.trans X; clear X; clear hB hnw; refine wpAnyH_ready (rs := [7]) (by kernel_rfl) (by simp) ?_; refine AllReadyH.cons (o := _) rfl (fun K hK => ?_) AllReadyH.nil
            · skip
              go_simp
              go_at_call 14
              refine (UR2.out _ (HEq.out.trans E)).mono ?_; rintro e wn31 ⟨ba, bn, bc, rfl, X, ho, hn⟩
              have n16 : ∀ k, (Value.slice ba bn bc).ownBlock = some k → k ≠ B16 := fun k hk => by have := (ho.lt k hk).1; have := A16.lt; omega
              have n17 : ∀ k, (Value.slice ba bn bc).ownBlock = some k → k ≠ B17 := fun k hk => by have := (ho.lt k hk).1; have := A17.lt; omega
              refine hK.out _ _ (KS.out _ (E.trans X)) (fun hHeld => ?_); clear hK K; try simp only [pA, pB, pC, pD]
              have A16 := A16.ext X; have A17 := A17.ext X; have E := E.trans X; clear X
              have HN := Lib.hid hn; clear hn
              refine tkH 8 (v := ?_) rfl ?_ ?_
              case refine_2 => (intro w hSw; (try dsimp only at hSw); go_simp; (try with_reducible rfl))
              try simp only [pA, pB, pC, pD]
              refine tkH 9 (v := ?_) rfl ?_ ?_
              case refine_2 => (intro w hSw; (try dsimp only at hSw); go_simp; (try with_reducible rfl))
              try simp only [pA, pB, pC, pD]
              refine tkH 10 (v := ?_) rfl ?_ ?_
              case refine_2 => (intro w hSw; (try dsimp only at hSw); go_simp; (try with_reducible rfl))
              try simp only [pA, pB, pC, pD]
              have TB := two_box (rW := rW) (rH := rH) (ec := ec) A16 A17 E E16 E17 ho HRL.out n16 n17
              obtain ⟨m0, m1, m2⟩ := A16.c3; obtain ⟨y0, y1, y2⟩ := A16.f3
              refine wpAnyH_ready (rs := [13]) (by kernel_rfl) (by simp) ?_; refine AllReadyH.cons (o := _) rfl (fun K hK => ?_) AllReadyH.nil; go_simp; refine hK.out _ _ (KS.out _ TB.1) (fun hHeld => ?_); clear hK K; try simp only [pA, pB, pC, pD]
              obtain ⟨wy, hwy⟩ : ∃ z, ((wn31.setCell ⟨B16, 0, none⟩ (.int .i64 rW)).setCell ⟨B16, 1, none⟩ (.int .i64 rH)).setCell ⟨B16, 2, none⟩ (.slice ba bn bc) = z := ⟨_, rfl⟩
              rw [hwy] at TB hHeld ⊢
              obtain ⟨-, ⟨⟨q0, q1⟩, x0, x1⟩, D16, D17, HH2, F2⟩ := TB
              refine wpAnyH_ready (rs := [14]) (by kernel_rfl) (by simp) ?_; refine AllReadyH.cons (o := _) rfl (fun K hK => ?_) AllReadyH.nil; go_simp; refine hK.out _ _ (KS.out _ F2) (fun hHeld => ?_); clear hK K; try simp only [pA, pB, pC, pD]
              refine wpAnyH_done (by kernel_rfl) ?_ _
              clear hHeld; go_wp2_with fail; go_meet
              exact ⟨B16, B17, ba, bn, bc, rfl, rfl, D16, D17, HH2, F2⟩
        · skip
          go_simp
          have A16 := BoxIs.new wn26 #[.int .i64 0, .int .i64 0, .slice none 0 0] 24
          have X := (Ext.refl wn26).alloc (.cells #[.int .i64 0, .int .i64 0, .slice none 0 0] 24)
          refine hK.out _ _ (KS.out _ (E.trans X)) (fun hHeld => ?_); clear hK K; try simp only [pA, pB, pC, pD]
          obtain ⟨wn32, hnw⟩ : ∃ z, wn26.alloc (.cells #[.int .i64 0, .int .i64 0, .slice none 0 0] 24) = z := ⟨_, rfl⟩
          rw [hnw] at A16 X hHeld ⊢
          obtain ⟨B16, hB⟩ : ∃ z, wn26.heap.size = z := ⟨_, rfl⟩
          have E16 : wq.heap.size ≤ B16 := by have := E.size; omega
          rw [hB] at A16 ⊢; have A17 := A17.ext X; have E := E.trans X; clear X; clear hB hnw; refine wpAnyH_ready (rs := [6]) (by kernel_rfl) (by simp) ?_; refine AllReadyH.cons (o := _) rfl (fun K hK => ?_) AllReadyH.nil
          · skip
            go_simp
            go_at_call 15
            refine (UP.out _).mono ?_; rintro e wn33 ⟨rfl, X⟩
            refine hK.out _ _ (KS.out _ (E.trans X)) (fun hHeld => ?_); clear hK K; try simp only [pA, pB, pC, pD]
            have A16 := A16.ext X; have A17 := A17.ext X; have E := E.trans X; clear X; refine wpAnyH_ready (rs := [7]) (by kernel_rfl) (by simp) ?_; refine AllReadyH.cons (o := _) rfl (fun K hK => ?_) AllReadyH.nil
            · skip
              go_simp
              go_at_call 14
              refine (UR2.out _ (HEq.out.trans E)).mono ?_; rintro e wn34 ⟨ba, bn, bc, rfl, X, ho, hn⟩
              have n16 : ∀ k, (Value.slice ba bn bc).ownBlock = some k → k ≠ B16 := fun k hk => by have := (ho.lt k hk).1; have := A16.lt; omega
              have n17 : ∀ k, (Value.slice ba bn bc).ownBlock = some k → k ≠ B17 := fun k hk => by have := (ho.lt k hk).1; have := A17.lt; omega
              refine hK.out _ _ (KS.out _ (E.trans X)) (fun hHeld => ?_); clear hK K; try simp only [pA, pB, pC, pD]
              have A16 := A16.ext X; have A17 := A17.ext X; have E := E.trans X; clear X
              have HN := Lib.hid hn; clear hn
              refine tkH 8 (v := ?_) rfl ?_ ?_
              case refine_2 => (intro w hSw; (try dsimp only at hSw); go_simp; (try with_reducible rfl))
              try simp only [pA, pB, pC, pD]
              refine tkH 9 (v := ?_) rfl ?_ ?_
              case refine_2 => (intro w hSw; (try dsimp only at hSw); go_simp; (try with_reducible rfl))
              try simp only [pA, pB, pC, pD]
              refine tkH 10 (v := ?_) rfl ?_ ?_
              case refine_2 => (intro w hSw; (try dsimp only at hSw); go_simp; (try with_reducible rfl))
              try simp only [pA, pB, pC, pD]
              have TB := two_box (rW := rW) (rH := rH) (ec := ec) A16 A17 E E16 E17 ho HRL.out n16 n17
              obtain ⟨m0, m1, m2⟩ := A16.c3; obtain ⟨y0, y1, y2⟩ := A16.f3
              refine wpAnyH_ready (rs := [13]) (by kernel_rfl) (by simp) ?_; refine AllReadyH.cons (o := _) rfl (fun K hK => ?_) AllReadyH.nil; go_simp; refine hK.out _ _ (KS.out _ TB.1) (fun hHeld => ?_); clear hK K; try simp only [pA, pB, pC, pD]
              obtain ⟨wy, hwy⟩ : ∃ z, ((wn34.setCell ⟨B16, 0, none⟩ (.int .i64 rW)).setCell ⟨B16, 1, none⟩ (.int .i64 rH)).setCell ⟨B16, 2, none⟩ (.slice ba bn bc) = z := ⟨_, rfl⟩
              rw [hwy] at TB hHeld ⊢
              obtain ⟨-, ⟨⟨q0, q1⟩, x0, x1⟩, D16, D17, HH2, F2⟩ := TB
              refine wpAnyH_ready (rs := [14]) (by kernel_rfl) (by simp) ?_; refine AllReadyH.cons (o := _) rfl (fun K hK => ?_) AllReadyH.nil; go_simp; refine hK.out _ _ (KS.out _ F2) (fun hHeld => ?_); clear hK K; try simp only [pA, pB, pC, pD]
              refine wpAnyH_done (by kernel_rfl) ?_ _
              clear hHeld; go_wp2_with fail; go_meet
              exact ⟨B16, B17, ba, bn, bc, rfl, rfl, D16, D17, HH2, F2⟩
     case rest =>
      obtain ⟨B16, B17, ba, bn, bc, rfl, rfl, H16, H17, HIB, HEx⟩ := hcut
      clear KS UP UR2
      have a0 := (HB9.out.ext HEx.out).cell (i := 0) (v := .int .i64 rW) rfl; have a1 := (HB9.out.ext HEx.out).cell (i := 1) (v := .int .i64 rH) rfl; have a2 := (HB9.out.ext HEx.out).cell (i := 2) (v := .slice ua un uc) rfl
      have b0 := H16.out.cell (i := 0) (v := .int .i64 rW) rfl; have b1 := H16.out.cell (i := 1) (v := .int .i64 rH) rfl; have b2 := H16.out.cell (i := 2) (v := .slice ba bn bc) rfl
      go_wp2_with fail
      refine (frame_same rW rH rl ua ba un bn uc bc _ (HI9.out.ext HEx.out) HIB.out).mono ?_; rintro e v1 ⟨rfl, hx1⟩
      have HEy := Lib.hid (HEx.out.trans hx1)
      have e0 := (H17.out.ext hx1).cell (i := 0) (v := .int .i64 ec) rfl; have e1 := (H17.out.ext hx1).cell (i := 1) (v := .slice none 0 0) rfl
      clear hx1 a0 a1 a2 b0 b1 b2 H16 HIB HEx H17; go_wp2_with fail
      refine (same_fall rf x8 (.slice none 0 0) ec v1 (HET.out.ext (HEq.out.trans HEy.out)) (HK9.out.ext HEy.out) (HRE.out v1)).mono ?_; rintro e v2 ⟨rfl, hx2⟩
      have HEz := Lib.hid (HEy.out.trans hx2)
      have HBz := Lib.hid (HB9.out.ext HEz.out)
      have HOz := Lib.hid (own_extl HO9.out HEz.out)
      have HL0 : Hid (un ≤ 1000000) := by show _ ≤ _; have := HRL.out; have := HUN.out; omega
      have HEv := Lib.hid (HX9.out.trans HEz.out)
      have HO0 : Hid (v2.ownsRow w7.heap.size 3 1 (.slice ua un uc) un ((rowL un (fun j => rl.getD j 0)).map (Value.int .i64))) := by show World.ownsRow _ _ _ _ _ _ _; rw [← HUN.out, rowL_getD, HUN.out]; exact HOz.out
      have a2 := HBz.out.cell (i := 2) (v := .slice ua un uc) rfl
      have hblt : b9 < v2.heap.size := HBz.out.lt
      have HBL := Lib.hid hblt
      clear hx2 e0 e1 HEy HOz HRE HK9 hblt HI9 HO9 HUN HRL HB9; go_wp2_with fail
      go_loopw [18] (fun iv wr => ∃ (i : Nat) (g : Nat → Int), i ≤ un ∧ iv = .int .i64 (i : Int) ∧ Hid (wr.ownsRow w7.heap.size 3 1 (.slice ua un uc) un ((rowL un g).map (Value.int .i64))) ∧ Hid (Ext w7 wr) ∧ Hid (BoxIs wr b9 #[.int .i64 rW, .int .i64 rH, .slice ua un uc] 24)) (fun iv _ => un - (intOf iv).toNat)
      case atStart => exact ⟨0, _, Nat.zero_le _, rfl, HO0.out, HEv.out, HBz.out⟩
      case round =>
       obtain ⟨i, g, hi, rfl, HO, HE, HB⟩ := hrel
       clear a2
       have a2 := HB.out.cell (i := 2) (v := .slice ua un uc) rfl
       by_cases hin : i < un
       · have ti : (i : Int) < (un : Int) := by omega
         have dw : IntKind.i64.wrap ((i : Int) + 1) = (i : Int) + 1 := by rw [IntKind.wrap_i64]; have := HL0.out; omega
         obtain ⟨gz, oz, hv⟩ := own_addr HO.out (by omega)
         obtain ⟨hv, hge, hlt⟩ := hv
         obtain ⟨rfl, rfl⟩ : ua = some ⟨gz, 0, none⟩ ∧ uc = oz := by cases hv; exact ⟨rfl, rfl⟩
         have hnb : gz ≠ b9 := HBU.out gz rfl
         obtain ⟨cq, fq⟩ := own_cell HO.out hin
         have HOW := Lib.hid (own_set (x := -1) HO.out hin)
         have EW := Lib.hid (HE.out.setCell (p := ⟨gz, i, none⟩) hge (.int .i64 (-1)))
         have BW := Lib.hid (HB.out.other (p := ⟨gz, i, none⟩) hnb (.int .i64 (-1)))
         clear hv; go_wp2_with fail
         go_roundw
         case rel => exact ⟨i + 1, _, by omega, by go_num, HOW.out, EW.out, BW.out⟩
         case measure => simp [intOf]; omega
       · obtain rfl : i = un := by omega
         have ti : ¬ (i : Int) < (i : Int) := by omega
         have HEw := Lib.hid (HE7.out.trans HE.out)
         go_wp2_with fail
         refine (first21_any _ (HET.out.ext HEw.out)).mono ?_; rintro e y1 ⟨rfl, hy1⟩
         have HXy := Lib.hid (HE.out.trans hy1)
         have HEy := Lib.hid (HEw.out.trans hy1)
         have i0 := (HB7.out.ext HXy.out).cell (i := 0) (v := .int .i64 W) rfl; have i1 := (HB7.out.ext HXy.out).cell (i := 1) (v := .int .i64 H) rfl; have i2 := (HB7.out.ext HXy.out).cell (i := 2) (v := .slice ia zn ic) rfl
         have j0 := (HB0w.out.ext HXy.out).cell (i := 0) (v := .int .i64 W) rfl; have j1 := (HB0w.out.ext HXy.out).cell (i := 1) (v := .int .i64 H) rfl; have j2 := (HB0w.out.ext HXy.out).cell (i := 2) (v := .slice fa fn fc) rfl
         clear hy1 a2; go_wp2_with fail
         refine (frame_same W H zs ia fa zn fn ic fc _ (HI7.out.ext HXy.out) (HFI.out.ext HEy.out)).mono ?_; rintro e y2 ⟨rfl, hy2⟩
         have E9 := HEy.out.trans hy2
         clear hy2 i0 i1 i2 j0 j1 j2
         go_wp2
         go_ret
         exact ⟨rfl, E9⟩
theorem builds21 (W H PW PH : Int) (u0 u1 : Value) (zs ps : List Int) (x y qp : Int) (q : Sq) (vL v0 v1 v2 v3 : Value) (w : World) (hg : EtIs w) (hf : Row w u0 zs.length (zs.map (Value.int .i64))) (hp : Row w u1 ps.length (ps.map (Value.int .i64))) (hs : RawSq w q vL v0 v1 v2 v3) :
 Calls Tryz.prog 3 #[.agg #[.int .i64 W, .int .i64 H, u0], .agg #[.int .i64 PW, .int .i64 PH, u1], .int .i64 x, .int .i64 y, .int .i64 qp, .agg (sqC q vL v0 v1 v2 v3).toArray] w fun e w' => e = .returned (.bool true) ∧ Ext w w' := by
 obtain ⟨fa, fc, rfl⟩ := hf.form
 obtain ⟨pa, pc, rfl⟩ := hp.form
 exact builds_law W H PW PH x y qp zs ps fa pa _ fc _ pc q vL v0 v1 v2 v3 w hg hf hp hs
end Go.Proofs.YtcekpngkfldgkaaGreatDoor