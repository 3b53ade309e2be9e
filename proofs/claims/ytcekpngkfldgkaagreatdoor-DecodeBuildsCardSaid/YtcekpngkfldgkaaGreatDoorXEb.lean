/- kinref21.build: what a square that may be built makes of a frame. -/
import Derived.Test.YtcekpngkfldgkaaGreatDoorXTk
import Derived.Test.YtcekpngkfldgkaaGreatDoorXEa1
import Derived.Test.YtcekpngkfldgkaaGreatDoorXRgK
import Derived.Test.YtcekpngkfldgkaaGreatDoorXDeX
import Derived.Deep.RegionHeld3
namespace Go.Proofs.YtcekpngkfldgkaaGreatDoor
set_option linter.unusedVariables false
set_option linter.unusedSimpArgs false
open Go.RowKit Go.Extern.Stop Go.Stop Go.Extern
theorem BoxIs.other3 {w : World} {b b0 : Nat} {cs : Array Value} {T : TypeId} (h : BoxIs w b cs T) (hb : b0 ≠ b) (v0 v1 v2 : Value) : BoxIs (((w.setCell ⟨b0, 0, none⟩ v0).setCell ⟨b0, 1, none⟩ v1).setCell ⟨b0, 2, none⟩ v2) b cs T := ((h.other (p := ⟨b0, 0, none⟩) hb v0).other (p := ⟨b0, 1, none⟩) hb v1).other (p := ⟨b0, 2, none⟩) hb v2
theorem BoxIs.set3 {w : World} {b : Nat} {a0 a1 a2 : Value} {T : TypeId} (h : BoxIs w b #[a0, a1, a2] T) (v0 v1 v2 : Value) : BoxIs (((w.setCell ⟨b, 0, none⟩ v0).setCell ⟨b, 1, none⟩ v1).setCell ⟨b, 2, none⟩ v2) b #[v0, v1, v2] T := ((h.set (i := 0) v0).set (i := 1) v1).set (i := 2) v2
theorem own_set3 {w : World} {base n b : Nat} {xs : List Value} {v : Value} (h : w.ownsRow base 3 1 v n xs) (hb : b < base) (v0 v1 v2 : Value) : (((w.setCell ⟨b, 0, none⟩ v0).setCell ⟨b, 1, none⟩ v1).setCell ⟨b, 2, none⟩ v2).ownsRow base 3 1 v n xs := row_setCell (row_setCell (row_setCell h b 0 hb v0) b 1 hb v1) b 2 hb v2
theorem rbk_any (W H x y vx vy : Int) (zs : List Int) (a : Option Addr) (n cap : Nat) (w : World) (h : Ints w (.slice a n cap) zs) (hm : may W H zs) (hv : vecB vx vy = true) (hl : lies W H x y 8) :
 Calls Tryz.prog 67 #[.agg #[.int .i64 W, .int .i64 H, .slice a n cap], .int .i64 x, .int .i64 y, .int .i64 8, .agg #[.int .i64 vx, .int .i64 vy]] w (LsP w (movL W H zs x y vx vy)) := by
 have b1 := sideB_true hm.1
 have b2 := sideB_true hm.2.1
 obtain ⟨l1, l2, l3, l4, l5, l6⟩ := hl
 refine (rblock_8 W H x y vx vy zs a n cap w h hm hv (by omega) (by omega)).mono ?_
 rintro e w' ⟨u, rfl, hx, hi⟩
 exact LsP.of hx hi
set_option maxHeartbeats 8000000 in
set_option maxRecDepth 20000 in
theorem rb_0 (W H x y qp : Int) (zs ps : List Int) (fa : Option Addr) (fn fc : Nat) (pa : Option Addr) (pn pc : Nat) (gm ga gb gc gd gx gy : Int) (aL a0 a1 a2 a3 : Option Addr) (lL cL l0 c0 l1 c1 l2 c2 l3 c3 : Nat) (w : World) (hf : Ints w (.slice fa fn fc) zs) (hm : may W H zs) (hl : lies W H x y 8) (hmp : may W H ps) (hip : Ints w (.slice pa pn pc) ps) :
 Calls Tryz.prog 40 #[.agg #[.int .i64 W, .int .i64 H, .slice fa fn fc], .agg #[.int .i64 W, .int .i64 H, .slice pa pn pc], .int .i64 x, .int .i64 y, .int .i64 qp, sqV 0 gm ga gb gc gd gx gy (.slice aL lL cL) (.slice a0 l0 c0) (.slice a1 l1 c1) (.slice a2 l2 c2) (.slice a3 l3 c3)] w (FvO w W H (putRow W zs x y 8 (movL W H ps x y 0 0))) := by
 unfold sqV
 have B0 := (((BoxIs.new w #[.int .i64 W, .int .i64 H, .slice fa fn fc] 24).ext ((Ext.refl _).alloc (.cells #[.int .i64 W, .int .i64 H, .slice pa pn pc] 24))).ext ((Ext.refl _).alloc (.cells #[.int .i64 0, .int .i64 gm, .int .i64 ga, .int .i64 gb, .int .i64 gc, .int .i64 gd, .int .i64 gx, .int .i64 gy, .slice aL lL cL, .slice a0 l0 c0, .slice a1 l1 c1, .slice a2 l2 c2, .slice a3 l3 c3] 46))).ext ((Ext.refl _).alloc (.cells #[.int .i64 0, .int .i64 0, .slice none 0 0] 24))
 have B1 := ((BoxIs.new (w.alloc (.cells #[.int .i64 W, .int .i64 H, .slice fa fn fc] 24)) #[.int .i64 W, .int .i64 H, .slice pa pn pc] 24).ext ((Ext.refl _).alloc (.cells #[.int .i64 0, .int .i64 gm, .int .i64 ga, .int .i64 gb, .int .i64 gc, .int .i64 gd, .int .i64 gx, .int .i64 gy, .slice aL lL cL, .slice a0 l0 c0, .slice a1 l1 c1, .slice a2 l2 c2, .slice a3 l3 c3] 46))).ext ((Ext.refl _).alloc (.cells #[.int .i64 0, .int .i64 0, .slice none 0 0] 24))
 have B2 := (BoxIs.new ((w.alloc (.cells #[.int .i64 W, .int .i64 H, .slice fa fn fc] 24)).alloc (.cells #[.int .i64 W, .int .i64 H, .slice pa pn pc] 24)) #[.int .i64 0, .int .i64 gm, .int .i64 ga, .int .i64 gb, .int .i64 gc, .int .i64 gd, .int .i64 gx, .int .i64 gy, .slice aL lL cL, .slice a0 l0 c0, .slice a1 l1 c1, .slice a2 l2 c2, .slice a3 l3 c3] 46).ext ((Ext.refl _).alloc (.cells #[.int .i64 0, .int .i64 0, .slice none 0 0] 24))
 have B3 := BoxIs.new (((w.alloc (.cells #[.int .i64 W, .int .i64 H, .slice fa fn fc] 24)).alloc (.cells #[.int .i64 W, .int .i64 H, .slice pa pn pc] 24)).alloc (.cells #[.int .i64 0, .int .i64 gm, .int .i64 ga, .int .i64 gb, .int .i64 gc, .int .i64 gd, .int .i64 gx, .int .i64 gy, .slice aL lL cL, .slice a0 l0 c0, .slice a1 l1 c1, .slice a2 l2 c2, .slice a3 l3 c3] 46)) #[.int .i64 0, .int .i64 0, .slice none 0 0] 24
 have E0 := ((((Ext.refl w).alloc (.cells #[.int .i64 W, .int .i64 H, .slice fa fn fc] 24)).alloc (.cells #[.int .i64 W, .int .i64 H, .slice pa pn pc] 24)).alloc (.cells #[.int .i64 0, .int .i64 gm, .int .i64 ga, .int .i64 gb, .int .i64 gc, .int .i64 gd, .int .i64 gx, .int .i64 gy, .slice aL lL cL, .slice a0 l0 c0, .slice a1 l1 c1, .slice a2 l2 c2, .slice a3 l3 c3] 46)).alloc (.cells #[.int .i64 0, .int .i64 0, .slice none 0 0] 24)
 obtain ⟨u, hu⟩ : ∃ z, ((((w.alloc (.cells #[.int .i64 W, .int .i64 H, .slice fa fn fc] 24)).alloc (.cells #[.int .i64 W, .int .i64 H, .slice pa pn pc] 24)).alloc (.cells #[.int .i64 0, .int .i64 gm, .int .i64 ga, .int .i64 gb, .int .i64 gc, .int .i64 gd, .int .i64 gx, .int .i64 gy, .slice aL lL cL, .slice a0 l0 c0, .slice a1 l1 c1, .slice a2 l2 c2, .slice a3 l3 c3] 46)).alloc (.cells #[.int .i64 0, .int .i64 0, .slice none 0 0] 24)) = z := ⟨_, rfl⟩
 rw [hu] at B0 B1 B2 B3 E0
 rw [show (w.alloc (.cells #[.int .i64 W, .int .i64 H, .slice fa fn fc] 24)).heap.size = w.heap.size + 1 by simp] at B1
 rw [show ((w.alloc (.cells #[.int .i64 W, .int .i64 H, .slice fa fn fc] 24)).alloc (.cells #[.int .i64 W, .int .i64 H, .slice pa pn pc] 24)).heap.size = w.heap.size + 1 + 1 by simp] at B2
 rw [show (((w.alloc (.cells #[.int .i64 W, .int .i64 H, .slice fa fn fc] 24)).alloc (.cells #[.int .i64 W, .int .i64 H, .slice pa pn pc] 24)).alloc (.cells #[.int .i64 0, .int .i64 gm, .int .i64 ga, .int .i64 gb, .int .i64 gc, .int .i64 gd, .int .i64 gx, .int .i64 gy, .slice aL lL cL, .slice a0 l0 c0, .slice a1 l1 c1, .slice a2 l2 c2, .slice a3 l3 c3] 46)).heap.size = w.heap.size + 1 + 1 + 1 by simp] at B3
 have HB0 := Lib.hid B0; have HB1 := Lib.hid B1; have HB2 := Lib.hid B2; have HB3 := Lib.hid B3; have HE := Lib.hid E0; have HU := Lib.hid hu
 have HUL : Hid (w.heap.size + 1 + 1 + 1 < u.heap.size) := B3.lt
 have HFI := Lib.hid hf; have HM := Lib.hid hm; have HLI := Lib.hid hl
 clear B0 B1 B2 B3 E0 hu hf hm hl
 have UBK := Lib.hid (fun W' (k : Ext w W') => rbk_any W H x y 0 0 ps pa pn pc W' (hip.ext k) hmp (by decide) HLI.out)
 have HPT := Lib.hid (put_none (n := 8) HM.out HLI.out (mov_len W H ps x y 0 0) (mov_within hmp x y 0 0))
 clear hmp hip
 have KS : Hid (∀ w', Ext u w' → ((w'.cell? ⟨w.heap.size, 0, none⟩ = some (.int .i64 W) ∧ w'.cell? ⟨w.heap.size, 1, none⟩ = some (.int .i64 H) ∧ w'.cell? ⟨w.heap.size, 2, none⟩ = some (.slice fa fn fc)) ∧ (w'.cell? ⟨w.heap.size + 1, 0, none⟩ = some (.int .i64 W) ∧ w'.cell? ⟨w.heap.size + 1, 1, none⟩ = some (.int .i64 H) ∧ w'.cell? ⟨w.heap.size + 1, 2, none⟩ = some (.slice pa pn pc))) ∧ Ext u w') := fun w' kx => ⟨⟨⟨(HB0.out.ext kx).cell (i := 0) (v := .int .i64 W) rfl, (HB0.out.ext kx).cell (i := 1) (v := .int .i64 H) rfl, (HB0.out.ext kx).cell (i := 2) (v := .slice fa fn fc) rfl⟩, ⟨(HB1.out.ext kx).cell (i := 0) (v := .int .i64 W) rfl, (HB1.out.ext kx).cell (i := 1) (v := .int .i64 H) rfl, (HB1.out.ext kx).cell (i := 2) (v := .slice pa pn pc) rfl⟩⟩, kx⟩
 go_enter Tryz.func40, Tryz.ntmps40
 go_wp2_with fail
 rw [HU.out]
 clear HU
 refine wp_region_k (S := fun w' => ((w'.cell? ⟨w.heap.size, 0, none⟩ = some (.int .i64 W) ∧ w'.cell? ⟨w.heap.size, 1, none⟩ = some (.int .i64 H) ∧ w'.cell? ⟨w.heap.size, 2, none⟩ = some (.slice fa fn fc)) ∧ (w'.cell? ⟨w.heap.size + 1, 0, none⟩ = some (.int .i64 W) ∧ w'.cell? ⟨w.heap.size + 1, 1, none⟩ = some (.int .i64 H) ∧ w'.cell? ⟨w.heap.size + 1, 2, none⟩ = some (.slice pa pn pc))) ∧ Ext u w') (k := 9) (by kernel_rfl) (KS.out _ (Ext.refl _).drew) (fun hHeld => ?_)
 refine tkK 0 (v := ?_) rfl ?_ ?_
 case refine_2 => (intro w hSw; (try dsimp only at hSw); go_simp; (try with_reducible rfl))
 try simp only [pA, pB, pC, pD]
 refine tkK 1 (v := ?_) rfl ?_ ?_
 case refine_2 => (intro w hSw; (try dsimp only at hSw); go_simp; (try with_reducible rfl))
 try simp only [pA, pB, pC, pD]
 refine tkK 2 (v := ?_) rfl ?_ ?_
 case refine_2 => (intro w hSw; (try dsimp only at hSw); go_simp; (try with_reducible rfl))
 try simp only [pA, pB, pC, pD]
 refine tkK 3 (v := ?_) rfl ?_ ?_
 case refine_2 => (intro w hSw; (try dsimp only at hSw); go_simp; (try with_reducible rfl))
 try simp only [pA, pB, pC, pD]
 refine tkK 4 (v := ?_) rfl ?_ ?_
 case refine_2 => (intro w hSw; (try dsimp only at hSw); go_simp; (try with_reducible rfl))
 try simp only [pA, pB, pC, pD]
 refine tkK 5 (v := ?_) rfl ?_ ?_
 case refine_2 => (intro w hSw; (try dsimp only at hSw); go_simp; (try with_reducible rfl))
 try simp only [pA, pB, pC, pD]
 refine tkK 6 (v := ?_) rfl ?_ ?_
 case refine_2 => (intro w hSw; (try dsimp only at hSw); go_simp; (try with_reducible rfl))
 try simp only [pA, pB, pC, pD]
 refine wpAnyK_ready (rs := [7]) (by kernel_rfl) (by simp) ?_
 refine AllReadyK.cons (o := _) rfl (fun K hK => ?_) AllReadyK.nil
 go_simp
 go_at_call 67
 refine (UBK.out _ (HE.out.trans (Ext.refl _).drew)).mono ?_; rintro e w5 ⟨oa, on, oc, rfl, hx5, hO5⟩
 have E5 := ((Ext.refl u).drew).trans hx5
 refine hK.out _ _ (KS.out _ E5) (fun hHeld => ?_)
 clear hK K
 try simp only [pA, pB, pC, pD]
 refine wpAnyK_ready (rs := [8]) (by kernel_rfl) (by simp) ?_
 refine AllReadyK.cons (o := _) rfl (fun K hK => ?_) AllReadyK.nil
 go_simp
 go_at_call 66
 refine (rsput_any W H x y 8 zs _ fa _ fn _ fc _ _ (HFI.out.ext (HE.out.trans E5)) hO5 HPT.out).mono ?_; rintro e w8 ⟨ha, hn, hc, rfl, hx8, ho8, hn8⟩
 have E8 := E5.trans hx8; have HN8 := Lib.hid hn8; clear hn8
 refine hK.out _ _ (KS.out _ E8) (fun hHeld => ?_)
 clear hK K
 try simp only [pA, pB, pC, pD]
 have BR := HB3.out.ext E8
 have r0 := BR.cell (i := 0) (v := .int .i64 0) rfl; have r1 := BR.cell (i := 1) (v := .int .i64 0) rfl; have r2 := BR.cell (i := 2) (v := .slice none 0 0) rfl
 have y0 := BR.free (i := 0); have y1 := BR.free (i := 1); have y2 := BR.free (i := 2)
 have hb3 : w.heap.size + 1 + 1 + 1 < w5.heap.size := Nat.lt_of_lt_of_le HUL.out E5.size
 refine wpAnyK_ready (rs := [9]) (by kernel_rfl) (by simp) ?_
 refine AllReadyK.last (o := _) rfl (fun K hK => ?_)
 go_simp
 refine hK.out _ _ ?_
 clear hK K
 try simp only [pA, pB, pC, pD]
 refine wpAnyK_done (by kernel_rfl) ?_ _
 clear hHeld KS BR
 go_wp2
 obtain ⟨g0, g1, g2⟩ := fr_cells W H (.slice ha hn hc) r0 r1 r2
 exact bodyPost_ret (v := .agg #[.int .i64 W, .int .i64 H, .slice ha hn hc]) (by simp [results, Tryz.results40, go_sem, g0, g1, g2]) rfl ⟨_, _, _, rfl, set3_ext (HE.out.trans E8) (by omega) _ _ _, own_mono (own_set3 ho8 hb3 _ _ _) (by have := (HE.out.trans E5).size; omega), HN8.out⟩
set_option maxHeartbeats 8000000 in
set_option maxRecDepth 20000 in
theorem rb_1 (W H x y qp : Int) (zs ps : List Int) (fa : Option Addr) (fn fc : Nat) (pa : Option Addr) (pn pc : Nat) (gm ga gb gc gd gx gy : Int) (aL a0 a1 a2 a3 : Option Addr) (lL cL l0 c0 l1 c1 l2 c2 l3 c3 : Nat) (w : World) (hf : Ints w (.slice fa fn fc) zs) (hm : may W H zs) (hl : lies W H x y 8) (L : List Int) (hmp : may W H ps) (hip : Ints w (.slice pa pn pc) ps) (hv : vecB gx gy = true) (hL : Ints w (.slice aL lL cL) L) (hlv : lvE L 64 = none) (hq : okQ qp) :
 Calls Tryz.prog 40 #[.agg #[.int .i64 W, .int .i64 H, .slice fa fn fc], .agg #[.int .i64 W, .int .i64 H, .slice pa pn pc], .int .i64 x, .int .i64 y, .int .i64 qp, sqV 1 gm ga gb gc gd gx gy (.slice aL lL cL) (.slice a0 l0 c0) (.slice a1 l1 c1) (.slice a2 l2 c2) (.slice a3 l3 c3)] w (FvO w W H (putRow W zs x y 8 (addL (movL W H ps x y gx gy) L qp))) := by
 unfold sqV
 have B0 := (((BoxIs.new w #[.int .i64 W, .int .i64 H, .slice fa fn fc] 24).ext ((Ext.refl _).alloc (.cells #[.int .i64 W, .int .i64 H, .slice pa pn pc] 24))).ext ((Ext.refl _).alloc (.cells #[.int .i64 1, .int .i64 gm, .int .i64 ga, .int .i64 gb, .int .i64 gc, .int .i64 gd, .int .i64 gx, .int .i64 gy, .slice aL lL cL, .slice a0 l0 c0, .slice a1 l1 c1, .slice a2 l2 c2, .slice a3 l3 c3] 46))).ext ((Ext.refl _).alloc (.cells #[.int .i64 0, .int .i64 0, .slice none 0 0] 24))
 have B1 := ((BoxIs.new (w.alloc (.cells #[.int .i64 W, .int .i64 H, .slice fa fn fc] 24)) #[.int .i64 W, .int .i64 H, .slice pa pn pc] 24).ext ((Ext.refl _).alloc (.cells #[.int .i64 1, .int .i64 gm, .int .i64 ga, .int .i64 gb, .int .i64 gc, .int .i64 gd, .int .i64 gx, .int .i64 gy, .slice aL lL cL, .slice a0 l0 c0, .slice a1 l1 c1, .slice a2 l2 c2, .slice a3 l3 c3] 46))).ext ((Ext.refl _).alloc (.cells #[.int .i64 0, .int .i64 0, .slice none 0 0] 24))
 have B2 := (BoxIs.new ((w.alloc (.cells #[.int .i64 W, .int .i64 H, .slice fa fn fc] 24)).alloc (.cells #[.int .i64 W, .int .i64 H, .slice pa pn pc] 24)) #[.int .i64 1, .int .i64 gm, .int .i64 ga, .int .i64 gb, .int .i64 gc, .int .i64 gd, .int .i64 gx, .int .i64 gy, .slice aL lL cL, .slice a0 l0 c0, .slice a1 l1 c1, .slice a2 l2 c2, .slice a3 l3 c3] 46).ext ((Ext.refl _).alloc (.cells #[.int .i64 0, .int .i64 0, .slice none 0 0] 24))
 have B3 := BoxIs.new (((w.alloc (.cells #[.int .i64 W, .int .i64 H, .slice fa fn fc] 24)).alloc (.cells #[.int .i64 W, .int .i64 H, .slice pa pn pc] 24)).alloc (.cells #[.int .i64 1, .int .i64 gm, .int .i64 ga, .int .i64 gb, .int .i64 gc, .int .i64 gd, .int .i64 gx, .int .i64 gy, .slice aL lL cL, .slice a0 l0 c0, .slice a1 l1 c1, .slice a2 l2 c2, .slice a3 l3 c3] 46)) #[.int .i64 0, .int .i64 0, .slice none 0 0] 24
 have E0 := ((((Ext.refl w).alloc (.cells #[.int .i64 W, .int .i64 H, .slice fa fn fc] 24)).alloc (.cells #[.int .i64 W, .int .i64 H, .slice pa pn pc] 24)).alloc (.cells #[.int .i64 1, .int .i64 gm, .int .i64 ga, .int .i64 gb, .int .i64 gc, .int .i64 gd, .int .i64 gx, .int .i64 gy, .slice aL lL cL, .slice a0 l0 c0, .slice a1 l1 c1, .slice a2 l2 c2, .slice a3 l3 c3] 46)).alloc (.cells #[.int .i64 0, .int .i64 0, .slice none 0 0] 24)
 obtain ⟨u, hu⟩ : ∃ z, ((((w.alloc (.cells #[.int .i64 W, .int .i64 H, .slice fa fn fc] 24)).alloc (.cells #[.int .i64 W, .int .i64 H, .slice pa pn pc] 24)).alloc (.cells #[.int .i64 1, .int .i64 gm, .int .i64 ga, .int .i64 gb, .int .i64 gc, .int .i64 gd, .int .i64 gx, .int .i64 gy, .slice aL lL cL, .slice a0 l0 c0, .slice a1 l1 c1, .slice a2 l2 c2, .slice a3 l3 c3] 46)).alloc (.cells #[.int .i64 0, .int .i64 0, .slice none 0 0] 24)) = z := ⟨_, rfl⟩
 rw [hu] at B0 B1 B2 B3 E0
 rw [show (w.alloc (.cells #[.int .i64 W, .int .i64 H, .slice fa fn fc] 24)).heap.size = w.heap.size + 1 by simp] at B1
 rw [show ((w.alloc (.cells #[.int .i64 W, .int .i64 H, .slice fa fn fc] 24)).alloc (.cells #[.int .i64 W, .int .i64 H, .slice pa pn pc] 24)).heap.size = w.heap.size + 1 + 1 by simp] at B2
 rw [show (((w.alloc (.cells #[.int .i64 W, .int .i64 H, .slice fa fn fc] 24)).alloc (.cells #[.int .i64 W, .int .i64 H, .slice pa pn pc] 24)).alloc (.cells #[.int .i64 1, .int .i64 gm, .int .i64 ga, .int .i64 gb, .int .i64 gc, .int .i64 gd, .int .i64 gx, .int .i64 gy, .slice aL lL cL, .slice a0 l0 c0, .slice a1 l1 c1, .slice a2 l2 c2, .slice a3 l3 c3] 46)).heap.size = w.heap.size + 1 + 1 + 1 by simp] at B3
 have HB0 := Lib.hid B0; have HB1 := Lib.hid B1; have HB2 := Lib.hid B2; have HB3 := Lib.hid B3; have HE := Lib.hid E0; have HU := Lib.hid hu
 have HUL : Hid (w.heap.size + 1 + 1 + 1 < u.heap.size) := B3.lt
 have HFI := Lib.hid hf; have HM := Lib.hid hm; have HLI := Lib.hid hl
 clear B0 B1 B2 B3 E0 hu hf hm hl
 have UBK := Lib.hid (fun W' (k : Ext w W') => rbk_any W H x y gx gy ps pa pn pc W' (hip.ext k) hmp hv HLI.out)
 have URS := Lib.hid (fun W' (k : Ext w W') => rrest_any L 64 qp _ W' (.inr rfl) hlv hq (hL.ext k))
 have UCL := Lib.hid (fun v v' W' (h1 : Ints W' v (movL W H ps x y gx gy)) (h2 : Ints W' v' (resV L qp)) => rsclip_any (movL W H ps x y gx gy) L 64 qp v v' W' (.inr rfl) hlv hq h1 (mov_len _ _ _ _ _ _ _) (mov_within hmp _ _ _ _) h2)
 have HPT := Lib.hid (put_none (n := 8) (bs := addL (movL W H ps x y gx gy) L qp) HM.out HLI.out (by rw [add_len]; exact mov_len W H ps x y gx gy) (add_within _ _ _))
 clear hmp hip hv hL hlv hq
 have KS : Hid (∀ w', Ext u w' → ((w'.cell? ⟨w.heap.size, 0, none⟩ = some (.int .i64 W) ∧ w'.cell? ⟨w.heap.size, 1, none⟩ = some (.int .i64 H) ∧ w'.cell? ⟨w.heap.size, 2, none⟩ = some (.slice fa fn fc)) ∧ (w'.cell? ⟨w.heap.size + 1, 0, none⟩ = some (.int .i64 W) ∧ w'.cell? ⟨w.heap.size + 1, 1, none⟩ = some (.int .i64 H) ∧ w'.cell? ⟨w.heap.size + 1, 2, none⟩ = some (.slice pa pn pc)) ∧ (w'.cell? ⟨w.heap.size + 1 + 1, 6, none⟩ = some (.int .i64 gx) ∧ w'.cell? ⟨w.heap.size + 1 + 1, 7, none⟩ = some (.int .i64 gy) ∧ w'.cell? ⟨w.heap.size + 1 + 1, 8, none⟩ = some (.slice aL lL cL))) ∧ Ext u w') := fun w' kx => ⟨⟨⟨(HB0.out.ext kx).cell (i := 0) (v := .int .i64 W) rfl, (HB0.out.ext kx).cell (i := 1) (v := .int .i64 H) rfl, (HB0.out.ext kx).cell (i := 2) (v := .slice fa fn fc) rfl⟩, ⟨(HB1.out.ext kx).cell (i := 0) (v := .int .i64 W) rfl, (HB1.out.ext kx).cell (i := 1) (v := .int .i64 H) rfl, (HB1.out.ext kx).cell (i := 2) (v := .slice pa pn pc) rfl⟩, ⟨(HB2.out.ext kx).cell (i := 6) (v := .int .i64 gx) rfl, (HB2.out.ext kx).cell (i := 7) (v := .int .i64 gy) rfl, (HB2.out.ext kx).cell (i := 8) (v := .slice aL lL cL) rfl⟩⟩, kx⟩
 go_enter Tryz.func40, Tryz.ntmps40
 go_wp2_with fail
 rw [HU.out]
 clear HU
 refine wp_region_k (S := fun w' => ((w'.cell? ⟨w.heap.size, 0, none⟩ = some (.int .i64 W) ∧ w'.cell? ⟨w.heap.size, 1, none⟩ = some (.int .i64 H) ∧ w'.cell? ⟨w.heap.size, 2, none⟩ = some (.slice fa fn fc)) ∧ (w'.cell? ⟨w.heap.size + 1, 0, none⟩ = some (.int .i64 W) ∧ w'.cell? ⟨w.heap.size + 1, 1, none⟩ = some (.int .i64 H) ∧ w'.cell? ⟨w.heap.size + 1, 2, none⟩ = some (.slice pa pn pc)) ∧ (w'.cell? ⟨w.heap.size + 1 + 1, 6, none⟩ = some (.int .i64 gx) ∧ w'.cell? ⟨w.heap.size + 1 + 1, 7, none⟩ = some (.int .i64 gy) ∧ w'.cell? ⟨w.heap.size + 1 + 1, 8, none⟩ = some (.slice aL lL cL))) ∧ Ext u w') (k := 15) (by kernel_rfl) (KS.out _ (Ext.refl _).drew) (fun hHeld => ?_)
 refine tkK 0 (v := ?_) rfl ?_ ?_
 case refine_2 => (intro w hSw; (try dsimp only at hSw); go_simp; (try with_reducible rfl))
 try simp only [pA, pB, pC, pD]
 refine tkK 1 (v := ?_) rfl ?_ ?_
 case refine_2 => (intro w hSw; (try dsimp only at hSw); go_simp; (try with_reducible rfl))
 try simp only [pA, pB, pC, pD]
 refine tkK 2 (v := ?_) rfl ?_ ?_
 case refine_2 => (intro w hSw; (try dsimp only at hSw); go_simp; (try with_reducible rfl))
 try simp only [pA, pB, pC, pD]
 refine tkK 3 (v := ?_) rfl ?_ ?_
 case refine_2 => (intro w hSw; (try dsimp only at hSw); go_simp; (try with_reducible rfl))
 try simp only [pA, pB, pC, pD]
 refine tkK 4 (v := ?_) rfl ?_ ?_
 case refine_2 => (intro w hSw; (try dsimp only at hSw); go_simp; (try with_reducible rfl))
 try simp only [pA, pB, pC, pD]
 refine tkK 5 (v := ?_) rfl ?_ ?_
 case refine_2 => (intro w hSw; (try dsimp only at hSw); go_simp; (try with_reducible rfl))
 try simp only [pA, pB, pC, pD]
 refine tkK 6 (v := ?_) rfl ?_ ?_
 case refine_2 => (intro w hSw; (try dsimp only at hSw); go_simp; (try with_reducible rfl))
 try simp only [pA, pB, pC, pD]
 refine tkK 7 (v := ?_) rfl ?_ ?_
 case refine_2 => (intro w hSw; (try dsimp only at hSw); go_simp; (try with_reducible rfl))
 try simp only [pA, pB, pC, pD]
 refine tkK 9 (v := ?_) rfl ?_ ?_
 case refine_2 => (intro w hSw; (try dsimp only at hSw); go_simp; (try with_reducible rfl))
 try simp only [pA, pB, pC, pD]
 refine tkK 10 (v := ?_) rfl ?_ ?_
 case refine_2 => (intro w hSw; (try dsimp only at hSw); go_simp; (try with_reducible rfl))
 try simp only [pA, pB, pC, pD]
 refine tkK 11 (v := ?_) rfl ?_ ?_
 case refine_2 => (intro w hSw; (try dsimp only at hSw); go_simp; (try with_reducible rfl))
 try simp only [pA, pB, pC, pD]
 refine wpAnyK_ready (rs := [8]) (by kernel_rfl) (by simp) ?_
 refine AllReadyK.cons (o := _) rfl (fun K hK => ?_) AllReadyK.nil
 go_simp
 go_at_call 67
 refine (UBK.out _ (HE.out.trans (Ext.refl _).drew)).mono ?_; rintro e w5 ⟨oa, on, oc, rfl, hx5, hO5⟩
 have E5 := ((Ext.refl u).drew).trans hx5
 refine hK.out _ _ (KS.out _ E5) (fun hHeld => ?_)
 clear hK K
 try simp only [pA, pB, pC, pD]
 refine wpAnyK_ready (rs := [12]) (by kernel_rfl) (by simp) ?_
 refine AllReadyK.cons (o := _) rfl (fun K hK => ?_) AllReadyK.nil
 go_simp
 go_at_call 69
 refine (URS.out _ (HE.out.trans E5)).mono ?_; rintro e w6 ⟨ra, rn, rc, rfl, hx6, hO6⟩
 have E6 := (E5).trans hx6
 refine hK.out _ _ (KS.out _ E6) (fun hHeld => ?_)
 clear hK K
 try simp only [pA, pB, pC, pD]
 refine wpAnyK_ready (rs := [13]) (by kernel_rfl) (by simp) ?_
 refine AllReadyK.cons (o := _) rfl (fun K hK => ?_) AllReadyK.nil
 go_simp
 go_at_call 68
 refine (UCL.out _ _ _ (hO5.ext hx6) hO6).mono ?_; rintro e w7 ⟨qa, qn, qc, rfl, hx7, hO7⟩
 have E7 := (E6).trans hx7
 refine hK.out _ _ (KS.out _ E7) (fun hHeld => ?_)
 clear hK K
 try simp only [pA, pB, pC, pD]
 refine wpAnyK_ready (rs := [14]) (by kernel_rfl) (by simp) ?_
 refine AllReadyK.cons (o := _) rfl (fun K hK => ?_) AllReadyK.nil
 go_simp
 go_at_call 66
 refine (rsput_any W H x y 8 zs _ fa _ fn _ fc _ _ (HFI.out.ext (HE.out.trans E7)) hO7 HPT.out).mono ?_; rintro e w8 ⟨ha, hn, hc, rfl, hx8, ho8, hn8⟩
 have E8 := E7.trans hx8; have HN8 := Lib.hid hn8; clear hn8
 refine hK.out _ _ (KS.out _ E8) (fun hHeld => ?_)
 clear hK K
 try simp only [pA, pB, pC, pD]
 have BR := HB3.out.ext E8
 have r0 := BR.cell (i := 0) (v := .int .i64 0) rfl; have r1 := BR.cell (i := 1) (v := .int .i64 0) rfl; have r2 := BR.cell (i := 2) (v := .slice none 0 0) rfl
 have y0 := BR.free (i := 0); have y1 := BR.free (i := 1); have y2 := BR.free (i := 2)
 have hb3 : w.heap.size + 1 + 1 + 1 < w7.heap.size := Nat.lt_of_lt_of_le HUL.out E7.size
 refine wpAnyK_ready (rs := [15]) (by kernel_rfl) (by simp) ?_
 refine AllReadyK.last (o := _) rfl (fun K hK => ?_)
 go_simp
 refine hK.out _ _ ?_
 clear hK K
 try simp only [pA, pB, pC, pD]
 refine wpAnyK_done (by kernel_rfl) ?_ _
 clear hHeld KS BR
 go_wp2
 obtain ⟨g0, g1, g2⟩ := fr_cells W H (.slice ha hn hc) r0 r1 r2
 exact bodyPost_ret (v := .agg #[.int .i64 W, .int .i64 H, .slice ha hn hc]) (by simp [results, Tryz.results40, go_sem, g0, g1, g2]) rfl ⟨_, _, _, rfl, set3_ext (HE.out.trans E8) (by omega) _ _ _, own_mono (own_set3 ho8 hb3 _ _ _) (by have := (HE.out.trans E7).size; omega), HN8.out⟩
set_option maxHeartbeats 8000000 in
set_option maxRecDepth 20000 in
theorem rb_2 (W H PW PH x y qp : Int) (zs ps : List Int) (fa : Option Addr) (fn fc : Nat) (pa : Option Addr) (pn pc : Nat) (gm ga gb gc gd gx gy : Int) (aL a0 a1 a2 a3 : Option Addr) (lL cL l0 c0 l1 c1 l2 c2 l3 c3 : Nat) (w : World) (hf : Ints w (.slice fa fn fc) zs) (hm : may W H zs) (hl : lies W H x y 8) (L : List Int) (hmo : isM gm = true) (hL : Ints w (.slice aL lL cL) L) (hlv : lvE L 64 = none) (hq : okQ qp) :
 Calls Tryz.prog 40 #[.agg #[.int .i64 W, .int .i64 H, .slice fa fn fc], .agg #[.int .i64 PW, .int .i64 PH, .slice pa pn pc], .int .i64 x, .int .i64 y, .int .i64 qp, sqV 2 gm ga gb gc gd gx gy (.slice aL lL cL) (.slice a0 l0 c0) (.slice a1 l1 c1) (.slice a2 l2 c2) (.slice a3 l3 c3)] w (FvO w W H (putI W zs x y 8 gm L qp)) := by
 unfold sqV
 have B0 := (((BoxIs.new w #[.int .i64 W, .int .i64 H, .slice fa fn fc] 24).ext ((Ext.refl _).alloc (.cells #[.int .i64 PW, .int .i64 PH, .slice pa pn pc] 24))).ext ((Ext.refl _).alloc (.cells #[.int .i64 2, .int .i64 gm, .int .i64 ga, .int .i64 gb, .int .i64 gc, .int .i64 gd, .int .i64 gx, .int .i64 gy, .slice aL lL cL, .slice a0 l0 c0, .slice a1 l1 c1, .slice a2 l2 c2, .slice a3 l3 c3] 46))).ext ((Ext.refl _).alloc (.cells #[.int .i64 0, .int .i64 0, .slice none 0 0] 24))
 have B1 := ((BoxIs.new (w.alloc (.cells #[.int .i64 W, .int .i64 H, .slice fa fn fc] 24)) #[.int .i64 PW, .int .i64 PH, .slice pa pn pc] 24).ext ((Ext.refl _).alloc (.cells #[.int .i64 2, .int .i64 gm, .int .i64 ga, .int .i64 gb, .int .i64 gc, .int .i64 gd, .int .i64 gx, .int .i64 gy, .slice aL lL cL, .slice a0 l0 c0, .slice a1 l1 c1, .slice a2 l2 c2, .slice a3 l3 c3] 46))).ext ((Ext.refl _).alloc (.cells #[.int .i64 0, .int .i64 0, .slice none 0 0] 24))
 have B2 := (BoxIs.new ((w.alloc (.cells #[.int .i64 W, .int .i64 H, .slice fa fn fc] 24)).alloc (.cells #[.int .i64 PW, .int .i64 PH, .slice pa pn pc] 24)) #[.int .i64 2, .int .i64 gm, .int .i64 ga, .int .i64 gb, .int .i64 gc, .int .i64 gd, .int .i64 gx, .int .i64 gy, .slice aL lL cL, .slice a0 l0 c0, .slice a1 l1 c1, .slice a2 l2 c2, .slice a3 l3 c3] 46).ext ((Ext.refl _).alloc (.cells #[.int .i64 0, .int .i64 0, .slice none 0 0] 24))
 have B3 := BoxIs.new (((w.alloc (.cells #[.int .i64 W, .int .i64 H, .slice fa fn fc] 24)).alloc (.cells #[.int .i64 PW, .int .i64 PH, .slice pa pn pc] 24)).alloc (.cells #[.int .i64 2, .int .i64 gm, .int .i64 ga, .int .i64 gb, .int .i64 gc, .int .i64 gd, .int .i64 gx, .int .i64 gy, .slice aL lL cL, .slice a0 l0 c0, .slice a1 l1 c1, .slice a2 l2 c2, .slice a3 l3 c3] 46)) #[.int .i64 0, .int .i64 0, .slice none 0 0] 24
 have E0 := ((((Ext.refl w).alloc (.cells #[.int .i64 W, .int .i64 H, .slice fa fn fc] 24)).alloc (.cells #[.int .i64 PW, .int .i64 PH, .slice pa pn pc] 24)).alloc (.cells #[.int .i64 2, .int .i64 gm, .int .i64 ga, .int .i64 gb, .int .i64 gc, .int .i64 gd, .int .i64 gx, .int .i64 gy, .slice aL lL cL, .slice a0 l0 c0, .slice a1 l1 c1, .slice a2 l2 c2, .slice a3 l3 c3] 46)).alloc (.cells #[.int .i64 0, .int .i64 0, .slice none 0 0] 24)
 obtain ⟨u, hu⟩ : ∃ z, ((((w.alloc (.cells #[.int .i64 W, .int .i64 H, .slice fa fn fc] 24)).alloc (.cells #[.int .i64 PW, .int .i64 PH, .slice pa pn pc] 24)).alloc (.cells #[.int .i64 2, .int .i64 gm, .int .i64 ga, .int .i64 gb, .int .i64 gc, .int .i64 gd, .int .i64 gx, .int .i64 gy, .slice aL lL cL, .slice a0 l0 c0, .slice a1 l1 c1, .slice a2 l2 c2, .slice a3 l3 c3] 46)).alloc (.cells #[.int .i64 0, .int .i64 0, .slice none 0 0] 24)) = z := ⟨_, rfl⟩
 rw [hu] at B0 B1 B2 B3 E0
 rw [show (w.alloc (.cells #[.int .i64 W, .int .i64 H, .slice fa fn fc] 24)).heap.size = w.heap.size + 1 by simp] at B1
 rw [show ((w.alloc (.cells #[.int .i64 W, .int .i64 H, .slice fa fn fc] 24)).alloc (.cells #[.int .i64 PW, .int .i64 PH, .slice pa pn pc] 24)).heap.size = w.heap.size + 1 + 1 by simp] at B2
 rw [show (((w.alloc (.cells #[.int .i64 W, .int .i64 H, .slice fa fn fc] 24)).alloc (.cells #[.int .i64 PW, .int .i64 PH, .slice pa pn pc] 24)).alloc (.cells #[.int .i64 2, .int .i64 gm, .int .i64 ga, .int .i64 gb, .int .i64 gc, .int .i64 gd, .int .i64 gx, .int .i64 gy, .slice aL lL cL, .slice a0 l0 c0, .slice a1 l1 c1, .slice a2 l2 c2, .slice a3 l3 c3] 46)).heap.size = w.heap.size + 1 + 1 + 1 by simp] at B3
 have HB0 := Lib.hid B0; have HB1 := Lib.hid B1; have HB2 := Lib.hid B2; have HB3 := Lib.hid B3; have HE := Lib.hid E0; have HU := Lib.hid hu
 have HUL : Hid (w.heap.size + 1 + 1 + 1 < u.heap.size) := B3.lt
 have HFI := Lib.hid hf; have HM := Lib.hid hm; have HLI := Lib.hid hl
 clear B0 B1 B2 B3 E0 hu hf hm hl
 have UFT := Lib.hid (fun W' (k : Ext w W') => rforetold_8 W H x y gm zs fa fn fc W' (HFI.out.ext k) HM.out HLI.out hmo)
 have URS := Lib.hid (fun W' (k : Ext w W') => rrest_any L 64 qp _ W' (.inr rfl) hlv hq (hL.ext k))
 have UCL := Lib.hid (fun v v' W' (h1 : Ints W' v (intL W zs x y 8 gm)) (h2 : Ints W' v' (resV L qp)) => rsclip_any (intL W zs x y 8 gm) L 64 qp v v' W' (.inr rfl) hlv hq h1 (int_len W zs x y gm) (int_within HM.out (by decide) x y gm) h2)
 have HPT := Lib.hid (puti_none (qp := qp) (m := gm) (l := L) HM.out (.inr rfl) HLI.out)
 clear hmo hL hlv hq
 have KS : Hid (∀ w', Ext u w' → ((w'.cell? ⟨w.heap.size, 0, none⟩ = some (.int .i64 W) ∧ w'.cell? ⟨w.heap.size, 1, none⟩ = some (.int .i64 H) ∧ w'.cell? ⟨w.heap.size, 2, none⟩ = some (.slice fa fn fc)) ∧ (w'.cell? ⟨w.heap.size + 1 + 1, 1, none⟩ = some (.int .i64 gm) ∧ w'.cell? ⟨w.heap.size + 1 + 1, 8, none⟩ = some (.slice aL lL cL))) ∧ Ext u w') := fun w' kx => ⟨⟨⟨(HB0.out.ext kx).cell (i := 0) (v := .int .i64 W) rfl, (HB0.out.ext kx).cell (i := 1) (v := .int .i64 H) rfl, (HB0.out.ext kx).cell (i := 2) (v := .slice fa fn fc) rfl⟩, ⟨(HB2.out.ext kx).cell (i := 1) (v := .int .i64 gm) rfl, (HB2.out.ext kx).cell (i := 8) (v := .slice aL lL cL) rfl⟩⟩, kx⟩
 clear HB1 HB2
 go_enter Tryz.func40, Tryz.ntmps40
 go_wp2_with fail
 rw [HU.out]
 clear HU
 refine wp_region_k (S := fun w' => ((w'.cell? ⟨w.heap.size, 0, none⟩ = some (.int .i64 W) ∧ w'.cell? ⟨w.heap.size, 1, none⟩ = some (.int .i64 H) ∧ w'.cell? ⟨w.heap.size, 2, none⟩ = some (.slice fa fn fc)) ∧ (w'.cell? ⟨w.heap.size + 1 + 1, 1, none⟩ = some (.int .i64 gm) ∧ w'.cell? ⟨w.heap.size + 1 + 1, 8, none⟩ = some (.slice aL lL cL))) ∧ Ext u w') (k := 15) (by kernel_rfl) (KS.out _ (Ext.refl _).drew) (fun hHeld => ?_)
 refine tkK 0 (v := ?_) rfl ?_ ?_
 case refine_2 => (intro w hSw; (try dsimp only at hSw); go_simp; (try with_reducible rfl))
 try simp only [pA, pB, pC, pD]
 refine tkK 1 (v := ?_) rfl ?_ ?_
 case refine_2 => (intro w hSw; (try dsimp only at hSw); go_simp; (try with_reducible rfl))
 try simp only [pA, pB, pC, pD]
 refine tkK 2 (v := ?_) rfl ?_ ?_
 case refine_2 => (intro w hSw; (try dsimp only at hSw); go_simp; (try with_reducible rfl))
 try simp only [pA, pB, pC, pD]
 refine tkK 3 (v := ?_) rfl ?_ ?_
 case refine_2 => (intro w hSw; (try dsimp only at hSw); go_simp; (try with_reducible rfl))
 try simp only [pA, pB, pC, pD]
 refine tkK 4 (v := ?_) rfl ?_ ?_
 case refine_2 => (intro w hSw; (try dsimp only at hSw); go_simp; (try with_reducible rfl))
 try simp only [pA, pB, pC, pD]
 refine tkK 5 (v := ?_) rfl ?_ ?_
 case refine_2 => (intro w hSw; (try dsimp only at hSw); go_simp; (try with_reducible rfl))
 try simp only [pA, pB, pC, pD]
 refine tkK 6 (v := ?_) rfl ?_ ?_
 case refine_2 => (intro w hSw; (try dsimp only at hSw); go_simp; (try with_reducible rfl))
 try simp only [pA, pB, pC, pD]
 refine tkK 7 (v := ?_) rfl ?_ ?_
 case refine_2 => (intro w hSw; (try dsimp only at hSw); go_simp; (try with_reducible rfl))
 try simp only [pA, pB, pC, pD]
 refine tkK 9 (v := ?_) rfl ?_ ?_
 case refine_2 => (intro w hSw; (try dsimp only at hSw); go_simp; (try with_reducible rfl))
 try simp only [pA, pB, pC, pD]
 refine tkK 10 (v := ?_) rfl ?_ ?_
 case refine_2 => (intro w hSw; (try dsimp only at hSw); go_simp; (try with_reducible rfl))
 try simp only [pA, pB, pC, pD]
 refine tkK 11 (v := ?_) rfl ?_ ?_
 case refine_2 => (intro w hSw; (try dsimp only at hSw); go_simp; (try with_reducible rfl))
 try simp only [pA, pB, pC, pD]
 refine wpAnyK_ready (rs := [8]) (by kernel_rfl) (by simp) ?_
 refine AllReadyK.cons (o := _) rfl (fun K hK => ?_) AllReadyK.nil
 go_simp
 go_at_call 70
 refine (UFT.out _ (HE.out.trans (Ext.refl _).drew)).mono ?_; rintro e w5 ⟨oa, on, oc, rfl, hx5, hO5⟩
 have E5 := ((Ext.refl u).drew).trans hx5
 refine hK.out _ _ (KS.out _ E5) (fun hHeld => ?_)
 clear hK K
 try simp only [pA, pB, pC, pD]
 refine wpAnyK_ready (rs := [12]) (by kernel_rfl) (by simp) ?_
 refine AllReadyK.cons (o := _) rfl (fun K hK => ?_) AllReadyK.nil
 go_simp
 go_at_call 69
 refine (URS.out _ (HE.out.trans E5)).mono ?_; rintro e w6 ⟨ra, rn, rc, rfl, hx6, hO6⟩
 have E6 := (E5).trans hx6
 refine hK.out _ _ (KS.out _ E6) (fun hHeld => ?_)
 clear hK K
 try simp only [pA, pB, pC, pD]
 refine wpAnyK_ready (rs := [13]) (by kernel_rfl) (by simp) ?_
 refine AllReadyK.cons (o := _) rfl (fun K hK => ?_) AllReadyK.nil
 go_simp
 go_at_call 68
 refine (UCL.out _ _ _ (hO5.ext hx6) hO6).mono ?_; rintro e w7 ⟨qa, qn, qc, rfl, hx7, hO7⟩
 have E7 := (E6).trans hx7
 refine hK.out _ _ (KS.out _ E7) (fun hHeld => ?_)
 clear hK K
 try simp only [pA, pB, pC, pD]
 refine wpAnyK_ready (rs := [14]) (by kernel_rfl) (by simp) ?_
 refine AllReadyK.cons (o := _) rfl (fun K hK => ?_) AllReadyK.nil
 go_simp
 go_at_call 66
 refine (rsput_any W H x y 8 zs _ fa _ fn _ fc _ _ (HFI.out.ext (HE.out.trans E7)) hO7 HPT.out).mono ?_; rintro e w8 ⟨ha, hn, hc, rfl, hx8, ho8, hn8⟩
 have E8 := E7.trans hx8; have HN8 := Lib.hid hn8; clear hn8
 refine hK.out _ _ (KS.out _ E8) (fun hHeld => ?_)
 clear hK K
 try simp only [pA, pB, pC, pD]
 have BR := HB3.out.ext E8
 have r0 := BR.cell (i := 0) (v := .int .i64 0) rfl; have r1 := BR.cell (i := 1) (v := .int .i64 0) rfl; have r2 := BR.cell (i := 2) (v := .slice none 0 0) rfl
 have y0 := BR.free (i := 0); have y1 := BR.free (i := 1); have y2 := BR.free (i := 2)
 have hb3 : w.heap.size + 1 + 1 + 1 < w7.heap.size := Nat.lt_of_lt_of_le HUL.out E7.size
 refine wpAnyK_ready (rs := [15]) (by kernel_rfl) (by simp) ?_
 refine AllReadyK.last (o := _) rfl (fun K hK => ?_)
 go_simp
 refine hK.out _ _ ?_
 clear hK K
 try simp only [pA, pB, pC, pD]
 refine wpAnyK_done (by kernel_rfl) ?_ _
 clear hHeld KS BR
 go_wp2
 obtain ⟨g0, g1, g2⟩ := fr_cells W H (.slice ha hn hc) r0 r1 r2
 exact bodyPost_ret (v := .agg #[.int .i64 W, .int .i64 H, .slice ha hn hc]) (by simp [results, Tryz.results40, go_sem, g0, g1, g2]) rfl ⟨_, _, _, rfl, set3_ext (HE.out.trans E8) (by omega) _ _ _, own_mono (own_set3 ho8 hb3 _ _ _) (by have := (HE.out.trans E7).size; omega), HN8.out⟩
set_option maxHeartbeats 8000000 in
set_option maxRecDepth 20000 in
theorem rb_3 (W H PW PH x y qp : Int) (zs ps : List Int) (fa : Option Addr) (fn fc : Nat) (pa : Option Addr) (pn pc : Nat) (gm ga gb gc gd gx gy : Int) (aL a0 a1 a2 a3 : Option Addr) (lL cL l0 c0 l1 c1 l2 c2 l3 c3 : Nat) (w : World) (hf : Ints w (.slice fa fn fc) zs) (hm : may W H zs) (hl : lies W H x y 8) (s0 s1 s2 s3 : List Int) (hms : isM ga = true ∧ isM gb = true ∧ isM gc = true ∧ isM gd = true) (h0 : Ints w (.slice a0 l0 c0) s0) (h1 : Ints w (.slice a1 l1 c1) s1) (h2 : Ints w (.slice a2 l2 c2) s2) (h3 : Ints w (.slice a3 l3 c3) s3) (hlv : lvE s0 16 = none ∧ lvE s1 16 = none ∧ lvE s2 16 = none ∧ lvE s3 16 = none) (hq : okQ qp) :
 Calls Tryz.prog 40 #[.agg #[.int .i64 W, .int .i64 H, .slice fa fn fc], .agg #[.int .i64 PW, .int .i64 PH, .slice pa pn pc], .int .i64 x, .int .i64 y, .int .i64 qp, sqV 3 gm ga gb gc gd gx gy (.slice aL lL cL) (.slice a0 l0 c0) (.slice a1 l1 c1) (.slice a2 l2 c2) (.slice a3 l3 c3)] w (FvO w W H (putI W (putI W (putI W (putI W zs x y 4 ga s0 qp) (x + 4) y 4 gb s1 qp) x (y + 4) 4 gc s2 qp) (x + 4) (y + 4) 4 gd s3 qp)) := by
 unfold sqV
 have B0 := (((BoxIs.new w #[.int .i64 W, .int .i64 H, .slice fa fn fc] 24).ext ((Ext.refl _).alloc (.cells #[.int .i64 PW, .int .i64 PH, .slice pa pn pc] 24))).ext ((Ext.refl _).alloc (.cells #[.int .i64 3, .int .i64 gm, .int .i64 ga, .int .i64 gb, .int .i64 gc, .int .i64 gd, .int .i64 gx, .int .i64 gy, .slice aL lL cL, .slice a0 l0 c0, .slice a1 l1 c1, .slice a2 l2 c2, .slice a3 l3 c3] 46))).ext ((Ext.refl _).alloc (.cells #[.int .i64 0, .int .i64 0, .slice none 0 0] 24))
 have B1 := ((BoxIs.new (w.alloc (.cells #[.int .i64 W, .int .i64 H, .slice fa fn fc] 24)) #[.int .i64 PW, .int .i64 PH, .slice pa pn pc] 24).ext ((Ext.refl _).alloc (.cells #[.int .i64 3, .int .i64 gm, .int .i64 ga, .int .i64 gb, .int .i64 gc, .int .i64 gd, .int .i64 gx, .int .i64 gy, .slice aL lL cL, .slice a0 l0 c0, .slice a1 l1 c1, .slice a2 l2 c2, .slice a3 l3 c3] 46))).ext ((Ext.refl _).alloc (.cells #[.int .i64 0, .int .i64 0, .slice none 0 0] 24))
 have B2 := (BoxIs.new ((w.alloc (.cells #[.int .i64 W, .int .i64 H, .slice fa fn fc] 24)).alloc (.cells #[.int .i64 PW, .int .i64 PH, .slice pa pn pc] 24)) #[.int .i64 3, .int .i64 gm, .int .i64 ga, .int .i64 gb, .int .i64 gc, .int .i64 gd, .int .i64 gx, .int .i64 gy, .slice aL lL cL, .slice a0 l0 c0, .slice a1 l1 c1, .slice a2 l2 c2, .slice a3 l3 c3] 46).ext ((Ext.refl _).alloc (.cells #[.int .i64 0, .int .i64 0, .slice none 0 0] 24))
 have B3 := BoxIs.new (((w.alloc (.cells #[.int .i64 W, .int .i64 H, .slice fa fn fc] 24)).alloc (.cells #[.int .i64 PW, .int .i64 PH, .slice pa pn pc] 24)).alloc (.cells #[.int .i64 3, .int .i64 gm, .int .i64 ga, .int .i64 gb, .int .i64 gc, .int .i64 gd, .int .i64 gx, .int .i64 gy, .slice aL lL cL, .slice a0 l0 c0, .slice a1 l1 c1, .slice a2 l2 c2, .slice a3 l3 c3] 46)) #[.int .i64 0, .int .i64 0, .slice none 0 0] 24
 have E0 := ((((Ext.refl w).alloc (.cells #[.int .i64 W, .int .i64 H, .slice fa fn fc] 24)).alloc (.cells #[.int .i64 PW, .int .i64 PH, .slice pa pn pc] 24)).alloc (.cells #[.int .i64 3, .int .i64 gm, .int .i64 ga, .int .i64 gb, .int .i64 gc, .int .i64 gd, .int .i64 gx, .int .i64 gy, .slice aL lL cL, .slice a0 l0 c0, .slice a1 l1 c1, .slice a2 l2 c2, .slice a3 l3 c3] 46)).alloc (.cells #[.int .i64 0, .int .i64 0, .slice none 0 0] 24)
 obtain ⟨u, hu⟩ : ∃ z, ((((w.alloc (.cells #[.int .i64 W, .int .i64 H, .slice fa fn fc] 24)).alloc (.cells #[.int .i64 PW, .int .i64 PH, .slice pa pn pc] 24)).alloc (.cells #[.int .i64 3, .int .i64 gm, .int .i64 ga, .int .i64 gb, .int .i64 gc, .int .i64 gd, .int .i64 gx, .int .i64 gy, .slice aL lL cL, .slice a0 l0 c0, .slice a1 l1 c1, .slice a2 l2 c2, .slice a3 l3 c3] 46)).alloc (.cells #[.int .i64 0, .int .i64 0, .slice none 0 0] 24)) = z := ⟨_, rfl⟩
 rw [hu] at B0 B1 B2 B3 E0
 rw [show (w.alloc (.cells #[.int .i64 W, .int .i64 H, .slice fa fn fc] 24)).heap.size = w.heap.size + 1 by simp] at B1
 rw [show ((w.alloc (.cells #[.int .i64 W, .int .i64 H, .slice fa fn fc] 24)).alloc (.cells #[.int .i64 PW, .int .i64 PH, .slice pa pn pc] 24)).heap.size = w.heap.size + 1 + 1 by simp] at B2
 rw [show (((w.alloc (.cells #[.int .i64 W, .int .i64 H, .slice fa fn fc] 24)).alloc (.cells #[.int .i64 PW, .int .i64 PH, .slice pa pn pc] 24)).alloc (.cells #[.int .i64 3, .int .i64 gm, .int .i64 ga, .int .i64 gb, .int .i64 gc, .int .i64 gd, .int .i64 gx, .int .i64 gy, .slice aL lL cL, .slice a0 l0 c0, .slice a1 l1 c1, .slice a2 l2 c2, .slice a3 l3 c3] 46)).heap.size = w.heap.size + 1 + 1 + 1 by simp] at B3
 have HB0 := Lib.hid B0; have HB1 := Lib.hid B1; have HB2 := Lib.hid B2; have HB3 := Lib.hid B3; have HE := Lib.hid E0; have HU := Lib.hid hu
 have HUL : Hid (w.heap.size + 1 + 1 + 1 < u.heap.size) := B3.lt
 have HFI := Lib.hid hf; have HM := Lib.hid hm; have HLI := Lib.hid hl
 clear B0 B1 B2 B3 E0 hu hf hm hl
 obtain ⟨k0, k1, k2, k3⟩ := hms
 obtain ⟨e0, e1, e2, e3⟩ := hlv
 obtain ⟨L0, L1, L2, L3⟩ := lies4 HLI.out
 have sw := sideB_true HM.out.1; have sh := sideB_true HM.out.2.1
 have hll := HLI.out
 have wx0 : IntKind.i64.wrap x = x := by rw [IntKind.wrap_i64]; unfold lies at hll; omega
 have wx4 : IntKind.i64.wrap (x + 4) = x + 4 := by rw [IntKind.wrap_i64]; unfold lies at hll; omega
 have wy0 : IntKind.i64.wrap y = y := by rw [IntKind.wrap_i64]; unfold lies at hll; omega
 have wy4 : IntKind.i64.wrap (y + 4) = y + 4 := by rw [IntKind.wrap_i64]; unfold lies at hll; omega
 obtain ⟨z0, hz0⟩ : ∃ z, z = zs := ⟨_, rfl⟩
 have MZ0 : Hid (may W H z0) := by show may _ _ _; rw [hz0]; exact HM.out
 have UFT0 := Lib.hid (fun W' a n c (h : Ints W' (.slice a n c) z0) => rforetold_4 W H x y ga z0 a n c W' h MZ0.out L0 k0)
 have URS0 := Lib.hid (fun W' (k : Ext w W') => rrest_any s0 16 qp _ W' (.inl rfl) e0 hq (h0.ext k))
 have UCL0 := Lib.hid (fun v v' W' (h1 : Ints W' v (intL W z0 x y 4 ga)) (h2 : Ints W' v' (resV s0 qp)) => rsclip_any (intL W z0 x y 4 ga) s0 16 qp v v' W' (.inl rfl) e0 hq h1 (int_len W z0 x y ga) (int_within MZ0.out (by decide) x y ga) h2)
 have HPT0 := Lib.hid (puti_none (qp := qp) (m := ga) (l := s0) MZ0.out (.inl rfl) L0)
 have HMN := puti_may (qp := qp) (m := ga) (l := s0) MZ0.out (.inl rfl) L0
 obtain ⟨z1, hz1⟩ : ∃ z, z = putI W z0 x y 4 ga s0 qp := ⟨_, rfl⟩
 rw [← hz1] at HMN
 have HZ1 := Lib.hid hz1
 have MZ1 : Hid (may W H z1) := by show may _ _ _; exact HMN
 have UFT1 := Lib.hid (fun W' a n c (h : Ints W' (.slice a n c) z1) => rforetold_4 W H (x + 4) y gb z1 a n c W' h MZ1.out L1 k1)
 have URS1 := Lib.hid (fun W' (k : Ext w W') => rrest_any s1 16 qp _ W' (.inl rfl) e1 hq (h1.ext k))
 have UCL1 := Lib.hid (fun v v' W' (h1 : Ints W' v (intL W z1 (x + 4) y 4 gb)) (h2 : Ints W' v' (resV s1 qp)) => rsclip_any (intL W z1 (x + 4) y 4 gb) s1 16 qp v v' W' (.inl rfl) e1 hq h1 (int_len W z1 (x + 4) y gb) (int_within MZ1.out (by decide) (x + 4) y gb) h2)
 have HPT1 := Lib.hid (puti_none (qp := qp) (m := gb) (l := s1) MZ1.out (.inl rfl) L1)
 have HMN := puti_may (qp := qp) (m := gb) (l := s1) MZ1.out (.inl rfl) L1
 obtain ⟨z2, hz2⟩ : ∃ z, z = putI W z1 (x + 4) y 4 gb s1 qp := ⟨_, rfl⟩
 rw [← hz2] at HMN
 have HZ2 := Lib.hid hz2
 have MZ2 : Hid (may W H z2) := by show may _ _ _; exact HMN
 have UFT2 := Lib.hid (fun W' a n c (h : Ints W' (.slice a n c) z2) => rforetold_4 W H x (y + 4) gc z2 a n c W' h MZ2.out L2 k2)
 have URS2 := Lib.hid (fun W' (k : Ext w W') => rrest_any s2 16 qp _ W' (.inl rfl) e2 hq (h2.ext k))
 have UCL2 := Lib.hid (fun v v' W' (h1 : Ints W' v (intL W z2 x (y + 4) 4 gc)) (h2 : Ints W' v' (resV s2 qp)) => rsclip_any (intL W z2 x (y + 4) 4 gc) s2 16 qp v v' W' (.inl rfl) e2 hq h1 (int_len W z2 x (y + 4) gc) (int_within MZ2.out (by decide) x (y + 4) gc) h2)
 have HPT2 := Lib.hid (puti_none (qp := qp) (m := gc) (l := s2) MZ2.out (.inl rfl) L2)
 have HMN := puti_may (qp := qp) (m := gc) (l := s2) MZ2.out (.inl rfl) L2
 obtain ⟨z3, hz3⟩ : ∃ z, z = putI W z2 x (y + 4) 4 gc s2 qp := ⟨_, rfl⟩
 rw [← hz3] at HMN
 have HZ3 := Lib.hid hz3
 have MZ3 : Hid (may W H z3) := by show may _ _ _; exact HMN
 have UFT3 := Lib.hid (fun W' a n c (h : Ints W' (.slice a n c) z3) => rforetold_4 W H (x + 4) (y + 4) gd z3 a n c W' h MZ3.out L3 k3)
 have URS3 := Lib.hid (fun W' (k : Ext w W') => rrest_any s3 16 qp _ W' (.inl rfl) e3 hq (h3.ext k))
 have UCL3 := Lib.hid (fun v v' W' (h1 : Ints W' v (intL W z3 (x + 4) (y + 4) 4 gd)) (h2 : Ints W' v' (resV s3 qp)) => rsclip_any (intL W z3 (x + 4) (y + 4) 4 gd) s3 16 qp v v' W' (.inl rfl) e3 hq h1 (int_len W z3 (x + 4) (y + 4) gd) (int_within MZ3.out (by decide) (x + 4) (y + 4) gd) h2)
 have HPT3 := Lib.hid (puti_none (qp := qp) (m := gd) (l := s3) MZ3.out (.inl rfl) L3)
 have HMN := puti_may (qp := qp) (m := gd) (l := s3) MZ3.out (.inl rfl) L3
 obtain ⟨z4, hz4⟩ : ∃ z, z = putI W z3 (x + 4) (y + 4) 4 gd s3 qp := ⟨_, rfl⟩
 rw [← hz4] at HMN
 have HZ4 := Lib.hid hz4
 have HFZ : Hid (putI W (putI W (putI W (putI W zs x y 4 ga s0 qp) (x + 4) y 4 gb s1 qp) x (y + 4) 4 gc s2 qp) (x + 4) (y + 4) 4 gd s3 qp = z4) := by show _ = _; rw [hz4, hz3, hz2, hz1, hz0]
 have HQ0 : Hid (Ints w (.slice fa fn fc) z0) := by show Ints _ _ _; rw [hz0]; exact HFI.out
 rw [HFZ.out]
 clear HFZ hz0 hz1 hz2 hz3 hz4 HMN k0 k1 k2 k3 e0 e1 e2 e3 L0 L1 L2 L3 h0 h1 h2 h3 hq sw sh hll HFI HM HLI HB1
 have HI0 := Lib.hid (HQ0.out.ext HE.out)
 have HE0 := HE; have HX0 := HB0; have HS0 := HB2; have HR0 := HB3
 have hu3 : w.heap.size < u.heap.size := by have := HUL.out; omega
 have HV0 := Lib.hid hu3
 clear HQ0 HE HB0 HB2 HB3 hu3 HUL
 go_enter Tryz.func40, Tryz.ntmps40
 go_wp2_with fail
 rw [HU.out]
 clear HU
 refine wp_loop_rounds 5 ?_
 rw [rounds_succ]
 have KS : Hid (∀ w', Ext u w' → ((w'.cell? ⟨w.heap.size, 0, none⟩ = some (.int .i64 W) ∧ w'.cell? ⟨w.heap.size, 1, none⟩ = some (.int .i64 H) ∧ w'.cell? ⟨w.heap.size, 2, none⟩ = some (.slice fa fn fc)) ∧ (w'.cell? ⟨w.heap.size + 1 + 1, 2, none⟩ = some (.int .i64 ga) ∧ w'.cell? ⟨w.heap.size + 1 + 1, 9, none⟩ = some (.slice a0 l0 c0))) ∧ Ext u w') := fun w' kx => ⟨⟨⟨(HX0.out.ext kx).cell (i := 0) (v := .int .i64 W) rfl, (HX0.out.ext kx).cell (i := 1) (v := .int .i64 H) rfl, (HX0.out.ext kx).cell (i := 2) (v := .slice fa fn fc) rfl⟩, ⟨(HS0.out.ext kx).cell (i := 2) (v := .int .i64 ga) rfl, (HS0.out.ext kx).cell (i := 9) (v := .slice a0 l0 c0) rfl⟩⟩, kx⟩
 go_wp2_with fail
 refine wp_region_k (S := fun w' => ((w'.cell? ⟨w.heap.size, 0, none⟩ = some (.int .i64 W) ∧ w'.cell? ⟨w.heap.size, 1, none⟩ = some (.int .i64 H) ∧ w'.cell? ⟨w.heap.size, 2, none⟩ = some (.slice fa fn fc)) ∧ (w'.cell? ⟨w.heap.size + 1 + 1, 2, none⟩ = some (.int .i64 ga) ∧ w'.cell? ⟨w.heap.size + 1 + 1, 9, none⟩ = some (.slice a0 l0 c0))) ∧ Ext u w') (k := 19) (by kernel_rfl) (KS.out _ (Ext.refl _).drew) (fun hHeld => ?_)
 refine tkK 0 (v := ?_) rfl ?_ ?_
 case refine_2 => (intro w hSw; (try dsimp only at hSw); go_simp; (try with_reducible rfl))
 try simp only [pA, pB, pC, pD]
 refine tkK 1 (v := ?_) rfl ?_ ?_
 case refine_2 => (intro w hSw; (try dsimp only at hSw); go_simp; (try with_reducible rfl))
 try simp only [pA, pB, pC, pD]
 refine tkK 2 (v := ?_) rfl ?_ ?_
 case refine_2 => (intro w hSw; (try dsimp only at hSw); go_simp; (try with_reducible rfl))
 try simp only [pA, pB, pC, pD]
 refine tkK 3 (v := ?_) rfl ?_ ?_
 case refine_2 => (intro w hSw; (try dsimp only at hSw); go_simp; (try with_reducible rfl))
 try simp only [pA, pB, pC, pD]
 refine tkK 4 (v := ?_) rfl ?_ ?_
 case refine_2 => (intro w hSw; (try dsimp only at hSw); go_simp; (try with_reducible rfl))
 try simp only [pA, pB, pC, pD]
 refine tkK 5 (v := ?_) rfl ?_ ?_
 case refine_2 => (intro w hSw; (try dsimp only at hSw); go_simp; (try with_reducible rfl))
 try simp only [pA, pB, pC, pD]
 refine tkK 6 (v := ?_) rfl ?_ ?_
 case refine_2 => (intro w hSw; (try dsimp only at hSw); go_simp; (try with_reducible rfl))
 try simp only [pA, pB, pC, pD]
 refine tkK 7 (v := ?_) rfl ?_ ?_
 case refine_2 => (intro w hSw; (try dsimp only at hSw); go_simp; (try with_reducible rfl))
 try simp only [pA, pB, pC, pD]
 refine tkK 8 (v := ?_) rfl ?_ ?_
 case refine_2 => (intro w hSw; (try dsimp only at hSw); go_simp; (try with_reducible rfl))
 try simp only [pA, pB, pC, pD]
 refine tkK 9 (v := ?_) rfl ?_ ?_
 case refine_2 => (intro w hSw; (try dsimp only at hSw); go_simp; (try with_reducible rfl))
 try simp only [pA, pB, pC, pD]
 refine tkK 11 (v := ?_) rfl ?_ ?_
 case refine_2 => (intro w hSw; (try dsimp only at hSw); go_simp; (try with_reducible rfl))
 try simp only [pA, pB, pC, pD]
 refine tkK 12 (v := ?_) rfl ?_ ?_
 case refine_2 => (intro w hSw; (try dsimp only at hSw); go_simp; (try with_reducible rfl))
 try simp only [pA, pB, pC, pD]
 refine tkK 13 (v := ?_) rfl ?_ ?_
 case refine_2 => (intro w hSw; (try dsimp only at hSw); go_simp; (try with_reducible rfl))
 try simp only [pA, pB, pC, pD]
 refine tkK 14 (v := ?_) rfl ?_ ?_
 case refine_2 => (intro w hSw; (try dsimp only at hSw); go_simp; (try with_reducible rfl))
 try simp only [pA, pB, pC, pD]
 refine tkK 15 (v := ?_) rfl ?_ ?_
 case refine_2 => (intro w hSw; (try dsimp only at hSw); go_simp; (try with_reducible rfl))
 try simp only [pA, pB, pC, pD]
 refine wpAnyK_ready (rs := [10]) (by kernel_rfl) (by simp) ?_
 refine AllReadyK.cons (o := _) rfl (fun K hK => ?_) AllReadyK.nil
 go_simp
 go_at_call 70
 refine (UFT0.out _ _ _ _ (HI0.out.ext (Ext.refl _).drew)).mono ?_; rintro e w5 ⟨oa, on, oc, rfl, hx5, hO5⟩
 have E5 := ((Ext.refl u).drew).trans hx5
 refine hK.out _ _ (KS.out _ E5) (fun hHeld => ?_)
 clear hK K
 try simp only [pA, pB, pC, pD]
 refine wpAnyK_ready (rs := [16]) (by kernel_rfl) (by simp) ?_
 refine AllReadyK.cons (o := _) rfl (fun K hK => ?_) AllReadyK.nil
 go_simp
 go_at_call 69
 refine (URS0.out _ (HE0.out.trans E5)).mono ?_; rintro e w6 ⟨ra, rn, rc, rfl, hx6, hO6⟩
 have E6 := (E5).trans hx6
 refine hK.out _ _ (KS.out _ E6) (fun hHeld => ?_)
 clear hK K
 try simp only [pA, pB, pC, pD]
 refine wpAnyK_ready (rs := [17]) (by kernel_rfl) (by simp) ?_
 refine AllReadyK.cons (o := _) rfl (fun K hK => ?_) AllReadyK.nil
 go_simp
 go_at_call 68
 refine (UCL0.out _ _ _ (hO5.ext hx6) hO6).mono ?_; rintro e w7 ⟨qa, qn, qc, rfl, hx7, hO7⟩
 have E7 := (E6).trans hx7
 refine hK.out _ _ (KS.out _ E7) (fun hHeld => ?_)
 clear hK K
 try simp only [pA, pB, pC, pD]
 refine wpAnyK_ready (rs := [18]) (by kernel_rfl) (by simp) ?_
 refine AllReadyK.cons (o := _) rfl (fun K hK => ?_) AllReadyK.nil
 go_simp
 go_at_call 66
 refine (rsput_any W H x y 4 z0 _ _ _ _ _ _ _ _ (HI0.out.ext E7) hO7 HPT0.out).mono ?_; rintro e w8 ⟨fa1, fn1, fc1, rfl, hx8, ho8, hn8⟩
 have E8 := E7.trans hx8; have HN8 := Lib.hid hn8; clear hn8
 refine hK.out _ _ (KS.out _ E8) (fun hHeld => ?_)
 clear hK K
 try simp only [pA, pB, pC, pD]
 have BX := HX0.out.ext E8
 have r0 := BX.cell (i := 0) (v := .int .i64 W) rfl; have r1 := BX.cell (i := 1) (v := .int .i64 H) rfl; have r2 := BX.cell (i := 2) (v := .slice fa fn fc) rfl
 have y0 := BX.free (i := 0); have y1 := BX.free (i := 1); have y2 := BX.free (i := 2)
 refine wpAnyK_ready (rs := [19]) (by kernel_rfl) (by simp) ?_
 refine AllReadyK.last (o := _) rfl (fun K hK => ?_)
 go_simp
 refine hK.out _ _ ?_
 clear hK K
 try simp only [pA, pB, pC, pD]
 refine wpAnyK_done (by kernel_rfl) ?_ _
 have hb7 : w.heap.size < w7.heap.size := Nat.lt_of_lt_of_le HV0.out E7.size
 have QX := BX.set3 (.int .i64 W) (.int .i64 H) (.slice fa1 fn1 fc1)
 have QS := (HS0.out.ext E8).other3 (b0 := w.heap.size) (by omega) (.int .i64 W) (.int .i64 H) (.slice fa1 fn1 fc1)
 have QR := (HR0.out.ext E8).other3 (b0 := w.heap.size) (by omega) (.int .i64 W) (.int .i64 H) (.slice fa1 fn1 fc1)
 have QE := set3_ext (HE0.out.trans E8) (Nat.le_refl _) (.int .i64 W) (.int .i64 H) (.slice fa1 fn1 fc1)
 have QO := own_set3 ho8 hb7 (.int .i64 W) (.int .i64 H) (.slice fa1 fn1 fc1)
 have QI := Ints.of_owns QO (by unfold putRow; rw [rowL_length]; have := may_len MZ0.out; omega)
 rw [← show z1 = putRow W z0 x y 4 (addL (intL W z0 x y 4 ga) s0 qp) from HZ1.out] at QI QO HN8
 obtain ⟨v1, hv⟩ : ∃ z, ((w8.setCell ⟨w.heap.size, 0, none⟩ (.int .i64 W)).setCell ⟨w.heap.size, 1, none⟩ (.int .i64 H)).setCell ⟨w.heap.size, 2, none⟩ (.slice fa1 fn1 fc1) = z := ⟨_, rfl⟩
 rw [hv] at QX QS QR QE QO QI
 rw [hv]
 have HX1 := Lib.hid QX; have HS1 := Lib.hid QS; have HR1 := Lib.hid QR; have HE1 := Lib.hid QE; have HI1 := Lib.hid QI; have HO1 := Lib.hid QO; have HN1 := HN8
 have HB1 : Hid (w.heap.size + 1 + 1 + 1 < w7.heap.size ∧ w.heap.size ≤ w7.heap.size) := ⟨Nat.lt_of_lt_of_le HR0.out.lt E7.size, by omega⟩
 have HV1 := Lib.hid QX.lt
 clear hHeld KS BX r0 r1 r2 y0 y1 y2 hb7 QX QS QR QE QO QI hv hx8 ho8 HN8 E8 E7 E6 E5 hx5 hx6 hx7 hO5 hO6 hO7 HX0 HS0 HR0 HE0 HI0 HV0 UFT0 URS0 UCL0 HPT0
 go_wp2_with fail
 rw [rounds_succ]
 have KS : Hid (∀ w', Ext v1 w' → ((w'.cell? ⟨w.heap.size, 0, none⟩ = some (.int .i64 W) ∧ w'.cell? ⟨w.heap.size, 1, none⟩ = some (.int .i64 H) ∧ w'.cell? ⟨w.heap.size, 2, none⟩ = some (.slice fa1 fn1 fc1)) ∧ (w'.cell? ⟨w.heap.size + 1 + 1, 3, none⟩ = some (.int .i64 gb) ∧ w'.cell? ⟨w.heap.size + 1 + 1, 10, none⟩ = some (.slice a1 l1 c1))) ∧ Ext v1 w') := fun w' kx => ⟨⟨⟨(HX1.out.ext kx).cell (i := 0) (v := .int .i64 W) rfl, (HX1.out.ext kx).cell (i := 1) (v := .int .i64 H) rfl, (HX1.out.ext kx).cell (i := 2) (v := .slice fa1 fn1 fc1) rfl⟩, ⟨(HS1.out.ext kx).cell (i := 3) (v := .int .i64 gb) rfl, (HS1.out.ext kx).cell (i := 10) (v := .slice a1 l1 c1) rfl⟩⟩, kx⟩
 go_wp2_with fail
 refine wp_region_k (S := fun w' => ((w'.cell? ⟨w.heap.size, 0, none⟩ = some (.int .i64 W) ∧ w'.cell? ⟨w.heap.size, 1, none⟩ = some (.int .i64 H) ∧ w'.cell? ⟨w.heap.size, 2, none⟩ = some (.slice fa1 fn1 fc1)) ∧ (w'.cell? ⟨w.heap.size + 1 + 1, 3, none⟩ = some (.int .i64 gb) ∧ w'.cell? ⟨w.heap.size + 1 + 1, 10, none⟩ = some (.slice a1 l1 c1))) ∧ Ext v1 w') (k := 19) (by kernel_rfl) (KS.out _ (Ext.refl _).drew) (fun hHeld => ?_)
 refine tkK 0 (v := ?_) rfl ?_ ?_
 case refine_2 => (intro w hSw; (try dsimp only at hSw); go_simp; (try with_reducible rfl))
 try simp only [pA, pB, pC, pD]
 refine tkK 1 (v := ?_) rfl ?_ ?_
 case refine_2 => (intro w hSw; (try dsimp only at hSw); go_simp; (try with_reducible rfl))
 try simp only [pA, pB, pC, pD]
 refine tkK 2 (v := ?_) rfl ?_ ?_
 case refine_2 => (intro w hSw; (try dsimp only at hSw); go_simp; (try with_reducible rfl))
 try simp only [pA, pB, pC, pD]
 refine tkK 3 (v := ?_) rfl ?_ ?_
 case refine_2 => (intro w hSw; (try dsimp only at hSw); go_simp; (try with_reducible rfl))
 try simp only [pA, pB, pC, pD]
 refine tkK 4 (v := ?_) rfl ?_ ?_
 case refine_2 => (intro w hSw; (try dsimp only at hSw); go_simp; (try with_reducible rfl))
 try simp only [pA, pB, pC, pD]
 refine tkK 5 (v := ?_) rfl ?_ ?_
 case refine_2 => (intro w hSw; (try dsimp only at hSw); go_simp; (try with_reducible rfl))
 try simp only [pA, pB, pC, pD]
 refine tkK 6 (v := ?_) rfl ?_ ?_
 case refine_2 => (intro w hSw; (try dsimp only at hSw); go_simp; (try with_reducible rfl))
 try simp only [pA, pB, pC, pD]
 refine tkK 7 (v := ?_) rfl ?_ ?_
 case refine_2 => (intro w hSw; (try dsimp only at hSw); go_simp; (try with_reducible rfl))
 try simp only [pA, pB, pC, pD]
 refine tkK 8 (v := ?_) rfl ?_ ?_
 case refine_2 => (intro w hSw; (try dsimp only at hSw); go_simp; (try with_reducible rfl))
 try simp only [pA, pB, pC, pD]
 refine tkK 9 (v := ?_) rfl ?_ ?_
 case refine_2 => (intro w hSw; (try dsimp only at hSw); go_simp; (try with_reducible rfl))
 try simp only [pA, pB, pC, pD]
 refine tkK 11 (v := ?_) rfl ?_ ?_
 case refine_2 => (intro w hSw; (try dsimp only at hSw); go_simp; (try with_reducible rfl))
 try simp only [pA, pB, pC, pD]
 refine tkK 12 (v := ?_) rfl ?_ ?_
 case refine_2 => (intro w hSw; (try dsimp only at hSw); go_simp; (try with_reducible rfl))
 try simp only [pA, pB, pC, pD]
 refine tkK 13 (v := ?_) rfl ?_ ?_
 case refine_2 => (intro w hSw; (try dsimp only at hSw); go_simp; (try with_reducible rfl))
 try simp only [pA, pB, pC, pD]
 refine tkK 14 (v := ?_) rfl ?_ ?_
 case refine_2 => (intro w hSw; (try dsimp only at hSw); go_simp; (try with_reducible rfl))
 try simp only [pA, pB, pC, pD]
 refine tkK 15 (v := ?_) rfl ?_ ?_
 case refine_2 => (intro w hSw; (try dsimp only at hSw); go_simp; (try with_reducible rfl))
 try simp only [pA, pB, pC, pD]
 refine wpAnyK_ready (rs := [10]) (by kernel_rfl) (by simp) ?_
 refine AllReadyK.cons (o := _) rfl (fun K hK => ?_) AllReadyK.nil
 go_simp
 go_at_call 70
 refine (UFT1.out _ _ _ _ (HI1.out.ext (Ext.refl _).drew)).mono ?_; rintro e w5 ⟨oa, on, oc, rfl, hx5, hO5⟩
 have E5 := ((Ext.refl v1).drew).trans hx5
 refine hK.out _ _ (KS.out _ E5) (fun hHeld => ?_)
 clear hK K
 try simp only [pA, pB, pC, pD]
 refine wpAnyK_ready (rs := [16]) (by kernel_rfl) (by simp) ?_
 refine AllReadyK.cons (o := _) rfl (fun K hK => ?_) AllReadyK.nil
 go_simp
 go_at_call 69
 refine (URS1.out _ (HE1.out.trans E5)).mono ?_; rintro e w6 ⟨ra, rn, rc, rfl, hx6, hO6⟩
 have E6 := (E5).trans hx6
 refine hK.out _ _ (KS.out _ E6) (fun hHeld => ?_)
 clear hK K
 try simp only [pA, pB, pC, pD]
 refine wpAnyK_ready (rs := [17]) (by kernel_rfl) (by simp) ?_
 refine AllReadyK.cons (o := _) rfl (fun K hK => ?_) AllReadyK.nil
 go_simp
 go_at_call 68
 refine (UCL1.out _ _ _ (hO5.ext hx6) hO6).mono ?_; rintro e w7 ⟨qa, qn, qc, rfl, hx7, hO7⟩
 have E7 := (E6).trans hx7
 refine hK.out _ _ (KS.out _ E7) (fun hHeld => ?_)
 clear hK K
 try simp only [pA, pB, pC, pD]
 refine wpAnyK_ready (rs := [18]) (by kernel_rfl) (by simp) ?_
 refine AllReadyK.cons (o := _) rfl (fun K hK => ?_) AllReadyK.nil
 go_simp
 go_at_call 66
 refine (rsput_any W H (x + 4) y 4 z1 _ _ _ _ _ _ _ _ (HI1.out.ext E7) hO7 HPT1.out).mono ?_; rintro e w8 ⟨fa2, fn2, fc2, rfl, hx8, ho8, hn8⟩
 have E8 := E7.trans hx8; have HN8 := Lib.hid hn8; clear hn8
 refine hK.out _ _ (KS.out _ E8) (fun hHeld => ?_)
 clear hK K
 try simp only [pA, pB, pC, pD]
 have BX := HX1.out.ext E8
 have r0 := BX.cell (i := 0) (v := .int .i64 W) rfl; have r1 := BX.cell (i := 1) (v := .int .i64 H) rfl; have r2 := BX.cell (i := 2) (v := .slice fa1 fn1 fc1) rfl
 have y0 := BX.free (i := 0); have y1 := BX.free (i := 1); have y2 := BX.free (i := 2)
 refine wpAnyK_ready (rs := [19]) (by kernel_rfl) (by simp) ?_
 refine AllReadyK.last (o := _) rfl (fun K hK => ?_)
 go_simp
 refine hK.out _ _ ?_
 clear hK K
 try simp only [pA, pB, pC, pD]
 refine wpAnyK_done (by kernel_rfl) ?_ _
 have hb7 : w.heap.size < w7.heap.size := Nat.lt_of_lt_of_le HV1.out E7.size
 have QX := BX.set3 (.int .i64 W) (.int .i64 H) (.slice fa2 fn2 fc2)
 have QS := (HS1.out.ext E8).other3 (b0 := w.heap.size) (by omega) (.int .i64 W) (.int .i64 H) (.slice fa2 fn2 fc2)
 have QR := (HR1.out.ext E8).other3 (b0 := w.heap.size) (by omega) (.int .i64 W) (.int .i64 H) (.slice fa2 fn2 fc2)
 have QE := set3_ext (HE1.out.trans E8) (Nat.le_refl _) (.int .i64 W) (.int .i64 H) (.slice fa2 fn2 fc2)
 have QO := own_set3 ho8 hb7 (.int .i64 W) (.int .i64 H) (.slice fa2 fn2 fc2)
 have QI := Ints.of_owns QO (by unfold putRow; rw [rowL_length]; have := may_len MZ1.out; omega)
 rw [← show z2 = putRow W z1 (x + 4) y 4 (addL (intL W z1 (x + 4) y 4 gb) s1 qp) from HZ2.out] at QI QO HN8
 obtain ⟨v2, hv⟩ : ∃ z, ((w8.setCell ⟨w.heap.size, 0, none⟩ (.int .i64 W)).setCell ⟨w.heap.size, 1, none⟩ (.int .i64 H)).setCell ⟨w.heap.size, 2, none⟩ (.slice fa2 fn2 fc2) = z := ⟨_, rfl⟩
 rw [hv] at QX QS QR QE QO QI
 rw [hv]
 have HX2 := Lib.hid QX; have HS2 := Lib.hid QS; have HR2 := Lib.hid QR; have HE2 := Lib.hid QE; have HI2 := Lib.hid QI; have HO2 := Lib.hid QO; have HN2 := HN8
 have HB2 : Hid (w.heap.size + 1 + 1 + 1 < w7.heap.size ∧ w.heap.size ≤ w7.heap.size) := ⟨Nat.lt_of_lt_of_le HR1.out.lt E7.size, by omega⟩
 have HV2 := Lib.hid QX.lt
 clear hHeld KS BX r0 r1 r2 y0 y1 y2 hb7 QX QS QR QE QO QI hv hx8 ho8 HN8 E8 E7 E6 E5 hx5 hx6 hx7 hO5 hO6 hO7 HX1 HS1 HR1 HE1 HI1 HV1 UFT1 URS1 UCL1 HPT1
 go_wp2_with fail
 rw [rounds_succ]
 have KS : Hid (∀ w', Ext v2 w' → ((w'.cell? ⟨w.heap.size, 0, none⟩ = some (.int .i64 W) ∧ w'.cell? ⟨w.heap.size, 1, none⟩ = some (.int .i64 H) ∧ w'.cell? ⟨w.heap.size, 2, none⟩ = some (.slice fa2 fn2 fc2)) ∧ (w'.cell? ⟨w.heap.size + 1 + 1, 4, none⟩ = some (.int .i64 gc) ∧ w'.cell? ⟨w.heap.size + 1 + 1, 11, none⟩ = some (.slice a2 l2 c2))) ∧ Ext v2 w') := fun w' kx => ⟨⟨⟨(HX2.out.ext kx).cell (i := 0) (v := .int .i64 W) rfl, (HX2.out.ext kx).cell (i := 1) (v := .int .i64 H) rfl, (HX2.out.ext kx).cell (i := 2) (v := .slice fa2 fn2 fc2) rfl⟩, ⟨(HS2.out.ext kx).cell (i := 4) (v := .int .i64 gc) rfl, (HS2.out.ext kx).cell (i := 11) (v := .slice a2 l2 c2) rfl⟩⟩, kx⟩
 go_wp2_with fail
 refine wp_region_k (S := fun w' => ((w'.cell? ⟨w.heap.size, 0, none⟩ = some (.int .i64 W) ∧ w'.cell? ⟨w.heap.size, 1, none⟩ = some (.int .i64 H) ∧ w'.cell? ⟨w.heap.size, 2, none⟩ = some (.slice fa2 fn2 fc2)) ∧ (w'.cell? ⟨w.heap.size + 1 + 1, 4, none⟩ = some (.int .i64 gc) ∧ w'.cell? ⟨w.heap.size + 1 + 1, 11, none⟩ = some (.slice a2 l2 c2))) ∧ Ext v2 w') (k := 19) (by kernel_rfl) (KS.out _ (Ext.refl _).drew) (fun hHeld => ?_)
 refine tkK 0 (v := ?_) rfl ?_ ?_
 case refine_2 => (intro w hSw; (try dsimp only at hSw); go_simp; (try with_reducible rfl))
 try simp only [pA, pB, pC, pD]
 refine tkK 1 (v := ?_) rfl ?_ ?_
 case refine_2 => (intro w hSw; (try dsimp only at hSw); go_simp; (try with_reducible rfl))
 try simp only [pA, pB, pC, pD]
 refine tkK 2 (v := ?_) rfl ?_ ?_
 case refine_2 => (intro w hSw; (try dsimp only at hSw); go_simp; (try with_reducible rfl))
 try simp only [pA, pB, pC, pD]
 refine tkK 3 (v := ?_) rfl ?_ ?_
 case refine_2 => (intro w hSw; (try dsimp only at hSw); go_simp; (try with_reducible rfl))
 try simp only [pA, pB, pC, pD]
 refine tkK 4 (v := ?_) rfl ?_ ?_
 case refine_2 => (intro w hSw; (try dsimp only at hSw); go_simp; (try with_reducible rfl))
 try simp only [pA, pB, pC, pD]
 refine tkK 5 (v := ?_) rfl ?_ ?_
 case refine_2 => (intro w hSw; (try dsimp only at hSw); go_simp; (try with_reducible rfl))
 try simp only [pA, pB, pC, pD]
 refine tkK 6 (v := ?_) rfl ?_ ?_
 case refine_2 => (intro w hSw; (try dsimp only at hSw); go_simp; (try with_reducible rfl))
 try simp only [pA, pB, pC, pD]
 refine tkK 7 (v := ?_) rfl ?_ ?_
 case refine_2 => (intro w hSw; (try dsimp only at hSw); go_simp; (try with_reducible rfl))
 try simp only [pA, pB, pC, pD]
 refine tkK 8 (v := ?_) rfl ?_ ?_
 case refine_2 => (intro w hSw; (try dsimp only at hSw); go_simp; (try with_reducible rfl))
 try simp only [pA, pB, pC, pD]
 refine tkK 9 (v := ?_) rfl ?_ ?_
 case refine_2 => (intro w hSw; (try dsimp only at hSw); go_simp; (try with_reducible rfl))
 try simp only [pA, pB, pC, pD]
 refine tkK 11 (v := ?_) rfl ?_ ?_
 case refine_2 => (intro w hSw; (try dsimp only at hSw); go_simp; (try with_reducible rfl))
 try simp only [pA, pB, pC, pD]
 refine tkK 12 (v := ?_) rfl ?_ ?_
 case refine_2 => (intro w hSw; (try dsimp only at hSw); go_simp; (try with_reducible rfl))
 try simp only [pA, pB, pC, pD]
 refine tkK 13 (v := ?_) rfl ?_ ?_
 case refine_2 => (intro w hSw; (try dsimp only at hSw); go_simp; (try with_reducible rfl))
 try simp only [pA, pB, pC, pD]
 refine tkK 14 (v := ?_) rfl ?_ ?_
 case refine_2 => (intro w hSw; (try dsimp only at hSw); go_simp; (try with_reducible rfl))
 try simp only [pA, pB, pC, pD]
 refine tkK 15 (v := ?_) rfl ?_ ?_
 case refine_2 => (intro w hSw; (try dsimp only at hSw); go_simp; (try with_reducible rfl))
 try simp only [pA, pB, pC, pD]
 refine wpAnyK_ready (rs := [10]) (by kernel_rfl) (by simp) ?_
 refine AllReadyK.cons (o := _) rfl (fun K hK => ?_) AllReadyK.nil
 go_simp
 go_at_call 70
 refine (UFT2.out _ _ _ _ (HI2.out.ext (Ext.refl _).drew)).mono ?_; rintro e w5 ⟨oa, on, oc, rfl, hx5, hO5⟩
 have E5 := ((Ext.refl v2).drew).trans hx5
 refine hK.out _ _ (KS.out _ E5) (fun hHeld => ?_)
 clear hK K
 try simp only [pA, pB, pC, pD]
 refine wpAnyK_ready (rs := [16]) (by kernel_rfl) (by simp) ?_
 refine AllReadyK.cons (o := _) rfl (fun K hK => ?_) AllReadyK.nil
 go_simp
 go_at_call 69
 refine (URS2.out _ (HE2.out.trans E5)).mono ?_; rintro e w6 ⟨ra, rn, rc, rfl, hx6, hO6⟩
 have E6 := (E5).trans hx6
 refine hK.out _ _ (KS.out _ E6) (fun hHeld => ?_)
 clear hK K
 try simp only [pA, pB, pC, pD]
 refine wpAnyK_ready (rs := [17]) (by kernel_rfl) (by simp) ?_
 refine AllReadyK.cons (o := _) rfl (fun K hK => ?_) AllReadyK.nil
 go_simp
 go_at_call 68
 refine (UCL2.out _ _ _ (hO5.ext hx6) hO6).mono ?_; rintro e w7 ⟨qa, qn, qc, rfl, hx7, hO7⟩
 have E7 := (E6).trans hx7
 refine hK.out _ _ (KS.out _ E7) (fun hHeld => ?_)
 clear hK K
 try simp only [pA, pB, pC, pD]
 refine wpAnyK_ready (rs := [18]) (by kernel_rfl) (by simp) ?_
 refine AllReadyK.cons (o := _) rfl (fun K hK => ?_) AllReadyK.nil
 go_simp
 go_at_call 66
 refine (rsput_any W H x (y + 4) 4 z2 _ _ _ _ _ _ _ _ (HI2.out.ext E7) hO7 HPT2.out).mono ?_; rintro e w8 ⟨fa3, fn3, fc3, rfl, hx8, ho8, hn8⟩
 have E8 := E7.trans hx8; have HN8 := Lib.hid hn8; clear hn8
 refine hK.out _ _ (KS.out _ E8) (fun hHeld => ?_)
 clear hK K
 try simp only [pA, pB, pC, pD]
 have BX := HX2.out.ext E8
 have r0 := BX.cell (i := 0) (v := .int .i64 W) rfl; have r1 := BX.cell (i := 1) (v := .int .i64 H) rfl; have r2 := BX.cell (i := 2) (v := .slice fa2 fn2 fc2) rfl
 have y0 := BX.free (i := 0); have y1 := BX.free (i := 1); have y2 := BX.free (i := 2)
 refine wpAnyK_ready (rs := [19]) (by kernel_rfl) (by simp) ?_
 refine AllReadyK.last (o := _) rfl (fun K hK => ?_)
 go_simp
 refine hK.out _ _ ?_
 clear hK K
 try simp only [pA, pB, pC, pD]
 refine wpAnyK_done (by kernel_rfl) ?_ _
 have hb7 : w.heap.size < w7.heap.size := Nat.lt_of_lt_of_le HV2.out E7.size
 have QX := BX.set3 (.int .i64 W) (.int .i64 H) (.slice fa3 fn3 fc3)
 have QS := (HS2.out.ext E8).other3 (b0 := w.heap.size) (by omega) (.int .i64 W) (.int .i64 H) (.slice fa3 fn3 fc3)
 have QR := (HR2.out.ext E8).other3 (b0 := w.heap.size) (by omega) (.int .i64 W) (.int .i64 H) (.slice fa3 fn3 fc3)
 have QE := set3_ext (HE2.out.trans E8) (Nat.le_refl _) (.int .i64 W) (.int .i64 H) (.slice fa3 fn3 fc3)
 have QO := own_set3 ho8 hb7 (.int .i64 W) (.int .i64 H) (.slice fa3 fn3 fc3)
 have QI := Ints.of_owns QO (by unfold putRow; rw [rowL_length]; have := may_len MZ2.out; omega)
 rw [← show z3 = putRow W z2 x (y + 4) 4 (addL (intL W z2 x (y + 4) 4 gc) s2 qp) from HZ3.out] at QI QO HN8
 obtain ⟨v3, hv⟩ : ∃ z, ((w8.setCell ⟨w.heap.size, 0, none⟩ (.int .i64 W)).setCell ⟨w.heap.size, 1, none⟩ (.int .i64 H)).setCell ⟨w.heap.size, 2, none⟩ (.slice fa3 fn3 fc3) = z := ⟨_, rfl⟩
 rw [hv] at QX QS QR QE QO QI
 rw [hv]
 have HX3 := Lib.hid QX; have HS3 := Lib.hid QS; have HR3 := Lib.hid QR; have HE3 := Lib.hid QE; have HI3 := Lib.hid QI; have HO3 := Lib.hid QO; have HN3 := HN8
 have HB3 : Hid (w.heap.size + 1 + 1 + 1 < w7.heap.size ∧ w.heap.size ≤ w7.heap.size) := ⟨Nat.lt_of_lt_of_le HR2.out.lt E7.size, by omega⟩
 have HV3 := Lib.hid QX.lt
 clear hHeld KS BX r0 r1 r2 y0 y1 y2 hb7 QX QS QR QE QO QI hv hx8 ho8 HN8 E8 E7 E6 E5 hx5 hx6 hx7 hO5 hO6 hO7 HX2 HS2 HR2 HE2 HI2 HV2 UFT2 URS2 UCL2 HPT2
 go_wp2_with fail
 rw [rounds_succ]
 have KS : Hid (∀ w', Ext v3 w' → ((w'.cell? ⟨w.heap.size, 0, none⟩ = some (.int .i64 W) ∧ w'.cell? ⟨w.heap.size, 1, none⟩ = some (.int .i64 H) ∧ w'.cell? ⟨w.heap.size, 2, none⟩ = some (.slice fa3 fn3 fc3)) ∧ (w'.cell? ⟨w.heap.size + 1 + 1, 5, none⟩ = some (.int .i64 gd) ∧ w'.cell? ⟨w.heap.size + 1 + 1, 12, none⟩ = some (.slice a3 l3 c3))) ∧ Ext v3 w') := fun w' kx => ⟨⟨⟨(HX3.out.ext kx).cell (i := 0) (v := .int .i64 W) rfl, (HX3.out.ext kx).cell (i := 1) (v := .int .i64 H) rfl, (HX3.out.ext kx).cell (i := 2) (v := .slice fa3 fn3 fc3) rfl⟩, ⟨(HS3.out.ext kx).cell (i := 5) (v := .int .i64 gd) rfl, (HS3.out.ext kx).cell (i := 12) (v := .slice a3 l3 c3) rfl⟩⟩, kx⟩
 go_wp2_with fail
 refine wp_region_k (S := fun w' => ((w'.cell? ⟨w.heap.size, 0, none⟩ = some (.int .i64 W) ∧ w'.cell? ⟨w.heap.size, 1, none⟩ = some (.int .i64 H) ∧ w'.cell? ⟨w.heap.size, 2, none⟩ = some (.slice fa3 fn3 fc3)) ∧ (w'.cell? ⟨w.heap.size + 1 + 1, 5, none⟩ = some (.int .i64 gd) ∧ w'.cell? ⟨w.heap.size + 1 + 1, 12, none⟩ = some (.slice a3 l3 c3))) ∧ Ext v3 w') (k := 19) (by kernel_rfl) (KS.out _ (Ext.refl _).drew) (fun hHeld => ?_)
 refine tkK 0 (v := ?_) rfl ?_ ?_
 case refine_2 => (intro w hSw; (try dsimp only at hSw); go_simp; (try with_reducible rfl))
 try simp only [pA, pB, pC, pD]
 refine tkK 1 (v := ?_) rfl ?_ ?_
 case refine_2 => (intro w hSw; (try dsimp only at hSw); go_simp; (try with_reducible rfl))
 try simp only [pA, pB, pC, pD]
 refine tkK 2 (v := ?_) rfl ?_ ?_
 case refine_2 => (intro w hSw; (try dsimp only at hSw); go_simp; (try with_reducible rfl))
 try simp only [pA, pB, pC, pD]
 refine tkK 3 (v := ?_) rfl ?_ ?_
 case refine_2 => (intro w hSw; (try dsimp only at hSw); go_simp; (try with_reducible rfl))
 try simp only [pA, pB, pC, pD]
 refine tkK 4 (v := ?_) rfl ?_ ?_
 case refine_2 => (intro w hSw; (try dsimp only at hSw); go_simp; (try with_reducible rfl))
 try simp only [pA, pB, pC, pD]
 refine tkK 5 (v := ?_) rfl ?_ ?_
 case refine_2 => (intro w hSw; (try dsimp only at hSw); go_simp; (try with_reducible rfl))
 try simp only [pA, pB, pC, pD]
 refine tkK 6 (v := ?_) rfl ?_ ?_
 case refine_2 => (intro w hSw; (try dsimp only at hSw); go_simp; (try with_reducible rfl))
 try simp only [pA, pB, pC, pD]
 refine tkK 7 (v := ?_) rfl ?_ ?_
 case refine_2 => (intro w hSw; (try dsimp only at hSw); go_simp; (try with_reducible rfl))
 try simp only [pA, pB, pC, pD]
 refine tkK 8 (v := ?_) rfl ?_ ?_
 case refine_2 => (intro w hSw; (try dsimp only at hSw); go_simp; (try with_reducible rfl))
 try simp only [pA, pB, pC, pD]
 refine tkK 9 (v := ?_) rfl ?_ ?_
 case refine_2 => (intro w hSw; (try dsimp only at hSw); go_simp; (try with_reducible rfl))
 try simp only [pA, pB, pC, pD]
 refine tkK 11 (v := ?_) rfl ?_ ?_
 case refine_2 => (intro w hSw; (try dsimp only at hSw); go_simp; (try with_reducible rfl))
 try simp only [pA, pB, pC, pD]
 refine tkK 12 (v := ?_) rfl ?_ ?_
 case refine_2 => (intro w hSw; (try dsimp only at hSw); go_simp; (try with_reducible rfl))
 try simp only [pA, pB, pC, pD]
 refine tkK 13 (v := ?_) rfl ?_ ?_
 case refine_2 => (intro w hSw; (try dsimp only at hSw); go_simp; (try with_reducible rfl))
 try simp only [pA, pB, pC, pD]
 refine tkK 14 (v := ?_) rfl ?_ ?_
 case refine_2 => (intro w hSw; (try dsimp only at hSw); go_simp; (try with_reducible rfl))
 try simp only [pA, pB, pC, pD]
 refine tkK 15 (v := ?_) rfl ?_ ?_
 case refine_2 => (intro w hSw; (try dsimp only at hSw); go_simp; (try with_reducible rfl))
 try simp only [pA, pB, pC, pD]
 refine wpAnyK_ready (rs := [10]) (by kernel_rfl) (by simp) ?_
 refine AllReadyK.cons (o := _) rfl (fun K hK => ?_) AllReadyK.nil
 go_simp
 go_at_call 70
 refine (UFT3.out _ _ _ _ (HI3.out.ext (Ext.refl _).drew)).mono ?_; rintro e w5 ⟨oa, on, oc, rfl, hx5, hO5⟩
 have E5 := ((Ext.refl v3).drew).trans hx5
 refine hK.out _ _ (KS.out _ E5) (fun hHeld => ?_)
 clear hK K
 try simp only [pA, pB, pC, pD]
 refine wpAnyK_ready (rs := [16]) (by kernel_rfl) (by simp) ?_
 refine AllReadyK.cons (o := _) rfl (fun K hK => ?_) AllReadyK.nil
 go_simp
 go_at_call 69
 refine (URS3.out _ (HE3.out.trans E5)).mono ?_; rintro e w6 ⟨ra, rn, rc, rfl, hx6, hO6⟩
 have E6 := (E5).trans hx6
 refine hK.out _ _ (KS.out _ E6) (fun hHeld => ?_)
 clear hK K
 try simp only [pA, pB, pC, pD]
 refine wpAnyK_ready (rs := [17]) (by kernel_rfl) (by simp) ?_
 refine AllReadyK.cons (o := _) rfl (fun K hK => ?_) AllReadyK.nil
 go_simp
 go_at_call 68
 refine (UCL3.out _ _ _ (hO5.ext hx6) hO6).mono ?_; rintro e w7 ⟨qa, qn, qc, rfl, hx7, hO7⟩
 have E7 := (E6).trans hx7
 refine hK.out _ _ (KS.out _ E7) (fun hHeld => ?_)
 clear hK K
 try simp only [pA, pB, pC, pD]
 refine wpAnyK_ready (rs := [18]) (by kernel_rfl) (by simp) ?_
 refine AllReadyK.cons (o := _) rfl (fun K hK => ?_) AllReadyK.nil
 go_simp
 go_at_call 66
 refine (rsput_any W H (x + 4) (y + 4) 4 z3 _ _ _ _ _ _ _ _ (HI3.out.ext E7) hO7 HPT3.out).mono ?_; rintro e w8 ⟨fa4, fn4, fc4, rfl, hx8, ho8, hn8⟩
 have E8 := E7.trans hx8; have HN8 := Lib.hid hn8; clear hn8
 refine hK.out _ _ (KS.out _ E8) (fun hHeld => ?_)
 clear hK K
 try simp only [pA, pB, pC, pD]
 have BX := HX3.out.ext E8
 have r0 := BX.cell (i := 0) (v := .int .i64 W) rfl; have r1 := BX.cell (i := 1) (v := .int .i64 H) rfl; have r2 := BX.cell (i := 2) (v := .slice fa3 fn3 fc3) rfl
 have y0 := BX.free (i := 0); have y1 := BX.free (i := 1); have y2 := BX.free (i := 2)
 refine wpAnyK_ready (rs := [19]) (by kernel_rfl) (by simp) ?_
 refine AllReadyK.last (o := _) rfl (fun K hK => ?_)
 go_simp
 refine hK.out _ _ ?_
 clear hK K
 try simp only [pA, pB, pC, pD]
 refine wpAnyK_done (by kernel_rfl) ?_ _
 have hb7 : w.heap.size < w7.heap.size := Nat.lt_of_lt_of_le HV3.out E7.size
 have QX := BX.set3 (.int .i64 W) (.int .i64 H) (.slice fa4 fn4 fc4)
 have QS := (HS3.out.ext E8).other3 (b0 := w.heap.size) (by omega) (.int .i64 W) (.int .i64 H) (.slice fa4 fn4 fc4)
 have QR := (HR3.out.ext E8).other3 (b0 := w.heap.size) (by omega) (.int .i64 W) (.int .i64 H) (.slice fa4 fn4 fc4)
 have QE := set3_ext (HE3.out.trans E8) (Nat.le_refl _) (.int .i64 W) (.int .i64 H) (.slice fa4 fn4 fc4)
 have QO := own_set3 ho8 hb7 (.int .i64 W) (.int .i64 H) (.slice fa4 fn4 fc4)
 have QI := Ints.of_owns QO (by unfold putRow; rw [rowL_length]; have := may_len MZ3.out; omega)
 rw [← show z4 = putRow W z3 (x + 4) (y + 4) 4 (addL (intL W z3 (x + 4) (y + 4) 4 gd) s3 qp) from HZ4.out] at QI QO HN8
 obtain ⟨v4, hv⟩ : ∃ z, ((w8.setCell ⟨w.heap.size, 0, none⟩ (.int .i64 W)).setCell ⟨w.heap.size, 1, none⟩ (.int .i64 H)).setCell ⟨w.heap.size, 2, none⟩ (.slice fa4 fn4 fc4) = z := ⟨_, rfl⟩
 rw [hv] at QX QS QR QE QO QI
 rw [hv]
 have HX4 := Lib.hid QX; have HS4 := Lib.hid QS; have HR4 := Lib.hid QR; have HE4 := Lib.hid QE; have HI4 := Lib.hid QI; have HO4 := Lib.hid QO; have HN4 := HN8
 have HB4 : Hid (w.heap.size + 1 + 1 + 1 < w7.heap.size ∧ w.heap.size ≤ w7.heap.size) := ⟨Nat.lt_of_lt_of_le HR3.out.lt E7.size, by omega⟩
 have HV4 := Lib.hid QX.lt
 clear hHeld KS BX r0 r1 r2 y0 y1 y2 hb7 QX QS QR QE QO QI hv hx8 ho8 HN8 E8 E7 E6 E5 hx5 hx6 hx7 hO5 hO6 hO7 HX3 HS3 HR3 HE3 HI3 HV3 UFT3 URS3 UCL3 HPT3
 go_wp2_with fail
 rw [rounds_succ]
 have f0 := HX4.out.cell (i := 0) (v := .int .i64 W) rfl; have f1 := HX4.out.cell (i := 1) (v := .int .i64 H) rfl; have f2 := HX4.out.cell (i := 2) (v := .slice fa4 fn4 fc4) rfl
 have r0 := HR4.out.cell (i := 0) (v := .int .i64 0) rfl; have r1 := HR4.out.cell (i := 1) (v := .int .i64 0) rfl; have r2 := HR4.out.cell (i := 2) (v := .slice none 0 0) rfl
 have y0 := HR4.out.free (i := 0); have y1 := HR4.out.free (i := 1); have y2 := HR4.out.free (i := 2)
 go_wp2
 obtain ⟨g0, g1, g2⟩ := fr_cells W H (.slice fa4 fn4 fc4) r0 r1 r2
 exact bodyPost_ret (v := .agg #[.int .i64 W, .int .i64 H, .slice fa4 fn4 fc4]) (by simp [results, Tryz.results40, go_sem, g0, g1, g2]) rfl ⟨_, _, _, rfl, set3_ext HE4.out (by omega) _ _ _, own_mono (own_set3 HO4.out HB4.out.1 _ _ _) HB4.out.2, HN4.out⟩
theorem rbuild_any (W H PW PH x y qp : Int) (zs ps : List Int) (fa : Option Addr) (fn fc : Nat) (pa : Option Addr) (pn pc : Nat) (q : Sq) (vL v0 v1 v2 v3 : Value) (w : World) (hf : Ints w (.slice fa fn fc) zs) (hm : may W H zs) (hl : lies W H x y 8) (hk : 0 ≤ q.k ∧ q.k ≤ 3) (hpt : ptB q = true) (hli : liE q = none) (hq : 0 ≤ qp ∧ qp ≤ 15) (hx : SqIs w q vL v0 v1 v2 v3) (hp : q.k < 2 → PW = W ∧ PH = H ∧ may W H ps ∧ Ints w (.slice pa pn pc) ps) :
 Calls Tryz.prog 40 #[.agg #[.int .i64 W, .int .i64 H, .slice fa fn fc], .agg #[.int .i64 PW, .int .i64 PH, .slice pa pn pc], .int .i64 x, .int .i64 y, .int .i64 qp, sqQ q vL v0 v1 v2 v3] w (FvO w W H (bld W H zs ps x y qp q)) := by
 obtain ⟨hL, h0, h1, h2, h3⟩ := hx
 obtain ⟨aL, lL, cL, rfl⟩ := hL.slf
 obtain ⟨a0, l0, c0, rfl⟩ := h0.slf
 obtain ⟨a1, l1, c1, rfl⟩ := h1.slf
 obtain ⟨a2, l2, c2, rfl⟩ := h2.slf
 obtain ⟨a3, l3, c3, rfl⟩ := h3.slf
 have hqq := okq_iff hq
 obtain ⟨k, m, a, b, c, d, gx, gy, L, s0, s1, s2, s3⟩ := q
 unfold sqQ
 dsimp only at *
 rcases (by omega : k = 0 ∨ k = 1 ∨ k = 2 ∨ k = 3) with rfl | rfl | rfl | rfl
 · obtain ⟨rfl, rfl, hmp, hip⟩ := hp (by decide)
   exact rb_0 _ _ x y qp zs ps fa fn fc pa pn pc m a b c d gx gy aL a0 a1 a2 a3 lL cL l0 c0 l1 c1 l2 c2 l3 c3 w hf hm hl hmp hip
 · obtain ⟨rfl, rfl, hmp, hip⟩ := hp (by decide)
   have hv : vecB gx gy = true := by
    have h9 : (isV gx && isV gy) = true := hpt
    simp [isV] at h9
    simp [vecB]
    omega
   exact rb_1 _ _ x y qp zs ps fa fn fc pa pn pc m a b c d gx gy aL a0 a1 a2 a3 lL cL l0 c0 l1 c1 l2 c2 l3 c3 w hf hm hl L hmp hip hv hL hli hqq
 · exact rb_2 W H PW PH x y qp zs ps fa fn fc pa pn pc m a b c d gx gy aL a0 a1 a2 a3 lL cL l0 c0 l1 c1 l2 c2 l3 c3 w hf hm hl L hpt hL hli hqq
 · have hms : isM a = true ∧ isM b = true ∧ isM c = true ∧ isM d = true := by
    have h9 : (isM a && isM b && isM c && isM d) = true := hpt
    simp only [Bool.and_eq_true] at h9
    exact ⟨h9.1.1.1, h9.1.1.2, h9.1.2, h9.2⟩
   have hli2 : orF (lvE s0 16) (orF (lvE s1 16) (orF (lvE s2 16) (lvE s3 16))) = none := hli
   obtain ⟨e0, hli2⟩ := orF_none hli2
   obtain ⟨e1, hli2⟩ := orF_none hli2
   obtain ⟨e2, e3⟩ := orF_none hli2
   exact rb_3 W H PW PH x y qp zs ps fa fn fc pa pn pc m a b c d gx gy aL a0 a1 a2 a3 lL cL l0 c0 l1 c1 l2 c2 l3 c3 w hf hm hl s0 s1 s2 s3 hms h0 h1 h2 h3 ⟨e0, e1, e2, e3⟩ hqq
end Go.Proofs.YtcekpngkfldgkaaGreatDoor