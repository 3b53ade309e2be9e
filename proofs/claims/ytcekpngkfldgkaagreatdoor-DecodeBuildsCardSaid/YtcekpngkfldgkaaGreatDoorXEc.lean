/- kinref21: bounds, place, leans. -/
import Derived.Test.YtcekpngkfldgkaaGreatDoorXTk
import Derived.Test.YtcekpngkfldgkaaGreatDoorXEa1
import Derived.Test.YtcekpngkfldgkaaGreatDoorXDeX
import Derived.Test.YtcekpngkfldgkaaGreatDoorXGa
namespace Go.Proofs.YtcekpngkfldgkaaGreatDoor
set_option linter.unusedVariables false
set_option linter.unusedSimpArgs false
open Go.RowKit Go.Extern.Stop Go.Stop Go.Extern
def cdF (f : Fall) : Int := match f with
 | none => 0
 | some e => e.2
theorem any_within (l : List Int) : l.any noLv = !decide (within (-16320) 16320 l) := by
 by_cases h : within (-16320) 16320 l
 · rw [decide_eq_true h]
   refine List.any_eq_false.2 (fun x hx => ?_)
   have := h x hx
   simp [noLv, isLv]
   omega
 · rw [decide_eq_false h]
   unfold within at h
   obtain ⟨x, hx⟩ := Classical.not_forall.1 h
   obtain ⟨h1, h2⟩ := Classical.not_imp.1 hx
   refine List.any_eq_true.2 ⟨x, h1, ?_⟩
   simp [noLv, isLv]
   omega
theorem cp_0 (m a b c d x y : Int) (L s0 s1 s2 s3 : List Int) : cpF ⟨0, m, a, b, c, d, x, y, L, s0, s1, s2, s3⟩ = none := by simp [cpF, ptB]
theorem cp_1 (m a b c d x y : Int) (L s0 s1 s2 s3 : List Int) : cpF ⟨1, m, a, b, c, d, x, y, L, s0, s1, s2, s3⟩ = if isV x && isV y then lvE L 64 else range := by simp [cpF, ptB, lsE_one]
theorem cp_2 (m a b c d x y : Int) (L s0 s1 s2 s3 : List Int) : cpF ⟨2, m, a, b, c, d, x, y, L, s0, s1, s2, s3⟩ = if isM m then lvE L 64 else range := by simp [cpF, ptB, lsE_one]
theorem cp_3 (m a b c d x y : Int) (L s0 s1 s2 s3 : List Int) : cpF ⟨3, m, a, b, c, d, x, y, L, s0, s1, s2, s3⟩ = if isM a && isM b && isM c && isM d then lsE [s0, s1, s2, s3] 16 else range := by simp [cpF, ptB, mdsB]
theorem md_ints {w : World} {b : Nat} {T : TypeId} {v0 v1 v6 v7 v8 v9 v10 v11 v12 : Value} {ga gb gc gd : Int} (h : BoxIs w b #[v0, v1, .int .i64 ga, .int .i64 gb, .int .i64 gc, .int .i64 gd, v6, v7, v8, v9, v10, v11, v12] T) : Ints w (.slice (some ⟨b, 2, none⟩) 4 4) [ga, gb, gc, gd] := by
 refine ⟨⟨_, 4, rfl, by simp, by decide, fun _ => ⟨b, 2, rfl⟩, fun g off e j u hu => ?_⟩, by simp⟩
 cases e
 have hj : j = 0 ∨ j = 1 ∨ j = 2 ∨ j = 3 := by have := (List.getElem?_eq_some_iff.1 hu).1; simp at this; omega
 rcases hj with rfl | rfl | rfl | rfl <;> (simp at hu; subst hu; exact h.cell rfl)
theorem md_within (a b c d : Int) : (isM a && isM b && isM c && isM d) = decide (within 0 3 [a, b, c, d]) := by
 by_cases h : within 0 3 [a, b, c, d]
 · rw [decide_eq_true h]
   have h1 := h a (by simp); have h2 := h b (by simp); have h3 := h c (by simp); have h4 := h d (by simp)
   simp [isM]
   omega
 · rw [decide_eq_false h]
   cases e : (isM a && isM b && isM c && isM d) with
   | false => rfl
   | true =>
     refine absurd (fun x hx => ?_) h
     simp [isM] at e
     simp at hx
     rcases hx with rfl | rfl | rfl | rfl <;> omega
theorem er_cells {w : World} {B : Nat} (c : Int) (v : Value) (h0 : w.cell? ⟨B, 0, none⟩ = some (.int .i64 0)) (h1 : w.cell? ⟨B, 1, none⟩ = some (.slice none 0 0)) :
 ((w.setCell ⟨B, 0, none⟩ (.int .i64 c)).setCell ⟨B, 1, none⟩ v).cell? ⟨B, 0, none⟩ = some (.int .i64 c) ∧ ((w.setCell ⟨B, 0, none⟩ (.int .i64 c)).setCell ⟨B, 1, none⟩ v).cell? ⟨B, 1, none⟩ = some v := by
 have a0 := World.cell?_setCell_same _ _ (.int .i64 c) h0
 have a1 := (World.cell?_setCell_other w ⟨B, 0, none⟩ ⟨B, 1, none⟩ (.int .i64 c) (by simp)).trans h1
 have b0 := (World.cell?_setCell_other _ ⟨B, 1, none⟩ ⟨B, 0, none⟩ v (by simp)).trans a0
 have b1 := World.cell?_setCell_same _ _ v a1
 exact ⟨b0, b1⟩
theorem set2_ext {w wX : World} {b : Nat} (E : Ext w wX) (hb : w.heap.size ≤ b) (v0 v1 : Value) : Ext w ((wX.setCell ⟨b, 0, none⟩ v0).setCell ⟨b, 1, none⟩ v1) := (E.setCell (p := ⟨b, 0, none⟩) hb v0).setCell (p := ⟨b, 1, none⟩) hb v1
set_option maxHeartbeats 8000000 in
set_option maxRecDepth 20000 in
theorem rbounds_0 (gm ga gb gc gd gx gy : Int) (L s0 s1 s2 s3 : List Int) (aL a0 a1 a2 a3 : Option Addr) (lL cL l0 c0 l1 c1 l2 c2 l3 c3 : Nat) (w : World) (c : Int) (hc : c = cdF (cpF ⟨0, gm, ga, gb, gc, gd, gx, gy, L, s0, s1, s2, s3⟩))  :
 Calls Tryz.prog 38 #[sqV 0 gm ga gb gc gd gx gy (.slice aL lL cL) (.slice a0 l0 c0) (.slice a1 l1 c1) (.slice a2 l2 c2) (.slice a3 l3 c3)] w fun e w' => e = .returned (.agg #[.int .i64 c, .slice none 0 0]) ∧ Ext w w' := by
 unfold sqV
 rw [cp_0] at hc
 have B0 := ((BoxIs.new w #[.int .i64 0, .int .i64 gm, .int .i64 ga, .int .i64 gb, .int .i64 gc, .int .i64 gd, .int .i64 gx, .int .i64 gy, .slice aL lL cL, .slice a0 l0 c0, .slice a1 l1 c1, .slice a2 l2 c2, .slice a3 l3 c3] 46).ext ((Ext.refl _).alloc (.cells #[.int .i64 0, .slice none 0 0] 43))).ext ((Ext.refl _).alloc (.cells #[.int .i64 gx, .int .i64 gy] 27))
 have B1 := (BoxIs.new (w.alloc (.cells #[.int .i64 0, .int .i64 gm, .int .i64 ga, .int .i64 gb, .int .i64 gc, .int .i64 gd, .int .i64 gx, .int .i64 gy, .slice aL lL cL, .slice a0 l0 c0, .slice a1 l1 c1, .slice a2 l2 c2, .slice a3 l3 c3] 46)) #[.int .i64 0, .slice none 0 0] 43).ext ((Ext.refl _).alloc (.cells #[.int .i64 gx, .int .i64 gy] 27))
 have E0 := (((Ext.refl w).alloc (.cells #[.int .i64 0, .int .i64 gm, .int .i64 ga, .int .i64 gb, .int .i64 gc, .int .i64 gd, .int .i64 gx, .int .i64 gy, .slice aL lL cL, .slice a0 l0 c0, .slice a1 l1 c1, .slice a2 l2 c2, .slice a3 l3 c3] 46)).alloc (.cells #[.int .i64 0, .slice none 0 0] 43)).alloc (.cells #[.int .i64 gx, .int .i64 gy] 27)
 obtain ⟨u, hu⟩ : ∃ z, ((w.alloc (.cells #[.int .i64 0, .int .i64 gm, .int .i64 ga, .int .i64 gb, .int .i64 gc, .int .i64 gd, .int .i64 gx, .int .i64 gy, .slice aL lL cL, .slice a0 l0 c0, .slice a1 l1 c1, .slice a2 l2 c2, .slice a3 l3 c3] 46)).alloc (.cells #[.int .i64 0, .slice none 0 0] 43)).alloc (.cells #[.int .i64 gx, .int .i64 gy] 27) = z := ⟨_, rfl⟩
 rw [hu] at B0 B1 E0
 rw [show (w.alloc (.cells #[.int .i64 0, .int .i64 gm, .int .i64 ga, .int .i64 gb, .int .i64 gc, .int .i64 gd, .int .i64 gx, .int .i64 gy, .slice aL lL cL, .slice a0 l0 c0, .slice a1 l1 c1, .slice a2 l2 c2, .slice a3 l3 c3] 46)).heap.size = w.heap.size + 1 by simp] at B1
 have HB0 := Lib.hid B0; have HB1 := Lib.hid B1; have HE := Lib.hid E0; have HU := Lib.hid hu; have HX := Lib.hid (Ext.refl u)
 clear B0 B1 E0 hu
 have HC : Hid (c = 0) := hc
 clear hc
 have BR := HB1.out.ext HX.out
 have r0 := BR.cell (i := 0) (v := .int .i64 0) rfl; have r1 := BR.cell (i := 1) (v := .slice none 0 0) rfl; have y0 := BR.free (i := 0); have y1 := BR.free (i := 1)
 clear BR
 obtain ⟨⟨g0, g1, g2, g3, g4, g5, g6, g7, g8, g9, g10, g11, g12⟩, -⟩ := sq_cells (HB0.out.ext HX.out)
 go_enter Tryz.func38, Tryz.ntmps38
 go_wp2_with fail
 rw [HU.out]
 refine wp_loop_rounds 1 ?_
 rw [rounds_succ]
 go_wp2_with fail
 refine wp_loop_rounds 1 ?_
 rw [rounds_succ]
 go_wp2_with fail
 have Xf := HX.out
 try go_wp2
 obtain ⟨q0, q1⟩ := er_cells 0 (.slice none 0 0) r0 r1
 exact bodyPost_ret (v := .agg #[.int .i64 0, .slice none 0 0]) (by simp [results, Tryz.results38, go_sem, q0, q1]) rfl ⟨by rw [HC.out], set2_ext (HE.out.trans Xf) (Nat.le_succ _) _ _⟩
set_option maxHeartbeats 8000000 in
set_option maxRecDepth 20000 in
theorem rbounds_1 (gm ga gb gc gd gx gy : Int) (L s0 s1 s2 s3 : List Int) (aL a0 a1 a2 a3 : Option Addr) (lL cL l0 c0 l1 c1 l2 c2 l3 c3 : Nat) (w : World) (c : Int) (hc : c = cdF (cpF ⟨1, gm, ga, gb, gc, gd, gx, gy, L, s0, s1, s2, s3⟩)) (hL : Ints w (.slice aL lL cL) L) :
 Calls Tryz.prog 38 #[sqV 1 gm ga gb gc gd gx gy (.slice aL lL cL) (.slice a0 l0 c0) (.slice a1 l1 c1) (.slice a2 l2 c2) (.slice a3 l3 c3)] w fun e w' => e = .returned (.agg #[.int .i64 c, .slice none 0 0]) ∧ Ext w w' := by
 unfold sqV
 rw [cp_1] at hc
 have B0 := ((BoxIs.new w #[.int .i64 1, .int .i64 gm, .int .i64 ga, .int .i64 gb, .int .i64 gc, .int .i64 gd, .int .i64 gx, .int .i64 gy, .slice aL lL cL, .slice a0 l0 c0, .slice a1 l1 c1, .slice a2 l2 c2, .slice a3 l3 c3] 46).ext ((Ext.refl _).alloc (.cells #[.int .i64 0, .slice none 0 0] 43))).ext ((Ext.refl _).alloc (.cells #[.int .i64 gx, .int .i64 gy] 27))
 have B1 := (BoxIs.new (w.alloc (.cells #[.int .i64 1, .int .i64 gm, .int .i64 ga, .int .i64 gb, .int .i64 gc, .int .i64 gd, .int .i64 gx, .int .i64 gy, .slice aL lL cL, .slice a0 l0 c0, .slice a1 l1 c1, .slice a2 l2 c2, .slice a3 l3 c3] 46)) #[.int .i64 0, .slice none 0 0] 43).ext ((Ext.refl _).alloc (.cells #[.int .i64 gx, .int .i64 gy] 27))
 have E0 := (((Ext.refl w).alloc (.cells #[.int .i64 1, .int .i64 gm, .int .i64 ga, .int .i64 gb, .int .i64 gc, .int .i64 gd, .int .i64 gx, .int .i64 gy, .slice aL lL cL, .slice a0 l0 c0, .slice a1 l1 c1, .slice a2 l2 c2, .slice a3 l3 c3] 46)).alloc (.cells #[.int .i64 0, .slice none 0 0] 43)).alloc (.cells #[.int .i64 gx, .int .i64 gy] 27)
 obtain ⟨u, hu⟩ : ∃ z, ((w.alloc (.cells #[.int .i64 1, .int .i64 gm, .int .i64 ga, .int .i64 gb, .int .i64 gc, .int .i64 gd, .int .i64 gx, .int .i64 gy, .slice aL lL cL, .slice a0 l0 c0, .slice a1 l1 c1, .slice a2 l2 c2, .slice a3 l3 c3] 46)).alloc (.cells #[.int .i64 0, .slice none 0 0] 43)).alloc (.cells #[.int .i64 gx, .int .i64 gy] 27) = z := ⟨_, rfl⟩
 rw [hu] at B0 B1 E0
 rw [show (w.alloc (.cells #[.int .i64 1, .int .i64 gm, .int .i64 ga, .int .i64 gb, .int .i64 gc, .int .i64 gd, .int .i64 gx, .int .i64 gy, .slice aL lL cL, .slice a0 l0 c0, .slice a1 l1 c1, .slice a2 l2 c2, .slice a3 l3 c3] 46)).heap.size = w.heap.size + 1 by simp] at B1
 have HB0 := Lib.hid B0; have HB1 := Lib.hid B1; have HE := Lib.hid E0; have HU := Lib.hid hu; have HX := Lib.hid (Ext.refl u)
 clear B0 B1 E0 hu
 have hlen : lL = L.length := hL.len
 have UW := Lib.hid (fun W' (k : Ext w W') => within_any L (-16320) 16320 _ W' (hL.ext k))
 have HC0 := Lib.hid hc
 have HLN := Lib.hid hlen
 clear hc hL hlen
 by_cases t0 : gx < -15
 · have HC : Hid (c = 3) := by show _ = _; rw [HC0.out, if_neg (by simp [isV, isM]; omega)]; rfl
   clear HC0
   have BR := HB1.out.ext HX.out
   have r0 := BR.cell (i := 0) (v := .int .i64 0) rfl; have r1 := BR.cell (i := 1) (v := .slice none 0 0) rfl; have y0 := BR.free (i := 0); have y1 := BR.free (i := 1)
   clear BR
   obtain ⟨⟨g0, g1, g2, g3, g4, g5, g6, g7, g8, g9, g10, g11, g12⟩, -⟩ := sq_cells (HB0.out.ext HX.out)
   go_enter Tryz.func38, Tryz.ntmps38
   go_wp2_with fail
   rw [HU.out]
   clear g0 g1 g2 g3 g4 g5 g6 g7 g8 g9 g10 g11 g12 r0 r1 y0 y1
   refine (fail_any 3 _).mono ?_; rintro e wf ⟨rfl, hxf⟩
   have Xf := HX.out.trans hxf
   have BR := HB1.out.ext Xf
   have r0 := BR.cell (i := 0) (v := .int .i64 0) rfl; have r1 := BR.cell (i := 1) (v := .slice none 0 0) rfl; have y0 := BR.free (i := 0); have y1 := BR.free (i := 1)
   clear BR hxf
   go_wp2
   obtain ⟨q0, q1⟩ := er_cells 3 (.slice none 0 0) r0 r1
   exact bodyPost_ret (v := .agg #[.int .i64 3, .slice none 0 0]) (by simp [results, Tryz.results38, go_sem, q0, q1]) rfl ⟨by rw [HC.out], set2_ext (HE.out.trans Xf) (Nat.le_succ _) _ _⟩
 by_cases t1 : 15 < gx
 · have HC : Hid (c = 3) := by show _ = _; rw [HC0.out, if_neg (by simp [isV, isM]; omega)]; rfl
   clear HC0
   have BR := HB1.out.ext HX.out
   have r0 := BR.cell (i := 0) (v := .int .i64 0) rfl; have r1 := BR.cell (i := 1) (v := .slice none 0 0) rfl; have y0 := BR.free (i := 0); have y1 := BR.free (i := 1)
   clear BR
   obtain ⟨⟨g0, g1, g2, g3, g4, g5, g6, g7, g8, g9, g10, g11, g12⟩, -⟩ := sq_cells (HB0.out.ext HX.out)
   go_enter Tryz.func38, Tryz.ntmps38
   go_wp2_with fail
   rw [HU.out]
   clear g0 g1 g2 g3 g4 g5 g6 g7 g8 g9 g10 g11 g12 r0 r1 y0 y1
   refine (fail_any 3 _).mono ?_; rintro e wf ⟨rfl, hxf⟩
   have Xf := HX.out.trans hxf
   have BR := HB1.out.ext Xf
   have r0 := BR.cell (i := 0) (v := .int .i64 0) rfl; have r1 := BR.cell (i := 1) (v := .slice none 0 0) rfl; have y0 := BR.free (i := 0); have y1 := BR.free (i := 1)
   clear BR hxf
   go_wp2
   obtain ⟨q0, q1⟩ := er_cells 3 (.slice none 0 0) r0 r1
   exact bodyPost_ret (v := .agg #[.int .i64 3, .slice none 0 0]) (by simp [results, Tryz.results38, go_sem, q0, q1]) rfl ⟨by rw [HC.out], set2_ext (HE.out.trans Xf) (Nat.le_succ _) _ _⟩
 by_cases t2 : gy < -15
 · have HC : Hid (c = 3) := by show _ = _; rw [HC0.out, if_neg (by simp [isV, isM]; omega)]; rfl
   clear HC0
   have BR := HB1.out.ext HX.out
   have r0 := BR.cell (i := 0) (v := .int .i64 0) rfl; have r1 := BR.cell (i := 1) (v := .slice none 0 0) rfl; have y0 := BR.free (i := 0); have y1 := BR.free (i := 1)
   clear BR
   obtain ⟨⟨g0, g1, g2, g3, g4, g5, g6, g7, g8, g9, g10, g11, g12⟩, -⟩ := sq_cells (HB0.out.ext HX.out)
   go_enter Tryz.func38, Tryz.ntmps38
   go_wp2_with fail
   rw [HU.out]
   clear g0 g1 g2 g3 g4 g5 g6 g7 g8 g9 g10 g11 g12 r0 r1 y0 y1
   refine (fail_any 3 _).mono ?_; rintro e wf ⟨rfl, hxf⟩
   have Xf := HX.out.trans hxf
   have BR := HB1.out.ext Xf
   have r0 := BR.cell (i := 0) (v := .int .i64 0) rfl; have r1 := BR.cell (i := 1) (v := .slice none 0 0) rfl; have y0 := BR.free (i := 0); have y1 := BR.free (i := 1)
   clear BR hxf
   go_wp2
   obtain ⟨q0, q1⟩ := er_cells 3 (.slice none 0 0) r0 r1
   exact bodyPost_ret (v := .agg #[.int .i64 3, .slice none 0 0]) (by simp [results, Tryz.results38, go_sem, q0, q1]) rfl ⟨by rw [HC.out], set2_ext (HE.out.trans Xf) (Nat.le_succ _) _ _⟩
 by_cases t3 : 15 < gy
 · have HC : Hid (c = 3) := by show _ = _; rw [HC0.out, if_neg (by simp [isV, isM]; omega)]; rfl
   clear HC0
   have BR := HB1.out.ext HX.out
   have r0 := BR.cell (i := 0) (v := .int .i64 0) rfl; have r1 := BR.cell (i := 1) (v := .slice none 0 0) rfl; have y0 := BR.free (i := 0); have y1 := BR.free (i := 1)
   clear BR
   obtain ⟨⟨g0, g1, g2, g3, g4, g5, g6, g7, g8, g9, g10, g11, g12⟩, -⟩ := sq_cells (HB0.out.ext HX.out)
   go_enter Tryz.func38, Tryz.ntmps38
   go_wp2_with fail
   rw [HU.out]
   clear g0 g1 g2 g3 g4 g5 g6 g7 g8 g9 g10 g11 g12 r0 r1 y0 y1
   refine (fail_any 3 _).mono ?_; rintro e wf ⟨rfl, hxf⟩
   have Xf := HX.out.trans hxf
   have BR := HB1.out.ext Xf
   have r0 := BR.cell (i := 0) (v := .int .i64 0) rfl; have r1 := BR.cell (i := 1) (v := .slice none 0 0) rfl; have y0 := BR.free (i := 0); have y1 := BR.free (i := 1)
   clear BR hxf
   go_wp2
   obtain ⟨q0, q1⟩ := er_cells 3 (.slice none 0 0) r0 r1
   exact bodyPost_ret (v := .agg #[.int .i64 3, .slice none 0 0]) (by simp [results, Tryz.results38, go_sem, q0, q1]) rfl ⟨by rw [HC.out], set2_ext (HE.out.trans Xf) (Nat.le_succ _) _ _⟩
 have HC1 : Hid (c = cdF (lvE L 64)) := by show _ = _; rw [HC0.out, if_pos (by simp [isV, isM]; omega)]
 clear HC0
 by_cases hn : lL = 64
 · subst hn
   have HC2 : Hid (c = cdF (if decide (within (-16320) 16320 L) then none else range)) := by show _ = _; rw [HC1.out, lvE, if_pos HLN.out.symm, any_within]; cases decide (within (-16320) 16320 L) <;> rfl
   clear HC1 HLN
   have BR := HB1.out.ext HX.out
   have r0 := BR.cell (i := 0) (v := .int .i64 0) rfl; have r1 := BR.cell (i := 1) (v := .slice none 0 0) rfl; have y0 := BR.free (i := 0); have y1 := BR.free (i := 1)
   clear BR
   obtain ⟨⟨g0, g1, g2, g3, g4, g5, g6, g7, g8, g9, g10, g11, g12⟩, -⟩ := sq_cells (HB0.out.ext HX.out)
   go_enter Tryz.func38, Tryz.ntmps38
   go_wp2_with fail
   rw [HU.out]
   refine wp_loop_rounds 1 ?_
   rw [rounds_succ]
   go_wp2_with fail
   refine (UW.out _ (HE.out.trans HX.out)).mono ?_; rintro e w1 ⟨rfl, hx1⟩
   have HX1 := Lib.hid (HX.out.trans hx1)
   clear hx1 HX HU UW
   have HX := HX1
   clear HX1
   clear g0 g1 g2 g3 g4 g5 g6 g7 g8 g9 g10 g11 g12 r0 r1 y0 y1
   have BR := HB1.out.ext HX.out
   have r0 := BR.cell (i := 0) (v := .int .i64 0) rfl; have r1 := BR.cell (i := 1) (v := .slice none 0 0) rfl; have y0 := BR.free (i := 0); have y1 := BR.free (i := 1)
   clear BR
   obtain ⟨⟨g0, g1, g2, g3, g4, g5, g6, g7, g8, g9, g10, g11, g12⟩, -⟩ := sq_cells (HB0.out.ext HX.out)
   cases hb : decide (within (-16320) 16320 L) with
   | false =>
     have HC : Hid (c = 3) := by show _ = _; rw [HC2.out, hb]; rfl
     clear HC2 hb
     go_wp2_with fail
     clear g0 g1 g2 g3 g4 g5 g6 g7 g8 g9 g10 g11 g12 r0 r1 y0 y1
     refine (fail_any 3 _).mono ?_; rintro e wf ⟨rfl, hxf⟩
     have Xf := HX.out.trans hxf
     have BR := HB1.out.ext Xf
     have r0 := BR.cell (i := 0) (v := .int .i64 0) rfl; have r1 := BR.cell (i := 1) (v := .slice none 0 0) rfl; have y0 := BR.free (i := 0); have y1 := BR.free (i := 1)
     clear BR hxf
     go_wp2
     obtain ⟨q0, q1⟩ := er_cells 3 (.slice none 0 0) r0 r1
     exact bodyPost_ret (v := .agg #[.int .i64 3, .slice none 0 0]) (by simp [results, Tryz.results38, go_sem, q0, q1]) rfl ⟨by rw [HC.out], set2_ext (HE.out.trans Xf) (Nat.le_succ _) _ _⟩
   | true =>
     have HC : Hid (c = 0) := by show _ = _; rw [HC2.out, hb]; rfl
     clear HC2 hb
     go_wp2_with fail
     refine wp_loop_rounds 1 ?_
     rw [rounds_succ]
     go_wp2_with fail
     have Xf := HX.out
     try go_wp2
     obtain ⟨q0, q1⟩ := er_cells 0 (.slice none 0 0) r0 r1
     exact bodyPost_ret (v := .agg #[.int .i64 0, .slice none 0 0]) (by simp [results, Tryz.results38, go_sem, q0, q1]) rfl ⟨by rw [HC.out], set2_ext (HE.out.trans Xf) (Nat.le_succ _) _ _⟩
 · have HC : Hid (c = 14) := by show _ = _; rw [HC1.out, lvE, if_neg (fun e => hn (HLN.out.trans e))]; rfl
   have tn : ((lL : Int) != 64) = true := by simp; omega
   clear HC1 HLN hn
   have BR := HB1.out.ext HX.out
   have r0 := BR.cell (i := 0) (v := .int .i64 0) rfl; have r1 := BR.cell (i := 1) (v := .slice none 0 0) rfl; have y0 := BR.free (i := 0); have y1 := BR.free (i := 1)
   clear BR
   obtain ⟨⟨g0, g1, g2, g3, g4, g5, g6, g7, g8, g9, g10, g11, g12⟩, -⟩ := sq_cells (HB0.out.ext HX.out)
   go_enter Tryz.func38, Tryz.ntmps38
   go_wp2_with fail
   rw [HU.out]
   clear g0 g1 g2 g3 g4 g5 g6 g7 g8 g9 g10 g11 g12 r0 r1 y0 y1
   refine (fail_any 14 _).mono ?_; rintro e wf ⟨rfl, hxf⟩
   have Xf := HX.out.trans hxf
   have BR := HB1.out.ext Xf
   have r0 := BR.cell (i := 0) (v := .int .i64 0) rfl; have r1 := BR.cell (i := 1) (v := .slice none 0 0) rfl; have y0 := BR.free (i := 0); have y1 := BR.free (i := 1)
   clear BR hxf
   go_wp2
   obtain ⟨q0, q1⟩ := er_cells 14 (.slice none 0 0) r0 r1
   exact bodyPost_ret (v := .agg #[.int .i64 14, .slice none 0 0]) (by simp [results, Tryz.results38, go_sem, q0, q1]) rfl ⟨by rw [HC.out], set2_ext (HE.out.trans Xf) (Nat.le_succ _) _ _⟩
set_option maxHeartbeats 8000000 in
set_option maxRecDepth 20000 in
theorem rbounds_2 (gm ga gb gc gd gx gy : Int) (L s0 s1 s2 s3 : List Int) (aL a0 a1 a2 a3 : Option Addr) (lL cL l0 c0 l1 c1 l2 c2 l3 c3 : Nat) (w : World) (c : Int) (hc : c = cdF (cpF ⟨2, gm, ga, gb, gc, gd, gx, gy, L, s0, s1, s2, s3⟩)) (hL : Ints w (.slice aL lL cL) L) :
 Calls Tryz.prog 38 #[sqV 2 gm ga gb gc gd gx gy (.slice aL lL cL) (.slice a0 l0 c0) (.slice a1 l1 c1) (.slice a2 l2 c2) (.slice a3 l3 c3)] w fun e w' => e = .returned (.agg #[.int .i64 c, .slice none 0 0]) ∧ Ext w w' := by
 unfold sqV
 rw [cp_2] at hc
 have B0 := ((BoxIs.new w #[.int .i64 2, .int .i64 gm, .int .i64 ga, .int .i64 gb, .int .i64 gc, .int .i64 gd, .int .i64 gx, .int .i64 gy, .slice aL lL cL, .slice a0 l0 c0, .slice a1 l1 c1, .slice a2 l2 c2, .slice a3 l3 c3] 46).ext ((Ext.refl _).alloc (.cells #[.int .i64 0, .slice none 0 0] 43))).ext ((Ext.refl _).alloc (.cells #[.int .i64 gx, .int .i64 gy] 27))
 have B1 := (BoxIs.new (w.alloc (.cells #[.int .i64 2, .int .i64 gm, .int .i64 ga, .int .i64 gb, .int .i64 gc, .int .i64 gd, .int .i64 gx, .int .i64 gy, .slice aL lL cL, .slice a0 l0 c0, .slice a1 l1 c1, .slice a2 l2 c2, .slice a3 l3 c3] 46)) #[.int .i64 0, .slice none 0 0] 43).ext ((Ext.refl _).alloc (.cells #[.int .i64 gx, .int .i64 gy] 27))
 have E0 := (((Ext.refl w).alloc (.cells #[.int .i64 2, .int .i64 gm, .int .i64 ga, .int .i64 gb, .int .i64 gc, .int .i64 gd, .int .i64 gx, .int .i64 gy, .slice aL lL cL, .slice a0 l0 c0, .slice a1 l1 c1, .slice a2 l2 c2, .slice a3 l3 c3] 46)).alloc (.cells #[.int .i64 0, .slice none 0 0] 43)).alloc (.cells #[.int .i64 gx, .int .i64 gy] 27)
 obtain ⟨u, hu⟩ : ∃ z, ((w.alloc (.cells #[.int .i64 2, .int .i64 gm, .int .i64 ga, .int .i64 gb, .int .i64 gc, .int .i64 gd, .int .i64 gx, .int .i64 gy, .slice aL lL cL, .slice a0 l0 c0, .slice a1 l1 c1, .slice a2 l2 c2, .slice a3 l3 c3] 46)).alloc (.cells #[.int .i64 0, .slice none 0 0] 43)).alloc (.cells #[.int .i64 gx, .int .i64 gy] 27) = z := ⟨_, rfl⟩
 rw [hu] at B0 B1 E0
 rw [show (w.alloc (.cells #[.int .i64 2, .int .i64 gm, .int .i64 ga, .int .i64 gb, .int .i64 gc, .int .i64 gd, .int .i64 gx, .int .i64 gy, .slice aL lL cL, .slice a0 l0 c0, .slice a1 l1 c1, .slice a2 l2 c2, .slice a3 l3 c3] 46)).heap.size = w.heap.size + 1 by simp] at B1
 have HB0 := Lib.hid B0; have HB1 := Lib.hid B1; have HE := Lib.hid E0; have HU := Lib.hid hu; have HX := Lib.hid (Ext.refl u)
 clear B0 B1 E0 hu
 have hlen : lL = L.length := hL.len
 have UW := Lib.hid (fun W' (k : Ext w W') => within_any L (-16320) 16320 _ W' (hL.ext k))
 have HC0 := Lib.hid hc
 have HLN := Lib.hid hlen
 clear hc hL hlen
 by_cases t0 : gm < 0
 · have HC : Hid (c = 3) := by show _ = _; rw [HC0.out, if_neg (by simp [isV, isM]; omega)]; rfl
   clear HC0
   have BR := HB1.out.ext HX.out
   have r0 := BR.cell (i := 0) (v := .int .i64 0) rfl; have r1 := BR.cell (i := 1) (v := .slice none 0 0) rfl; have y0 := BR.free (i := 0); have y1 := BR.free (i := 1)
   clear BR
   obtain ⟨⟨g0, g1, g2, g3, g4, g5, g6, g7, g8, g9, g10, g11, g12⟩, -⟩ := sq_cells (HB0.out.ext HX.out)
   go_enter Tryz.func38, Tryz.ntmps38
   go_wp2_with fail
   rw [HU.out]
   clear g0 g1 g2 g3 g4 g5 g6 g7 g8 g9 g10 g11 g12 r0 r1 y0 y1
   refine (fail_any 3 _).mono ?_; rintro e wf ⟨rfl, hxf⟩
   have Xf := HX.out.trans hxf
   have BR := HB1.out.ext Xf
   have r0 := BR.cell (i := 0) (v := .int .i64 0) rfl; have r1 := BR.cell (i := 1) (v := .slice none 0 0) rfl; have y0 := BR.free (i := 0); have y1 := BR.free (i := 1)
   clear BR hxf
   go_wp2
   obtain ⟨q0, q1⟩ := er_cells 3 (.slice none 0 0) r0 r1
   exact bodyPost_ret (v := .agg #[.int .i64 3, .slice none 0 0]) (by simp [results, Tryz.results38, go_sem, q0, q1]) rfl ⟨by rw [HC.out], set2_ext (HE.out.trans Xf) (Nat.le_succ _) _ _⟩
 by_cases t1 : 3 < gm
 · have HC : Hid (c = 3) := by show _ = _; rw [HC0.out, if_neg (by simp [isV, isM]; omega)]; rfl
   clear HC0
   have BR := HB1.out.ext HX.out
   have r0 := BR.cell (i := 0) (v := .int .i64 0) rfl; have r1 := BR.cell (i := 1) (v := .slice none 0 0) rfl; have y0 := BR.free (i := 0); have y1 := BR.free (i := 1)
   clear BR
   obtain ⟨⟨g0, g1, g2, g3, g4, g5, g6, g7, g8, g9, g10, g11, g12⟩, -⟩ := sq_cells (HB0.out.ext HX.out)
   go_enter Tryz.func38, Tryz.ntmps38
   go_wp2_with fail
   rw [HU.out]
   clear g0 g1 g2 g3 g4 g5 g6 g7 g8 g9 g10 g11 g12 r0 r1 y0 y1
   refine (fail_any 3 _).mono ?_; rintro e wf ⟨rfl, hxf⟩
   have Xf := HX.out.trans hxf
   have BR := HB1.out.ext Xf
   have r0 := BR.cell (i := 0) (v := .int .i64 0) rfl; have r1 := BR.cell (i := 1) (v := .slice none 0 0) rfl; have y0 := BR.free (i := 0); have y1 := BR.free (i := 1)
   clear BR hxf
   go_wp2
   obtain ⟨q0, q1⟩ := er_cells 3 (.slice none 0 0) r0 r1
   exact bodyPost_ret (v := .agg #[.int .i64 3, .slice none 0 0]) (by simp [results, Tryz.results38, go_sem, q0, q1]) rfl ⟨by rw [HC.out], set2_ext (HE.out.trans Xf) (Nat.le_succ _) _ _⟩
 have HC1 : Hid (c = cdF (lvE L 64)) := by show _ = _; rw [HC0.out, if_pos (by simp [isV, isM]; omega)]
 clear HC0
 by_cases hn : lL = 64
 · subst hn
   have HC2 : Hid (c = cdF (if decide (within (-16320) 16320 L) then none else range)) := by show _ = _; rw [HC1.out, lvE, if_pos HLN.out.symm, any_within]; cases decide (within (-16320) 16320 L) <;> rfl
   clear HC1 HLN
   have BR := HB1.out.ext HX.out
   have r0 := BR.cell (i := 0) (v := .int .i64 0) rfl; have r1 := BR.cell (i := 1) (v := .slice none 0 0) rfl; have y0 := BR.free (i := 0); have y1 := BR.free (i := 1)
   clear BR
   obtain ⟨⟨g0, g1, g2, g3, g4, g5, g6, g7, g8, g9, g10, g11, g12⟩, -⟩ := sq_cells (HB0.out.ext HX.out)
   go_enter Tryz.func38, Tryz.ntmps38
   go_wp2_with fail
   rw [HU.out]
   refine wp_loop_rounds 1 ?_
   rw [rounds_succ]
   go_wp2_with fail
   refine (UW.out _ (HE.out.trans HX.out)).mono ?_; rintro e w1 ⟨rfl, hx1⟩
   have HX1 := Lib.hid (HX.out.trans hx1)
   clear hx1 HX HU UW
   have HX := HX1
   clear HX1
   clear g0 g1 g2 g3 g4 g5 g6 g7 g8 g9 g10 g11 g12 r0 r1 y0 y1
   have BR := HB1.out.ext HX.out
   have r0 := BR.cell (i := 0) (v := .int .i64 0) rfl; have r1 := BR.cell (i := 1) (v := .slice none 0 0) rfl; have y0 := BR.free (i := 0); have y1 := BR.free (i := 1)
   clear BR
   obtain ⟨⟨g0, g1, g2, g3, g4, g5, g6, g7, g8, g9, g10, g11, g12⟩, -⟩ := sq_cells (HB0.out.ext HX.out)
   cases hb : decide (within (-16320) 16320 L) with
   | false =>
     have HC : Hid (c = 3) := by show _ = _; rw [HC2.out, hb]; rfl
     clear HC2 hb
     go_wp2_with fail
     clear g0 g1 g2 g3 g4 g5 g6 g7 g8 g9 g10 g11 g12 r0 r1 y0 y1
     refine (fail_any 3 _).mono ?_; rintro e wf ⟨rfl, hxf⟩
     have Xf := HX.out.trans hxf
     have BR := HB1.out.ext Xf
     have r0 := BR.cell (i := 0) (v := .int .i64 0) rfl; have r1 := BR.cell (i := 1) (v := .slice none 0 0) rfl; have y0 := BR.free (i := 0); have y1 := BR.free (i := 1)
     clear BR hxf
     go_wp2
     obtain ⟨q0, q1⟩ := er_cells 3 (.slice none 0 0) r0 r1
     exact bodyPost_ret (v := .agg #[.int .i64 3, .slice none 0 0]) (by simp [results, Tryz.results38, go_sem, q0, q1]) rfl ⟨by rw [HC.out], set2_ext (HE.out.trans Xf) (Nat.le_succ _) _ _⟩
   | true =>
     have HC : Hid (c = 0) := by show _ = _; rw [HC2.out, hb]; rfl
     clear HC2 hb
     go_wp2_with fail
     refine wp_loop_rounds 1 ?_
     rw [rounds_succ]
     go_wp2_with fail
     have Xf := HX.out
     try go_wp2
     obtain ⟨q0, q1⟩ := er_cells 0 (.slice none 0 0) r0 r1
     exact bodyPost_ret (v := .agg #[.int .i64 0, .slice none 0 0]) (by simp [results, Tryz.results38, go_sem, q0, q1]) rfl ⟨by rw [HC.out], set2_ext (HE.out.trans Xf) (Nat.le_succ _) _ _⟩
 · have HC : Hid (c = 14) := by show _ = _; rw [HC1.out, lvE, if_neg (fun e => hn (HLN.out.trans e))]; rfl
   have tn : ((lL : Int) != 64) = true := by simp; omega
   clear HC1 HLN hn
   have BR := HB1.out.ext HX.out
   have r0 := BR.cell (i := 0) (v := .int .i64 0) rfl; have r1 := BR.cell (i := 1) (v := .slice none 0 0) rfl; have y0 := BR.free (i := 0); have y1 := BR.free (i := 1)
   clear BR
   obtain ⟨⟨g0, g1, g2, g3, g4, g5, g6, g7, g8, g9, g10, g11, g12⟩, -⟩ := sq_cells (HB0.out.ext HX.out)
   go_enter Tryz.func38, Tryz.ntmps38
   go_wp2_with fail
   rw [HU.out]
   clear g0 g1 g2 g3 g4 g5 g6 g7 g8 g9 g10 g11 g12 r0 r1 y0 y1
   refine (fail_any 14 _).mono ?_; rintro e wf ⟨rfl, hxf⟩
   have Xf := HX.out.trans hxf
   have BR := HB1.out.ext Xf
   have r0 := BR.cell (i := 0) (v := .int .i64 0) rfl; have r1 := BR.cell (i := 1) (v := .slice none 0 0) rfl; have y0 := BR.free (i := 0); have y1 := BR.free (i := 1)
   clear BR hxf
   go_wp2
   obtain ⟨q0, q1⟩ := er_cells 14 (.slice none 0 0) r0 r1
   exact bodyPost_ret (v := .agg #[.int .i64 14, .slice none 0 0]) (by simp [results, Tryz.results38, go_sem, q0, q1]) rfl ⟨by rw [HC.out], set2_ext (HE.out.trans Xf) (Nat.le_succ _) _ _⟩
set_option maxHeartbeats 8000000 in
set_option maxRecDepth 20000 in
theorem rbounds_3 (gm ga gb gc gd gx gy : Int) (L s0 s1 s2 s3 : List Int) (aL a0 a1 a2 a3 : Option Addr) (lL cL l0 c0 l1 c1 l2 c2 l3 c3 : Nat) (w : World) (c : Int) (hc : c = cdF (cpF ⟨3, gm, ga, gb, gc, gd, gx, gy, L, s0, s1, s2, s3⟩)) (h0 : Ints w (.slice a0 l0 c0) s0) (h1 : Ints w (.slice a1 l1 c1) s1) (h2 : Ints w (.slice a2 l2 c2) s2) (h3 : Ints w (.slice a3 l3 c3) s3) :
 Calls Tryz.prog 38 #[sqV 3 gm ga gb gc gd gx gy (.slice aL lL cL) (.slice a0 l0 c0) (.slice a1 l1 c1) (.slice a2 l2 c2) (.slice a3 l3 c3)] w fun e w' => e = .returned (.agg #[.int .i64 c, .slice none 0 0]) ∧ Ext w w' := by
 unfold sqV
 rw [cp_3] at hc
 have B0 := ((BoxIs.new w #[.int .i64 3, .int .i64 gm, .int .i64 ga, .int .i64 gb, .int .i64 gc, .int .i64 gd, .int .i64 gx, .int .i64 gy, .slice aL lL cL, .slice a0 l0 c0, .slice a1 l1 c1, .slice a2 l2 c2, .slice a3 l3 c3] 46).ext ((Ext.refl _).alloc (.cells #[.int .i64 0, .slice none 0 0] 43))).ext ((Ext.refl _).alloc (.cells #[.int .i64 gx, .int .i64 gy] 27))
 have B1 := (BoxIs.new (w.alloc (.cells #[.int .i64 3, .int .i64 gm, .int .i64 ga, .int .i64 gb, .int .i64 gc, .int .i64 gd, .int .i64 gx, .int .i64 gy, .slice aL lL cL, .slice a0 l0 c0, .slice a1 l1 c1, .slice a2 l2 c2, .slice a3 l3 c3] 46)) #[.int .i64 0, .slice none 0 0] 43).ext ((Ext.refl _).alloc (.cells #[.int .i64 gx, .int .i64 gy] 27))
 have E0 := (((Ext.refl w).alloc (.cells #[.int .i64 3, .int .i64 gm, .int .i64 ga, .int .i64 gb, .int .i64 gc, .int .i64 gd, .int .i64 gx, .int .i64 gy, .slice aL lL cL, .slice a0 l0 c0, .slice a1 l1 c1, .slice a2 l2 c2, .slice a3 l3 c3] 46)).alloc (.cells #[.int .i64 0, .slice none 0 0] 43)).alloc (.cells #[.int .i64 gx, .int .i64 gy] 27)
 obtain ⟨u, hu⟩ : ∃ z, ((w.alloc (.cells #[.int .i64 3, .int .i64 gm, .int .i64 ga, .int .i64 gb, .int .i64 gc, .int .i64 gd, .int .i64 gx, .int .i64 gy, .slice aL lL cL, .slice a0 l0 c0, .slice a1 l1 c1, .slice a2 l2 c2, .slice a3 l3 c3] 46)).alloc (.cells #[.int .i64 0, .slice none 0 0] 43)).alloc (.cells #[.int .i64 gx, .int .i64 gy] 27) = z := ⟨_, rfl⟩
 rw [hu] at B0 B1 E0
 rw [show (w.alloc (.cells #[.int .i64 3, .int .i64 gm, .int .i64 ga, .int .i64 gb, .int .i64 gc, .int .i64 gd, .int .i64 gx, .int .i64 gy, .slice aL lL cL, .slice a0 l0 c0, .slice a1 l1 c1, .slice a2 l2 c2, .slice a3 l3 c3] 46)).heap.size = w.heap.size + 1 by simp] at B1
 have HB0 := Lib.hid B0; have HB1 := Lib.hid B1; have HE := Lib.hid E0; have HU := Lib.hid hu; have HX := Lib.hid (Ext.refl u)
 clear B0 B1 E0 hu
 have N0 : Hid (l0 = s0.length) := h0.len
 have UW0 := Lib.hid (fun W' (k : Ext w W') => within_any s0 (-16320) 16320 _ W' (h0.ext k))
 have N1 : Hid (l1 = s1.length) := h1.len
 have UW1 := Lib.hid (fun W' (k : Ext w W') => within_any s1 (-16320) 16320 _ W' (h1.ext k))
 have N2 : Hid (l2 = s2.length) := h2.len
 have UW2 := Lib.hid (fun W' (k : Ext w W') => within_any s2 (-16320) 16320 _ W' (h2.ext k))
 have N3 : Hid (l3 = s3.length) := h3.len
 have UW3 := Lib.hid (fun W' (k : Ext w W') => within_any s3 (-16320) 16320 _ W' (h3.ext k))
 have HC0 := Lib.hid hc
 have UM := Lib.hid (fun W' (k : Ext u W') => within_any [ga, gb, gc, gd] 0 3 (.slice (some ⟨w.heap.size, 2, none⟩) 4 4) W' (md_ints (HB0.out.ext k)))
 clear hc h0 h1 h2 h3
 have BR := HB1.out.ext HX.out
 have r0 := BR.cell (i := 0) (v := .int .i64 0) rfl; have r1 := BR.cell (i := 1) (v := .slice none 0 0) rfl; have y0 := BR.free (i := 0); have y1 := BR.free (i := 1)
 clear BR
 obtain ⟨⟨g0, g1, g2, g3, g4, g5, g6, g7, g8, g9, g10, g11, g12⟩, -⟩ := sq_cells (HB0.out.ext HX.out)
 go_enter Tryz.func38, Tryz.ntmps38
 go_wp2_with fail
 rw [HU.out]
 refine (UM.out _ HX.out).mono ?_; rintro e w1 ⟨rfl, hx1⟩
 have HX1 := Lib.hid (HX.out.trans hx1)
 clear hx1 HX HU UM
 have HX := HX1
 clear HX1
 clear g0 g1 g2 g3 g4 g5 g6 g7 g8 g9 g10 g11 g12 r0 r1 y0 y1
 have BR := HB1.out.ext HX.out
 have r0 := BR.cell (i := 0) (v := .int .i64 0) rfl; have r1 := BR.cell (i := 1) (v := .slice none 0 0) rfl; have y0 := BR.free (i := 0); have y1 := BR.free (i := 1)
 clear BR
 obtain ⟨⟨g0, g1, g2, g3, g4, g5, g6, g7, g8, g9, g10, g11, g12⟩, -⟩ := sq_cells (HB0.out.ext HX.out)
 have HMB : Hid ((isM ga && isM gb && isM gc && isM gd) = decide (within 0 3 [ga, gb, gc, gd])) := md_within ga gb gc gd
 cases hb : decide (within 0 3 [ga, gb, gc, gd]) with
 | false =>
   have HC : Hid (c = 3) := by show _ = _; rw [HC0.out, HMB.out, hb]; rfl
   clear HC0 HMB hb
   go_wp2_with fail
   clear g0 g1 g2 g3 g4 g5 g6 g7 g8 g9 g10 g11 g12 r0 r1 y0 y1
   refine (fail_any 3 _).mono ?_; rintro e wf ⟨rfl, hxf⟩
   have Xf := HX.out.trans hxf
   have BR := HB1.out.ext Xf
   have r0 := BR.cell (i := 0) (v := .int .i64 0) rfl; have r1 := BR.cell (i := 1) (v := .slice none 0 0) rfl; have y0 := BR.free (i := 0); have y1 := BR.free (i := 1)
   clear BR hxf
   go_wp2
   obtain ⟨q0, q1⟩ := er_cells 3 (.slice none 0 0) r0 r1
   exact bodyPost_ret (v := .agg #[.int .i64 3, .slice none 0 0]) (by simp [results, Tryz.results38, go_sem, q0, q1]) rfl ⟨by rw [HC.out], set2_ext (HE.out.trans Xf) (Nat.le_succ _) _ _⟩
 | true =>
   have HC1 : Hid (c = cdF (lsE [s0, s1, s2, s3] 16)) := by show _ = _; rw [HC0.out, HMB.out, hb]; rfl
   clear HC0 HMB hb
   go_wp2_with fail
   refine wp_loop_rounds 5 ?_
   rw [rounds_succ]
   by_cases e0 : l0 = 16
   rotate_left
   · have HC : Hid (c = 14) := by show _ = _; rw [HC1.out, lsE_bad (l := s0) (by simp) (fun e => e0 (N0.out.trans e))]; rfl
     have tn : ((l0 : Int) != 16) = true := by simp; omega
     clear HC1
     go_wp2_with fail
     clear g0 g1 g2 g3 g4 g5 g6 g7 g8 g9 g10 g11 g12 r0 r1 y0 y1
     refine (fail_any 14 _).mono ?_; rintro e wf ⟨rfl, hxf⟩
     have Xf := HX.out.trans hxf
     have BR := HB1.out.ext Xf
     have r0 := BR.cell (i := 0) (v := .int .i64 0) rfl; have r1 := BR.cell (i := 1) (v := .slice none 0 0) rfl; have y0 := BR.free (i := 0); have y1 := BR.free (i := 1)
     clear BR hxf
     go_wp2
     obtain ⟨q0, q1⟩ := er_cells 14 (.slice none 0 0) r0 r1
     exact bodyPost_ret (v := .agg #[.int .i64 14, .slice none 0 0]) (by simp [results, Tryz.results38, go_sem, q0, q1]) rfl ⟨by rw [HC.out], set2_ext (HE.out.trans Xf) (Nat.le_succ _) _ _⟩
   subst e0
   go_wp2_with fail
   rw [rounds_succ]
   by_cases e1 : l1 = 16
   rotate_left
   · have HC : Hid (c = 14) := by show _ = _; rw [HC1.out, lsE_bad (l := s1) (by simp) (fun e => e1 (N1.out.trans e))]; rfl
     have tn : ((l1 : Int) != 16) = true := by simp; omega
     clear HC1
     go_wp2_with fail
     clear g0 g1 g2 g3 g4 g5 g6 g7 g8 g9 g10 g11 g12 r0 r1 y0 y1
     refine (fail_any 14 _).mono ?_; rintro e wf ⟨rfl, hxf⟩
     have Xf := HX.out.trans hxf
     have BR := HB1.out.ext Xf
     have r0 := BR.cell (i := 0) (v := .int .i64 0) rfl; have r1 := BR.cell (i := 1) (v := .slice none 0 0) rfl; have y0 := BR.free (i := 0); have y1 := BR.free (i := 1)
     clear BR hxf
     go_wp2
     obtain ⟨q0, q1⟩ := er_cells 14 (.slice none 0 0) r0 r1
     exact bodyPost_ret (v := .agg #[.int .i64 14, .slice none 0 0]) (by simp [results, Tryz.results38, go_sem, q0, q1]) rfl ⟨by rw [HC.out], set2_ext (HE.out.trans Xf) (Nat.le_succ _) _ _⟩
   subst e1
   go_wp2_with fail
   rw [rounds_succ]
   by_cases e2 : l2 = 16
   rotate_left
   · have HC : Hid (c = 14) := by show _ = _; rw [HC1.out, lsE_bad (l := s2) (by simp) (fun e => e2 (N2.out.trans e))]; rfl
     have tn : ((l2 : Int) != 16) = true := by simp; omega
     clear HC1
     go_wp2_with fail
     clear g0 g1 g2 g3 g4 g5 g6 g7 g8 g9 g10 g11 g12 r0 r1 y0 y1
     refine (fail_any 14 _).mono ?_; rintro e wf ⟨rfl, hxf⟩
     have Xf := HX.out.trans hxf
     have BR := HB1.out.ext Xf
     have r0 := BR.cell (i := 0) (v := .int .i64 0) rfl; have r1 := BR.cell (i := 1) (v := .slice none 0 0) rfl; have y0 := BR.free (i := 0); have y1 := BR.free (i := 1)
     clear BR hxf
     go_wp2
     obtain ⟨q0, q1⟩ := er_cells 14 (.slice none 0 0) r0 r1
     exact bodyPost_ret (v := .agg #[.int .i64 14, .slice none 0 0]) (by simp [results, Tryz.results38, go_sem, q0, q1]) rfl ⟨by rw [HC.out], set2_ext (HE.out.trans Xf) (Nat.le_succ _) _ _⟩
   subst e2
   go_wp2_with fail
   rw [rounds_succ]
   by_cases e3 : l3 = 16
   rotate_left
   · have HC : Hid (c = 14) := by show _ = _; rw [HC1.out, lsE_bad (l := s3) (by simp) (fun e => e3 (N3.out.trans e))]; rfl
     have tn : ((l3 : Int) != 16) = true := by simp; omega
     clear HC1
     go_wp2_with fail
     clear g0 g1 g2 g3 g4 g5 g6 g7 g8 g9 g10 g11 g12 r0 r1 y0 y1
     refine (fail_any 14 _).mono ?_; rintro e wf ⟨rfl, hxf⟩
     have Xf := HX.out.trans hxf
     have BR := HB1.out.ext Xf
     have r0 := BR.cell (i := 0) (v := .int .i64 0) rfl; have r1 := BR.cell (i := 1) (v := .slice none 0 0) rfl; have y0 := BR.free (i := 0); have y1 := BR.free (i := 1)
     clear BR hxf
     go_wp2
     obtain ⟨q0, q1⟩ := er_cells 14 (.slice none 0 0) r0 r1
     exact bodyPost_ret (v := .agg #[.int .i64 14, .slice none 0 0]) (by simp [results, Tryz.results38, go_sem, q0, q1]) rfl ⟨by rw [HC.out], set2_ext (HE.out.trans Xf) (Nat.le_succ _) _ _⟩
   subst e3
   go_wp2_with fail
   rw [rounds_succ]
   go_wp2_with fail
   have HC2 : Hid (c = cdF (if (s0.any noLv || s1.any noLv || s2.any noLv || s3.any noLv) = true then range else none)) := by show _ = _; rw [HC1.out, lsE_good N0.out.symm N1.out.symm N2.out.symm N3.out.symm]
   clear HC1 N0 N1 N2 N3
   refine wp_loop_rounds 5 ?_
   rw [rounds_succ]
   go_wp2_with fail
   refine (UW0.out _ (HE.out.trans HX.out)).mono ?_; rintro e v0 ⟨rfl, hx1⟩
   have HX1 := Lib.hid (HX.out.trans hx1)
   clear hx1 HX UW0
   have HX := HX1
   clear HX1
   clear g0 g1 g2 g3 g4 g5 g6 g7 g8 g9 g10 g11 g12 r0 r1 y0 y1
   have BR := HB1.out.ext HX.out
   have r0 := BR.cell (i := 0) (v := .int .i64 0) rfl; have r1 := BR.cell (i := 1) (v := .slice none 0 0) rfl; have y0 := BR.free (i := 0); have y1 := BR.free (i := 1)
   clear BR
   obtain ⟨⟨g0, g1, g2, g3, g4, g5, g6, g7, g8, g9, g10, g11, g12⟩, -⟩ := sq_cells (HB0.out.ext HX.out)
   obtain ⟨d0, hb0⟩ : ∃ z, decide (within (-16320) 16320 s0) = z := ⟨_, rfl⟩
   rw [hb0]
   have D0 : Hid (s0.any noLv = !d0) := by show _ = _; rw [any_within, hb0]
   clear hb0
   cases d0 with
   | false =>
     have HC : Hid (c = 3) := by show _ = _; rw [HC2.out]; simp [D0.out]; rfl
     clear HC2
     go_wp2_with fail
     clear g0 g1 g2 g3 g4 g5 g6 g7 g8 g9 g10 g11 g12 r0 r1 y0 y1
     refine (fail_any 3 _).mono ?_; rintro e wf ⟨rfl, hxf⟩
     have Xf := HX.out.trans hxf
     have BR := HB1.out.ext Xf
     have r0 := BR.cell (i := 0) (v := .int .i64 0) rfl; have r1 := BR.cell (i := 1) (v := .slice none 0 0) rfl; have y0 := BR.free (i := 0); have y1 := BR.free (i := 1)
     clear BR hxf
     go_wp2
     obtain ⟨q0, q1⟩ := er_cells 3 (.slice none 0 0) r0 r1
     exact bodyPost_ret (v := .agg #[.int .i64 3, .slice none 0 0]) (by simp [results, Tryz.results38, go_sem, q0, q1]) rfl ⟨by rw [HC.out], set2_ext (HE.out.trans Xf) (Nat.le_succ _) _ _⟩
   | true =>
   go_wp2_with fail
   rw [rounds_succ]
   go_wp2_with fail
   refine (UW1.out _ (HE.out.trans HX.out)).mono ?_; rintro e v1 ⟨rfl, hx1⟩
   have HX1 := Lib.hid (HX.out.trans hx1)
   clear hx1 HX UW1
   have HX := HX1
   clear HX1
   clear g0 g1 g2 g3 g4 g5 g6 g7 g8 g9 g10 g11 g12 r0 r1 y0 y1
   have BR := HB1.out.ext HX.out
   have r0 := BR.cell (i := 0) (v := .int .i64 0) rfl; have r1 := BR.cell (i := 1) (v := .slice none 0 0) rfl; have y0 := BR.free (i := 0); have y1 := BR.free (i := 1)
   clear BR
   obtain ⟨⟨g0, g1, g2, g3, g4, g5, g6, g7, g8, g9, g10, g11, g12⟩, -⟩ := sq_cells (HB0.out.ext HX.out)
   obtain ⟨d1, hb1⟩ : ∃ z, decide (within (-16320) 16320 s1) = z := ⟨_, rfl⟩
   rw [hb1]
   have D1 : Hid (s1.any noLv = !d1) := by show _ = _; rw [any_within, hb1]
   clear hb1
   cases d1 with
   | false =>
     have HC : Hid (c = 3) := by show _ = _; rw [HC2.out]; simp [D0.out, D1.out]; rfl
     clear HC2
     go_wp2_with fail
     clear g0 g1 g2 g3 g4 g5 g6 g7 g8 g9 g10 g11 g12 r0 r1 y0 y1
     refine (fail_any 3 _).mono ?_; rintro e wf ⟨rfl, hxf⟩
     have Xf := HX.out.trans hxf
     have BR := HB1.out.ext Xf
     have r0 := BR.cell (i := 0) (v := .int .i64 0) rfl; have r1 := BR.cell (i := 1) (v := .slice none 0 0) rfl; have y0 := BR.free (i := 0); have y1 := BR.free (i := 1)
     clear BR hxf
     go_wp2
     obtain ⟨q0, q1⟩ := er_cells 3 (.slice none 0 0) r0 r1
     exact bodyPost_ret (v := .agg #[.int .i64 3, .slice none 0 0]) (by simp [results, Tryz.results38, go_sem, q0, q1]) rfl ⟨by rw [HC.out], set2_ext (HE.out.trans Xf) (Nat.le_succ _) _ _⟩
   | true =>
   go_wp2_with fail
   rw [rounds_succ]
   go_wp2_with fail
   refine (UW2.out _ (HE.out.trans HX.out)).mono ?_; rintro e v2 ⟨rfl, hx1⟩
   have HX1 := Lib.hid (HX.out.trans hx1)
   clear hx1 HX UW2
   have HX := HX1
   clear HX1
   clear g0 g1 g2 g3 g4 g5 g6 g7 g8 g9 g10 g11 g12 r0 r1 y0 y1
   have BR := HB1.out.ext HX.out
   have r0 := BR.cell (i := 0) (v := .int .i64 0) rfl; have r1 := BR.cell (i := 1) (v := .slice none 0 0) rfl; have y0 := BR.free (i := 0); have y1 := BR.free (i := 1)
   clear BR
   obtain ⟨⟨g0, g1, g2, g3, g4, g5, g6, g7, g8, g9, g10, g11, g12⟩, -⟩ := sq_cells (HB0.out.ext HX.out)
   obtain ⟨d2, hb2⟩ : ∃ z, decide (within (-16320) 16320 s2) = z := ⟨_, rfl⟩
   rw [hb2]
   have D2 : Hid (s2.any noLv = !d2) := by show _ = _; rw [any_within, hb2]
   clear hb2
   cases d2 with
   | false =>
     have HC : Hid (c = 3) := by show _ = _; rw [HC2.out]; simp [D0.out, D1.out, D2.out]; rfl
     clear HC2
     go_wp2_with fail
     clear g0 g1 g2 g3 g4 g5 g6 g7 g8 g9 g10 g11 g12 r0 r1 y0 y1
     refine (fail_any 3 _).mono ?_; rintro e wf ⟨rfl, hxf⟩
     have Xf := HX.out.trans hxf
     have BR := HB1.out.ext Xf
     have r0 := BR.cell (i := 0) (v := .int .i64 0) rfl; have r1 := BR.cell (i := 1) (v := .slice none 0 0) rfl; have y0 := BR.free (i := 0); have y1 := BR.free (i := 1)
     clear BR hxf
     go_wp2
     obtain ⟨q0, q1⟩ := er_cells 3 (.slice none 0 0) r0 r1
     exact bodyPost_ret (v := .agg #[.int .i64 3, .slice none 0 0]) (by simp [results, Tryz.results38, go_sem, q0, q1]) rfl ⟨by rw [HC.out], set2_ext (HE.out.trans Xf) (Nat.le_succ _) _ _⟩
   | true =>
   go_wp2_with fail
   rw [rounds_succ]
   go_wp2_with fail
   refine (UW3.out _ (HE.out.trans HX.out)).mono ?_; rintro e v3 ⟨rfl, hx1⟩
   have HX1 := Lib.hid (HX.out.trans hx1)
   clear hx1 HX UW3
   have HX := HX1
   clear HX1
   clear g0 g1 g2 g3 g4 g5 g6 g7 g8 g9 g10 g11 g12 r0 r1 y0 y1
   have BR := HB1.out.ext HX.out
   have r0 := BR.cell (i := 0) (v := .int .i64 0) rfl; have r1 := BR.cell (i := 1) (v := .slice none 0 0) rfl; have y0 := BR.free (i := 0); have y1 := BR.free (i := 1)
   clear BR
   obtain ⟨⟨g0, g1, g2, g3, g4, g5, g6, g7, g8, g9, g10, g11, g12⟩, -⟩ := sq_cells (HB0.out.ext HX.out)
   obtain ⟨d3, hb3⟩ : ∃ z, decide (within (-16320) 16320 s3) = z := ⟨_, rfl⟩
   rw [hb3]
   have D3 : Hid (s3.any noLv = !d3) := by show _ = _; rw [any_within, hb3]
   clear hb3
   cases d3 with
   | false =>
     have HC : Hid (c = 3) := by show _ = _; rw [HC2.out]; simp [D0.out, D1.out, D2.out, D3.out]; rfl
     clear HC2
     go_wp2_with fail
     clear g0 g1 g2 g3 g4 g5 g6 g7 g8 g9 g10 g11 g12 r0 r1 y0 y1
     refine (fail_any 3 _).mono ?_; rintro e wf ⟨rfl, hxf⟩
     have Xf := HX.out.trans hxf
     have BR := HB1.out.ext Xf
     have r0 := BR.cell (i := 0) (v := .int .i64 0) rfl; have r1 := BR.cell (i := 1) (v := .slice none 0 0) rfl; have y0 := BR.free (i := 0); have y1 := BR.free (i := 1)
     clear BR hxf
     go_wp2
     obtain ⟨q0, q1⟩ := er_cells 3 (.slice none 0 0) r0 r1
     exact bodyPost_ret (v := .agg #[.int .i64 3, .slice none 0 0]) (by simp [results, Tryz.results38, go_sem, q0, q1]) rfl ⟨by rw [HC.out], set2_ext (HE.out.trans Xf) (Nat.le_succ _) _ _⟩
   | true =>
   go_wp2_with fail
   rw [rounds_succ]
   have HC : Hid (c = 0) := by show _ = _; rw [HC2.out]; simp [D0.out, D1.out, D2.out, D3.out]; rfl
   clear HC2
   have Xf := HX.out
   try go_wp2
   obtain ⟨q0, q1⟩ := er_cells 0 (.slice none 0 0) r0 r1
   exact bodyPost_ret (v := .agg #[.int .i64 0, .slice none 0 0]) (by simp [results, Tryz.results38, go_sem, q0, q1]) rfl ⟨by rw [HC.out], set2_ext (HE.out.trans Xf) (Nat.le_succ _) _ _⟩
end Go.Proofs.YtcekpngkfldgkaaGreatDoor