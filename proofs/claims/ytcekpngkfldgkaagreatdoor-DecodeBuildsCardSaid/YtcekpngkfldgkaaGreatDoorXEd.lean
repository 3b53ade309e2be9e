/- kinref21: place, leans, Build. -/
import Derived.Test.YtcekpngkfldgkaaGreatDoorXTk
import Derived.Test.YtcekpngkfldgkaaGreatDoorXEb
import Derived.Test.YtcekpngkfldgkaaGreatDoorXEc
import Derived.Test.YtcekpngkfldgkaaGreatDoorXDeY
import Derived.Deep.RegionHeld3
import Derived.Deep.CutBlock
namespace Go.Proofs.YtcekpngkfldgkaaGreatDoor
set_option linter.unusedVariables false
set_option linter.unusedSimpArgs false
open Go.RowKit Go.Extern.Stop Go.Stop Go.Extern
theorem tm8 (x : Int) : Int.tmod x 8 = if 0 ≤ x then x % 8 else -((-x) % 8) := by
 by_cases h : 0 ≤ x
 · rw [if_pos h]; exact Int.tmod_eq_emod_of_nonneg h
 · rw [if_neg h]
   have e := Int.neg_tmod (-x) 8
   rw [Int.neg_neg] at e
   rw [e, Int.tmod_eq_emod_of_nonneg (by omega)]
set_option maxHeartbeats 2000000 in
set_option maxRecDepth 20000 in
theorem rplace_any (W H x y : Int) (zs : List Int) (fa : Option Addr) (fn fc : Nat) (w : World) (hm : may W H zs) :
 Calls Tryz.prog 36 #[.agg #[.int .i64 W, .int .i64 H, .slice fa fn fc], .int .i64 x, .int .i64 y] w fun e w' => e = .returned (.bool (decide (plP W H x y))) ∧ Ext w w' := by
 have sw := sideB_true hm.1; have sh := sideB_true hm.2.1
 obtain ⟨r, hr⟩ : ∃ z, Int.tmod x 8 = z := ⟨_, rfl⟩
 obtain ⟨s, hs⟩ : ∃ z, Int.tmod y 8 = z := ⟨_, rfl⟩
 have hr2 := hr; have hs2 := hs
 rw [tm8] at hr2 hs2
 have wr : IntKind.i64.wrap r = r := by rw [IntKind.wrap_i64]; split at hr2 <;> omega
 have ws : IntKind.i64.wrap s = s := by rw [IntKind.wrap_i64]; split at hs2 <;> omega
 have UL := Lib.hid (fun (W' : World) => lies_any W H x y 8 (.slice fa fn fc) fa fn fc W' rfl (by omega) (by omega) (by omega))
 have E0 := (Ext.refl w).alloc (.cells #[.int .i64 W, .int .i64 H, .slice fa fn fc] 24)
 obtain ⟨d, hd⟩ : ∃ z, decide (plP W H x y) = z := ⟨_, rfl⟩
 have HD : Hid (d = (decide (r = 0) && decide (s = 0) && liesB W H x y 8)) := by
  show _ = _
  rw [← hd]
  by_cases h : plP W H x y
  · rw [decide_eq_true h]
    unfold plP at h
    have h1 : r = 0 := by split at hr2 <;> omega
    have h2 : s = 0 := by split at hs2 <;> omega
    simp [liesB, h1, h2]
    omega
  · rw [decide_eq_false h]
    symm
    cases e : (decide (r = 0) && decide (s = 0) && liesB W H x y 8) with
    | false => rfl
    | true =>
      simp [liesB] at e
      refine absurd ?_ h
      unfold plP
      split at hr2 <;> split at hs2 <;> omega
 rw [hd]
 obtain ⟨lb, hlb⟩ : ∃ z, liesB W H x y 8 = z := ⟨_, rfl⟩
 rw [hlb] at UL HD
 clear hd hr2 hs2 sw sh hm hlb
 have HE := Lib.hid E0
 clear E0
 by_cases h1 : r = 0
 · have t1 : (r == 0) = true := by simp [h1]
   by_cases h2 : s = 0
   · have t2 : (s == 0) = true := by simp [h2]
     have HG : Hid (d = lb) := by show _ = _; rw [HD.out, decide_eq_true h1, decide_eq_true h2]; rfl
     clear HD h1 h2
     go_enter Tryz.func36, Tryz.ntmps36
     go_wp2_with fail
     refine (UL.out _).mono ?_; rintro e w1 ⟨rfl, hx1⟩
     have E1 := HE.out.trans hx1
     go_wp2
     go_ret
     exact ⟨by rw [HG.out]; rfl, E1⟩
   · have t2 : (s == 0) = false := by simp [h2]
     have HG : Hid (d = false) := by show _ = _; rw [HD.out, decide_eq_true h1, decide_eq_false h2]; rfl
     clear HD h1 h2 UL
     go_enter Tryz.func36, Tryz.ntmps36
     go_wp2
     go_ret
     exact ⟨by rw [HG.out]; rfl, HE.out⟩
 · have t1 : (r == 0) = false := by simp [h1]
   have HG : Hid (d = false) := by show _ = _; rw [HD.out, decide_eq_false h1]; rfl
   clear HD h1 UL
   go_enter Tryz.func36, Tryz.ntmps36
   go_wp2
   go_ret
   exact ⟨by rw [HG.out]; rfl, HE.out⟩
set_option maxHeartbeats 2000000 in
set_option maxRecDepth 20000 in
theorem rleans_any (PW PH W H : Int) (ps : List Int) (fa pa : Option Addr) (fn fc pn pc : Nat) (w : World) (hp : Ints w (.slice pa pn pc) ps) :
 Calls Tryz.prog 37 #[.agg #[.int .i64 W, .int .i64 H, .slice fa fn fc], .agg #[.int .i64 PW, .int .i64 PH, .slice pa pn pc]] w fun e w' => e = .returned (.bool (decide (leanP PW PH ps W H))) ∧ Ext w w' := by
 have UM := Lib.hid (fun (W' : World) (k : Ext w W') => rmay_any PW PH ps pa pn pc W' (hp.ext k))
 have B0 := (BoxIs.new w #[.int .i64 W, .int .i64 H, .slice fa fn fc] 24).ext ((Ext.refl _).alloc (.cells #[.int .i64 PW, .int .i64 PH, .slice pa pn pc] 24))
 have B1 := BoxIs.new (w.alloc (.cells #[.int .i64 W, .int .i64 H, .slice fa fn fc] 24)) #[.int .i64 PW, .int .i64 PH, .slice pa pn pc] 24
 have E0 := ((Ext.refl w).alloc (.cells #[.int .i64 W, .int .i64 H, .slice fa fn fc] 24)).alloc (.cells #[.int .i64 PW, .int .i64 PH, .slice pa pn pc] 24)
 obtain ⟨u, hu⟩ : ∃ z, (w.alloc (.cells #[.int .i64 W, .int .i64 H, .slice fa fn fc] 24)).alloc (.cells #[.int .i64 PW, .int .i64 PH, .slice pa pn pc] 24) = z := ⟨_, rfl⟩
 rw [hu] at B0 B1 E0
 rw [show (w.alloc (.cells #[.int .i64 W, .int .i64 H, .slice fa fn fc] 24)).heap.size = w.heap.size + 1 by simp] at B1
 have HB0 := Lib.hid B0; have HB1 := Lib.hid B1; have HE := Lib.hid E0; have HU := Lib.hid hu
 obtain ⟨d, hd⟩ : ∃ z, decide (leanP PW PH ps W H) = z := ⟨_, rfl⟩
 have HD : Hid (d = (decide (may PW PH ps) && decide (PW = W) && decide (PH = H))) := by
  show _ = _
  rw [← hd]
  unfold leanP
  by_cases h1 : may PW PH ps <;> by_cases h2 : PW = W <;> by_cases h3 : PH = H <;> simp [h1, h2, h3]
 rw [hd]
 clear B0 B1 E0 hu hd hp
 go_enter Tryz.func37, Tryz.ntmps37
 go_wp2_with fail
 rw [HU.out]
 refine (UM.out _ HE.out).mono ?_; rintro e w1 ⟨rfl, hx1⟩
 have f0 := (HB0.out.ext hx1).cell (i := 0) (v := .int .i64 W) rfl; have f1 := (HB0.out.ext hx1).cell (i := 1) (v := .int .i64 H) rfl
 have p0 := (HB1.out.ext hx1).cell (i := 0) (v := .int .i64 PW) rfl; have p1 := (HB1.out.ext hx1).cell (i := 1) (v := .int .i64 PH) rfl
 have HE1 := Lib.hid (HE.out.trans hx1)
 clear hx1 HE HU UM
 obtain ⟨mb, hmb⟩ : ∃ z, decide (may PW PH ps) = z := ⟨_, rfl⟩
 rw [hmb]
 rw [hmb] at HD
 clear hmb
 cases mb with
 | false =>
   have HG : Hid (d = false) := by show _ = _; rw [HD.out]; rfl
   clear HD
   go_wp2
   go_ret
   exact ⟨by rw [HG.out]; rfl, HE1.out⟩
 | true =>
   by_cases h1 : PW = W
   · have t1 : (PW == W) = true := by simp [h1]
     by_cases h2 : PH = H
     · have t2 : (PH == H) = true := by simp [h2]
       have HG : Hid (d = true) := by show _ = _; rw [HD.out, decide_eq_true h1, decide_eq_true h2]; rfl
       clear HD h1 h2
       go_wp2
       go_ret
       exact ⟨by rw [HG.out]; rfl, HE1.out⟩
     · have t2 : (PH == H) = false := by simp [h2]
       have HG : Hid (d = false) := by show _ = _; rw [HD.out, decide_eq_true h1, decide_eq_false h2]; rfl
       clear HD h1 h2
       go_wp2
       go_ret
       exact ⟨by rw [HG.out]; rfl, HE1.out⟩
   · have t1 : (PW == W) = false := by simp [h1]
     have HG : Hid (d = false) := by show _ = _; rw [HD.out, decide_eq_false h1]; rfl
     clear HD h1
     go_wp2
     go_ret
     exact ⟨by rw [HG.out]; rfl, HE1.out⟩
theorem BoxIs.other2 {w : World} {b b0 : Nat} {cs : Array Value} {T : TypeId} (h : BoxIs w b cs T) (hb : b0 ≠ b) (v0 v1 : Value) : BoxIs ((w.setCell ⟨b0, 0, none⟩ v0).setCell ⟨b0, 1, none⟩ v1) b cs T := (h.other (p := ⟨b0, 0, none⟩) hb v0).other (p := ⟨b0, 1, none⟩) hb v1
theorem BoxIs.sets2 {w : World} {b : Nat} {a0 a1 : Value} {T : TypeId} (h : BoxIs w b #[a0, a1] T) (v0 v1 : Value) : BoxIs ((w.setCell ⟨b, 0, none⟩ v0).setCell ⟨b, 1, none⟩ v1) b #[v0, v1] T := (h.set (i := 0) v0).set (i := 1) v1
theorem any_bounds (q : Sq) (vL v0 v1 v2 v3 : Value) (w : World) (hk : 0 ≤ q.k ∧ q.k ≤ 3) (hs : SqIs w q vL v0 v1 v2 v3) : Calls Tryz.prog 38 #[sqQ q vL v0 v1 v2 v3] w fun e w' => e = .returned (.agg #[.int .i64 (cdF (cpF q)), .slice none 0 0]) ∧ Ext w w' := by
 obtain ⟨hL, h0, h1, h2, h3⟩ := hs
 obtain ⟨aL, lL, cL, rfl⟩ := hL.slf
 obtain ⟨a0, l0, c0, rfl⟩ := h0.slf
 obtain ⟨a1, l1, c1, rfl⟩ := h1.slf
 obtain ⟨a2, l2, c2, rfl⟩ := h2.slf
 obtain ⟨a3, l3, c3, rfl⟩ := h3.slf
 obtain ⟨k, m, a, b, c, d, gx, gy, L, s0, s1, s2, s3⟩ := q
 unfold sqQ
 dsimp only at *
 rcases (by omega : k = 0 ∨ k = 1 ∨ k = 2 ∨ k = 3) with rfl | rfl | rfl | rfl
 · exact rbounds_0 m a b c d gx gy L s0 s1 s2 s3 aL a0 a1 a2 a3 lL cL l0 c0 l1 c1 l2 c2 l3 c3 w _ rfl
 · exact rbounds_1 m a b c d gx gy L s0 s1 s2 s3 aL a0 a1 a2 a3 lL cL l0 c0 l1 c1 l2 c2 l3 c3 w _ rfl hL
 · exact rbounds_2 m a b c d gx gy L s0 s1 s2 s3 aL a0 a1 a2 a3 lL cL l0 c0 l1 c1 l2 c2 l3 c3 w _ rfl hL
 · exact rbounds_3 m a b c d gx gy L s0 s1 s2 s3 aL a0 a1 a2 a3 lL cL l0 c0 l1 c1 l2 c2 l3 c3 w _ rfl h0 h1 h2 h3
theorem cp_flat (q : Sq) : ∀ e, cpF q = some e → e.1 = [] ∧ e.2 ≠ 0 := by
 intro e he
 unfold cpF lsE at he
 split at he
 · split at he
   · split at he
     · split at he
       · cases he; exact ⟨rfl, by decide⟩
       · cases he
     · cases he; exact ⟨rfl, by decide⟩
   · split at he
     · split at he
       · split at he
         · cases he; exact ⟨rfl, by decide⟩
         · cases he
       · cases he; exact ⟨rfl, by decide⟩
     · cases he
 · cases he; exact ⟨rfl, by decide⟩
theorem ck_flat {W H : Int} {zs : List Int} {PW PH : Int} {ps : List Int} {x y qp : Int} {q : Sq} : ∀ e, ckD W H zs PW PH ps x y qp q = some e → e.1 = [] ∧ e.2 ≠ 0 := by
 intro e he
 unfold ckD at he
 split at he
 · split at he
   · split at he
     · split at he
       · split at he
         · cases he; exact ⟨rfl, by decide⟩
         · exact cp_flat q e he
       · cases he; exact ⟨rfl, by decide⟩
     · cases he; exact ⟨rfl, by decide⟩
   · cases he; exact ⟨rfl, by decide⟩
 · cases he; exact ⟨rfl, by decide⟩
def RdP (w : World) (r : Fall × Fr) (e : Ending) (w' : World) : Prop := ∃ a n c, e = .returned (.tuple #[.agg #[.int .i64 r.2.1, .int .i64 r.2.2.1, .slice a n c], .agg #[.int .i64 (cdF r.1), .slice none 0 0]]) ∧ Ext w w' ∧ w'.ownsRow w.heap.size 3 1 (.slice a n c) n (r.2.2.2.map (Value.int .i64)) ∧ n = r.2.2.2.length
theorem BoxIs.c3 {w : World} {b : Nat} {v0 v1 v2 : Value} {T : TypeId} (h : BoxIs w b #[v0, v1, v2] T) : w.cell? ⟨b, 0, none⟩ = some v0 ∧ w.cell? ⟨b, 1, none⟩ = some v1 ∧ w.cell? ⟨b, 2, none⟩ = some v2 := ⟨h.cell rfl, h.cell rfl, h.cell rfl⟩
theorem BoxIs.f3 {w : World} {b : Nat} {v0 v1 v2 : Value} {T : TypeId} (h : BoxIs w b #[v0, v1, v2] T) : w.frozen? ⟨b, 0, none⟩ = false ∧ w.frozen? ⟨b, 1, none⟩ = false ∧ w.frozen? ⟨b, 2, none⟩ = false := ⟨h.free, h.free, h.free⟩
theorem BoxIs.c2 {w : World} {b : Nat} {v0 v1 : Value} {T : TypeId} (h : BoxIs w b #[v0, v1] T) : (w.cell? ⟨b, 0, none⟩ = some v0 ∧ w.cell? ⟨b, 1, none⟩ = some v1) ∧ w.frozen? ⟨b, 0, none⟩ = false ∧ w.frozen? ⟨b, 1, none⟩ = false := ⟨⟨h.cell rfl, h.cell rfl⟩, h.free, h.free⟩
def RBx (w W' : World) (F P S : Array Value) (ec : Int) : Prop := Ext w W' ∧ BoxIs W' w.heap.size F 24 ∧ BoxIs W' (w.heap.size + 1) P 24 ∧ BoxIs W' (w.heap.size + 1 + 1) S 46 ∧ BoxIs W' (w.heap.size + 1 + 1 + 1) #[.int .i64 0, .int .i64 0, .slice none 0 0] 24 ∧ BoxIs W' (w.heap.size + 1 + 1 + 1 + 1) #[.int .i64 0, .slice none 0 0] 43 ∧ BoxIs W' (w.heap.size + 1 + 1 + 1 + 1 + 1) #[.int .i64 ec, .slice none 0 0] 43
theorem RBx.ext {w W' W2 : World} {F P S : Array Value} {ec : Int} (h : RBx w W' F P S ec) (k : Ext W' W2) : RBx w W2 F P S ec := ⟨h.1.trans k, h.2.1.ext k, h.2.2.1.ext k, h.2.2.2.1.ext k, h.2.2.2.2.1.ext k, h.2.2.2.2.2.1.ext k, h.2.2.2.2.2.2.ext k⟩
theorem RBx.set {w W' : World} {F P S : Array Value} {c ec : Int} (h : RBx w W' F P S c) : RBx w ((W'.setCell ⟨w.heap.size + 1 + 1 + 1 + 1 + 1, 0, none⟩ (.int .i64 ec)).setCell ⟨w.heap.size + 1 + 1 + 1 + 1 + 1, 1, none⟩ (.slice none 0 0)) F P S ec :=
 ⟨set2_ext h.1 (by omega) _ _, h.2.1.other2 (by omega) _ _, h.2.2.1.other2 (by omega) _ _, h.2.2.2.1.other2 (by omega) _ _, h.2.2.2.2.1.other2 (by omega) _ _, h.2.2.2.2.2.1.other2 (by omega) _ _, h.2.2.2.2.2.2.sets2 _ _⟩
set_option maxHeartbeats 8000000 in
set_option maxRecDepth 20000 in
theorem rBuild_any (W H PW PH x y qp : Int) (zs ps : List Int) (fa pa : Option Addr) (fn fc pn pc : Nat) (q : Sq) (L s0 s1 s2 s3 : Value) (w : World) (hf : Ints w (.slice fa fn fc) zs) (hp : Ints w (.slice pa pn pc) ps) (hs : SqIs w q L s0 s1 s2 s3) :
 Calls Tryz.prog 14 #[.agg #[.int .i64 W, .int .i64 H, .slice fa fn fc], .agg #[.int .i64 PW, .int .i64 PH, .slice pa pn pc], .int .i64 x, .int .i64 y, .int .i64 qp, sqQ q L s0 s1 s2 s3] w (RdP w (bdV W H zs PW PH ps x y qp q)) := by
 have UK := Lib.hid (fun (hk : 0 ≤ q.k ∧ q.k ≤ 3) (W' : World) (kx : Ext w W') => any_bounds q L s0 s1 s2 s3 W' hk (hs.ext kx))
 have UB := Lib.hid (fun (hc : ckD W H zs PW PH ps x y qp q = none) (W' : World) (kx : Ext w W') => rbuild_any W H PW PH x y qp zs ps fa fn fc pa pn pc q L s0 s1 s2 s3 W' (hf.ext kx) (ck_none hc).1 (ck_none hc).2.2.1 (ck_none hc).2.2.2.2.1 (ck_none hc).2.2.2.2.2.1 (ck_none hc).2.2.2.2.2.2.1 (ck_none hc).2.2.2.1 (hs.ext kx) (fun h => by obtain ⟨e1, e2, e3⟩ := (ck_none hc).2.2.2.2.2.2.2 h; exact ⟨e1, e2, e3, hp.ext kx⟩))
 have HLN := Lib.hid (fun (hc : ckD W H zs PW PH ps x y qp q = none) => (show (bld W H zs ps x y qp q).length ≤ 1000000 by have := may_len (bld_may (x := x) (y := y) (qp := qp) (q := q) (ps := ps) (ck_none hc).1 (ck_none hc).2.2.1 (fun h => ((ck_none hc).2.2.2.2.2.2.2 h).2.2)); omega))
 have U0 := Lib.hid (fun (W' : World) (kx : Ext w W') => rmay_any W H zs fa fn fc W' (hf.ext kx))
 have UL := Lib.hid (fun (W' : World) (kx : Ext w W') => rleans_any PW PH W H ps fa pa fn fc pn pc W' (hp.ext kx))
 obtain ⟨hL, h0, h1, h2, h3⟩ := hs
 obtain ⟨aL, nL, cL, rfl⟩ := hL.slf
 obtain ⟨a0, n0, c0, rfl⟩ := h0.slf
 obtain ⟨a1, n1, c1, rfl⟩ := h1.slf
 obtain ⟨a2, n2, c2, rfl⟩ := h2.slf
 obtain ⟨a3, n3, c3, rfl⟩ := h3.slf
 obtain ⟨r, hr⟩ : ∃ z, bdV W H zs PW PH ps x y qp q = z := ⟨_, rfl⟩
 obtain ⟨ck, hck⟩ : ∃ z, ckD W H zs PW PH ps x y qp q = z := ⟨_, rfl⟩
 have HR0 : Hid (r = bdW ck W H (bld W H zs ps x y qp q)) := by rw [← hr, ← hck]; rfl
 obtain ⟨cp, hcp⟩ : ∃ z, cpF q = z := ⟨_, rfl⟩
 have HF : Hid (ck = if may W H zs then (if plP W H x y then (if 0 ≤ qp ∧ qp ≤ 15 then (if 0 ≤ q.k ∧ q.k ≤ 3 then (if q.k ≤ 1 ∧ ¬ leanP PW PH ps W H then some ([], 12) else cp) else kndF) else range) else range) else form) := by rw [← hcp]; exact hck.symm
 rw [hcp] at UK
 rw [hck] at UB HLN
 rw [hr]
 have HCF : Hid (∀ e, ck = some e → e.1 = [] ∧ e.2 ≠ 0) := by show ∀ e, _; rw [← hck]; exact ck_flat
 clear hf hp hL h0 h1 h2 h3 hck hcp hr
 obtain ⟨BL, hBL⟩ : ∃ z, bld W H zs ps x y qp q = z := ⟨_, rfl⟩
 rw [hBL] at UB HR0 HLN
 clear hBL
 obtain ⟨k, m, a, b, c, d, vx, vy, l, l0, l1, l2, l3⟩ := q
 unfold sqQ sqV at UK UB ⊢
 dsimp only at UK UB HF ⊢
 have B0 := (((((BoxIs.new w #[.int .i64 W, .int .i64 H, .slice fa fn fc] 24).ext ((Ext.refl _).alloc (.cells #[.int .i64 PW, .int .i64 PH, .slice pa pn pc] 24))).ext ((Ext.refl _).alloc (.cells #[.int .i64 k, .int .i64 m, .int .i64 a, .int .i64 b, .int .i64 c, .int .i64 d, .int .i64 vx, .int .i64 vy, .slice aL nL cL, .slice a0 n0 c0, .slice a1 n1 c1, .slice a2 n2 c2, .slice a3 n3 c3] 46))).ext ((Ext.refl _).alloc (.cells #[.int .i64 0, .int .i64 0, .slice none 0 0] 24))).ext ((Ext.refl _).alloc (.cells #[.int .i64 0, .slice none 0 0] 43))).ext ((Ext.refl _).alloc (.cells #[.int .i64 0, .slice none 0 0] 43))
 have B1 := ((((BoxIs.new (w.alloc (.cells #[.int .i64 W, .int .i64 H, .slice fa fn fc] 24)) #[.int .i64 PW, .int .i64 PH, .slice pa pn pc] 24).ext ((Ext.refl _).alloc (.cells #[.int .i64 k, .int .i64 m, .int .i64 a, .int .i64 b, .int .i64 c, .int .i64 d, .int .i64 vx, .int .i64 vy, .slice aL nL cL, .slice a0 n0 c0, .slice a1 n1 c1, .slice a2 n2 c2, .slice a3 n3 c3] 46))).ext ((Ext.refl _).alloc (.cells #[.int .i64 0, .int .i64 0, .slice none 0 0] 24))).ext ((Ext.refl _).alloc (.cells #[.int .i64 0, .slice none 0 0] 43))).ext ((Ext.refl _).alloc (.cells #[.int .i64 0, .slice none 0 0] 43))
 have B2 := (((BoxIs.new ((w.alloc (.cells #[.int .i64 W, .int .i64 H, .slice fa fn fc] 24)).alloc (.cells #[.int .i64 PW, .int .i64 PH, .slice pa pn pc] 24)) #[.int .i64 k, .int .i64 m, .int .i64 a, .int .i64 b, .int .i64 c, .int .i64 d, .int .i64 vx, .int .i64 vy, .slice aL nL cL, .slice a0 n0 c0, .slice a1 n1 c1, .slice a2 n2 c2, .slice a3 n3 c3] 46).ext ((Ext.refl _).alloc (.cells #[.int .i64 0, .int .i64 0, .slice none 0 0] 24))).ext ((Ext.refl _).alloc (.cells #[.int .i64 0, .slice none 0 0] 43))).ext ((Ext.refl _).alloc (.cells #[.int .i64 0, .slice none 0 0] 43))
 have B3 := ((BoxIs.new (((w.alloc (.cells #[.int .i64 W, .int .i64 H, .slice fa fn fc] 24)).alloc (.cells #[.int .i64 PW, .int .i64 PH, .slice pa pn pc] 24)).alloc (.cells #[.int .i64 k, .int .i64 m, .int .i64 a, .int .i64 b, .int .i64 c, .int .i64 d, .int .i64 vx, .int .i64 vy, .slice aL nL cL, .slice a0 n0 c0, .slice a1 n1 c1, .slice a2 n2 c2, .slice a3 n3 c3] 46)) #[.int .i64 0, .int .i64 0, .slice none 0 0] 24).ext ((Ext.refl _).alloc (.cells #[.int .i64 0, .slice none 0 0] 43))).ext ((Ext.refl _).alloc (.cells #[.int .i64 0, .slice none 0 0] 43))
 have B4 := (BoxIs.new ((((w.alloc (.cells #[.int .i64 W, .int .i64 H, .slice fa fn fc] 24)).alloc (.cells #[.int .i64 PW, .int .i64 PH, .slice pa pn pc] 24)).alloc (.cells #[.int .i64 k, .int .i64 m, .int .i64 a, .int .i64 b, .int .i64 c, .int .i64 d, .int .i64 vx, .int .i64 vy, .slice aL nL cL, .slice a0 n0 c0, .slice a1 n1 c1, .slice a2 n2 c2, .slice a3 n3 c3] 46)).alloc (.cells #[.int .i64 0, .int .i64 0, .slice none 0 0] 24)) #[.int .i64 0, .slice none 0 0] 43).ext ((Ext.refl _).alloc (.cells #[.int .i64 0, .slice none 0 0] 43))
 have B5 := BoxIs.new (((((w.alloc (.cells #[.int .i64 W, .int .i64 H, .slice fa fn fc] 24)).alloc (.cells #[.int .i64 PW, .int .i64 PH, .slice pa pn pc] 24)).alloc (.cells #[.int .i64 k, .int .i64 m, .int .i64 a, .int .i64 b, .int .i64 c, .int .i64 d, .int .i64 vx, .int .i64 vy, .slice aL nL cL, .slice a0 n0 c0, .slice a1 n1 c1, .slice a2 n2 c2, .slice a3 n3 c3] 46)).alloc (.cells #[.int .i64 0, .int .i64 0, .slice none 0 0] 24)).alloc (.cells #[.int .i64 0, .slice none 0 0] 43)) #[.int .i64 0, .slice none 0 0] 43
 have E0 := ((((((Ext.refl w).alloc (.cells #[.int .i64 W, .int .i64 H, .slice fa fn fc] 24)).alloc (.cells #[.int .i64 PW, .int .i64 PH, .slice pa pn pc] 24)).alloc (.cells #[.int .i64 k, .int .i64 m, .int .i64 a, .int .i64 b, .int .i64 c, .int .i64 d, .int .i64 vx, .int .i64 vy, .slice aL nL cL, .slice a0 n0 c0, .slice a1 n1 c1, .slice a2 n2 c2, .slice a3 n3 c3] 46)).alloc (.cells #[.int .i64 0, .int .i64 0, .slice none 0 0] 24)).alloc (.cells #[.int .i64 0, .slice none 0 0] 43)).alloc (.cells #[.int .i64 0, .slice none 0 0] 43)
 obtain ⟨u, hu⟩ : ∃ z, ((((((w.alloc (.cells #[.int .i64 W, .int .i64 H, .slice fa fn fc] 24)).alloc (.cells #[.int .i64 PW, .int .i64 PH, .slice pa pn pc] 24)).alloc (.cells #[.int .i64 k, .int .i64 m, .int .i64 a, .int .i64 b, .int .i64 c, .int .i64 d, .int .i64 vx, .int .i64 vy, .slice aL nL cL, .slice a0 n0 c0, .slice a1 n1 c1, .slice a2 n2 c2, .slice a3 n3 c3] 46)).alloc (.cells #[.int .i64 0, .int .i64 0, .slice none 0 0] 24)).alloc (.cells #[.int .i64 0, .slice none 0 0] 43)).alloc (.cells #[.int .i64 0, .slice none 0 0] 43)) = z := ⟨_, rfl⟩
 rw [hu] at B0 B1 B2 B3 B4 B5 E0
 rw [show (w.alloc (.cells #[.int .i64 W, .int .i64 H, .slice fa fn fc] 24)).heap.size = w.heap.size + 1 by simp] at B1
 rw [show ((w.alloc (.cells #[.int .i64 W, .int .i64 H, .slice fa fn fc] 24)).alloc (.cells #[.int .i64 PW, .int .i64 PH, .slice pa pn pc] 24)).heap.size = w.heap.size + 1 + 1 by simp] at B2
 rw [show (((w.alloc (.cells #[.int .i64 W, .int .i64 H, .slice fa fn fc] 24)).alloc (.cells #[.int .i64 PW, .int .i64 PH, .slice pa pn pc] 24)).alloc (.cells #[.int .i64 k, .int .i64 m, .int .i64 a, .int .i64 b, .int .i64 c, .int .i64 d, .int .i64 vx, .int .i64 vy, .slice aL nL cL, .slice a0 n0 c0, .slice a1 n1 c1, .slice a2 n2 c2, .slice a3 n3 c3] 46)).heap.size = w.heap.size + 1 + 1 + 1 by simp] at B3
 rw [show ((((w.alloc (.cells #[.int .i64 W, .int .i64 H, .slice fa fn fc] 24)).alloc (.cells #[.int .i64 PW, .int .i64 PH, .slice pa pn pc] 24)).alloc (.cells #[.int .i64 k, .int .i64 m, .int .i64 a, .int .i64 b, .int .i64 c, .int .i64 d, .int .i64 vx, .int .i64 vy, .slice aL nL cL, .slice a0 n0 c0, .slice a1 n1 c1, .slice a2 n2 c2, .slice a3 n3 c3] 46)).alloc (.cells #[.int .i64 0, .int .i64 0, .slice none 0 0] 24)).heap.size = w.heap.size + 1 + 1 + 1 + 1 by simp] at B4
 rw [show (((((w.alloc (.cells #[.int .i64 W, .int .i64 H, .slice fa fn fc] 24)).alloc (.cells #[.int .i64 PW, .int .i64 PH, .slice pa pn pc] 24)).alloc (.cells #[.int .i64 k, .int .i64 m, .int .i64 a, .int .i64 b, .int .i64 c, .int .i64 d, .int .i64 vx, .int .i64 vy, .slice aL nL cL, .slice a0 n0 c0, .slice a1 n1 c1, .slice a2 n2 c2, .slice a3 n3 c3] 46)).alloc (.cells #[.int .i64 0, .int .i64 0, .slice none 0 0] 24)).alloc (.cells #[.int .i64 0, .slice none 0 0] 43)).heap.size = w.heap.size + 1 + 1 + 1 + 1 + 1 by simp] at B5
 have HX : Hid (RBx w u #[.int .i64 W, .int .i64 H, .slice fa fn fc] #[.int .i64 PW, .int .i64 PH, .slice pa pn pc] #[.int .i64 k, .int .i64 m, .int .i64 a, .int .i64 b, .int .i64 c, .int .i64 d, .int .i64 vx, .int .i64 vy, .slice aL nL cL, .slice a0 n0 c0, .slice a1 n1 c1, .slice a2 n2 c2, .slice a3 n3 c3] 0) := ⟨E0, B0, B1, B2, B3, B4, B5⟩
 have HU := Lib.hid hu
 clear B0 B1 B2 B3 B4 B5 E0 hu
 go_enter Tryz.func14, Tryz.ntmps14
 go_upto_block 0 with fail
 rw [HU.out]
 clear HU
 go_cut [14] from 16 to 58 (fun s14 wx => ∃ ec : Int, s14 = .pointer (some ⟨w.heap.size + 1 + 1 + 1 + 1 + 1, 0, none⟩) ∧ Hid (RBx w wx #[.int .i64 W, .int .i64 H, .slice fa fn fc] #[.int .i64 PW, .int .i64 PH, .slice pa pn pc] #[.int .i64 k, .int .i64 m, .int .i64 a, .int .i64 b, .int .i64 c, .int .i64 d, .int .i64 vx, .int .i64 vy, .slice aL nL cL, .slice a0 n0 c0, .slice a1 n1 c1, .slice a2 n2 c2, .slice a3 n3 c3] ec) ∧ Hid (cdF ck = ec))
 case first =>
  have HR0 := HCF; clear UB HCF
  obtain ⟨f0, f1, f2⟩ := HX.out.2.1.c3
  go_wp2_with fail
  refine (U0.out _ HX.out.1).mono ?_; rintro e w1 ⟨rfl, hx⟩
  have HX := Lib.hid (HX.out.ext hx)
  clear hx
  clear f0 f1 f2
  by_cases hm : may W H zs
  rotate_left
  · rw [decide_eq_false hm]
    have HC : Hid (cdF ck = 2) := by show _ = _; rw [HF.out, if_neg hm]; rfl
    clear HF
    go_wp2_with fail
    refine (fail_any 2 _).mono ?_; rintro e wf ⟨rfl, hx⟩
    have HX := Lib.hid (HX.out.ext hx)
    clear hx
    obtain ⟨⟨e0, e1⟩, z0, z1⟩ := HX.out.2.2.2.2.2.2.c2
    go_wp2_with fail
    go_meet
    exact ⟨_, rfl, HX.out.set, HC.out⟩
  rw [decide_eq_true hm]
  rw [if_pos hm] at HF
  have UP := Lib.hid (fun (W' : World) => rplace_any W H x y zs fa fn fc W' hm)
  obtain ⟨f0, f1, f2⟩ := HX.out.2.1.c3
  clear hm
  go_wp2_with fail
  refine (UP.out _).mono ?_; rintro e w2 ⟨rfl, hx⟩
  have HX := Lib.hid (HX.out.ext hx)
  clear hx
  clear f0 f1 f2 UP
  by_cases hpl : plP W H x y
  rotate_left
  · rw [decide_eq_false hpl]
    have HC : Hid (cdF ck = 3) := by show _ = _; rw [HF.out, if_neg hpl]; rfl
    clear HF
    go_wp2_with fail
    refine (fail_any 3 _).mono ?_; rintro e wf ⟨rfl, hx⟩
    have HX := Lib.hid (HX.out.ext hx)
    clear hx
    obtain ⟨⟨e0, e1⟩, z0, z1⟩ := HX.out.2.2.2.2.2.2.c2
    go_wp2_with fail
    go_meet
    exact ⟨_, rfl, HX.out.set, HC.out⟩
  rw [decide_eq_true hpl]
  rw [if_pos hpl] at HF
  clear hpl
  by_cases hq0 : qp < 0
  · have HQN : Hid (¬ (0 ≤ qp ∧ qp ≤ 15)) := fun h => by omega
    have HC : Hid (cdF ck = 3) := by show _ = _; rw [HF.out, if_neg HQN.out]; rfl
    clear HF
    go_wp2_with fail
    refine (fail_any 3 _).mono ?_; rintro e wf ⟨rfl, hx⟩
    have HX := Lib.hid (HX.out.ext hx)
    clear hx
    obtain ⟨⟨e0, e1⟩, z0, z1⟩ := HX.out.2.2.2.2.2.2.c2
    go_wp2_with fail
    go_meet
    exact ⟨_, rfl, HX.out.set, HC.out⟩
  by_cases hq1 : 15 < qp
  · have HQN : Hid (¬ (0 ≤ qp ∧ qp ≤ 15)) := fun h => by omega
    have HC : Hid (cdF ck = 3) := by show _ = _; rw [HF.out, if_neg HQN.out]; rfl
    clear HF
    go_wp2_with fail
    refine (fail_any 3 _).mono ?_; rintro e wf ⟨rfl, hx⟩
    have HX := Lib.hid (HX.out.ext hx)
    clear hx
    obtain ⟨⟨e0, e1⟩, z0, z1⟩ := HX.out.2.2.2.2.2.2.c2
    go_wp2_with fail
    go_meet
    exact ⟨_, rfl, HX.out.set, HC.out⟩
  rw [if_pos (show 0 ≤ qp ∧ qp ≤ 15 by omega)] at HF
  obtain ⟨⟨g0, g1, g2, g3, g4, g5, g6, g7, g8, g9, g10, g11, g12⟩, -⟩ := sq_cells HX.out.2.2.2.1
  by_cases hk0 : k < 0
  · have HQN : Hid (¬ (0 ≤ k ∧ k ≤ 3)) := fun h => by omega
    go_wp2_with fail
    clear g0 g1 g2 g3 g4 g5 g6 g7 g8 g9 g10 g11 g12
    have HC : Hid (cdF ck = 13) := by show _ = _; rw [HF.out, if_neg HQN.out]; rfl
    clear HF
    go_wp2_with fail
    refine (fail_any 13 _).mono ?_; rintro e wf ⟨rfl, hx⟩
    have HX := Lib.hid (HX.out.ext hx)
    clear hx
    obtain ⟨⟨e0, e1⟩, z0, z1⟩ := HX.out.2.2.2.2.2.2.c2
    go_wp2_with fail
    go_meet
    exact ⟨_, rfl, HX.out.set, HC.out⟩
  by_cases hk1 : 3 < k
  · have HQN : Hid (¬ (0 ≤ k ∧ k ≤ 3)) := fun h => by omega
    go_wp2_with fail
    clear g0 g1 g2 g3 g4 g5 g6 g7 g8 g9 g10 g11 g12
    have HC : Hid (cdF ck = 13) := by show _ = _; rw [HF.out, if_neg HQN.out]; rfl
    clear HF
    go_wp2_with fail
    refine (fail_any 13 _).mono ?_; rintro e wf ⟨rfl, hx⟩
    have HX := Lib.hid (HX.out.ext hx)
    clear hx
    obtain ⟨⟨e0, e1⟩, z0, z1⟩ := HX.out.2.2.2.2.2.2.c2
    go_wp2_with fail
    go_meet
    exact ⟨_, rfl, HX.out.set, HC.out⟩
  rw [if_pos (show 0 ≤ k ∧ k ≤ 3 by omega)] at HF
  have UK2 := Lib.hid (UK.out (by omega))
  clear UK
  by_cases hk2 : k < 2
  · have HK1 : Hid (k ≤ 1) := by show _ ≤ _; omega
    obtain ⟨f0, f1, f2⟩ := HX.out.2.1.c3
    obtain ⟨p0, p1, p2⟩ := HX.out.2.2.1.c3
    go_wp2_with fail
    refine (UL.out _ HX.out.1).mono ?_; rintro e w3 ⟨rfl, hx⟩
    have HX := Lib.hid (HX.out.ext hx)
    clear hx
    clear f0 f1 f2 p0 p1 p2 g0 g1 g2 g3 g4 g5 g6 g7 g8 g9 g10 g11 g12
    by_cases hln : leanP PW PH ps W H
    rotate_left
    · rw [decide_eq_false hln]
      have HC : Hid (cdF ck = 12) := by show _ = _; rw [HF.out, if_pos ⟨HK1.out, hln⟩]; rfl
      clear HF
      go_wp2_with fail
      refine (fail_any 12 _).mono ?_; rintro e wf ⟨rfl, hx⟩
      have HX := Lib.hid (HX.out.ext hx)
      clear hx
      obtain ⟨⟨e0, e1⟩, z0, z1⟩ := HX.out.2.2.2.2.2.2.c2
      go_wp2_with fail
      go_meet
      exact ⟨_, rfl, HX.out.set, HC.out⟩
    rw [decide_eq_true hln]
    rw [if_neg (fun e => e.2 hln)] at HF
    clear HK1 hln
    obtain ⟨⟨g0, g1, g2, g3, g4, g5, g6, g7, g8, g9, g10, g11, g12⟩, -⟩ := sq_cells HX.out.2.2.2.1
    have HC : Hid (cdF ck = cdF cp) := by show _ = _; rw [HF.out]
    clear HF UL
    go_wp2_with fail
    refine (UK2.out _ HX.out.1).mono ?_; rintro e wf ⟨rfl, hx⟩
    have HX := Lib.hid (HX.out.ext hx)
    clear hx UK2 g0 g1 g2 g3 g4 g5 g6 g7 g8 g9 g10 g11 g12
    obtain ⟨⟨e0, e1⟩, z0, z1⟩ := HX.out.2.2.2.2.2.2.c2
    go_wp2_with fail
    go_meet
    exact ⟨_, rfl, HX.out.set, HC.out⟩
  · rw [if_neg (fun e => by omega)] at HF
    have HC : Hid (cdF ck = cdF cp) := by show _ = _; rw [HF.out]
    clear HF UL
    go_wp2_with fail
    refine (UK2.out _ HX.out.1).mono ?_; rintro e wf ⟨rfl, hx⟩
    have HX := Lib.hid (HX.out.ext hx)
    clear hx UK2 g0 g1 g2 g3 g4 g5 g6 g7 g8 g9 g10 g11 g12
    obtain ⟨⟨e0, e1⟩, z0, z1⟩ := HX.out.2.2.2.2.2.2.c2
    go_wp2_with fail
    go_meet
    exact ⟨_, rfl, HX.out.set, HC.out⟩
 case rest =>
  obtain ⟨ec, rfl, HX1, HEC⟩ := hcut
  clear HX U0 UK UL HF
  have HX := HX1
  clear HX1
  obtain ⟨⟨e0, e1⟩, z0, z1⟩ := HX.out.2.2.2.2.2.2.c2
  go_wp2_with fail
  refine (ok_any ec _ _).mono ?_; rintro e v2 ⟨rfl, hx⟩
  have HX := Lib.hid (HX.out.ext hx)
  clear hx
  clear e0 e1 z0 z1
  cases ck with
  | some ee =>
    have h9 := HCF.out ee rfl
    have h8 : ee.2 = ec := HEC.out
    have te : (ec == 0) = false := by simp; rw [← h8]; exact h9.2
    have HR : Hid (r = (some ee, (0, 0, [])) ∧ cdF (some ee) = ec) := ⟨by rw [HR0.out]; rfl, h8⟩
    clear UB HR0 HCF h9 h8 HEC
    have KS : Hid (∀ w', BoxIs w' (w.heap.size + 1 + 1 + 1 + 1 + 1) #[.int .i64 ec, .slice none 0 0] 43 → w'.cell? ⟨w.heap.size + 1 + 1 + 1 + 1 + 1, 0, none⟩ = some (.int .i64 ec) ∧ w'.cell? ⟨w.heap.size + 1 + 1 + 1 + 1 + 1, 1, none⟩ = some (.slice none 0 0)) := fun w' h => h.c2.1
    go_wp2_with fail
    refine wp_region_k (S := fun w' => w'.cell? ⟨w.heap.size + 1 + 1 + 1 + 1 + 1, 0, none⟩ = some (.int .i64 ec) ∧ w'.cell? ⟨w.heap.size + 1 + 1 + 1 + 1 + 1, 1, none⟩ = some (.slice none 0 0)) (k := 3) (by kernel_rfl) (KS.out _ HX.out.2.2.2.2.2.2) (fun hHeld => ?_)
    refine tkK 0 (v := ?_) rfl ?_ ?_
    case refine_2 => (intro w hSw; (try dsimp only at hSw); go_simp; (try with_reducible rfl))
    try simp only [pA, pB, pC, pD]
    refine tkK 1 (v := ?_) rfl ?_ ?_
    case refine_2 => (intro w hSw; (try dsimp only at hSw); go_simp; (try with_reducible rfl))
    try simp only [pA, pB, pC, pD]
    obtain ⟨ra0, ra1, ra2⟩ := HX.out.2.2.2.2.1.c3; obtain ⟨ya0, ya1, ya2⟩ := HX.out.2.2.2.2.1.f3
    refine wpAnyK_ready (rs := [2]) (by kernel_rfl) (by simp) ?_
    refine AllReadyK.cons (o := _) rfl (fun K hK => ?_) AllReadyK.nil
    go_simp
    have XD := HX.out.ext (Ext.refl v2).drew
    have C4 := XD.2.2.2.2.2.1.other3 (b0 := w.heap.size + 1 + 1 + 1) (by omega) (.int .i64 0) (.int .i64 0) (.slice none 0 0); have C5 := XD.2.2.2.2.2.2.other3 (b0 := w.heap.size + 1 + 1 + 1) (by omega) (.int .i64 0) (.int .i64 0) (.slice none 0 0); have C3 := XD.2.2.2.2.1.set3 (.int .i64 0) (.int .i64 0) (.slice none 0 0); have E4 := set3_ext XD.1 (show w.heap.size ≤ w.heap.size + 1 + 1 + 1 by omega) (.int .i64 0) (.int .i64 0) (.slice none 0 0)
    refine hK.out _ _ (KS.out _ C5) (fun hHeld => ?_)
    clear hK K
    try simp only [pA, pB, pC, pD]
    obtain ⟨v3, hv3⟩ : ∃ z, (((v2.drew).setCell ⟨w.heap.size + 1 + 1 + 1, 0, none⟩ (.int .i64 0)).setCell ⟨w.heap.size + 1 + 1 + 1, 1, none⟩ (.int .i64 0)).setCell ⟨w.heap.size + 1 + 1 + 1, 2, none⟩ (.slice none 0 0) = z := ⟨_, rfl⟩
    rw [hv3] at C3 C4 C5 E4
    change wpAnyK _ _ _ _ _ _ _ _ _ ((((v2.drew).setCell ⟨w.heap.size + 1 + 1 + 1, 0, none⟩ (.int .i64 0)).setCell ⟨w.heap.size + 1 + 1 + 1, 1, none⟩ (.int .i64 0)).setCell ⟨w.heap.size + 1 + 1 + 1, 2, none⟩ (.slice none 0 0))
    rw [hv3]
    obtain ⟨⟨m0, m1⟩, n0, n1⟩ := C4.c2
    refine wpAnyK_ready (rs := [3]) (by kernel_rfl) (by simp) ?_
    refine AllReadyK.last (o := _) rfl (fun K hK => ?_)
    go_simp
    refine hK.out _ _ ?_
    clear hK K
    try simp only [pA, pB, pC, pD]
    refine wpAnyK_done (by kernel_rfl) ?_ _
    obtain ⟨g0, g1, g2⟩ := (C3.other2 (b0 := w.heap.size + 1 + 1 + 1 + 1) (by omega) (.int .i64 ec) (.slice none 0 0)).c3; obtain ⟨⟨g3, g4⟩, -⟩ := (C4.sets2 (.int .i64 ec) (.slice none 0 0)).c2; have E5 := set2_ext E4 (show w.heap.size ≤ w.heap.size + 1 + 1 + 1 + 1 by omega) (.int .i64 ec) (.slice none 0 0)
    clear hHeld
    go_wp2
    exact bodyPost_ret (v := .tuple #[.agg #[.int .i64 0, .int .i64 0, .slice none 0 0], .agg #[.int .i64 ec, .slice none 0 0]]) (by simp [results, Tryz.results14, go_sem, g0, g1, g2, g3, g4]) rfl ⟨none, 0, 0, by rw [HR.out.1, HR.out.2], E5, by rw [HR.out.1]; exact World.ownsRow_nil _ _ _ _, by rw [HR.out.1]; rfl⟩
  | none =>
    obtain rfl : (0 : Int) = ec := HEC.out
    have HR : Hid (r = (none, (W, H, BL))) := by show _ = _; rw [HR0.out]; rfl
    have UB2 := Lib.hid (UB.out rfl)
    clear UB HR0 HCF HEC
    have KS : Hid (∀ w', BoxIs w' (w.heap.size) #[.int .i64 W, .int .i64 H, .slice fa fn fc] 24 → BoxIs w' (w.heap.size + 1) #[.int .i64 PW, .int .i64 PH, .slice pa pn pc] 24 → BoxIs w' (w.heap.size + 1 + 1) #[.int .i64 k, .int .i64 m, .int .i64 a, .int .i64 b, .int .i64 c, .int .i64 d, .int .i64 vx, .int .i64 vy, .slice aL nL cL, .slice a0 n0 c0, .slice a1 n1 c1, .slice a2 n2 c2, .slice a3 n3 c3] 46 → BoxIs w' (w.heap.size + 1 + 1 + 1 + 1 + 1) #[.int .i64 0, .slice none 0 0] 43 → (w'.cell? ⟨w.heap.size, 0, none⟩ = some (.int .i64 W) ∧ w'.cell? ⟨w.heap.size, 1, none⟩ = some (.int .i64 H) ∧ w'.cell? ⟨w.heap.size, 2, none⟩ = some (.slice fa fn fc)) ∧ (w'.cell? ⟨w.heap.size + 1, 0, none⟩ = some (.int .i64 PW) ∧ w'.cell? ⟨w.heap.size + 1, 1, none⟩ = some (.int .i64 PH) ∧ w'.cell? ⟨w.heap.size + 1, 2, none⟩ = some (.slice pa pn pc)) ∧ (w'.cell? ⟨w.heap.size + 1 + 1, 0, none⟩ = some (.int .i64 k) ∧ w'.cell? ⟨w.heap.size + 1 + 1, 1, none⟩ = some (.int .i64 m) ∧ w'.cell? ⟨w.heap.size + 1 + 1, 2, none⟩ = some (.int .i64 a) ∧ w'.cell? ⟨w.heap.size + 1 + 1, 3, none⟩ = some (.int .i64 b) ∧ w'.cell? ⟨w.heap.size + 1 + 1, 4, none⟩ = some (.int .i64 c) ∧ w'.cell? ⟨w.heap.size + 1 + 1, 5, none⟩ = some (.int .i64 d) ∧ w'.cell? ⟨w.heap.size + 1 + 1, 6, none⟩ = some (.int .i64 vx) ∧ w'.cell? ⟨w.heap.size + 1 + 1, 7, none⟩ = some (.int .i64 vy) ∧ w'.cell? ⟨w.heap.size + 1 + 1, 8, none⟩ = some (.slice aL nL cL) ∧ w'.cell? ⟨w.heap.size + 1 + 1, 9, none⟩ = some (.slice a0 n0 c0) ∧ w'.cell? ⟨w.heap.size + 1 + 1, 10, none⟩ = some (.slice a1 n1 c1) ∧ w'.cell? ⟨w.heap.size + 1 + 1, 11, none⟩ = some (.slice a2 n2 c2) ∧ w'.cell? ⟨w.heap.size + 1 + 1, 12, none⟩ = some (.slice a3 n3 c3)) ∧ (w'.cell? ⟨w.heap.size + 1 + 1 + 1 + 1 + 1, 0, none⟩ = some (.int .i64 0) ∧ w'.cell? ⟨w.heap.size + 1 + 1 + 1 + 1 + 1, 1, none⟩ = some (.slice none 0 0))) := fun w' h0 h1 h2 h5 => ⟨h0.c3, h1.c3, (sq_cells h2).1, h5.c2.1⟩
    go_wp2_with fail
    have XD := HX.out.ext (Ext.refl v2).drew
    refine wp_region_k (S := fun w' => (w'.cell? ⟨w.heap.size, 0, none⟩ = some (.int .i64 W) ∧ w'.cell? ⟨w.heap.size, 1, none⟩ = some (.int .i64 H) ∧ w'.cell? ⟨w.heap.size, 2, none⟩ = some (.slice fa fn fc)) ∧ (w'.cell? ⟨w.heap.size + 1, 0, none⟩ = some (.int .i64 PW) ∧ w'.cell? ⟨w.heap.size + 1, 1, none⟩ = some (.int .i64 PH) ∧ w'.cell? ⟨w.heap.size + 1, 2, none⟩ = some (.slice pa pn pc)) ∧ (w'.cell? ⟨w.heap.size + 1 + 1, 0, none⟩ = some (.int .i64 k) ∧ w'.cell? ⟨w.heap.size + 1 + 1, 1, none⟩ = some (.int .i64 m) ∧ w'.cell? ⟨w.heap.size + 1 + 1, 2, none⟩ = some (.int .i64 a) ∧ w'.cell? ⟨w.heap.size + 1 + 1, 3, none⟩ = some (.int .i64 b) ∧ w'.cell? ⟨w.heap.size + 1 + 1, 4, none⟩ = some (.int .i64 c) ∧ w'.cell? ⟨w.heap.size + 1 + 1, 5, none⟩ = some (.int .i64 d) ∧ w'.cell? ⟨w.heap.size + 1 + 1, 6, none⟩ = some (.int .i64 vx) ∧ w'.cell? ⟨w.heap.size + 1 + 1, 7, none⟩ = some (.int .i64 vy) ∧ w'.cell? ⟨w.heap.size + 1 + 1, 8, none⟩ = some (.slice aL nL cL) ∧ w'.cell? ⟨w.heap.size + 1 + 1, 9, none⟩ = some (.slice a0 n0 c0) ∧ w'.cell? ⟨w.heap.size + 1 + 1, 10, none⟩ = some (.slice a1 n1 c1) ∧ w'.cell? ⟨w.heap.size + 1 + 1, 11, none⟩ = some (.slice a2 n2 c2) ∧ w'.cell? ⟨w.heap.size + 1 + 1, 12, none⟩ = some (.slice a3 n3 c3)) ∧ (w'.cell? ⟨w.heap.size + 1 + 1 + 1 + 1 + 1, 0, none⟩ = some (.int .i64 0) ∧ w'.cell? ⟨w.heap.size + 1 + 1 + 1 + 1 + 1, 1, none⟩ = some (.slice none 0 0))) (k := 9) (by kernel_rfl) (KS.out _ (XD).2.1 (XD).2.2.1 (XD).2.2.2.1 (XD).2.2.2.2.2.2) (fun hHeld => ?_)
    refine tkK 0 (v := ?_) rfl ?_ ?_
    case refine_2 => (intro w hSw; (try dsimp only at hSw); go_simp; (try with_reducible rfl))
    try simp only [pA, pB, pC, pD]
    refine tkK 1 (v := ?_) rfl ?_ ?_
    case refine_2 => (intro w hSw; (try dsimp only at hSw); go_simp; (try with_reducible rfl))
    try simp only [pA, pB, pC, pD]
    refine tkK 2 (v := ?_) rfl ?_ ?_
    case refine_2 => (intro w hSw; (try dsimp only at hSw); go_simp; (try with_reducible rfl))
    try simp only [pA, pB, pC, pD]
    refine tkK 3 (v := ?_) rfl ?_ ?_
    case refine_2 => (intro w hSw; (try dsimp only at hSw); go_simp; (try with_reducible rfl))
    try simp only [pA, pB, pC, pD]
    refine tkK 4 (v := ?_) rfl ?_ ?_
    case refine_2 => (intro w hSw; (try dsimp only at hSw); go_simp; (try with_reducible rfl))
    try simp only [pA, pB, pC, pD]
    refine tkK 5 (v := ?_) rfl ?_ ?_
    case refine_2 => (intro w hSw; (try dsimp only at hSw); go_simp; (try with_reducible rfl))
    try simp only [pA, pB, pC, pD]
    refine tkK 7 (v := ?_) rfl ?_ ?_
    case refine_2 => (intro w hSw; (try dsimp only at hSw); go_simp; (try with_reducible rfl))
    try simp only [pA, pB, pC, pD]
    refine wpAnyK_ready (rs := [6]) (by kernel_rfl) (by simp) ?_
    refine AllReadyK.cons (o := _) rfl (fun K hK => ?_) AllReadyK.nil
    go_simp
    go_at_call 40
    refine (UB2.out _ XD.1).mono ?_; rintro e w5 ⟨ga, gn, gc, rfl, hx5, ho5, hn5⟩
    have XE := XD.ext hx5; have HN5 := Lib.hid hn5; clear hn5
    refine hK.out _ _ (KS.out _ (XE).2.1 (XE).2.2.1 (XE).2.2.2.1 (XE).2.2.2.2.2.2) (fun hHeld => ?_)
    clear hK K
    try simp only [pA, pB, pC, pD]
    obtain ⟨r0, r1, r2⟩ := XE.2.2.2.2.1.c3; obtain ⟨y0, y1, y2⟩ := XE.2.2.2.2.1.f3
    have hlt4 : w.heap.size + 1 + 1 + 1 + 1 < v2.heap.size := HX.out.2.2.2.2.2.1.lt
    have hle4 : w.heap.size ≤ v2.heap.size := HX.out.1.size
    refine wpAnyK_ready (rs := [8]) (by kernel_rfl) (by simp) ?_
    refine AllReadyK.cons (o := _) rfl (fun K hK => ?_) AllReadyK.nil
    go_simp
    have C4 := XE.2.2.2.2.2.1.other3 (b0 := w.heap.size + 1 + 1 + 1) (by omega) (.int .i64 W) (.int .i64 H) (.slice ga gn gc); have C3 := XE.2.2.2.2.1.set3 (.int .i64 W) (.int .i64 H) (.slice ga gn gc); have E4 := set3_ext XE.1 (show w.heap.size ≤ w.heap.size + 1 + 1 + 1 by omega) (.int .i64 W) (.int .i64 H) (.slice ga gn gc)
    have O4 := own_set3 ho5 (show w.heap.size + 1 + 1 + 1 < v2.drew.heap.size by show _ < v2.heap.size; omega) (.int .i64 W) (.int .i64 H) (.slice ga gn gc)
    refine hK.out _ _ (KS.out _ (XE.2.1.other3 (by omega) (.int .i64 W) (.int .i64 H) (.slice ga gn gc)) (XE.2.2.1.other3 (by omega) (.int .i64 W) (.int .i64 H) (.slice ga gn gc)) (XE.2.2.2.1.other3 (by omega) (.int .i64 W) (.int .i64 H) (.slice ga gn gc)) (XE.2.2.2.2.2.2.other3 (by omega) (.int .i64 W) (.int .i64 H) (.slice ga gn gc))) (fun hHeld => ?_)
    clear hK K
    try simp only [pA, pB, pC, pD]
    obtain ⟨⟨m0, m1⟩, n0, n1⟩ := C4.c2
    refine wpAnyK_ready (rs := [9]) (by kernel_rfl) (by simp) ?_
    refine AllReadyK.last (o := _) rfl (fun K hK => ?_)
    go_simp
    refine hK.out _ _ ?_
    clear hK K
    try simp only [pA, pB, pC, pD]
    refine wpAnyK_done (by kernel_rfl) ?_ _
    obtain ⟨g0, g1, g2⟩ := (C3.other2 (b0 := w.heap.size + 1 + 1 + 1 + 1) (by omega) (.int .i64 0) (.slice none 0 0)).c3; obtain ⟨⟨g3, g4⟩, -⟩ := (C4.sets2 (.int .i64 0) (.slice none 0 0)).c2; have E6 := set2_ext E4 (show w.heap.size ≤ w.heap.size + 1 + 1 + 1 + 1 by omega) (.int .i64 0) (.slice none 0 0)
    have O6 := row_setCell (row_setCell O4 (w.heap.size + 1 + 1 + 1 + 1) 0 (by show _ < v2.heap.size; omega) (.int .i64 0)) (w.heap.size + 1 + 1 + 1 + 1) 1 (by show _ < v2.heap.size; omega) (.slice none 0 0)
    clear hHeld
    go_wp2
    exact bodyPost_ret (v := .tuple #[.agg #[.int .i64 W, .int .i64 H, .slice ga gn gc], .agg #[.int .i64 0, .slice none 0 0]]) (by simp [results, Tryz.results14, go_sem, g0, g1, g2, g3, g4]) rfl ⟨_, _, _, by rw [HR.out]; rfl, E6, by rw [HR.out]; exact own_mono O6 (by show _ ≤ v2.heap.size; omega), by rw [HR.out]; exact HN5.out⟩
end Go.Proofs.YtcekpngkfldgkaaGreatDoor