/- decode.check. -/
import Derived.Test.YtcekpngkfldgkaaGreatDoorXTk
import Derived.Test.YtcekpngkfldgkaaGreatDoorXDeV
import Derived.Test.YtcekpngkfldgkaaGreatDoorXDeH
namespace Go.Proofs.YtcekpngkfldgkaaGreatDoor
set_option linter.unusedVariables false
set_option linter.unusedSimpArgs false
open Go.RowKit Go.Extern.Stop Go.Stop Go.Extern
def plP (W H x y : Int) : Prop := 0 ≤ x ∧ x < W ∧ x % 8 = 0 ∧ 0 ≤ y ∧ y < H ∧ y % 8 = 0
instance (W H x y : Int) : Decidable (plP W H x y) := by unfold plP; exact inferInstance
noncomputable def ckD (W H : Int) (zs : List Int) (PW PH : Int) (ps : List Int) (x y qp : Int) (q : Sq) : Fall :=
 if may W H zs then (if plP W H x y then (if 0 ≤ qp ∧ qp ≤ 15 then (if 0 ≤ q.k ∧ q.k ≤ 3 then (if q.k ≤ 1 ∧ ¬ leanP PW PH ps W H then some ([], 12) else cpF q) else kndF) else range) else range) else form
theorem tmod8 {x : Int} (h : 0 ≤ x) : Int.tmod x 8 = x % 8 := Int.tmod_eq_emod_of_nonneg h
set_option maxRecDepth 20000 in
set_option maxHeartbeats 4000000 in
theorem dcheck_any (W H PW PH x y qp : Int) (zs ps : List Int) (fa pa : Option Addr) (fn fc pn pc : Nat) (q : Sq) (L s0 s1 s2 s3 : Value) (w : World) (hf : Ints w (.slice fa fn fc) zs) (hp : Ints w (.slice pa pn pc) ps) (hs : SqIs w q L s0 s1 s2 s3) :
 Calls Tryz.prog 33 #[.agg #[.int .i64 W, .int .i64 H, .slice fa fn fc], .agg #[.int .i64 PW, .int .i64 PH, .slice pa pn pc], .int .i64 x, .int .i64 y, .int .i64 qp, sqQ q L s0 s1 s2 s3] w (KcPost w (ckD W H zs PW PH ps x y qp q)) := by
 have UP := Lib.hid (fun (hk : 0 ≤ q.k ∧ q.k ≤ 3) (W' : World) (kx : Ext w W') => dparts_any q L s0 s1 s2 s3 W' hk (hs.ext kx))
 have U0 := Lib.hid (fun (W' : World) (kx : Ext w W') => may_any W H zs fa fn fc W' (hf.ext kx))
 have UL := Lib.hid (fun (W' : World) (kx : Ext w W') => ahead_any PW PH W H ps pa fa pn pc fn fc W' (hp.ext kx))
 obtain ⟨hL, h0, h1, h2, h3⟩ := hs
 obtain ⟨aL, nL, cL, rfl⟩ := hL.slf
 obtain ⟨a0, n0, c0, rfl⟩ := h0.slf
 obtain ⟨a1, n1, c1, rfl⟩ := h1.slf
 obtain ⟨a2, n2, c2, rfl⟩ := h2.slf
 obtain ⟨a3, n3, c3, rfl⟩ := h3.slf
 obtain ⟨cp, hcp⟩ : ∃ z, cpF q = z := ⟨_, rfl⟩
 obtain ⟨f, hff⟩ : ∃ z, ckD W H zs PW PH ps x y qp q = z := ⟨_, rfl⟩
 have HF : Hid (f = if may W H zs then (if plP W H x y then (if 0 ≤ qp ∧ qp ≤ 15 then (if 0 ≤ q.k ∧ q.k ≤ 3 then (if q.k ≤ 1 ∧ ¬ leanP PW PH ps W H then some ([], 12) else cp) else kndF) else range) else range) else form) := by rw [← hcp]; exact hff.symm
 rw [hcp] at UP
 rw [hff]
 clear hf hp hL h0 h1 h2 h3 hff hcp
 obtain ⟨k, m, a, b, c, d, vx, vy, l, l0, l1, l2, l3⟩ := q
 unfold sqQ sqV at UP ⊢
 dsimp only at UP HF ⊢
 have B0 := ((BoxIs.new w #[.int .i64 W, .int .i64 H, .slice fa fn fc] 24).ext ((Ext.refl _).alloc (.cells #[.int .i64 PW, .int .i64 PH, .slice pa pn pc] 24))).ext ((Ext.refl _).alloc (.cells #[.int .i64 k, .int .i64 m, .int .i64 a, .int .i64 b, .int .i64 c, .int .i64 d, .int .i64 vx, .int .i64 vy, .slice aL nL cL, .slice a0 n0 c0, .slice a1 n1 c1, .slice a2 n2 c2, .slice a3 n3 c3] 30))
 have B1 := (BoxIs.new (w.alloc (.cells #[.int .i64 W, .int .i64 H, .slice fa fn fc] 24)) #[.int .i64 PW, .int .i64 PH, .slice pa pn pc] 24).ext ((Ext.refl _).alloc (.cells #[.int .i64 k, .int .i64 m, .int .i64 a, .int .i64 b, .int .i64 c, .int .i64 d, .int .i64 vx, .int .i64 vy, .slice aL nL cL, .slice a0 n0 c0, .slice a1 n1 c1, .slice a2 n2 c2, .slice a3 n3 c3] 30))
 have B2 := BoxIs.new ((w.alloc (.cells #[.int .i64 W, .int .i64 H, .slice fa fn fc] 24)).alloc (.cells #[.int .i64 PW, .int .i64 PH, .slice pa pn pc] 24)) #[.int .i64 k, .int .i64 m, .int .i64 a, .int .i64 b, .int .i64 c, .int .i64 d, .int .i64 vx, .int .i64 vy, .slice aL nL cL, .slice a0 n0 c0, .slice a1 n1 c1, .slice a2 n2 c2, .slice a3 n3 c3] 30
 have E0 := (((Ext.refl w).alloc (.cells #[.int .i64 W, .int .i64 H, .slice fa fn fc] 24)).alloc (.cells #[.int .i64 PW, .int .i64 PH, .slice pa pn pc] 24)).alloc (.cells #[.int .i64 k, .int .i64 m, .int .i64 a, .int .i64 b, .int .i64 c, .int .i64 d, .int .i64 vx, .int .i64 vy, .slice aL nL cL, .slice a0 n0 c0, .slice a1 n1 c1, .slice a2 n2 c2, .slice a3 n3 c3] 30)
 obtain ⟨u, hu⟩ : ∃ z, ((w.alloc (.cells #[.int .i64 W, .int .i64 H, .slice fa fn fc] 24)).alloc (.cells #[.int .i64 PW, .int .i64 PH, .slice pa pn pc] 24)).alloc (.cells #[.int .i64 k, .int .i64 m, .int .i64 a, .int .i64 b, .int .i64 c, .int .i64 d, .int .i64 vx, .int .i64 vy, .slice aL nL cL, .slice a0 n0 c0, .slice a1 n1 c1, .slice a2 n2 c2, .slice a3 n3 c3] 30) = z := ⟨_, rfl⟩
 rw [hu] at B0 B1 B2 E0
 rw [show (w.alloc (.cells #[.int .i64 W, .int .i64 H, .slice fa fn fc] 24)).heap.size = w.heap.size + 1 by simp] at B1
 rw [show ((w.alloc (.cells #[.int .i64 W, .int .i64 H, .slice fa fn fc] 24)).alloc (.cells #[.int .i64 PW, .int .i64 PH, .slice pa pn pc] 24)).heap.size = w.heap.size + 1 + 1 by simp] at B2
 have HB0 := Lib.hid B0
 have HB1 := Lib.hid B1
 have HB2 := Lib.hid B2
 have HE := Lib.hid E0
 have HU := Lib.hid hu
 clear B0 B1 B2 E0 hu
 go_enter Tryz.func33, Tryz.ntmps33
 go_wp2_with fail
 rw [HU.out]
 refine (U0.out _ HE.out).mono ?_; rintro e w1 ⟨rfl, hx1⟩
 have HE1 := Lib.hid (HE.out.trans hx1)
 have f0 := (HB0.out.ext hx1).cell (i := 0) (v := .int .i64 W) rfl
 have f1 := (HB0.out.ext hx1).cell (i := 1) (v := .int .i64 H) rfl
 have f2 := (HB0.out.ext hx1).cell (i := 2) (v := .slice fa fn fc) rfl
 have p0 := (HB1.out.ext hx1).cell (i := 0) (v := .int .i64 PW) rfl
 have p1 := (HB1.out.ext hx1).cell (i := 1) (v := .int .i64 PH) rfl
 have p2 := (HB1.out.ext hx1).cell (i := 2) (v := .slice pa pn pc) rfl
 have HS := Lib.hid (HB2.out.ext hx1)
 obtain ⟨⟨g0, g1, g2, g3, g4, g5, g6, g7, g8, g9, g10, g11, g12⟩, -⟩ := sq_cells HS.out
 clear hx1 HB0 HB1 HB2 HU HE U0
 by_cases hm : may W H zs
 · have HW := Lib.hid (sideB_true hm.1)
   have HH := Lib.hid (sideB_true hm.2.1)
   rw [decide_eq_true hm]
   rw [if_pos hm] at HF
   clear hm
   by_cases hx0 : x < 0
   · have HG : Hid (f = range) := by show _ = _; rw [HF.out, if_neg (fun h => by unfold plP at h; omega)]
     clear HF UP UL
     go_wp2
     go_ret
     exact KcPost.code HG.out (by decide) HE1.out
   by_cases hx1 : W ≤ x
   · have HG : Hid (f = range) := by show _ = _; rw [HF.out, if_neg (fun h => by unfold plP at h; omega)]
     clear HF UP UL
     go_wp2
     go_ret
     exact KcPost.code HG.out (by decide) HE1.out
   obtain ⟨rx, hrx⟩ : ∃ r, x % 8 = r := ⟨_, rfl⟩
   have mx : Int.tmod x 8 = rx := (tmod8 (by omega)).trans hrx
   have dx : IntKind.i64.wrap rx = rx := by rw [IntKind.wrap_i64]; omega
   have HRx := Lib.hid hrx
   clear hrx
   by_cases hx2 : ¬ rx = 0
   · have HG : Hid (f = range) := by show _ = _; rw [HF.out, if_neg (fun h => by have h9 := HRx.out; unfold plP at h; omega)]
     have tx : (rx != 0) = true := by simp [hx2]
     clear HF UP UL
     go_wp2
     go_ret
     exact KcPost.code HG.out (by decide) HE1.out
   have tx : (rx != 0) = false := by simp; omega
   by_cases hy0 : y < 0
   · have HG : Hid (f = range) := by show _ = _; rw [HF.out, if_neg (fun h => by unfold plP at h; omega)]
     clear HF UP UL
     go_wp2
     go_ret
     exact KcPost.code HG.out (by decide) HE1.out
   by_cases hy1 : H ≤ y
   · have HG : Hid (f = range) := by show _ = _; rw [HF.out, if_neg (fun h => by unfold plP at h; omega)]
     clear HF UP UL
     go_wp2
     go_ret
     exact KcPost.code HG.out (by decide) HE1.out
   obtain ⟨ry, hry⟩ : ∃ r, y % 8 = r := ⟨_, rfl⟩
   have my : Int.tmod y 8 = ry := (tmod8 (by omega)).trans hry
   have dy : IntKind.i64.wrap ry = ry := by rw [IntKind.wrap_i64]; omega
   have HRy := Lib.hid hry
   clear hry
   by_cases hy2 : ¬ ry = 0
   · have HG : Hid (f = range) := by show _ = _; rw [HF.out, if_neg (fun h => by have h9 := HRy.out; unfold plP at h; omega)]
     have ty : (ry != 0) = true := by simp [hy2]
     clear HF UP UL
     go_wp2
     go_ret
     exact KcPost.code HG.out (by decide) HE1.out
   have ty : (ry != 0) = false := by simp; omega
   have HP : Hid (plP W H x y) := by have h8 := HRx.out; have h9 := HRy.out; exact ⟨by omega, by omega, by omega, by omega, by omega, by omega⟩
   rw [if_pos HP.out] at HF
   clear HP HRx HRy HW HH
   by_cases hq0 : qp < 0
   · have HG : Hid (f = range) := by show _ = _; rw [HF.out, if_neg (by omega)]
     clear HF UP UL
     go_wp2
     go_ret
     exact KcPost.code HG.out (by decide) HE1.out
   by_cases hq1 : 15 < qp
   · have HG : Hid (f = range) := by show _ = _; rw [HF.out, if_neg (by omega)]
     clear HF UP UL
     go_wp2
     go_ret
     exact KcPost.code HG.out (by decide) HE1.out
   rw [if_pos (show 0 ≤ qp ∧ qp ≤ 15 by omega)] at HF
   by_cases hk0 : k < 0
   · have HG : Hid (f = kndF) := by show _ = _; rw [HF.out, if_neg (by omega)]
     clear HF UP UL
     go_wp2
     go_ret
     exact KcPost.code HG.out (by decide) HE1.out
   by_cases hk1 : 3 < k
   · have HG : Hid (f = kndF) := by show _ = _; rw [HF.out, if_neg (by omega)]
     clear HF UP UL
     go_wp2
     go_ret
     exact KcPost.code HG.out (by decide) HE1.out
   rw [if_pos (show 0 ≤ k ∧ k ≤ 3 by omega)] at HF
   have UQ := Lib.hid (UP.out (show 0 ≤ k ∧ k ≤ 3 by omega))
   clear UP
   by_cases hk2 : k ≤ 1
   · go_wp2_with fail
     refine (UL.out _ HE1.out).mono ?_; rintro e w2 ⟨rfl, hx2⟩
     have HE2 := Lib.hid (HE1.out.trans hx2)
     have HS2 := Lib.hid (HS.out.ext hx2)
     clear g0 g1 g2 g3 g4 g5 g6 g7 g8 g9 g10 g11 g12 hx2
     obtain ⟨⟨g0, g1, g2, g3, g4, g5, g6, g7, g8, g9, g10, g11, g12⟩, -⟩ := sq_cells HS2.out
     by_cases hln : leanP PW PH ps W H
     · rw [decide_eq_true hln]
       have HG : Hid (f = cp) := by show _ = _; rw [HF.out, if_neg (fun h => h.2 hln)]
       clear hln HF UL
       go_wp2_with fail
       refine (UQ.out _ HE2.out).mono ?_; rintro e w3 ⟨x3, rfl, hx3, k3⟩
       go_wp2
       go_ret
       exact ⟨_, rfl, fun W => by rw [HG.out]; exact hx3 W, HE2.out.trans k3⟩
     · rw [decide_eq_false hln]
       have HG : Hid (f = some ([], 12)) := by show _ = _; rw [HF.out, if_pos ⟨hk2, hln⟩]
       clear hln HF UL UQ
       go_wp2
       go_ret
       exact KcPost.code HG.out (by decide) HE2.out
   · have HG : Hid (f = cp) := by show _ = _; rw [HF.out, if_neg (fun h => hk2 h.1)]
     clear HF UL
     go_wp2_with fail
     refine (UQ.out _ HE1.out).mono ?_; rintro e w3 ⟨x3, rfl, hx3, k3⟩
     go_wp2
     go_ret
     exact ⟨_, rfl, fun W => by rw [HG.out]; exact hx3 W, HE1.out.trans k3⟩
 · have HG : Hid (f = form) := by show _ = _; rw [HF.out, if_neg hm]
   rw [decide_eq_false hm]
   clear hm HF UP UL
   go_wp2
   go_ret
   exact KcPost.code HG.out (by decide) HE1.out
end Go.Proofs.YtcekpngkfldgkaaGreatDoor