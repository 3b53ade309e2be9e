/- kinref21: rest, foretold, put. -/
import Derived.Test.YtcekpngkfldgkaaGreatDoorXTk
import Derived.Test.YtcekpngkfldgkaaGreatDoorXHa
import Derived.Test.YtcekpngkfldgkaaGreatDoorXRPo
import Derived.Test.YtcekpngkfldgkaaGreatDoorXHc
import Derived.Test.YtcekpngkfldgkaaGreatDoorXGj
import Derived.Test.YtcekpngkfldgkaaGreatDoorXGi
import Derived.Test.YtcekpngkfldgkaaGreatDoorXGe
import Derived.Test.YtcekpngkfldgkaaGreatDoorXGh
import Derived.Test.YtcekpngkfldgkaaGreatDoorXGb
import Derived.Test.YtcekpngkfldgkaaGreatDoorXGg
namespace Go.Proofs.YtcekpngkfldgkaaGreatDoor
set_option linter.unusedVariables false
set_option linter.unusedSimpArgs false
open Go.RowKit Go.Extern.Stop Go.Stop Go.Extern
def LsP (w : World) (zs : List Int) (e : Ending) (w' : World) : Prop := ∃ a n c, e = .returned (.slice a n c) ∧ Ext w w' ∧ Ints w' (.slice a n c) zs
theorem LsP.of {w w' : World} {zs : List Int} {u : Value} (hx : Ext w w') (h : Ints w' u zs) : LsP w zs (.returned u) w' := by
 obtain ⟨a, c, rfl⟩ := h.form
 exact ⟨a, _, c, rfl, hx, h⟩
set_option maxRecDepth 20000 in
set_option maxHeartbeats 2000000 in
theorem rrest_any (l : List Int) (n : Nat) (qp : Int) (v : Value) (w : World) (hn : n = 16 ∨ n = 64) (hl : lvE l n = none) (hq : okQ qp) (h : Ints w v l) :
 Calls Tryz.prog 69 #[v, .int .i64 qp] w (LsP w (resV l qp)) := by
 have hlen := (lvE_none hl).1
 have U1 := rValues_any l qp v w (by omega) h
 rw [val_ans hl hq] at U1
 have HU1 := Lib.hid U1
 have U2 := Lib.hid (fun (W' : World) u (k : Ints W' u (valL l qp)) => rinverse_all (valL l qp) u W' k)
 rw [blk_ans hn hl hq] at U2
 clear U1 hlen hl hq h hn
 go_enter Tryz.func69, Tryz.ntmps69
 go_wp2_with fail
 refine HU1.out.mono ?_; rintro e w1 ⟨u1, k1, rfl, hx1, hi1⟩
 obtain ⟨hi1, rfl⟩ := hi1
 have HI1 := Lib.hid hi1
 obtain ⟨a1, c1, rfl⟩ := hi1.form
 have HX1 := Lib.hid hx1
 clear hi1 hx1
 go_wp2_with fail
 refine (U2.out _ _ (HI1.out.ext (by repeat (first | exact Ext.refl _ | assumption | refine Ext.alloc ?_ _ | refine Ext.drew ?_ | refine Ext.drewN ?_ _ | refine Ext.setCell ?_ (by first | exact Nat.le_refl _ | (simp; done) | omega) _ | refine Ext.trans ?_ (by assumption))))).mono ?_; rintro e w2 ⟨u2, k2, rfl, hx2, hi2⟩
 obtain ⟨hi2, rfl⟩ := hi2
 have E2 : Ext w w2 := by first | exact HX1.out.trans hx2 | exact HX1.out.trans (((Ext.refl _).alloc _).trans hx2)
 obtain ⟨a2, c2, rfl⟩ := hi2.form
 go_wp2
 go_ret
 first | exact LsP.of E2 hi2 | exact LsP.of (E2.alloc _) (hi2.ext ((Ext.refl _).alloc _)) | exact LsP.of ((E2.alloc _).alloc _) (hi2.ext (((Ext.refl _).alloc _).alloc _))
set_option maxRecDepth 20000 in
set_option maxHeartbeats 2000000 in
theorem rforetold_4 (W H x y m : Int) (zs : List Int) (fa : Option Addr) (fn fc : Nat) (w : World) (h : Ints w (.slice fa fn fc) zs) (hm : may W H zs) (hl : lies W H x y 4) (hmo : isM m = true) :
 Calls Tryz.prog 70 #[.agg #[.int .i64 W, .int .i64 H, .slice fa fn fc], .int .i64 x, .int .i64 y, .int .i64 4, .int .i64 m] w (LsP w (intL W zs x y 4 m)) := by
 have FB0 : FrBox (w.alloc (.cells #[.int .i64 W, .int .i64 H, .slice fa fn fc] 24)) w.heap.size W H (.slice fa fn fc) := FrBox.new w W H (.slice fa fn fc)
 have E0 : Ext w (w.alloc (.cells #[.int .i64 W, .int .i64 H, .slice fa fn fc] 24)) := (Ext.refl w).alloc _
 have hc := edge_chk hm (n := 4) (by decide) x y
 have hm3 : 0 ≤ m ∧ m ≤ 3 := by simpa [isM] using hmo
 have hpa : prdAns m (rowL 4 (topF W zs x y)) (rowL 4 (leftF W zs x y)) (placeF W zs (x - 1) (y - 1)) = none := by unfold prdAns; rw [if_neg (by omega), hc]
 have hpv : prdV m (rowL 4 (topF W zs x y)) (rowL 4 (leftF W zs x y)) (placeF W zs (x - 1) (y - 1)) = intL W zs x y 4 m := by unfold prdV; rw [hpa]; rfl
 obtain ⟨l1, l2, l3, l4, l5, l6⟩ := id hl
 have UE := Lib.hid (fun W' (k : Ext w W') => redges_4 W H x y zs fa fn fc W' (h.ext k) hm ⟨l3, l4⟩ ⟨l5, l6⟩)
 have UQ := Lib.hid (fun W' v v' h h' => RPredict_any m (rowL 4 (topF W zs x y)) (rowL 4 (leftF W zs x y)) (placeF W zs (x - 1) (y - 1)) v v' W' h h')
 rw [hpa, hpv] at UQ
 clear h hm hl hmo hc hm3 hpa hpv l1 l2 l3 l4 l5 l6
 go_enter Tryz.func70, Tryz.ntmps70
 go_wp2_with fail
 refine (UE.out _ (by first | exact E0 | exact Ext.refl _)).mono ?_; rintro e w1 ⟨t, u', rfl, hx1, ht, hu'⟩
 have HT1 := Lib.hid ht
 have HU1 := Lib.hid hu'
 obtain ⟨ta, tc, rfl⟩ := ht.form
 obtain ⟨ua, uc, rfl⟩ := hu'.form
 have HX1 := Lib.hid (show Ext w w1 from (by first | exact E0.trans hx1 | exact hx1))
 clear FB0 E0 hx1 ht hu' UE
 go_wp2_with fail
 refine (UQ.out _ _ _ HT1.out HU1.out).mono ?_; rintro e w2 ⟨pv, c2, a2, n2, k2, rfl, hx2, hp2, -⟩
 have E2 : Ext w w2 := by first | exact HX1.out.trans hx2 | exact HX1.out.trans (((Ext.refl _).alloc _).trans hx2)
 obtain ⟨pa, pc, rfl⟩ := hp2.form
 go_wp2
 go_ret
 first | exact LsP.of E2 hp2 | exact LsP.of (E2.alloc _) (hp2.ext ((Ext.refl _).alloc _)) | exact LsP.of ((E2.alloc _).alloc _) (hp2.ext (((Ext.refl _).alloc _).alloc _))
set_option maxRecDepth 20000 in
set_option maxHeartbeats 2000000 in
theorem rforetold_8 (W H x y m : Int) (zs : List Int) (fa : Option Addr) (fn fc : Nat) (w : World) (h : Ints w (.slice fa fn fc) zs) (hm : may W H zs) (hl : lies W H x y 8) (hmo : isM m = true) :
 Calls Tryz.prog 70 #[.agg #[.int .i64 W, .int .i64 H, .slice fa fn fc], .int .i64 x, .int .i64 y, .int .i64 8, .int .i64 m] w (LsP w (intL W zs x y 8 m)) := by
 have FB0 : FrBox (w.alloc (.cells #[.int .i64 W, .int .i64 H, .slice fa fn fc] 24)) w.heap.size W H (.slice fa fn fc) := FrBox.new w W H (.slice fa fn fc)
 have E0 : Ext w (w.alloc (.cells #[.int .i64 W, .int .i64 H, .slice fa fn fc] 24)) := (Ext.refl w).alloc _
 have hc := edge_chk hm (n := 8) (by decide) x y
 have hm3 : 0 ≤ m ∧ m ≤ 3 := by simpa [isM] using hmo
 have hpa : prdAns m (rowL 8 (topF W zs x y)) (rowL 8 (leftF W zs x y)) (placeF W zs (x - 1) (y - 1)) = none := by unfold prdAns; rw [if_neg (by omega), hc]
 have hpv : prdV m (rowL 8 (topF W zs x y)) (rowL 8 (leftF W zs x y)) (placeF W zs (x - 1) (y - 1)) = intL W zs x y 8 m := by unfold prdV; rw [hpa]; rfl
 obtain ⟨l1, l2, l3, l4, l5, l6⟩ := id hl
 have UE := Lib.hid (fun W' (k : Ext w W') => redges_8 W H x y zs fa fn fc W' (h.ext k) hm ⟨l3, l4⟩ ⟨l5, l6⟩)
 have UQ := Lib.hid (fun W' v v' h h' => RPredict_any m (rowL 8 (topF W zs x y)) (rowL 8 (leftF W zs x y)) (placeF W zs (x - 1) (y - 1)) v v' W' h h')
 rw [hpa, hpv] at UQ
 clear h hm hl hmo hc hm3 hpa hpv l1 l2 l3 l4 l5 l6
 go_enter Tryz.func70, Tryz.ntmps70
 go_wp2_with fail
 refine (UE.out _ (by first | exact E0 | exact Ext.refl _)).mono ?_; rintro e w1 ⟨t, u', rfl, hx1, ht, hu'⟩
 have HT1 := Lib.hid ht
 have HU1 := Lib.hid hu'
 obtain ⟨ta, tc, rfl⟩ := ht.form
 obtain ⟨ua, uc, rfl⟩ := hu'.form
 have HX1 := Lib.hid (show Ext w w1 from (by first | exact E0.trans hx1 | exact hx1))
 clear FB0 E0 hx1 ht hu' UE
 go_wp2_with fail
 refine (UQ.out _ _ _ HT1.out HU1.out).mono ?_; rintro e w2 ⟨pv, c2, a2, n2, k2, rfl, hx2, hp2, -⟩
 have E2 : Ext w w2 := by first | exact HX1.out.trans hx2 | exact HX1.out.trans (((Ext.refl _).alloc _).trans hx2)
 obtain ⟨pa, pc, rfl⟩ := hp2.form
 go_wp2
 go_ret
 first | exact LsP.of E2 hp2 | exact LsP.of (E2.alloc _) (hp2.ext ((Ext.refl _).alloc _)) | exact LsP.of ((E2.alloc _).alloc _) (hp2.ext (((Ext.refl _).alloc _).alloc _))
def FvO (w : World) (W H : Int) (zs : List Int) (e : Ending) (w' : World) : Prop := ∃ a n c, e = .returned (.agg #[.int .i64 W, .int .i64 H, .slice a n c]) ∧ Ext w w' ∧ w'.ownsRow w.heap.size 3 1 (.slice a n c) n (zs.map (Value.int .i64)) ∧ n = zs.length
set_option maxRecDepth 20000 in
set_option maxHeartbeats 2000000 in
theorem rsput_any (W H x y i : Int) (zs bs : List Int) (a b : Option Addr) (n m cap cb : Nat) (w : World) (h : Ints w (.slice a n cap) zs) (hb : Ints w (.slice b m cb) bs) (hp : putAns W H zs x y i bs = none) :
 Calls Tryz.prog 66 #[.agg #[.int .i64 W, .int .i64 H, .slice a n cap], .int .i64 x, .int .i64 y, .int .i64 i, .slice b m cb] w (FvO w W H (putRow W zs x y i bs)) := by
 have U := Lib.hid (fun (W' : World) (k : Ext w W') => rput_fr W H x y i zs bs a b n m cap cb W' (h.ext k) (hb.ext k) hp)
 have A1 := FrAt.new (w.alloc (.cells #[.int .i64 W, .int .i64 H, .slice a n cap] 24))
 have E0 := ((Ext.refl w).alloc (.cells #[.int .i64 W, .int .i64 H, .slice a n cap] 24)).alloc (.cells #[.int .i64 0, .int .i64 0, .slice none 0 0] 24)
 obtain ⟨u, hu⟩ : ∃ z, (w.alloc (.cells #[.int .i64 W, .int .i64 H, .slice a n cap] 24)).alloc (.cells #[.int .i64 0, .int .i64 0, .slice none 0 0] 24) = z := ⟨_, rfl⟩
 rw [hu] at A1 E0
 rw [show (w.alloc (.cells #[.int .i64 W, .int .i64 H, .slice a n cap] 24)).heap.size = w.heap.size + 1 by simp] at A1
 have HA1 := Lib.hid A1
 have HE := Lib.hid E0
 have HU := Lib.hid hu
 have HUL : Hid (w.heap.size + 1 < u.heap.size) := Ext.lt A1.1.1
 clear h hb hp A1 E0 hu
 go_enter Tryz.func66, Tryz.ntmps66
 go_wp2_with fail
 rw [HU.out]
 refine (U.out _ HE.out).mono ?_; rintro e w1 ⟨a1, n1, c1, c, b1, m1, k1, rfl, hx1, ho1, hn1⟩
 have E1 := HE.out.trans hx1
 have X2 : Ext w1 ((w1.alloc (.cells #[.int .i64 W, .int .i64 H, .slice a1 n1 c1] 24)).alloc (.cells #[.int .i64 c, .slice b1 m1 k1] 43)) := ((Ext.refl w1).alloc _).alloc _
 obtain ⟨⟨r0, r1, r2⟩, y0, y1, y2⟩ := HA1.out.ext (hx1.trans X2)
 have HO := Lib.hid (own_ext ho1 X2)
 have HN := Lib.hid hn1
 have E2 := E1.trans X2
 clear ho1 hx1 hn1 HU U E1 X2
 go_wp2
 obtain ⟨g0, g1, g2⟩ := fr_cells W H (.slice a1 n1 c1) r0 r1 r2
 exact bodyPost_ret (v := .agg #[.int .i64 W, .int .i64 H, .slice a1 n1 c1]) (by simp [results, Tryz.results66, go_sem, g0, g1, g2]) rfl ⟨_, _, _, rfl, set3_ext E2 (by omega) _ _ _, own_mono (row_setCell (row_setCell (row_setCell HO.out (w.heap.size + 1) 0 (by have := HUL.out; omega) _) (w.heap.size + 1) 1 (by have := HUL.out; omega) _) (w.heap.size + 1) 2 (by have := HUL.out; omega) _) (by have := HE.out.size; omega), HN.out⟩
theorem rsclip_any (p l : List Int) (n : Nat) (qp : Int) (v u : Value) (w : World) (hn : n = 16 ∨ n = 64) (hl : lvE l n = none) (hq : okQ qp) (ha : Ints w v p) (hpl : p.length = n) (hpw : within 0 255 p) (hb : Ints w u (resV l qp)) :
 Calls Tryz.prog 68 #[v, u] w (LsP w (addL p l qp)) := by
 have hlen := (lvE_none hl).1
 refine (rclip7_any p (resV l qp) v u w ha hb (by rw [res_len, hlen, hpl]) (by rw [hpl]; omega) (fun j => ?_) (fun j => ?_)).mono ?_
 · have : 0 ≤ p.getD j 0 ∧ p.getD j 0 ≤ 255 := by
    by_cases hj : j < p.length
    · have e : p.getD j 0 = p[j] := by simp [List.getD, List.getElem?_eq_getElem hj]
      rw [e]
      exact hpw _ (List.getElem_mem hj)
    · rw [getD_out hj]; omega
   omega
 · have := res_in hn hl hq j
   omega
 · rintro e w' ⟨u', rfl, hx, ho⟩
   exact LsP.of hx (Ints.of_owns ho (by rw [add_len, hpl]; omega))
end Go.Proofs.YtcekpngkfldgkaaGreatDoor