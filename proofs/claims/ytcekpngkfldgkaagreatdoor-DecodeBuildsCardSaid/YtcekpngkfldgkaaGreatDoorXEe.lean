/- decode.Build of anything: its row is the call's own. -/
import Derived.Test.YtcekpngkfldgkaaGreatDoorXTk
import Derived.Test.YtcekpngkfldgkaaGreatDoorXDeY
import Derived.Test.YtcekpngkfldgkaaGreatDoorXEb
namespace Go.Proofs.YtcekpngkfldgkaaGreatDoor
set_option linter.unusedVariables false
set_option linter.unusedSimpArgs false
open Go.RowKit Go.Extern.Stop Go.Stop Go.Extern
theorem uno_own {u w' : World} {sl : Value} {ys : List Int} {P : World → Prop} (h : Uno (Sep TlF HoF) u w' ((sl, ys), P)) : w'.ownsRow u.heap.size 3 1 sl ys.length (ys.map (Value.int .i64)) := by
 obtain ⟨F, ⟨F1, F2, g1, g2, d1, hF⟩, h2, h3⟩ := h
 obtain ⟨⟨hl, hc⟩, hb⟩ := g1
 refine ⟨hl, ?_⟩
 rcases hc with hc | ⟨g, cap, cur, e, hg, hr⟩
 · exact Or.inl hc
 · have e' : sl = .slice (some ⟨g, 0, none⟩) ys.length cap := e
   exact Or.inr ⟨g, cap, cur, e, h3 g ((hF g).2 (Or.inl ((hb g).2 (by rw [e']; rfl)))), hr⟩
def DfO (w : World) (r : Fall × Fr) (e : Ending) (w' : World) : Prop := ∃ u x, e = .returned (.tuple #[.agg #[.int .i64 r.2.1, .int .i64 r.2.2.1, u], x]) ∧ Ext w w' ∧ ErrIs w' r.1 x ∧ w'.ownsRow w.heap.size 3 1 u r.2.2.2.length (r.2.2.2.map (Value.int .i64))
set_option maxRecDepth 20000 in
set_option maxHeartbeats 8000000 in
theorem dBuildO_any (W H PW PH x y qp : Int) (zs ps : List Int) (fa pa : Option Addr) (fn fc pn pc : Nat) (q : Sq) (L s0 s1 s2 s3 : Value) (w : World) (hf : Ints w (.slice fa fn fc) zs) (hp : Ints w (.slice pa pn pc) ps) (hs : SqIs w q L s0 s1 s2 s3) :
 Calls Tryz.prog 13 #[.agg #[.int .i64 W, .int .i64 H, .slice fa fn fc], .agg #[.int .i64 PW, .int .i64 PH, .slice pa pn pc], .int .i64 x, .int .i64 y, .int .i64 qp, sqQ q L s0 s1 s2 s3] w (DfO w (bdV W H zs PW PH ps x y qp q)) := by
 have UK := Lib.hid (fun (W' : World) (kx : Ext w W') => dcheck_any W H PW PH x y qp zs ps fa pa fn fc pn pc q L s0 s1 s2 s3 W' (hf.ext kx) (hp.ext kx) (hs.ext kx))
 have HFI := Lib.hid hf
 have HPI := Lib.hid hp
 have HSI := Lib.hid hs
 obtain ⟨hL, h0, h1, h2, h3⟩ := hs
 obtain ⟨aL, nL, cL, rfl⟩ := hL.slf
 obtain ⟨a0, n0, c0, rfl⟩ := h0.slf
 obtain ⟨a1, n1, c1, rfl⟩ := h1.slf
 obtain ⟨a2, n2, c2, rfl⟩ := h2.slf
 obtain ⟨a3, n3, c3, rfl⟩ := h3.slf
 obtain ⟨r, hr⟩ : ∃ z, bdV W H zs PW PH ps x y qp q = z := ⟨_, rfl⟩
 obtain ⟨ck, hck⟩ : ∃ z, ckD W H zs PW PH ps x y qp q = z := ⟨_, rfl⟩
 have HR : Hid (r = bdW ck W H (bld W H zs ps x y qp q)) := by rw [← hr, ← hck]; rfl
 rw [hck] at UK
 rw [hr]
 have HCK := Lib.hid hck
 clear hf hp hL h0 h1 h2 h3 hr hck
 obtain ⟨k, m, a, b, c, d, vx, vy, l, l0, l1, l2, l3⟩ := q
 unfold sqQ sqV at UK ⊢
 dsimp only at UK ⊢
 have B1 := ((BoxIs.new (w.alloc (.cells #[.int .i64 W, .int .i64 H, .slice fa fn fc] 24)) #[.int .i64 PW, .int .i64 PH, .slice pa pn pc] 24).ext ((Ext.refl _).alloc (.cells #[.int .i64 k, .int .i64 m, .int .i64 a, .int .i64 b, .int .i64 c, .int .i64 d, .int .i64 vx, .int .i64 vy, .slice aL nL cL, .slice a0 n0 c0, .slice a1 n1 c1, .slice a2 n2 c2, .slice a3 n3 c3] 30))).ext ((Ext.refl _).alloc (.cells #[.int .i64 0, .int .i64 0, .slice none 0 0] 24))
 have B0 := (((BoxIs.new w #[.int .i64 W, .int .i64 H, .slice fa fn fc] 24).ext ((Ext.refl _).alloc (.cells #[.int .i64 PW, .int .i64 PH, .slice pa pn pc] 24))).ext ((Ext.refl _).alloc (.cells #[.int .i64 k, .int .i64 m, .int .i64 a, .int .i64 b, .int .i64 c, .int .i64 d, .int .i64 vx, .int .i64 vy, .slice aL nL cL, .slice a0 n0 c0, .slice a1 n1 c1, .slice a2 n2 c2, .slice a3 n3 c3] 30))).ext ((Ext.refl _).alloc (.cells #[.int .i64 0, .int .i64 0, .slice none 0 0] 24))
 have B2 := (BoxIs.new ((w.alloc (.cells #[.int .i64 W, .int .i64 H, .slice fa fn fc] 24)).alloc (.cells #[.int .i64 PW, .int .i64 PH, .slice pa pn pc] 24)) #[.int .i64 k, .int .i64 m, .int .i64 a, .int .i64 b, .int .i64 c, .int .i64 d, .int .i64 vx, .int .i64 vy, .slice aL nL cL, .slice a0 n0 c0, .slice a1 n1 c1, .slice a2 n2 c2, .slice a3 n3 c3] 30).ext ((Ext.refl _).alloc (.cells #[.int .i64 0, .int .i64 0, .slice none 0 0] 24))
 have A3 := FrAt.new (((w.alloc (.cells #[.int .i64 W, .int .i64 H, .slice fa fn fc] 24)).alloc (.cells #[.int .i64 PW, .int .i64 PH, .slice pa pn pc] 24)).alloc (.cells #[.int .i64 k, .int .i64 m, .int .i64 a, .int .i64 b, .int .i64 c, .int .i64 d, .int .i64 vx, .int .i64 vy, .slice aL nL cL, .slice a0 n0 c0, .slice a1 n1 c1, .slice a2 n2 c2, .slice a3 n3 c3] 30))
 have E0 := ((((Ext.refl w).alloc (.cells #[.int .i64 W, .int .i64 H, .slice fa fn fc] 24)).alloc (.cells #[.int .i64 PW, .int .i64 PH, .slice pa pn pc] 24)).alloc (.cells #[.int .i64 k, .int .i64 m, .int .i64 a, .int .i64 b, .int .i64 c, .int .i64 d, .int .i64 vx, .int .i64 vy, .slice aL nL cL, .slice a0 n0 c0, .slice a1 n1 c1, .slice a2 n2 c2, .slice a3 n3 c3] 30)).alloc (.cells #[.int .i64 0, .int .i64 0, .slice none 0 0] 24)
 obtain ⟨u, hu⟩ : ∃ z, ((((w.alloc (.cells #[.int .i64 W, .int .i64 H, .slice fa fn fc] 24)).alloc (.cells #[.int .i64 PW, .int .i64 PH, .slice pa pn pc] 24)).alloc (.cells #[.int .i64 k, .int .i64 m, .int .i64 a, .int .i64 b, .int .i64 c, .int .i64 d, .int .i64 vx, .int .i64 vy, .slice aL nL cL, .slice a0 n0 c0, .slice a1 n1 c1, .slice a2 n2 c2, .slice a3 n3 c3] 30)).alloc (.cells #[.int .i64 0, .int .i64 0, .slice none 0 0] 24)) = z := ⟨_, rfl⟩
 rw [hu] at B0 B1 B2 A3 E0
 rw [show (w.alloc (.cells #[.int .i64 W, .int .i64 H, .slice fa fn fc] 24)).heap.size = w.heap.size + 1 by simp] at B1
 rw [show ((w.alloc (.cells #[.int .i64 W, .int .i64 H, .slice fa fn fc] 24)).alloc (.cells #[.int .i64 PW, .int .i64 PH, .slice pa pn pc] 24)).heap.size = w.heap.size + 1 + 1 by simp] at B2
 rw [show (((w.alloc (.cells #[.int .i64 W, .int .i64 H, .slice fa fn fc] 24)).alloc (.cells #[.int .i64 PW, .int .i64 PH, .slice pa pn pc] 24)).alloc (.cells #[.int .i64 k, .int .i64 m, .int .i64 a, .int .i64 b, .int .i64 c, .int .i64 d, .int .i64 vx, .int .i64 vy, .slice aL nL cL, .slice a0 n0 c0, .slice a1 n1 c1, .slice a2 n2 c2, .slice a3 n3 c3] 30)).heap.size = w.heap.size + 1 + 1 + 1 by simp] at A3
 have HB0 := Lib.hid B0
 have HB1 := Lib.hid B1
 have HB2 := Lib.hid B2
 have HA3 := Lib.hid A3
 have HE := Lib.hid E0
 have HU := Lib.hid hu
 have HUL : Hid (w.heap.size + 1 + 1 + 1 < u.heap.size) := Ext.lt A3.1.1
 clear B0 B1 B2 E0 hu A3
 go_enter Tryz.func13, Tryz.ntmps13
 go_wp2_with fail
 rw [HU.out]
 refine (UK.out _ HE.out).mono ?_; rintro e w1 ⟨x1, rfl, hx1, e1⟩
 clear HU UK
 have HX1 := Lib.hid e1
 have HE1 := Lib.hid (HE.out.trans e1)
 obtain ⟨⟨r0, r1, r2⟩, y0, y1, y2⟩ := HA3.out.ext e1
 cases ck with
 | some ee =>
   obtain ⟨xt, xv, rfl⟩ := ErrIs.ne (hx1 w1)
   have HV := Lib.hid hx1
   clear hx1 HB0 HB1 HB2 HA3 HE HFI HPI HSI HCK HX1 e1
   go_wp2
   obtain ⟨g0, g1, g2⟩ := fr_cells 0 0 (.slice none 0 0) r0 r1 r2
   exact bodyPost_ret (v := .tuple #[.agg #[.int .i64 0, .int .i64 0, .slice none 0 0], .iface xt xv]) (by simp [results, Tryz.results13, go_sem, g0, g1, g2]) rfl ⟨_, _, by rw [HR.out]; rfl, set3_ext HE1.out (by omega) _ _ _, by rw [HR.out]; exact HV.out _, by rw [HR.out]; exact World.ownsRow_nil _ _ _ _⟩
 | none =>
   obtain rfl : x1 = .nilIface := hx1 w1
   have HO := Lib.hid (ck_none HCK.out)
   have hlen : 0 < zs.length ∧ zs.length ≤ 1000000 := by have h1 := HO.out.1; have := may_area h1; have := may_len h1; have := h1.2.2.1; omega
   have HLN := Lib.hid hlen
   have UC := Lib.hid (fun (W' : World) (kx : Ext w W') => dcopy_any W H zs fa fn fc W' (HFI.out.ext kx) HLN.out.1 HLN.out.2)
   clear hx1 HCK hlen
   have f0 := (HB0.out.ext e1).cell (i := 0) (v := .int .i64 W) rfl
   have f1 := (HB0.out.ext e1).cell (i := 1) (v := .int .i64 H) rfl
   have f2 := (HB0.out.ext e1).cell (i := 2) (v := .slice fa fn fc) rfl
   go_wp2_with fail
   refine (UC.out _ HE1.out).mono ?_; rintro e w2 ⟨g, gc, rfl, ho2, hx2⟩
   clear f0 f1 f2 r0 r1 r2 y0 y1 y2 UC
   obtain ⟨htl, htb⟩ := TlF.new rfl ho2
   have HTB := Lib.hid htb
   have htb2 : ∀ k, (Value.slice (some ⟨g, 0, none⟩) zs.length gc).ownBlock = some k → u.heap.size ≤ k := fun k hk => Nat.le_trans e1.size (htb k hk)
   have BF := BoxIs.new w2 #[.int .i64 W, .int .i64 H, .slice (some ⟨g, 0, none⟩) zs.length gc] 24
   have U3 := bag_add TlF.obj ((Uno.first htl (e1.trans hx2) htb2).bag TlF.obj (P := fun _ => True) (fun _ => trivial)) ((Ext.refl w2).alloc (.cells #[.int .i64 W, .int .i64 H, .slice (some ⟨g, 0, none⟩) zs.length gc] 24)) (HoF.box BF) (by rintro i rfl; exact Nat.le_refl _)
   have X3 := (e1.trans hx2).alloc (.cells #[.int .i64 W, .int .i64 H, .slice (some ⟨g, 0, none⟩) zs.length gc] 24)
   have p0 := (HB1.out.ext X3).cell (i := 0) (v := .int .i64 PW) rfl
   have p1 := (HB1.out.ext X3).cell (i := 1) (v := .int .i64 PH) rfl
   have p2 := (HB1.out.ext X3).cell (i := 2) (v := .slice pa pn pc) rfl
   obtain ⟨⟨g0, g1, g2, g3, g4, g5, g6, g7, g8, g9, g10, g11, g12⟩, -⟩ := sq_cells (HB2.out.ext X3)
   obtain ⟨w3, hw3⟩ : ∃ z, w2.alloc (.cells #[.int .i64 W, .int .i64 H, .slice (some ⟨g, 0, none⟩) zs.length gc] 24) = z := ⟨_, rfl⟩
   rw [hw3] at BF U3 X3
   have HU3 := Lib.hid U3
   have HW3 := Lib.hid hw3
   have HBF := Lib.hid BF
   have HX3 := Lib.hid X3
   have HE3 := Lib.hid (HE.out.trans X3)
   clear htl htb htb2 ho2 hx2 e1 BF U3 X3 hw3
   go_wp2_with fail
   rw [HW3.out]
   clear p0 p1 p2 g0 g1 g2 g3 g4 g5 g6 g7 g8 g9 g10 g11 g12 HW3
   obtain ⟨om, opl, ol, oq, ok, opt, oli, opv⟩ := HO.out
   refine (bag_f TlF.obj HU3.out (fun G X hG hX hd => dbuild_any W H PW PH x y qp zs ps g zs.length gc pa pn pc ⟨k, m, a, b, c, d, vx, vy, l, l0, l1, l2, l3⟩ _ _ _ _ _ (fun i => i < w.heap.size) w3 G hG om ol ok opt oli oq (sqs_args HSI.out HE3.out) (fun i hi hg => by have h8 := (hG.2 i).1 hg; have h9 := HTB.out i h8; have h7 := HE1.out.size; omega) (fun hk => by obtain ⟨e1, e2, e3⟩ := opv hk; exact ⟨e1, e2, e3, HPI.out.ext HE3.out⟩))).mono ?_
   rintro e w4 ⟨rfl, U4⟩
   have hbl : (bld W H zs ps x y qp ⟨k, m, a, b, c, d, vx, vy, l, l0, l1, l2, l3⟩).length ≤ 1000000 := by have := may_len (bld_may (x := x) (y := y) (qp := qp) (q := ⟨k, m, a, b, c, d, vx, vy, l, l0, l1, l2, l3⟩) om ol (fun h => (opv h).2.2)); omega
   have HO4 := Lib.hid (uno_own U4)
   obtain ⟨X, HX, hXb, E4⟩ := uno_ho U4 hbl
   have HXX := Lib.hid (HX.imp (fun W h => h.1))
   have hb4 := HX.get.2.2
   have c0 := hb4.cell (i := 0) (v := .int .i64 W) rfl
   have c1 := hb4.cell (i := 1) (v := .int .i64 H) rfl
   have c2 := hb4.cell (i := 2) (v := .slice (some ⟨g, 0, none⟩) zs.length gc) rfl
   obtain ⟨⟨r0, r1, r2⟩, y0, y1, y2⟩ := HA3.out.ext E4
   have HE4 := Lib.hid (HE.out.trans E4)
   have HNB : Hid (¬ X (w.heap.size + 1 + 1 + 1)) := fun hk => by have := hXb _ hk; have := HUL.out; omega
   have HXB : Hid (∀ k, X k → w.heap.size ≤ k) := fun k hk => Nat.le_trans HE.out.size (hXb k hk)
   clear om opl ol oq ok opt oli opv U4 hbl HX hXb E4 hb4 HU3 HBF HX3 HE3 HB0 HB1 HB2 HO HTB HPI HSI HFI
   go_wp2
   obtain ⟨g0, g1, g2⟩ := fr_cells W H (.slice (some ⟨g, 0, none⟩) zs.length gc) r0 r1 r2
   exact bodyPost_ret (v := .tuple #[.agg #[.int .i64 W, .int .i64 H, .slice (some ⟨g, 0, none⟩) zs.length gc], .nilIface]) (by simp [results, Tryz.results13, go_sem, g0, g1, g2]) rfl ⟨_, _, by rw [HR.out]; rfl, set3_ext HE4.out (by omega) _ _ _, by rw [HR.out]; rfl, by rw [HR.out]; exact own_mono (own_set3 HO4.out HUL.out _ _ _) HE.out.size⟩
end Go.Proofs.YtcekpngkfldgkaaGreatDoor