/- Contracts of this seat: DeI, DeJ, DeK. -/
import Derived.Test.YtcekpngkfldgkaaGreatDoorXTk
import Derived.Test.YtcekpngkfldgkaaGreatDoorXDeH
import Derived.Test.YtcekpngkfldgkaaGreatDoorXGj
namespace Go.Proofs.YtcekpngkfldgkaaGreatDoor
set_option linter.unusedVariables false
set_option linter.unusedSimpArgs false
open Go.RowKit Go.Extern.Stop Go.Stop Go.Extern
def greyL (W H : Int) : List Int := rowL (W * H).toNat fun _ => 128
def cntQ (W H : Int) : Nat := (W.toNat / 8) * (H.toNat / 8)
def fr00 : Fr := (0, 0, [])
def frOf (W H : Int) (r : Fall × List Int) : Fall × Fr := match r.1 with
 | none => (none, (W, H, r.2))
 | some e => (some e, fr00)
noncomputable def dfrV (k : Int) (bs : List Nat) (PW PH : Int) (ps : List Int) (W H : Int) : Fall × Fr :=
 if newOk W H 128 = false then (range, fr00) else
 if rdC k bs ≠ 0 then (some ([], rdC k bs), fr00) else
 if (k = 2 ∨ k = 3) ∧ ¬ leanP PW PH ps W H then (some ([], 12), fr00) else
 if k = 4 then (none, (W, H, greyL W H)) else
 if k = 3 then (none, (PW, PH, ps)) else
 frOf W H (sqRun (mD bs.tail) (decide (k = 1)) W H ps ((bs.headD 0 : Nat) : Int) (cntQ W H) 0 (greyL W H) ⟨ch0, newD bs.tail⟩)
def DfP (w : World) (r : Fall × Fr) (e : Ending) (w' : World) : Prop := ∃ u x X, e = .returned (.tuple #[.agg #[.int .i64 r.2.1, .int .i64 r.2.2.1, u], x]) ∧ Ext w w' ∧ (∀ k, X k → w.heap.size ≤ k) ∧ HoF w' X (fun W => Ints W u r.2.2.2 ∧ ErrIs W r.1 x)
theorem grey_may {W H : Int} (h : newOk W H 128 = true) : may W H (greyL W H) := by
 unfold newOk at h
 simp only [Bool.and_eq_true] at h
 obtain ⟨⟨h1, h2⟩, -⟩ := h
 have hb := side_area h1 h2
 refine ⟨h1, h2, ?_, ?_⟩
 · unfold greyL
   rw [rowL_length]
   omega
 · intro x hx
   obtain ⟨j, _, rfl⟩ := rowL_mem hx
   decide
theorem rd_kind {k : Int} {bs : List Nat} (h : rdC k bs = 0) : 1 ≤ k ∧ k ≤ 4 ∧ (k ≤ 2 → bs.headD 0 ≤ 15) := by
 unfold rdC at h
 split at h
 · cases h
 · rename_i h1
   refine ⟨by omega, by omega, fun h2 => ?_⟩
   rw [if_neg (by omega)] at h
   split at h
   · cases h
   · split at h
     · cases h
     · omega
theorem set3_ext {w wX : World} {b : Nat} (E : Ext w wX) (hb : w.heap.size ≤ b) (v0 v1 v2 : Value) : Ext w (((wX.setCell ⟨b, 0, none⟩ v0).setCell ⟨b, 1, none⟩ v1).setCell ⟨b, 2, none⟩ v2) := ((E.setCell (p := ⟨b, 0, none⟩) hb _).setCell (p := ⟨b, 1, none⟩) hb _).setCell (p := ⟨b, 2, none⟩) hb _
theorem set3_ho {wX : World} {b : Nat} {X : Nat → Prop} {P : World → Prop} (h : HoF wX X P) (hb : ¬ X b) (v0 v1 v2 : Value) : HoF (((wX.setCell ⟨b, 0, none⟩ v0).setCell ⟨b, 1, none⟩ v1).setCell ⟨b, 2, none⟩ v2) X P := by
 have h1 := HoF.setc (p := ⟨b, 0, none⟩) (v := v0) h hb
 have h2 := HoF.setc (p := ⟨b, 1, none⟩) (v := v1) h1 hb
 have h3 := HoF.setc (p := ⟨b, 2, none⟩) (v := v2) h2 hb
 exact h3
theorem uno_ho {u w' : World} {sl : Value} {ys : List Int} {P : World → Prop} (h : Uno (Sep TlF HoF) u w' ((sl, ys), P)) (hl : ys.length ≤ 1000000) : ∃ X, HoF w' X (fun W => Ints W sl ys ∧ P W) ∧ (∀ k, X k → u.heap.size ≤ k) ∧ Ext u w' := by
 obtain ⟨F, ⟨F1, F2, g1, g2, d1, hF⟩, h2, h3⟩ := h
 exact ⟨_, (g1.ho hl).and g2, fun k hk => h3 k ((hF k).2 hk), h2⟩
set_option maxRecDepth 20000 in
set_option maxHeartbeats 4000000 in
theorem dfr_read (k : Int) (bs : List Nat) (PW PH : Int) (ps : List Int) (W H : Int) (ca pa : Option Addr) (cn cc pn pc : Nat) (w : World) (h1 : newOk W H 128 = true) (hb : Bys w (.slice ca cn cc) bs) (hl : bs.length ≤ 1000000) (h2 : rdC k bs ≠ 0) :
 Calls Tryz.prog 24 #[.agg #[.int .i64 k, .slice ca cn cc], .agg #[.int .i64 PW, .int .i64 PH, .slice pa pn pc], .int .i64 W, .int .i64 H] w (DfP w (some ([], rdC k bs), fr00)) := by
 obtain ⟨rc, hrc⟩ : ∃ c, rdC k bs = c := ⟨_, rfl⟩
 rw [hrc] at h2 ⊢
 have HNO := Lib.hid (rd_no hrc h2)
 have H2 := Lib.hid h2
 clear hrc h2
 have A0 := (BoxIs.new w #[.int .i64 k, .slice ca cn cc] 63).ext (((Ext.refl _).alloc (.cells #[.int .i64 PW, .int .i64 PH, .slice pa pn pc] 24)).alloc (.cells #[.int .i64 0, .int .i64 0, .slice none 0 0] 24))
 have A1 := (BoxIs.new (w.alloc (.cells #[.int .i64 k, .slice ca cn cc] 63)) #[.int .i64 PW, .int .i64 PH, .slice pa pn pc] 24).ext ((Ext.refl _).alloc (.cells #[.int .i64 0, .int .i64 0, .slice none 0 0] 24))
 have A2 := FrAt.new ((w.alloc (.cells #[.int .i64 k, .slice ca cn cc] 63)).alloc (.cells #[.int .i64 PW, .int .i64 PH, .slice pa pn pc] 24))
 have E0 := (((Ext.refl w).alloc (.cells #[.int .i64 k, .slice ca cn cc] 63)).alloc (.cells #[.int .i64 PW, .int .i64 PH, .slice pa pn pc] 24)).alloc (.cells #[.int .i64 0, .int .i64 0, .slice none 0 0] 24)
 have sz1 : (w.alloc (.cells #[.int .i64 k, .slice ca cn cc] 63)).heap.size = w.heap.size + 1 := by simp
 have sz2 : ((w.alloc (.cells #[.int .i64 k, .slice ca cn cc] 63)).alloc (.cells #[.int .i64 PW, .int .i64 PH, .slice pa pn pc] 24)).heap.size = w.heap.size + 1 + 1 := by simp
 rw [sz1] at A1
 rw [sz2] at A2
 obtain ⟨u, hu⟩ : ∃ z, ((w.alloc (.cells #[.int .i64 k, .slice ca cn cc] 63)).alloc (.cells #[.int .i64 PW, .int .i64 PH, .slice pa pn pc] 24)).alloc (.cells #[.int .i64 0, .int .i64 0, .slice none 0 0] 24) = z := ⟨_, rfl⟩
 rw [hu] at A0 A1 A2 E0
 have HU := Lib.hid hu
 have HA0 := Lib.hid A0
 have HA1 := Lib.hid A1
 have HA2 := Lib.hid A2
 have HE0 := Lib.hid E0
 have hul : w.heap.size + 1 + 1 < u.heap.size := Ext.lt A2.1.1
 have HUL := Lib.hid hul
 clear A0 A1 A2 E0 sz1 sz2 hu hul
 have UN := Lib.hid (fun W' => new_own W H 128 W' h1)
 have UR := Lib.hid (fun W' (kx : Ext w W') => read_any k bs (.slice ca cn cc) W' (hb.ext kx) hl)
 go_enter Tryz.func24, Tryz.ntmps24
 go_wp2_with fail
 rw [HU.out]
 clear HU
 refine (UN.out _).mono ?_; rintro e w2 ⟨g, n, cap, rfl, hx2, hn2, ho2⟩
 have hgl : (greyL W H).length = n := by unfold greyL; rw [rowL_length]; exact hn2.symm
 obtain ⟨htl, htb⟩ := TlF.new hgl ho2
 have BF := BoxIs.new w2 #[.int .i64 W, .int .i64 H, .slice (some ⟨g, 0, none⟩) n cap] 24
 have U3 := bag_add TlF.obj ((Uno.first htl hx2 htb).bag TlF.obj (P := fun _ => True) (fun _ => trivial)) ((Ext.refl w2).alloc (.cells #[.int .i64 W, .int .i64 H, .slice (some ⟨g, 0, none⟩) n cap] 24)) (HoF.box BF) (by rintro i rfl; exact Nat.le_refl _)
 have X3 := hx2.alloc (.cells #[.int .i64 W, .int .i64 H, .slice (some ⟨g, 0, none⟩) n cap] 24)
 have T3 := TlF.obj.ext htl ((Ext.refl _).alloc (.cells #[.int .i64 W, .int .i64 H, .slice (some ⟨g, 0, none⟩) n cap] 24))
 have c0 := (HA0.out.ext X3).cell (i := 0) (v := .int .i64 k) rfl
 have c1 := (HA0.out.ext X3).cell (i := 1) (v := .slice ca cn cc) rfl
 obtain ⟨w3, hw3⟩ : ∃ z, w2.alloc (.cells #[.int .i64 W, .int .i64 H, .slice (some ⟨g, 0, none⟩) n cap] 24) = z := ⟨_, rfl⟩
 rw [hw3] at BF X3 T3 U3
 have HU3 := Lib.hid U3
 have HW3 := Lib.hid hw3
 have HBF := Lib.hid BF
 have HX3 := Lib.hid X3
 have HT3 := Lib.hid T3
 have HTB := Lib.hid htb
 have HB2 := Lib.hid hx2.size
 have HGL := Lib.hid hgl
 clear BF X3 T3 U3 hw3 htl htb hx2 hn2 ho2 hgl UN
 go_wp2_with fail
 rw [HW3.out]
 clear HW3 c0 c1
 refine (UR.out _ (HE0.out.trans HX3.out)).mono ?_; rintro e w4 ⟨hv, x4, rfl, hb4, he4, hx4⟩
 rw [HNO.out.2] at he4
 rw [HNO.out.1] at hb4
 rw [HNO.out.1]
 dsimp only
 obtain rfl : x4 = .iface 40 (.int .i64 rc) := he4.1
 obtain ⟨va, vc, hvf⟩ := hb4.form
 obtain rfl : hv = .slice va 0 vc := hvf
 have X5 := HX3.out.trans (hx4.alloc (.cells #[.int .i64 0, .int .i64 0, .slice va 0 vc] 92))
 obtain ⟨⟨r0, r1, r2⟩, f0, f1, f2⟩ := HA2.out.ext X5
 have E5 := HE0.out.trans X5
 clear X5 UR HNO HA0 HA1 HA2 HE0 HX3 HT3 HTB HB2 HGL HBF hx4 hb4 he4
 go_wp2
 obtain ⟨g0, g1, g2⟩ := fr_cells 0 0 (.slice none 0 0) r0 r1 r2
 exact bodyPost_ret (v := .tuple #[.agg #[.int .i64 0, .int .i64 0, .slice none 0 0], .iface 40 (.int .i64 rc)]) (by simp [results, Tryz.results24, go_sem, g0, g1, g2]) rfl ⟨_, _, fun _ => False, rfl, set3_ext E5 (by omega) _ _ _, fun _ h => h.elim, HoF.all (fun W => ⟨Ints.nil W, ErrIs.code H2.out⟩)⟩
set_option maxRecDepth 20000 in
set_option maxHeartbeats 4000000 in
theorem dfr_new (k : Int) (bs : List Nat) (PW PH : Int) (ps : List Int) (W H : Int) (ca pa : Option Addr) (cn cc pn pc : Nat) (w : World) (h1 : newOk W H 128 = false) :
 Calls Tryz.prog 24 #[.agg #[.int .i64 k, .slice ca cn cc], .agg #[.int .i64 PW, .int .i64 PH, .slice pa pn pc], .int .i64 W, .int .i64 H] w (DfP w (range, fr00)) := by
 have A0 := (BoxIs.new w #[.int .i64 k, .slice ca cn cc] 63).ext (((Ext.refl _).alloc (.cells #[.int .i64 PW, .int .i64 PH, .slice pa pn pc] 24)).alloc (.cells #[.int .i64 0, .int .i64 0, .slice none 0 0] 24))
 have A1 := (BoxIs.new (w.alloc (.cells #[.int .i64 k, .slice ca cn cc] 63)) #[.int .i64 PW, .int .i64 PH, .slice pa pn pc] 24).ext ((Ext.refl _).alloc (.cells #[.int .i64 0, .int .i64 0, .slice none 0 0] 24))
 have A2 := FrAt.new ((w.alloc (.cells #[.int .i64 k, .slice ca cn cc] 63)).alloc (.cells #[.int .i64 PW, .int .i64 PH, .slice pa pn pc] 24))
 have E0 := (((Ext.refl w).alloc (.cells #[.int .i64 k, .slice ca cn cc] 63)).alloc (.cells #[.int .i64 PW, .int .i64 PH, .slice pa pn pc] 24)).alloc (.cells #[.int .i64 0, .int .i64 0, .slice none 0 0] 24)
 have sz1 : (w.alloc (.cells #[.int .i64 k, .slice ca cn cc] 63)).heap.size = w.heap.size + 1 := by simp
 have sz2 : ((w.alloc (.cells #[.int .i64 k, .slice ca cn cc] 63)).alloc (.cells #[.int .i64 PW, .int .i64 PH, .slice pa pn pc] 24)).heap.size = w.heap.size + 1 + 1 := by simp
 rw [sz1] at A1
 rw [sz2] at A2
 obtain ⟨u, hu⟩ : ∃ z, ((w.alloc (.cells #[.int .i64 k, .slice ca cn cc] 63)).alloc (.cells #[.int .i64 PW, .int .i64 PH, .slice pa pn pc] 24)).alloc (.cells #[.int .i64 0, .int .i64 0, .slice none 0 0] 24) = z := ⟨_, rfl⟩
 rw [hu] at A0 A1 A2 E0
 have HU := Lib.hid hu
 have HA0 := Lib.hid A0
 have HA1 := Lib.hid A1
 have HA2 := Lib.hid A2
 have HE0 := Lib.hid E0
 have hul : w.heap.size + 1 + 1 < u.heap.size := Ext.lt A2.1.1
 have HUL := Lib.hid hul
 clear A0 A1 A2 E0 sz1 sz2 hu hul
 have UN := Lib.hid (fun W' => new_no W H 128 W' h1)
 clear h1
 go_enter Tryz.func24, Tryz.ntmps24
 go_wp2_with fail
 rw [HU.out]
 clear HU
 refine (UN.out _).mono ?_; rintro e w2 ⟨a2, n2, c2, x2, rfl, hx2, hi2, he2⟩
 obtain rfl : x2 = .iface 40 (.int .i64 3) := he2.1
 have E3 : Ext w (w2.alloc (.cells #[.int .i64 0, .int .i64 0, .slice a2 n2 c2] 24)) := (HE0.out.trans hx2).alloc _
 obtain ⟨⟨r0, r1, r2⟩, f0, f1, f2⟩ := HA2.out.ext (hx2.alloc (.cells #[.int .i64 0, .int .i64 0, .slice a2 n2 c2] 24))
 clear UN HA0 HA1 HA2 HE0 hx2 hi2 he2
 go_wp2
 obtain ⟨g0, g1, g2⟩ := fr_cells 0 0 (.slice none 0 0) r0 r1 r2
 exact bodyPost_ret (v := .tuple #[.agg #[.int .i64 0, .int .i64 0, .slice none 0 0], .iface 40 (.int .i64 3)]) (by simp [results, Tryz.results24, go_sem, g0, g1, g2]) rfl ⟨_, _, fun _ => False, rfl, set3_ext E3 (by omega) _ _ _, fun _ h => h.elim, HoF.all (fun W => ⟨Ints.nil W, ErrIs.code (by decide)⟩)⟩
theorem rd_yes {k : Int} {bs : List Nat} (h : rdC k bs = 0) : rdF k bs = none ∧ (2 < k → rdV k bs = (k, 0, [])) ∧ (k ≤ 2 → rdV k bs = (k, ((bs.headD 0 : Nat) : Int), bs.tail)) := by
 unfold rdF rdV
 rw [if_pos h, if_pos h]
 exact ⟨rfl, fun h => if_pos h, fun h => if_neg (by omega)⟩
set_option maxRecDepth 20000 in
set_option maxHeartbeats 4000000 in
theorem dfr_4 (bs : List Nat) (PW PH : Int) (ps : List Int) (W H : Int) (ca pa : Option Addr) (cn cc pn pc : Nat) (w : World) (h1 : newOk W H 128 = true) (hb : Bys w (.slice ca cn cc) bs) (hl : bs.length ≤ 1000000) (h2 : rdC 4 bs = 0) :
 Calls Tryz.prog 24 #[.agg #[.int .i64 4, .slice ca cn cc], .agg #[.int .i64 PW, .int .i64 PH, .slice pa pn pc], .int .i64 W, .int .i64 H] w (DfP w (none, (W, H, greyL W H))) := by
 obtain ⟨hy1, hy2, -⟩ := rd_yes h2
 have HY1 := Lib.hid hy1
 have HY2 := Lib.hid (hy2 (by decide))
 clear hy1 hy2 h2
 have A0 := (BoxIs.new w #[.int .i64 4, .slice ca cn cc] 63).ext (((Ext.refl _).alloc (.cells #[.int .i64 PW, .int .i64 PH, .slice pa pn pc] 24)).alloc (.cells #[.int .i64 0, .int .i64 0, .slice none 0 0] 24))
 have A1 := (BoxIs.new (w.alloc (.cells #[.int .i64 4, .slice ca cn cc] 63)) #[.int .i64 PW, .int .i64 PH, .slice pa pn pc] 24).ext ((Ext.refl _).alloc (.cells #[.int .i64 0, .int .i64 0, .slice none 0 0] 24))
 have A2 := FrAt.new ((w.alloc (.cells #[.int .i64 4, .slice ca cn cc] 63)).alloc (.cells #[.int .i64 PW, .int .i64 PH, .slice pa pn pc] 24))
 have E0 := (((Ext.refl w).alloc (.cells #[.int .i64 4, .slice ca cn cc] 63)).alloc (.cells #[.int .i64 PW, .int .i64 PH, .slice pa pn pc] 24)).alloc (.cells #[.int .i64 0, .int .i64 0, .slice none 0 0] 24)
 have sz1 : (w.alloc (.cells #[.int .i64 4, .slice ca cn cc] 63)).heap.size = w.heap.size + 1 := by simp
 have sz2 : ((w.alloc (.cells #[.int .i64 4, .slice ca cn cc] 63)).alloc (.cells #[.int .i64 PW, .int .i64 PH, .slice pa pn pc] 24)).heap.size = w.heap.size + 1 + 1 := by simp
 rw [sz1] at A1
 rw [sz2] at A2
 obtain ⟨u, hu⟩ : ∃ z, ((w.alloc (.cells #[.int .i64 4, .slice ca cn cc] 63)).alloc (.cells #[.int .i64 PW, .int .i64 PH, .slice pa pn pc] 24)).alloc (.cells #[.int .i64 0, .int .i64 0, .slice none 0 0] 24) = z := ⟨_, rfl⟩
 rw [hu] at A0 A1 A2 E0
 have HU := Lib.hid hu
 have HA0 := Lib.hid A0
 have HA1 := Lib.hid A1
 have HA2 := Lib.hid A2
 have HE0 := Lib.hid E0
 have hul : w.heap.size + 1 + 1 < u.heap.size := Ext.lt A2.1.1
 have HUL := Lib.hid hul
 clear A0 A1 A2 E0 sz1 sz2 hu hul
 have UN := Lib.hid (fun W' => new_own W H 128 W' h1)
 have UR := Lib.hid (fun W' (kx : Ext w W') => read_any 4 bs (.slice ca cn cc) W' (hb.ext kx) hl)
 go_enter Tryz.func24, Tryz.ntmps24
 go_wp2_with fail
 rw [HU.out]
 clear HU
 refine (UN.out _).mono ?_; rintro e w2 ⟨g, n, cap, rfl, hx2, hn2, ho2⟩
 have hgl : (greyL W H).length = n := by unfold greyL; rw [rowL_length]; exact hn2.symm
 obtain ⟨htl, htb⟩ := TlF.new hgl ho2
 have BF := BoxIs.new w2 #[.int .i64 W, .int .i64 H, .slice (some ⟨g, 0, none⟩) n cap] 24
 have U3 := bag_add TlF.obj ((Uno.first htl hx2 htb).bag TlF.obj (P := fun _ => True) (fun _ => trivial)) ((Ext.refl w2).alloc (.cells #[.int .i64 W, .int .i64 H, .slice (some ⟨g, 0, none⟩) n cap] 24)) (HoF.box BF) (by rintro i rfl; exact Nat.le_refl _)
 have X3 := hx2.alloc (.cells #[.int .i64 W, .int .i64 H, .slice (some ⟨g, 0, none⟩) n cap] 24)
 have T3 := TlF.obj.ext htl ((Ext.refl _).alloc (.cells #[.int .i64 W, .int .i64 H, .slice (some ⟨g, 0, none⟩) n cap] 24))
 have c0 := (HA0.out.ext X3).cell (i := 0) (v := .int .i64 4) rfl
 have c1 := (HA0.out.ext X3).cell (i := 1) (v := .slice ca cn cc) rfl
 obtain ⟨w3, hw3⟩ : ∃ z, w2.alloc (.cells #[.int .i64 W, .int .i64 H, .slice (some ⟨g, 0, none⟩) n cap] 24) = z := ⟨_, rfl⟩
 rw [hw3] at BF X3 T3 U3
 have HU3 := Lib.hid U3
 have HW3 := Lib.hid hw3
 have HBF := Lib.hid BF
 have HX3 := Lib.hid X3
 have HT3 := Lib.hid T3
 have HTB := Lib.hid htb
 have HB2 := Lib.hid hx2.size
 have HGL := Lib.hid hgl
 clear BF X3 T3 U3 hw3 htl htb hx2 hn2 ho2 hgl UN
 go_wp2_with fail
 rw [HW3.out]
 clear HW3 c0 c1
 refine (UR.out _ (HE0.out.trans HX3.out)).mono ?_; rintro e w4 ⟨hv, x4, rfl, hb4, he4, hx4⟩
 rw [HY1.out] at he4
 rw [HY2.out] at hb4
 rw [HY2.out]
 dsimp only
 obtain rfl : x4 = .nilIface := he4
 obtain ⟨va, vc, hvf⟩ := hb4.form
 obtain ⟨vn, hvn⟩ : ∃ z : Nat, z = ([] : List Nat).length := ⟨_, rfl⟩
 obtain rfl : hv = .slice va vn vc := by rw [hvn]; exact hvf
 have XF := hx4.alloc (.cells #[.int .i64 4, .int .i64 0, .slice va vn vc] 92)
 have XU := HX3.out.trans XF
 have BH := BoxIs.new w4 #[.int .i64 4, .int .i64 0, .slice va vn vc] 92
 have b0 := (HBF.out.ext XF).cell (i := 0) (v := .int .i64 W) rfl
 have b1 := (HBF.out.ext XF).cell (i := 1) (v := .int .i64 H) rfl
 have b2 := (HBF.out.ext XF).cell (i := 2) (v := .slice (some ⟨g, 0, none⟩) n cap) rfl
 have q0 := (HA1.out.ext XU).cell (i := 0) (v := .int .i64 PW) rfl
 have q1 := (HA1.out.ext XU).cell (i := 1) (v := .int .i64 PH) rfl
 have q2 := (HA1.out.ext XU).cell (i := 2) (v := .slice pa pn pc) rfl
 have h0 := BH.cell (i := 0) (v := .int .i64 4) rfl
 have h1' := BH.cell (i := 1) (v := .int .i64 0) rfl
 have h2' := BH.cell (i := 2) (v := .slice va vn vc) rfl
 obtain ⟨⟨r0, r1, r2⟩, f0, f1, f2⟩ := HA2.out.ext XU
 have HXU := Lib.hid XU
 have HXF := Lib.hid XF
 have HBH := Lib.hid BH
 have HVB : Hid (Bys w4 (.slice va vn vc) _) := hb4
 have HV5 := Lib.hid (HVB.out.ext ((Ext.refl w4).alloc (.cells #[.int .i64 4, .int .i64 0, .slice va vn vc] 92)))
 clear XF XU BH hx4 hb4 hvf hvn UR HY1 HY2 HVB
 have HO := Lib.hid ((TlF.obj.ext HT3.out HXF.out).ho (by rw [HGL.out]; have := (tlf_len HT3.out); have := may_len (grey_may h1); omega))
 have E5 := HE0.out.trans HXU.out
 have HNB : Hid (¬ (Value.slice (some ⟨g, 0, none⟩) n cap).ownBlock = some (w.heap.size + 1 + 1)) := fun e => by have := HTB.out _ e; have := HUL.out; omega
 have HXB : Hid (∀ k, (Value.slice (some ⟨g, 0, none⟩) n cap).ownBlock = some k → w.heap.size ≤ k) := fun k e => Nat.le_trans HE0.out.size (HTB.out k e)
 clear HA0 HA1 HA2 HE0 HX3 HT3 HTB HB2 HGL HBF HXU HXF HBH HV5
 go_wp2
 obtain ⟨g0, g1, g2⟩ := fr_cells W H (.slice (some ⟨g, 0, none⟩) n cap) r0 r1 r2
 exact bodyPost_ret (v := .tuple #[.agg #[.int .i64 W, .int .i64 H, .slice (some ⟨g, 0, none⟩) n cap], .nilIface]) (by simp [results, Tryz.results24, go_sem, g0, g1, g2]) rfl ⟨_, _, _, rfl, set3_ext E5 (by omega) _ _ _, HXB.out, (set3_ho HO.out HNB.out _ _ _).imp (fun W h => ⟨h, rfl⟩)⟩
theorem cnt_at (Q R : Nat) : cntQ ((8 * Q : Nat) : Int) ((8 * R : Nat) : Int) = Q * R := by
 unfold cntQ
 rw [Int.toNat_natCast, Int.toNat_natCast, Nat.mul_div_cancel_left _ (by decide), Nat.mul_div_cancel_left _ (by decide)]
theorem rdsq_w (W H PW PH kd qp : Int) (zs ps : List Int) (bs : List Nat) (g n cap : Nat) (pa : Option Addr) (pn pc : Nat) (ha : Option Addr) (hn hc : Nat) (w0 w : World) (P : World → Prop)
 (h : Uno (Sep TlF HoF) w0 w ((.slice (some ⟨g, 0, none⟩) n cap, zs), P)) (hm : may W H zs) (hb : Bys w (.slice ha hn hc) bs) (hq : 0 ≤ qp ∧ qp ≤ 15) (hp : kd ≠ 1 → PW = W ∧ PH = H ∧ may W H ps ∧ Ints w0 (.slice pa pn pc) ps) :
 Calls Tryz.prog 50 #[.agg #[.int .i64 W, .int .i64 H, .slice (some ⟨g, 0, none⟩) n cap], .agg #[.int .i64 PW, .int .i64 PH, .slice pa pn pc], .agg #[.int .i64 kd, .int .i64 qp, .slice ha hn hc]] w
  (RsP w0 (.slice (some ⟨g, 0, none⟩) n cap) P (sqRun (mD bs) (decide (kd = 1)) W H ps qp (cntQ W H) 0 zs ⟨ch0, newD bs⟩)) := by
 have b1 := sideB_true hm.1
 have b2 := sideB_true hm.2.1
 obtain ⟨Q, rfl⟩ : ∃ Q : Nat, W = ((8 * Q : Nat) : Int) := ⟨(W / 8).toNat, by omega⟩
 obtain ⟨R, rfl⟩ : ∃ R : Nat, H = ((8 * R : Nat) : Int) := ⟨(H / 8).toNat, by omega⟩
 rw [cnt_at]
 exact rdsq_any (8 * Q) (8 * R) Q R PW PH kd qp zs ps bs g n cap pa pn pc ha hn hc w0 w P rfl rfl h hm hb hq hp
set_option maxRecDepth 20000 in
set_option maxHeartbeats 4000000 in
theorem dfr_3_no (bs : List Nat) (PW PH : Int) (ps : List Int) (W H : Int) (ca pa : Option Addr) (cn cc pn pc : Nat) (w : World) (h1 : newOk W H 128 = true) (hb : Bys w (.slice ca cn cc) bs) (hl : bs.length ≤ 1000000) (h2 : rdC 3 bs = 0) (hip : Ints w (.slice pa pn pc) ps) (hln : decide (leanP PW PH ps W H) = false) :
 Calls Tryz.prog 24 #[.agg #[.int .i64 3, .slice ca cn cc], .agg #[.int .i64 PW, .int .i64 PH, .slice pa pn pc], .int .i64 W, .int .i64 H] w (DfP w (some ([], 12), fr00)) := by
 obtain ⟨hy1, hy2, -⟩ := rd_yes h2
 have HY1 := Lib.hid hy1
 have HY2 := Lib.hid (hy2 (by decide))
 clear hy1 hy2 h2
 have A0 := (BoxIs.new w #[.int .i64 3, .slice ca cn cc] 63).ext (((Ext.refl _).alloc (.cells #[.int .i64 PW, .int .i64 PH, .slice pa pn pc] 24)).alloc (.cells #[.int .i64 0, .int .i64 0, .slice none 0 0] 24))
 have A1 := (BoxIs.new (w.alloc (.cells #[.int .i64 3, .slice ca cn cc] 63)) #[.int .i64 PW, .int .i64 PH, .slice pa pn pc] 24).ext ((Ext.refl _).alloc (.cells #[.int .i64 0, .int .i64 0, .slice none 0 0] 24))
 have A2 := FrAt.new ((w.alloc (.cells #[.int .i64 3, .slice ca cn cc] 63)).alloc (.cells #[.int .i64 PW, .int .i64 PH, .slice pa pn pc] 24))
 have E0 := (((Ext.refl w).alloc (.cells #[.int .i64 3, .slice ca cn cc] 63)).alloc (.cells #[.int .i64 PW, .int .i64 PH, .slice pa pn pc] 24)).alloc (.cells #[.int .i64 0, .int .i64 0, .slice none 0 0] 24)
 have sz1 : (w.alloc (.cells #[.int .i64 3, .slice ca cn cc] 63)).heap.size = w.heap.size + 1 := by simp
 have sz2 : ((w.alloc (.cells #[.int .i64 3, .slice ca cn cc] 63)).alloc (.cells #[.int .i64 PW, .int .i64 PH, .slice pa pn pc] 24)).heap.size = w.heap.size + 1 + 1 := by simp
 rw [sz1] at A1
 rw [sz2] at A2
 obtain ⟨u, hu⟩ : ∃ z, ((w.alloc (.cells #[.int .i64 3, .slice ca cn cc] 63)).alloc (.cells #[.int .i64 PW, .int .i64 PH, .slice pa pn pc] 24)).alloc (.cells #[.int .i64 0, .int .i64 0, .slice none 0 0] 24) = z := ⟨_, rfl⟩
 rw [hu] at A0 A1 A2 E0
 have HU := Lib.hid hu
 have HA0 := Lib.hid A0
 have HA1 := Lib.hid A1
 have HA2 := Lib.hid A2
 have HE0 := Lib.hid E0
 have hul : w.heap.size + 1 + 1 < u.heap.size := Ext.lt A2.1.1
 have HUL := Lib.hid hul
 clear A0 A1 A2 E0 sz1 sz2 hu hul
 have UN := Lib.hid (fun W' => new_own W H 128 W' h1)
 have UR := Lib.hid (fun W' (kx : Ext w W') => read_any 3 bs (.slice ca cn cc) W' (hb.ext kx) hl)
 go_enter Tryz.func24, Tryz.ntmps24
 go_wp2_with fail
 rw [HU.out]
 clear HU
 refine (UN.out _).mono ?_; rintro e w2 ⟨g, n, cap, rfl, hx2, hn2, ho2⟩
 have hgl : (greyL W H).length = n := by unfold greyL; rw [rowL_length]; exact hn2.symm
 obtain ⟨htl, htb⟩ := TlF.new hgl ho2
 have BF := BoxIs.new w2 #[.int .i64 W, .int .i64 H, .slice (some ⟨g, 0, none⟩) n cap] 24
 have U3 := bag_add TlF.obj ((Uno.first htl hx2 htb).bag TlF.obj (P := fun _ => True) (fun _ => trivial)) ((Ext.refl w2).alloc (.cells #[.int .i64 W, .int .i64 H, .slice (some ⟨g, 0, none⟩) n cap] 24)) (HoF.box BF) (by rintro i rfl; exact Nat.le_refl _)
 have X3 := hx2.alloc (.cells #[.int .i64 W, .int .i64 H, .slice (some ⟨g, 0, none⟩) n cap] 24)
 have T3 := TlF.obj.ext htl ((Ext.refl _).alloc (.cells #[.int .i64 W, .int .i64 H, .slice (some ⟨g, 0, none⟩) n cap] 24))
 have c0 := (HA0.out.ext X3).cell (i := 0) (v := .int .i64 3) rfl
 have c1 := (HA0.out.ext X3).cell (i := 1) (v := .slice ca cn cc) rfl
 obtain ⟨w3, hw3⟩ : ∃ z, w2.alloc (.cells #[.int .i64 W, .int .i64 H, .slice (some ⟨g, 0, none⟩) n cap] 24) = z := ⟨_, rfl⟩
 rw [hw3] at BF X3 T3 U3
 have HU3 := Lib.hid U3
 have HW3 := Lib.hid hw3
 have HBF := Lib.hid BF
 have HX3 := Lib.hid X3
 have HT3 := Lib.hid T3
 have HTB := Lib.hid htb
 have HB2 := Lib.hid hx2.size
 have HGL := Lib.hid hgl
 clear BF X3 T3 U3 hw3 htl htb hx2 hn2 ho2 hgl UN
 go_wp2_with fail
 rw [HW3.out]
 clear HW3 c0 c1
 refine (UR.out _ (HE0.out.trans HX3.out)).mono ?_; rintro e w4 ⟨hv, x4, rfl, hb4, he4, hx4⟩
 rw [HY1.out] at he4
 rw [HY2.out] at hb4
 rw [HY2.out]
 dsimp only
 obtain rfl : x4 = .nilIface := he4
 obtain ⟨va, vc, hvf⟩ := hb4.form
 obtain ⟨vn, hvn⟩ : ∃ z : Nat, z = ([] : List Nat).length := ⟨_, rfl⟩
 obtain rfl : hv = .slice va vn vc := by rw [hvn]; exact hvf
 have XF := hx4.alloc (.cells #[.int .i64 3, .int .i64 0, .slice va vn vc] 92)
 have XU := HX3.out.trans XF
 have BH := BoxIs.new w4 #[.int .i64 3, .int .i64 0, .slice va vn vc] 92
 have b0 := (HBF.out.ext XF).cell (i := 0) (v := .int .i64 W) rfl
 have b1 := (HBF.out.ext XF).cell (i := 1) (v := .int .i64 H) rfl
 have b2 := (HBF.out.ext XF).cell (i := 2) (v := .slice (some ⟨g, 0, none⟩) n cap) rfl
 have q0 := (HA1.out.ext XU).cell (i := 0) (v := .int .i64 PW) rfl
 have q1 := (HA1.out.ext XU).cell (i := 1) (v := .int .i64 PH) rfl
 have q2 := (HA1.out.ext XU).cell (i := 2) (v := .slice pa pn pc) rfl
 have h0 := BH.cell (i := 0) (v := .int .i64 3) rfl
 have h1' := BH.cell (i := 1) (v := .int .i64 0) rfl
 have h2' := BH.cell (i := 2) (v := .slice va vn vc) rfl
 obtain ⟨⟨r0, r1, r2⟩, f0, f1, f2⟩ := HA2.out.ext XU
 have HXU := Lib.hid XU
 have HXF := Lib.hid XF
 have HBH := Lib.hid BH
 have HVB : Hid (Bys w4 (.slice va vn vc) _) := hb4
 have HV5 := Lib.hid (HVB.out.ext ((Ext.refl w4).alloc (.cells #[.int .i64 3, .int .i64 0, .slice va vn vc] 92)))
 clear XF XU BH hx4 hb4 hvf hvn UR HY1 HY2 HVB
 have UA := Lib.hid (fun W' kx => ahead_any PW PH W H ps pa (some ⟨g, 0, none⟩) pn pc n cap W' (hip.ext kx))
 rw [hln] at UA
 go_wp2_with fail
 refine (UA.out _ (HE0.out.trans HXU.out)).mono ?_; rintro e w6 ⟨rfl, hx6⟩
 have XF := HXF.out.trans hx6
 have XU := HXU.out.trans hx6
 have BH := HBH.out.ext hx6
 clear b0 b1 b2 q0 q1 q2 h0 h1' h2' r0 r1 r2 f0 f1 f2 UA
 have b0 := (HBF.out.ext XF).cell (i := 0) (v := .int .i64 W) rfl
 have b1 := (HBF.out.ext XF).cell (i := 1) (v := .int .i64 H) rfl
 have b2 := (HBF.out.ext XF).cell (i := 2) (v := .slice (some ⟨g, 0, none⟩) n cap) rfl
 have q0 := (HA1.out.ext XU).cell (i := 0) (v := .int .i64 PW) rfl
 have q1 := (HA1.out.ext XU).cell (i := 1) (v := .int .i64 PH) rfl
 have q2 := (HA1.out.ext XU).cell (i := 2) (v := .slice pa pn pc) rfl
 have h0 := BH.cell (i := 0) (v := .int .i64 3) rfl
 have h1' := BH.cell (i := 1) (v := .int .i64 0) rfl
 have h2' := BH.cell (i := 2) (v := .slice va vn vc) rfl
 have E6 := HE0.out.trans XU
 have HV6 := Lib.hid (HV5.out.ext hx6)
 have HZU := Lib.hid XU
 have HZF := Lib.hid XF
 clear BH XU XF hx6
 obtain ⟨⟨r0, r1, r2⟩, f0, f1, f2⟩ := HA2.out.ext HZU.out
 clear HA0 HA1 HA2 HE0 HX3 HT3 HTB HB2 HGL HBF HXU HXF HBH HV5 HV6 HZU HZF HU3
 go_wp2
 obtain ⟨g0, g1, g2⟩ := fr_cells 0 0 (.slice none 0 0) r0 r1 r2
 exact bodyPost_ret (v := .tuple #[.agg #[.int .i64 0, .int .i64 0, .slice none 0 0], .iface 40 (.int .i64 12)]) (by simp [results, Tryz.results24, go_sem, g0, g1, g2]) rfl ⟨_, _, fun _ => False, rfl, set3_ext E6 (by omega) _ _ _, fun _ h => h.elim, HoF.all (fun W => ⟨Ints.nil W, ErrIs.code (by decide)⟩)⟩
set_option maxRecDepth 20000 in
set_option maxHeartbeats 4000000 in
theorem dfr_3_yes (bs : List Nat) (PW PH : Int) (ps : List Int) (W H : Int) (ca pa : Option Addr) (cn cc pn pc : Nat) (w : World) (h1 : newOk W H 128 = true) (hb : Bys w (.slice ca cn cc) bs) (hl : bs.length ≤ 1000000) (h2 : rdC 3 bs = 0) (hip : Ints w (.slice pa pn pc) ps) (hln : decide (leanP PW PH ps W H) = true) :
 Calls Tryz.prog 24 #[.agg #[.int .i64 3, .slice ca cn cc], .agg #[.int .i64 PW, .int .i64 PH, .slice pa pn pc], .int .i64 W, .int .i64 H] w (DfP w (none, (PW, PH, ps))) := by
 have hmp : may PW PH ps := (of_decide_eq_true hln).1
 have hpl := may_len hmp
 have hpp : 0 < ps.length := by have := may_area hmp; have := hmp.2.2.1; omega
 have UC := Lib.hid (fun W' kx => dcopy_any PW PH ps pa pn pc W' (hip.ext kx) hpp (by omega))
 clear hmp hpp
 obtain ⟨hy1, hy2, -⟩ := rd_yes h2
 have HY1 := Lib.hid hy1
 have HY2 := Lib.hid (hy2 (by decide))
 clear hy1 hy2 h2
 have A0 := (BoxIs.new w #[.int .i64 3, .slice ca cn cc] 63).ext (((Ext.refl _).alloc (.cells #[.int .i64 PW, .int .i64 PH, .slice pa pn pc] 24)).alloc (.cells #[.int .i64 0, .int .i64 0, .slice none 0 0] 24))
 have A1 := (BoxIs.new (w.alloc (.cells #[.int .i64 3, .slice ca cn cc] 63)) #[.int .i64 PW, .int .i64 PH, .slice pa pn pc] 24).ext ((Ext.refl _).alloc (.cells #[.int .i64 0, .int .i64 0, .slice none 0 0] 24))
 have A2 := FrAt.new ((w.alloc (.cells #[.int .i64 3, .slice ca cn cc] 63)).alloc (.cells #[.int .i64 PW, .int .i64 PH, .slice pa pn pc] 24))
 have E0 := (((Ext.refl w).alloc (.cells #[.int .i64 3, .slice ca cn cc] 63)).alloc (.cells #[.int .i64 PW, .int .i64 PH, .slice pa pn pc] 24)).alloc (.cells #[.int .i64 0, .int .i64 0, .slice none 0 0] 24)
 have sz1 : (w.alloc (.cells #[.int .i64 3, .slice ca cn cc] 63)).heap.size = w.heap.size + 1 := by simp
 have sz2 : ((w.alloc (.cells #[.int .i64 3, .slice ca cn cc] 63)).alloc (.cells #[.int .i64 PW, .int .i64 PH, .slice pa pn pc] 24)).heap.size = w.heap.size + 1 + 1 := by simp
 rw [sz1] at A1
 rw [sz2] at A2
 obtain ⟨u, hu⟩ : ∃ z, ((w.alloc (.cells #[.int .i64 3, .slice ca cn cc] 63)).alloc (.cells #[.int .i64 PW, .int .i64 PH, .slice pa pn pc] 24)).alloc (.cells #[.int .i64 0, .int .i64 0, .slice none 0 0] 24) = z := ⟨_, rfl⟩
 rw [hu] at A0 A1 A2 E0
 have HU := Lib.hid hu
 have HA0 := Lib.hid A0
 have HA1 := Lib.hid A1
 have HA2 := Lib.hid A2
 have HE0 := Lib.hid E0
 have hul : w.heap.size + 1 + 1 < u.heap.size := Ext.lt A2.1.1
 have HUL := Lib.hid hul
 clear A0 A1 A2 E0 sz1 sz2 hu hul
 have UN := Lib.hid (fun W' => new_own W H 128 W' h1)
 have UR := Lib.hid (fun W' (kx : Ext w W') => read_any 3 bs (.slice ca cn cc) W' (hb.ext kx) hl)
 go_enter Tryz.func24, Tryz.ntmps24
 go_wp2_with fail
 rw [HU.out]
 clear HU
 refine (UN.out _).mono ?_; rintro e w2 ⟨g, n, cap, rfl, hx2, hn2, ho2⟩
 have hgl : (greyL W H).length = n := by unfold greyL; rw [rowL_length]; exact hn2.symm
 obtain ⟨htl, htb⟩ := TlF.new hgl ho2
 have BF := BoxIs.new w2 #[.int .i64 W, .int .i64 H, .slice (some ⟨g, 0, none⟩) n cap] 24
 have U3 := bag_add TlF.obj ((Uno.first htl hx2 htb).bag TlF.obj (P := fun _ => True) (fun _ => trivial)) ((Ext.refl w2).alloc (.cells #[.int .i64 W, .int .i64 H, .slice (some ⟨g, 0, none⟩) n cap] 24)) (HoF.box BF) (by rintro i rfl; exact Nat.le_refl _)
 have X3 := hx2.alloc (.cells #[.int .i64 W, .int .i64 H, .slice (some ⟨g, 0, none⟩) n cap] 24)
 have T3 := TlF.obj.ext htl ((Ext.refl _).alloc (.cells #[.int .i64 W, .int .i64 H, .slice (some ⟨g, 0, none⟩) n cap] 24))
 have c0 := (HA0.out.ext X3).cell (i := 0) (v := .int .i64 3) rfl
 have c1 := (HA0.out.ext X3).cell (i := 1) (v := .slice ca cn cc) rfl
 obtain ⟨w3, hw3⟩ : ∃ z, w2.alloc (.cells #[.int .i64 W, .int .i64 H, .slice (some ⟨g, 0, none⟩) n cap] 24) = z := ⟨_, rfl⟩
 rw [hw3] at BF X3 T3 U3
 have HU3 := Lib.hid U3
 have HW3 := Lib.hid hw3
 have HBF := Lib.hid BF
 have HX3 := Lib.hid X3
 have HT3 := Lib.hid T3
 have HTB := Lib.hid htb
 have HB2 := Lib.hid hx2.size
 have HGL := Lib.hid hgl
 clear BF X3 T3 U3 hw3 htl htb hx2 hn2 ho2 hgl UN
 go_wp2_with fail
 rw [HW3.out]
 clear HW3 c0 c1
 refine (UR.out _ (HE0.out.trans HX3.out)).mono ?_; rintro e w4 ⟨hv, x4, rfl, hb4, he4, hx4⟩
 rw [HY1.out] at he4
 rw [HY2.out] at hb4
 rw [HY2.out]
 dsimp only
 obtain rfl : x4 = .nilIface := he4
 obtain ⟨va, vc, hvf⟩ := hb4.form
 obtain ⟨vn, hvn⟩ : ∃ z : Nat, z = ([] : List Nat).length := ⟨_, rfl⟩
 obtain rfl : hv = .slice va vn vc := by rw [hvn]; exact hvf
 have XF := hx4.alloc (.cells #[.int .i64 3, .int .i64 0, .slice va vn vc] 92)
 have XU := HX3.out.trans XF
 have BH := BoxIs.new w4 #[.int .i64 3, .int .i64 0, .slice va vn vc] 92
 have b0 := (HBF.out.ext XF).cell (i := 0) (v := .int .i64 W) rfl
 have b1 := (HBF.out.ext XF).cell (i := 1) (v := .int .i64 H) rfl
 have b2 := (HBF.out.ext XF).cell (i := 2) (v := .slice (some ⟨g, 0, none⟩) n cap) rfl
 have q0 := (HA1.out.ext XU).cell (i := 0) (v := .int .i64 PW) rfl
 have q1 := (HA1.out.ext XU).cell (i := 1) (v := .int .i64 PH) rfl
 have q2 := (HA1.out.ext XU).cell (i := 2) (v := .slice pa pn pc) rfl
 have h0 := BH.cell (i := 0) (v := .int .i64 3) rfl
 have h1' := BH.cell (i := 1) (v := .int .i64 0) rfl
 have h2' := BH.cell (i := 2) (v := .slice va vn vc) rfl
 obtain ⟨⟨r0, r1, r2⟩, f0, f1, f2⟩ := HA2.out.ext XU
 have HXU := Lib.hid XU
 have HXF := Lib.hid XF
 have HBH := Lib.hid BH
 have HVB : Hid (Bys w4 (.slice va vn vc) _) := hb4
 have HV5 := Lib.hid (HVB.out.ext ((Ext.refl w4).alloc (.cells #[.int .i64 3, .int .i64 0, .slice va vn vc] 92)))
 clear XF XU BH hx4 hb4 hvf hvn UR HY1 HY2 HVB
 have UA := Lib.hid (fun W' kx => ahead_any PW PH W H ps pa (some ⟨g, 0, none⟩) pn pc n cap W' (hip.ext kx))
 rw [hln] at UA
 go_wp2_with fail
 refine (UA.out _ (HE0.out.trans HXU.out)).mono ?_; rintro e w6 ⟨rfl, hx6⟩
 have XF := HXF.out.trans hx6
 have XU := HXU.out.trans hx6
 have BH := HBH.out.ext hx6
 clear b0 b1 b2 q0 q1 q2 h0 h1' h2' r0 r1 r2 f0 f1 f2 UA
 have b0 := (HBF.out.ext XF).cell (i := 0) (v := .int .i64 W) rfl
 have b1 := (HBF.out.ext XF).cell (i := 1) (v := .int .i64 H) rfl
 have b2 := (HBF.out.ext XF).cell (i := 2) (v := .slice (some ⟨g, 0, none⟩) n cap) rfl
 have q0 := (HA1.out.ext XU).cell (i := 0) (v := .int .i64 PW) rfl
 have q1 := (HA1.out.ext XU).cell (i := 1) (v := .int .i64 PH) rfl
 have q2 := (HA1.out.ext XU).cell (i := 2) (v := .slice pa pn pc) rfl
 have h0 := BH.cell (i := 0) (v := .int .i64 3) rfl
 have h1' := BH.cell (i := 1) (v := .int .i64 0) rfl
 have h2' := BH.cell (i := 2) (v := .slice va vn vc) rfl
 have E6 := HE0.out.trans XU
 have HV6 := Lib.hid (HV5.out.ext hx6)
 have HZU := Lib.hid XU
 have HZF := Lib.hid XF
 clear BH XU XF hx6
 go_wp2_with fail
 refine (UC.out _ E6).mono ?_; rintro e w7 ⟨g7, c7, rfl, ho7, hx7⟩
 have hsz := hx7.size
 obtain ⟨⟨r0, r1, r2⟩, f0, f1, f2⟩ := HA2.out.ext (HZU.out.trans hx7)
 have HO7 := Lib.hid ((HoF.row ho7).imp (fun W2 h => Ints.of_owns h (by omega)))
 have HNB : Hid (¬ (Value.slice (some ⟨g7, 0, none⟩) ps.length c7).ownBlock = some (w.heap.size + 1 + 1)) := fun e => by have := (ho7.lt _ e).1; have := HUL.out; have := HZU.out.size; omega
 have HXB : Hid (∀ k, (Value.slice (some ⟨g7, 0, none⟩) ps.length c7).ownBlock = some k → w.heap.size ≤ k) := fun k e => Nat.le_trans E6.size (ho7.lt k e).1
 have E7 := E6.trans hx7
 clear HA0 HA1 HA2 HE0 HX3 HT3 HTB HB2 HGL HBF HXU HXF HBH HV5 HV6 HZU HZF HU3 ho7 hx7 hsz b0 b1 b2 q0 q1 q2 h0 h1' h2' UC
 go_wp2
 obtain ⟨g0, g1, g2⟩ := fr_cells PW PH (.slice (some ⟨g7, 0, none⟩) ps.length c7) r0 r1 r2
 exact bodyPost_ret (v := .tuple #[.agg #[.int .i64 PW, .int .i64 PH, .slice (some ⟨g7, 0, none⟩) ps.length c7], .nilIface]) (by simp [results, Tryz.results24, go_sem, g0, g1, g2]) rfl ⟨_, _, _, rfl, set3_ext E7 (by omega) _ _ _, HXB.out, (set3_ho HO7.out HNB.out _ _ _).imp (fun W h => ⟨h, rfl⟩)⟩
set_option maxRecDepth 20000 in
set_option maxHeartbeats 4000000 in
theorem dfr_2_no (bs : List Nat) (PW PH : Int) (ps : List Int) (W H : Int) (ca pa : Option Addr) (cn cc pn pc : Nat) (w : World) (h1 : newOk W H 128 = true) (hb : Bys w (.slice ca cn cc) bs) (hl : bs.length ≤ 1000000) (h2 : rdC 2 bs = 0) (hip : Ints w (.slice pa pn pc) ps) (hln : decide (leanP PW PH ps W H) = false) :
 Calls Tryz.prog 24 #[.agg #[.int .i64 2, .slice ca cn cc], .agg #[.int .i64 PW, .int .i64 PH, .slice pa pn pc], .int .i64 W, .int .i64 H] w (DfP w (some ([], 12), fr00)) := by
 obtain ⟨hy1, -, hy2⟩ := rd_yes h2
 have hqp := (rd_kind h2).2.2 (by decide)
 have HY1 := Lib.hid hy1
 have HY2 := Lib.hid (hy2 (by decide))
 obtain ⟨hd, hhd⟩ : ∃ z, bs.headD 0 = z := ⟨_, rfl⟩
 obtain ⟨tb, htb⟩ : ∃ z, bs.tail = z := ⟨_, rfl⟩
 rw [hhd, htb] at HY2
 rw [hhd] at hqp
 (try rw [hhd, htb])
 clear hy1 hy2 h2 hhd htb
 have A0 := (BoxIs.new w #[.int .i64 2, .slice ca cn cc] 63).ext (((Ext.refl _).alloc (.cells #[.int .i64 PW, .int .i64 PH, .slice pa pn pc] 24)).alloc (.cells #[.int .i64 0, .int .i64 0, .slice none 0 0] 24))
 have A1 := (BoxIs.new (w.alloc (.cells #[.int .i64 2, .slice ca cn cc] 63)) #[.int .i64 PW, .int .i64 PH, .slice pa pn pc] 24).ext ((Ext.refl _).alloc (.cells #[.int .i64 0, .int .i64 0, .slice none 0 0] 24))
 have A2 := FrAt.new ((w.alloc (.cells #[.int .i64 2, .slice ca cn cc] 63)).alloc (.cells #[.int .i64 PW, .int .i64 PH, .slice pa pn pc] 24))
 have E0 := (((Ext.refl w).alloc (.cells #[.int .i64 2, .slice ca cn cc] 63)).alloc (.cells #[.int .i64 PW, .int .i64 PH, .slice pa pn pc] 24)).alloc (.cells #[.int .i64 0, .int .i64 0, .slice none 0 0] 24)
 have sz1 : (w.alloc (.cells #[.int .i64 2, .slice ca cn cc] 63)).heap.size = w.heap.size + 1 := by simp
 have sz2 : ((w.alloc (.cells #[.int .i64 2, .slice ca cn cc] 63)).alloc (.cells #[.int .i64 PW, .int .i64 PH, .slice pa pn pc] 24)).heap.size = w.heap.size + 1 + 1 := by simp
 rw [sz1] at A1
 rw [sz2] at A2
 obtain ⟨u, hu⟩ : ∃ z, ((w.alloc (.cells #[.int .i64 2, .slice ca cn cc] 63)).alloc (.cells #[.int .i64 PW, .int .i64 PH, .slice pa pn pc] 24)).alloc (.cells #[.int .i64 0, .int .i64 0, .slice none 0 0] 24) = z := ⟨_, rfl⟩
 rw [hu] at A0 A1 A2 E0
 have HU := Lib.hid hu
 have HA0 := Lib.hid A0
 have HA1 := Lib.hid A1
 have HA2 := Lib.hid A2
 have HE0 := Lib.hid E0
 have hul : w.heap.size + 1 + 1 < u.heap.size := Ext.lt A2.1.1
 have HUL := Lib.hid hul
 clear A0 A1 A2 E0 sz1 sz2 hu hul
 have UN := Lib.hid (fun W' => new_own W H 128 W' h1)
 have UR := Lib.hid (fun W' (kx : Ext w W') => read_any 2 bs (.slice ca cn cc) W' (hb.ext kx) hl)
 go_enter Tryz.func24, Tryz.ntmps24
 go_wp2_with fail
 rw [HU.out]
 clear HU
 refine (UN.out _).mono ?_; rintro e w2 ⟨g, n, cap, rfl, hx2, hn2, ho2⟩
 have hgl : (greyL W H).length = n := by unfold greyL; rw [rowL_length]; exact hn2.symm
 obtain ⟨htl, htb⟩ := TlF.new hgl ho2
 have BF := BoxIs.new w2 #[.int .i64 W, .int .i64 H, .slice (some ⟨g, 0, none⟩) n cap] 24
 have U3 := bag_add TlF.obj ((Uno.first htl hx2 htb).bag TlF.obj (P := fun _ => True) (fun _ => trivial)) ((Ext.refl w2).alloc (.cells #[.int .i64 W, .int .i64 H, .slice (some ⟨g, 0, none⟩) n cap] 24)) (HoF.box BF) (by rintro i rfl; exact Nat.le_refl _)
 have X3 := hx2.alloc (.cells #[.int .i64 W, .int .i64 H, .slice (some ⟨g, 0, none⟩) n cap] 24)
 have T3 := TlF.obj.ext htl ((Ext.refl _).alloc (.cells #[.int .i64 W, .int .i64 H, .slice (some ⟨g, 0, none⟩) n cap] 24))
 have c0 := (HA0.out.ext X3).cell (i := 0) (v := .int .i64 2) rfl
 have c1 := (HA0.out.ext X3).cell (i := 1) (v := .slice ca cn cc) rfl
 obtain ⟨w3, hw3⟩ : ∃ z, w2.alloc (.cells #[.int .i64 W, .int .i64 H, .slice (some ⟨g, 0, none⟩) n cap] 24) = z := ⟨_, rfl⟩
 rw [hw3] at BF X3 T3 U3
 have HU3 := Lib.hid U3
 have HW3 := Lib.hid hw3
 have HBF := Lib.hid BF
 have HX3 := Lib.hid X3
 have HT3 := Lib.hid T3
 have HTB := Lib.hid htb
 have HB2 := Lib.hid hx2.size
 have HGL := Lib.hid hgl
 clear BF X3 T3 U3 hw3 htl htb hx2 hn2 ho2 hgl UN
 go_wp2_with fail
 rw [HW3.out]
 clear HW3 c0 c1
 refine (UR.out _ (HE0.out.trans HX3.out)).mono ?_; rintro e w4 ⟨hv, x4, rfl, hb4, he4, hx4⟩
 rw [HY1.out] at he4
 rw [HY2.out] at hb4
 rw [HY2.out]
 dsimp only
 obtain rfl : x4 = .nilIface := he4
 obtain ⟨va, vc, hvf⟩ := hb4.form
 obtain ⟨vn, hvn⟩ : ∃ z : Nat, z = tb.length := ⟨_, rfl⟩
 obtain rfl : hv = .slice va vn vc := by rw [hvn]; exact hvf
 have XF := hx4.alloc (.cells #[.int .i64 2, .int .i64 (hd : Int), .slice va vn vc] 92)
 have XU := HX3.out.trans XF
 have BH := BoxIs.new w4 #[.int .i64 2, .int .i64 (hd : Int), .slice va vn vc] 92
 have b0 := (HBF.out.ext XF).cell (i := 0) (v := .int .i64 W) rfl
 have b1 := (HBF.out.ext XF).cell (i := 1) (v := .int .i64 H) rfl
 have b2 := (HBF.out.ext XF).cell (i := 2) (v := .slice (some ⟨g, 0, none⟩) n cap) rfl
 have q0 := (HA1.out.ext XU).cell (i := 0) (v := .int .i64 PW) rfl
 have q1 := (HA1.out.ext XU).cell (i := 1) (v := .int .i64 PH) rfl
 have q2 := (HA1.out.ext XU).cell (i := 2) (v := .slice pa pn pc) rfl
 have h0 := BH.cell (i := 0) (v := .int .i64 2) rfl
 have h1' := BH.cell (i := 1) (v := .int .i64 (hd : Int)) rfl
 have h2' := BH.cell (i := 2) (v := .slice va vn vc) rfl
 obtain ⟨⟨r0, r1, r2⟩, f0, f1, f2⟩ := HA2.out.ext XU
 have HXU := Lib.hid XU
 have HXF := Lib.hid XF
 have HBH := Lib.hid BH
 have HVB : Hid (Bys w4 (.slice va vn vc) _) := hb4
 have HV5 := Lib.hid (HVB.out.ext ((Ext.refl w4).alloc (.cells #[.int .i64 2, .int .i64 (hd : Int), .slice va vn vc] 92)))
 clear XF XU BH hx4 hb4 hvf hvn UR HY1 HY2 HVB
 have UA := Lib.hid (fun W' kx => ahead_any PW PH W H ps pa (some ⟨g, 0, none⟩) pn pc n cap W' (hip.ext kx))
 rw [hln] at UA
 go_wp2_with fail
 refine (UA.out _ (HE0.out.trans HXU.out)).mono ?_; rintro e w6 ⟨rfl, hx6⟩
 have XF := HXF.out.trans hx6
 have XU := HXU.out.trans hx6
 have BH := HBH.out.ext hx6
 clear b0 b1 b2 q0 q1 q2 h0 h1' h2' r0 r1 r2 f0 f1 f2 UA
 have b0 := (HBF.out.ext XF).cell (i := 0) (v := .int .i64 W) rfl
 have b1 := (HBF.out.ext XF).cell (i := 1) (v := .int .i64 H) rfl
 have b2 := (HBF.out.ext XF).cell (i := 2) (v := .slice (some ⟨g, 0, none⟩) n cap) rfl
 have q0 := (HA1.out.ext XU).cell (i := 0) (v := .int .i64 PW) rfl
 have q1 := (HA1.out.ext XU).cell (i := 1) (v := .int .i64 PH) rfl
 have q2 := (HA1.out.ext XU).cell (i := 2) (v := .slice pa pn pc) rfl
 have h0 := BH.cell (i := 0) (v := .int .i64 2) rfl
 have h1' := BH.cell (i := 1) (v := .int .i64 (hd : Int)) rfl
 have h2' := BH.cell (i := 2) (v := .slice va vn vc) rfl
 have E6 := HE0.out.trans XU
 have HV6 := Lib.hid (HV5.out.ext hx6)
 have HZU := Lib.hid XU
 have HZF := Lib.hid XF
 clear BH XU XF hx6
 obtain ⟨⟨r0, r1, r2⟩, f0, f1, f2⟩ := HA2.out.ext HZU.out
 clear HA0 HA1 HA2 HE0 HX3 HT3 HTB HB2 HGL HBF HXU HXF HBH HV5 HV6 HZU HZF HU3
 go_wp2
 obtain ⟨g0, g1, g2⟩ := fr_cells 0 0 (.slice none 0 0) r0 r1 r2
 exact bodyPost_ret (v := .tuple #[.agg #[.int .i64 0, .int .i64 0, .slice none 0 0], .iface 40 (.int .i64 12)]) (by simp [results, Tryz.results24, go_sem, g0, g1, g2]) rfl ⟨_, _, fun _ => False, rfl, set3_ext E6 (by omega) _ _ _, fun _ h => h.elim, HoF.all (fun W => ⟨Ints.nil W, ErrIs.code (by decide)⟩)⟩
set_option maxRecDepth 20000 in
set_option maxHeartbeats 4000000 in
theorem dfr_2_yes (bs : List Nat) (PW PH : Int) (ps : List Int) (W H : Int) (ca pa : Option Addr) (cn cc pn pc : Nat) (w : World) (h1 : newOk W H 128 = true) (hb : Bys w (.slice ca cn cc) bs) (hl : bs.length ≤ 1000000) (h2 : rdC 2 bs = 0) (hip : Ints w (.slice pa pn pc) ps) (hln : decide (leanP PW PH ps W H) = true) :
 Calls Tryz.prog 24 #[.agg #[.int .i64 2, .slice ca cn cc], .agg #[.int .i64 PW, .int .i64 PH, .slice pa pn pc], .int .i64 W, .int .i64 H] w (DfP w (frOf W H (sqRun (mD bs.tail) false W H ps ((bs.headD 0 : Nat) : Int) (cntQ W H) 0 (greyL W H) ⟨ch0, newD bs.tail⟩))) := by
 have hmp := of_decide_eq_true hln
 obtain ⟨hy1, -, hy2⟩ := rd_yes h2
 have hqp := (rd_kind h2).2.2 (by decide)
 have HY1 := Lib.hid hy1
 have HY2 := Lib.hid (hy2 (by decide))
 obtain ⟨hd, hhd⟩ : ∃ z, bs.headD 0 = z := ⟨_, rfl⟩
 obtain ⟨tb, htb⟩ : ∃ z, bs.tail = z := ⟨_, rfl⟩
 rw [hhd, htb] at HY2
 rw [hhd] at hqp
 (try rw [hhd, htb])
 clear hy1 hy2 h2 hhd htb
 obtain ⟨⟨tf, tz⟩, hT'⟩ : ∃ r, sqRun (mD tb) false W H ps (hd : Int) (cntQ W H) 0 (greyL W H) ⟨ch0, newD tb⟩ = r := ⟨_, rfl⟩
 rw [hT']
 have HT := Lib.hid hT'
 clear hT'
 have A0 := (BoxIs.new w #[.int .i64 2, .slice ca cn cc] 63).ext (((Ext.refl _).alloc (.cells #[.int .i64 PW, .int .i64 PH, .slice pa pn pc] 24)).alloc (.cells #[.int .i64 0, .int .i64 0, .slice none 0 0] 24))
 have A1 := (BoxIs.new (w.alloc (.cells #[.int .i64 2, .slice ca cn cc] 63)) #[.int .i64 PW, .int .i64 PH, .slice pa pn pc] 24).ext ((Ext.refl _).alloc (.cells #[.int .i64 0, .int .i64 0, .slice none 0 0] 24))
 have A2 := FrAt.new ((w.alloc (.cells #[.int .i64 2, .slice ca cn cc] 63)).alloc (.cells #[.int .i64 PW, .int .i64 PH, .slice pa pn pc] 24))
 have E0 := (((Ext.refl w).alloc (.cells #[.int .i64 2, .slice ca cn cc] 63)).alloc (.cells #[.int .i64 PW, .int .i64 PH, .slice pa pn pc] 24)).alloc (.cells #[.int .i64 0, .int .i64 0, .slice none 0 0] 24)
 have sz1 : (w.alloc (.cells #[.int .i64 2, .slice ca cn cc] 63)).heap.size = w.heap.size + 1 := by simp
 have sz2 : ((w.alloc (.cells #[.int .i64 2, .slice ca cn cc] 63)).alloc (.cells #[.int .i64 PW, .int .i64 PH, .slice pa pn pc] 24)).heap.size = w.heap.size + 1 + 1 := by simp
 rw [sz1] at A1
 rw [sz2] at A2
 obtain ⟨u, hu⟩ : ∃ z, ((w.alloc (.cells #[.int .i64 2, .slice ca cn cc] 63)).alloc (.cells #[.int .i64 PW, .int .i64 PH, .slice pa pn pc] 24)).alloc (.cells #[.int .i64 0, .int .i64 0, .slice none 0 0] 24) = z := ⟨_, rfl⟩
 rw [hu] at A0 A1 A2 E0
 have HU := Lib.hid hu
 have HA0 := Lib.hid A0
 have HA1 := Lib.hid A1
 have HA2 := Lib.hid A2
 have HE0 := Lib.hid E0
 have hul : w.heap.size + 1 + 1 < u.heap.size := Ext.lt A2.1.1
 have HUL := Lib.hid hul
 clear A0 A1 A2 E0 sz1 sz2 hu hul
 have UN := Lib.hid (fun W' => new_own W H 128 W' h1)
 have UR := Lib.hid (fun W' (kx : Ext w W') => read_any 2 bs (.slice ca cn cc) W' (hb.ext kx) hl)
 go_enter Tryz.func24, Tryz.ntmps24
 go_wp2_with fail
 rw [HU.out]
 clear HU
 refine (UN.out _).mono ?_; rintro e w2 ⟨g, n, cap, rfl, hx2, hn2, ho2⟩
 have hgl : (greyL W H).length = n := by unfold greyL; rw [rowL_length]; exact hn2.symm
 obtain ⟨htl, htb⟩ := TlF.new hgl ho2
 have BF := BoxIs.new w2 #[.int .i64 W, .int .i64 H, .slice (some ⟨g, 0, none⟩) n cap] 24
 have U3 := bag_add TlF.obj ((Uno.first htl hx2 htb).bag TlF.obj (P := fun _ => True) (fun _ => trivial)) ((Ext.refl w2).alloc (.cells #[.int .i64 W, .int .i64 H, .slice (some ⟨g, 0, none⟩) n cap] 24)) (HoF.box BF) (by rintro i rfl; exact Nat.le_refl _)
 have X3 := hx2.alloc (.cells #[.int .i64 W, .int .i64 H, .slice (some ⟨g, 0, none⟩) n cap] 24)
 have T3 := TlF.obj.ext htl ((Ext.refl _).alloc (.cells #[.int .i64 W, .int .i64 H, .slice (some ⟨g, 0, none⟩) n cap] 24))
 have c0 := (HA0.out.ext X3).cell (i := 0) (v := .int .i64 2) rfl
 have c1 := (HA0.out.ext X3).cell (i := 1) (v := .slice ca cn cc) rfl
 obtain ⟨w3, hw3⟩ : ∃ z, w2.alloc (.cells #[.int .i64 W, .int .i64 H, .slice (some ⟨g, 0, none⟩) n cap] 24) = z := ⟨_, rfl⟩
 rw [hw3] at BF X3 T3 U3
 have HU3 := Lib.hid U3
 have HW3 := Lib.hid hw3
 have HBF := Lib.hid BF
 have HX3 := Lib.hid X3
 have HT3 := Lib.hid T3
 have HTB := Lib.hid htb
 have HB2 := Lib.hid hx2.size
 have HGL := Lib.hid hgl
 clear BF X3 T3 U3 hw3 htl htb hx2 hn2 ho2 hgl UN
 go_wp2_with fail
 rw [HW3.out]
 clear HW3 c0 c1
 refine (UR.out _ (HE0.out.trans HX3.out)).mono ?_; rintro e w4 ⟨hv, x4, rfl, hb4, he4, hx4⟩
 rw [HY1.out] at he4
 rw [HY2.out] at hb4
 rw [HY2.out]
 dsimp only
 obtain rfl : x4 = .nilIface := he4
 obtain ⟨va, vc, hvf⟩ := hb4.form
 obtain ⟨vn, hvn⟩ : ∃ z : Nat, z = tb.length := ⟨_, rfl⟩
 obtain rfl : hv = .slice va vn vc := by rw [hvn]; exact hvf
 have XF := hx4.alloc (.cells #[.int .i64 2, .int .i64 (hd : Int), .slice va vn vc] 92)
 have XU := HX3.out.trans XF
 have BH := BoxIs.new w4 #[.int .i64 2, .int .i64 (hd : Int), .slice va vn vc] 92
 have b0 := (HBF.out.ext XF).cell (i := 0) (v := .int .i64 W) rfl
 have b1 := (HBF.out.ext XF).cell (i := 1) (v := .int .i64 H) rfl
 have b2 := (HBF.out.ext XF).cell (i := 2) (v := .slice (some ⟨g, 0, none⟩) n cap) rfl
 have q0 := (HA1.out.ext XU).cell (i := 0) (v := .int .i64 PW) rfl
 have q1 := (HA1.out.ext XU).cell (i := 1) (v := .int .i64 PH) rfl
 have q2 := (HA1.out.ext XU).cell (i := 2) (v := .slice pa pn pc) rfl
 have h0 := BH.cell (i := 0) (v := .int .i64 2) rfl
 have h1' := BH.cell (i := 1) (v := .int .i64 (hd : Int)) rfl
 have h2' := BH.cell (i := 2) (v := .slice va vn vc) rfl
 obtain ⟨⟨r0, r1, r2⟩, f0, f1, f2⟩ := HA2.out.ext XU
 have HXU := Lib.hid XU
 have HXF := Lib.hid XF
 have HBH := Lib.hid BH
 have HVB : Hid (Bys w4 (.slice va vn vc) _) := hb4
 have HV5 := Lib.hid (HVB.out.ext ((Ext.refl w4).alloc (.cells #[.int .i64 2, .int .i64 (hd : Int), .slice va vn vc] 92)))
 clear XF XU BH hx4 hb4 hvf hvn UR HY1 HY2 HVB
 have US := Lib.hid (fun wz hv hu => rdsq_w W H PW PH 2 (hd : Int) (greyL W H) ps tb g n cap pa pn pc va vn vc u wz hu (grey_may h1) hv (by omega) (fun _ => ⟨hmp.2.1, hmp.2.2, by rw [← hmp.2.1, ← hmp.2.2]; exact hmp.1, hip.ext HE0.out⟩) (P := fun W2 => True ∧ BoxIs W2 w2.heap.size #[.int .i64 W, .int .i64 H, .slice (some ⟨g, 0, none⟩) n cap] 24))
 rw [show decide ((2 : Int) = 1) = false from rfl, HT.out] at US
 clear hmp HT
 have UA := Lib.hid (fun W' kx => ahead_any PW PH W H ps pa (some ⟨g, 0, none⟩) pn pc n cap W' (hip.ext kx))
 rw [hln] at UA
 go_wp2_with fail
 refine (UA.out _ (HE0.out.trans HXU.out)).mono ?_; rintro e w6 ⟨rfl, hx6⟩
 have XF := HXF.out.trans hx6
 have XU := HXU.out.trans hx6
 have BH := HBH.out.ext hx6
 clear b0 b1 b2 q0 q1 q2 h0 h1' h2' r0 r1 r2 f0 f1 f2 UA
 have b0 := (HBF.out.ext XF).cell (i := 0) (v := .int .i64 W) rfl
 have b1 := (HBF.out.ext XF).cell (i := 1) (v := .int .i64 H) rfl
 have b2 := (HBF.out.ext XF).cell (i := 2) (v := .slice (some ⟨g, 0, none⟩) n cap) rfl
 have q0 := (HA1.out.ext XU).cell (i := 0) (v := .int .i64 PW) rfl
 have q1 := (HA1.out.ext XU).cell (i := 1) (v := .int .i64 PH) rfl
 have q2 := (HA1.out.ext XU).cell (i := 2) (v := .slice pa pn pc) rfl
 have h0 := BH.cell (i := 0) (v := .int .i64 2) rfl
 have h1' := BH.cell (i := 1) (v := .int .i64 (hd : Int)) rfl
 have h2' := BH.cell (i := 2) (v := .slice va vn vc) rfl
 have E6 := HE0.out.trans XU
 have HV6 := Lib.hid (HV5.out.ext hx6)
 have HZU := Lib.hid XU
 have HZF := Lib.hid XF
 clear BH XU XF hx6
 have HVZ := HV6
 have HUZ := Lib.hid (bag_ext TlF.obj HU3.out HZF.out)
 clear HV5 HV6 HXU HXF HBH HZU HZF
 go_wp2_with fail
 refine (US.out _ HVZ.out HUZ.out).mono ?_; rintro e w7 ⟨x7, ys, rfl, hu7, hy7⟩
 have hy2 := hu7.held.2
 have hyl : ys.length ≤ 1000000 := by
  obtain ⟨F, ⟨F1, F2, g1, -⟩, -⟩ := hu7
  rw [← tlf_len g1, ← HGL.out]
  have := may_len (grey_may h1)
  omega
 obtain ⟨X7, ho7, hx7, ex7⟩ := uno_ho hu7 hyl
 have HBX := ho7.get.2.1.2
 have HO7 := Lib.hid ho7
 have HNB : Hid (¬ X7 (w.heap.size + 1 + 1)) := fun e => by have := hx7 _ e; have := HUL.out; omega
 have HXB : Hid (∀ k, X7 k → w.heap.size ≤ k) := fun k e => Nat.le_trans HE0.out.size (hx7 k e)
 have E7 := HE0.out.trans ex7
 obtain ⟨⟨r0', r1', r2'⟩, f0', f1', f2'⟩ := HA2.out.ext ex7
 clear b0 b1 b2 q0 q1 q2 h0 h1' h2'
 have b0 := HBX.cell (i := 0) (v := .int .i64 W) rfl
 have b1 := HBX.cell (i := 1) (v := .int .i64 H) rfl
 have b2 := HBX.cell (i := 2) (v := .slice (some ⟨g, 0, none⟩) n cap) rfl
 clear HBX hu7 hx7 ex7 ho7 hyl US HVZ HUZ HA0 HA1 HA2 HE0 HX3 HT3 HTB HB2 HGL HBF HU3
 cases tf with
 | none =>
   obtain rfl : ys = tz := hy7 rfl
   obtain rfl : x7 = .nilIface := hy2
   clear hy7
   go_wp2
   obtain ⟨g0, g1, g2⟩ := fr_cells W H (.slice (some ⟨g, 0, none⟩) n cap) r0' r1' r2'
   exact bodyPost_ret (v := .tuple #[.agg #[.int .i64 W, .int .i64 H, .slice (some ⟨g, 0, none⟩) n cap], .nilIface]) (by simp [results, Tryz.results24, go_sem, g0, g1, g2]) rfl ⟨_, _, _, rfl, set3_ext E7 (by omega) _ _ _, HXB.out, (set3_ho HO7.out HNB.out _ _ _).imp (fun W h => ⟨h.1, rfl⟩)⟩
 | some f =>
   obtain ⟨xt, xv, rfl⟩ := ErrIs.ne hy2
   clear hy7 hy2
   go_wp2
   obtain ⟨g0, g1, g2⟩ := fr_cells 0 0 (.slice none 0 0) r0' r1' r2'
   exact bodyPost_ret (v := .tuple #[.agg #[.int .i64 0, .int .i64 0, .slice none 0 0], .iface xt xv]) (by simp [results, Tryz.results24, go_sem, g0, g1, g2]) rfl ⟨_, _, _, rfl, set3_ext E7 (by omega) _ _ _, HXB.out, (set3_ho HO7.out HNB.out _ _ _).imp (fun W h => ⟨Ints.nil W, h.2.2⟩)⟩
set_option maxRecDepth 20000 in
set_option maxHeartbeats 4000000 in
theorem dfr_1 (bs : List Nat) (PW PH : Int) (ps : List Int) (W H : Int) (ca pa : Option Addr) (cn cc pn pc : Nat) (w : World) (h1 : newOk W H 128 = true) (hb : Bys w (.slice ca cn cc) bs) (hl : bs.length ≤ 1000000) (h2 : rdC 1 bs = 0) :
 Calls Tryz.prog 24 #[.agg #[.int .i64 1, .slice ca cn cc], .agg #[.int .i64 PW, .int .i64 PH, .slice pa pn pc], .int .i64 W, .int .i64 H] w (DfP w (frOf W H (sqRun (mD bs.tail) true W H ps ((bs.headD 0 : Nat) : Int) (cntQ W H) 0 (greyL W H) ⟨ch0, newD bs.tail⟩))) := by
 obtain ⟨hy1, -, hy2⟩ := rd_yes h2
 have hqp := (rd_kind h2).2.2 (by decide)
 have HY1 := Lib.hid hy1
 have HY2 := Lib.hid (hy2 (by decide))
 obtain ⟨hd, hhd⟩ : ∃ z, bs.headD 0 = z := ⟨_, rfl⟩
 obtain ⟨tb, htb⟩ : ∃ z, bs.tail = z := ⟨_, rfl⟩
 rw [hhd, htb] at HY2
 rw [hhd] at hqp
 (try rw [hhd, htb])
 clear hy1 hy2 h2 hhd htb
 obtain ⟨⟨tf, tz⟩, hT'⟩ : ∃ r, sqRun (mD tb) true W H ps (hd : Int) (cntQ W H) 0 (greyL W H) ⟨ch0, newD tb⟩ = r := ⟨_, rfl⟩
 rw [hT']
 have HT := Lib.hid hT'
 clear hT'
 have A0 := (BoxIs.new w #[.int .i64 1, .slice ca cn cc] 63).ext (((Ext.refl _).alloc (.cells #[.int .i64 PW, .int .i64 PH, .slice pa pn pc] 24)).alloc (.cells #[.int .i64 0, .int .i64 0, .slice none 0 0] 24))
 have A1 := (BoxIs.new (w.alloc (.cells #[.int .i64 1, .slice ca cn cc] 63)) #[.int .i64 PW, .int .i64 PH, .slice pa pn pc] 24).ext ((Ext.refl _).alloc (.cells #[.int .i64 0, .int .i64 0, .slice none 0 0] 24))
 have A2 := FrAt.new ((w.alloc (.cells #[.int .i64 1, .slice ca cn cc] 63)).alloc (.cells #[.int .i64 PW, .int .i64 PH, .slice pa pn pc] 24))
 have E0 := (((Ext.refl w).alloc (.cells #[.int .i64 1, .slice ca cn cc] 63)).alloc (.cells #[.int .i64 PW, .int .i64 PH, .slice pa pn pc] 24)).alloc (.cells #[.int .i64 0, .int .i64 0, .slice none 0 0] 24)
 have sz1 : (w.alloc (.cells #[.int .i64 1, .slice ca cn cc] 63)).heap.size = w.heap.size + 1 := by simp
 have sz2 : ((w.alloc (.cells #[.int .i64 1, .slice ca cn cc] 63)).alloc (.cells #[.int .i64 PW, .int .i64 PH, .slice pa pn pc] 24)).heap.size = w.heap.size + 1 + 1 := by simp
 rw [sz1] at A1
 rw [sz2] at A2
 obtain ⟨u, hu⟩ : ∃ z, ((w.alloc (.cells #[.int .i64 1, .slice ca cn cc] 63)).alloc (.cells #[.int .i64 PW, .int .i64 PH, .slice pa pn pc] 24)).alloc (.cells #[.int .i64 0, .int .i64 0, .slice none 0 0] 24) = z := ⟨_, rfl⟩
 rw [hu] at A0 A1 A2 E0
 have HU := Lib.hid hu
 have HA0 := Lib.hid A0
 have HA1 := Lib.hid A1
 have HA2 := Lib.hid A2
 have HE0 := Lib.hid E0
 have hul : w.heap.size + 1 + 1 < u.heap.size := Ext.lt A2.1.1
 have HUL := Lib.hid hul
 clear A0 A1 A2 E0 sz1 sz2 hu hul
 have UN := Lib.hid (fun W' => new_own W H 128 W' h1)
 have UR := Lib.hid (fun W' (kx : Ext w W') => read_any 1 bs (.slice ca cn cc) W' (hb.ext kx) hl)
 go_enter Tryz.func24, Tryz.ntmps24
 go_wp2_with fail
 rw [HU.out]
 clear HU
 refine (UN.out _).mono ?_; rintro e w2 ⟨g, n, cap, rfl, hx2, hn2, ho2⟩
 have hgl : (greyL W H).length = n := by unfold greyL; rw [rowL_length]; exact hn2.symm
 obtain ⟨htl, htb⟩ := TlF.new hgl ho2
 have BF := BoxIs.new w2 #[.int .i64 W, .int .i64 H, .slice (some ⟨g, 0, none⟩) n cap] 24
 have U3 := bag_add TlF.obj ((Uno.first htl hx2 htb).bag TlF.obj (P := fun _ => True) (fun _ => trivial)) ((Ext.refl w2).alloc (.cells #[.int .i64 W, .int .i64 H, .slice (some ⟨g, 0, none⟩) n cap] 24)) (HoF.box BF) (by rintro i rfl; exact Nat.le_refl _)
 have X3 := hx2.alloc (.cells #[.int .i64 W, .int .i64 H, .slice (some ⟨g, 0, none⟩) n cap] 24)
 have T3 := TlF.obj.ext htl ((Ext.refl _).alloc (.cells #[.int .i64 W, .int .i64 H, .slice (some ⟨g, 0, none⟩) n cap] 24))
 have c0 := (HA0.out.ext X3).cell (i := 0) (v := .int .i64 1) rfl
 have c1 := (HA0.out.ext X3).cell (i := 1) (v := .slice ca cn cc) rfl
 obtain ⟨w3, hw3⟩ : ∃ z, w2.alloc (.cells #[.int .i64 W, .int .i64 H, .slice (some ⟨g, 0, none⟩) n cap] 24) = z := ⟨_, rfl⟩
 rw [hw3] at BF X3 T3 U3
 have HU3 := Lib.hid U3
 have HW3 := Lib.hid hw3
 have HBF := Lib.hid BF
 have HX3 := Lib.hid X3
 have HT3 := Lib.hid T3
 have HTB := Lib.hid htb
 have HB2 := Lib.hid hx2.size
 have HGL := Lib.hid hgl
 clear BF X3 T3 U3 hw3 htl htb hx2 hn2 ho2 hgl UN
 go_wp2_with fail
 rw [HW3.out]
 clear HW3 c0 c1
 refine (UR.out _ (HE0.out.trans HX3.out)).mono ?_; rintro e w4 ⟨hv, x4, rfl, hb4, he4, hx4⟩
 rw [HY1.out] at he4
 rw [HY2.out] at hb4
 rw [HY2.out]
 dsimp only
 obtain rfl : x4 = .nilIface := he4
 obtain ⟨va, vc, hvf⟩ := hb4.form
 obtain ⟨vn, hvn⟩ : ∃ z : Nat, z = tb.length := ⟨_, rfl⟩
 obtain rfl : hv = .slice va vn vc := by rw [hvn]; exact hvf
 have XF := hx4.alloc (.cells #[.int .i64 1, .int .i64 (hd : Int), .slice va vn vc] 92)
 have XU := HX3.out.trans XF
 have BH := BoxIs.new w4 #[.int .i64 1, .int .i64 (hd : Int), .slice va vn vc] 92
 have b0 := (HBF.out.ext XF).cell (i := 0) (v := .int .i64 W) rfl
 have b1 := (HBF.out.ext XF).cell (i := 1) (v := .int .i64 H) rfl
 have b2 := (HBF.out.ext XF).cell (i := 2) (v := .slice (some ⟨g, 0, none⟩) n cap) rfl
 have q0 := (HA1.out.ext XU).cell (i := 0) (v := .int .i64 PW) rfl
 have q1 := (HA1.out.ext XU).cell (i := 1) (v := .int .i64 PH) rfl
 have q2 := (HA1.out.ext XU).cell (i := 2) (v := .slice pa pn pc) rfl
 have h0 := BH.cell (i := 0) (v := .int .i64 1) rfl
 have h1' := BH.cell (i := 1) (v := .int .i64 (hd : Int)) rfl
 have h2' := BH.cell (i := 2) (v := .slice va vn vc) rfl
 obtain ⟨⟨r0, r1, r2⟩, f0, f1, f2⟩ := HA2.out.ext XU
 have HXU := Lib.hid XU
 have HXF := Lib.hid XF
 have HBH := Lib.hid BH
 have HVB : Hid (Bys w4 (.slice va vn vc) _) := hb4
 have HV5 := Lib.hid (HVB.out.ext ((Ext.refl w4).alloc (.cells #[.int .i64 1, .int .i64 (hd : Int), .slice va vn vc] 92)))
 clear XF XU BH hx4 hb4 hvf hvn UR HY1 HY2 HVB
 have US := Lib.hid (fun wz hv hu => rdsq_w W H PW PH 1 (hd : Int) (greyL W H) ps tb g n cap pa pn pc va vn vc u wz hu (grey_may h1) hv (by omega) (fun h => absurd rfl h) (P := fun W2 => True ∧ BoxIs W2 w2.heap.size #[.int .i64 W, .int .i64 H, .slice (some ⟨g, 0, none⟩) n cap] 24))
 rw [show decide ((1 : Int) = 1) = true from rfl, HT.out] at US
 clear HT
 have HVZ := HV5
 have HUZ := Lib.hid (bag_ext TlF.obj HU3.out HXF.out)
 clear HV5 HXU HXF HBH
 go_wp2_with fail
 refine (US.out _ HVZ.out HUZ.out).mono ?_; rintro e w7 ⟨x7, ys, rfl, hu7, hy7⟩
 have hy2 := hu7.held.2
 have hyl : ys.length ≤ 1000000 := by
  obtain ⟨F, ⟨F1, F2, g1, -⟩, -⟩ := hu7
  rw [← tlf_len g1, ← HGL.out]
  have := may_len (grey_may h1)
  omega
 obtain ⟨X7, ho7, hx7, ex7⟩ := uno_ho hu7 hyl
 have HBX := ho7.get.2.1.2
 have HO7 := Lib.hid ho7
 have HNB : Hid (¬ X7 (w.heap.size + 1 + 1)) := fun e => by have := hx7 _ e; have := HUL.out; omega
 have HXB : Hid (∀ k, X7 k → w.heap.size ≤ k) := fun k e => Nat.le_trans HE0.out.size (hx7 k e)
 have E7 := HE0.out.trans ex7
 obtain ⟨⟨r0', r1', r2'⟩, f0', f1', f2'⟩ := HA2.out.ext ex7
 clear b0 b1 b2 q0 q1 q2 h0 h1' h2'
 have b0 := HBX.cell (i := 0) (v := .int .i64 W) rfl
 have b1 := HBX.cell (i := 1) (v := .int .i64 H) rfl
 have b2 := HBX.cell (i := 2) (v := .slice (some ⟨g, 0, none⟩) n cap) rfl
 clear HBX hu7 hx7 ex7 ho7 hyl US HVZ HUZ HA0 HA1 HA2 HE0 HX3 HT3 HTB HB2 HGL HBF HU3
 cases tf with
 | none =>
   obtain rfl : ys = tz := hy7 rfl
   obtain rfl : x7 = .nilIface := hy2
   clear hy7
   go_wp2
   obtain ⟨g0, g1, g2⟩ := fr_cells W H (.slice (some ⟨g, 0, none⟩) n cap) r0' r1' r2'
   exact bodyPost_ret (v := .tuple #[.agg #[.int .i64 W, .int .i64 H, .slice (some ⟨g, 0, none⟩) n cap], .nilIface]) (by simp [results, Tryz.results24, go_sem, g0, g1, g2]) rfl ⟨_, _, _, rfl, set3_ext E7 (by omega) _ _ _, HXB.out, (set3_ho HO7.out HNB.out _ _ _).imp (fun W h => ⟨h.1, rfl⟩)⟩
 | some f =>
   obtain ⟨xt, xv, rfl⟩ := ErrIs.ne hy2
   clear hy7 hy2
   go_wp2
   obtain ⟨g0, g1, g2⟩ := fr_cells 0 0 (.slice none 0 0) r0' r1' r2'
   exact bodyPost_ret (v := .tuple #[.agg #[.int .i64 0, .int .i64 0, .slice none 0 0], .iface xt xv]) (by simp [results, Tryz.results24, go_sem, g0, g1, g2]) rfl ⟨_, _, _, rfl, set3_ext E7 (by omega) _ _ _, HXB.out, (set3_ho HO7.out HNB.out _ _ _).imp (fun W h => ⟨Ints.nil W, h.2.2⟩)⟩
theorem dframe_any (k : Int) (bs : List Nat) (PW PH : Int) (ps : List Int) (W H : Int) (ca pa : Option Addr) (cn cc pn pc : Nat) (w : World) (hb : Bys w (.slice ca cn cc) bs) (hl : bs.length ≤ 1000000) (hip : Ints w (.slice pa pn pc) ps) :
 Calls Tryz.prog 24 #[.agg #[.int .i64 k, .slice ca cn cc], .agg #[.int .i64 PW, .int .i64 PH, .slice pa pn pc], .int .i64 W, .int .i64 H] w (DfP w (dfrV k bs PW PH ps W H)) := by
 unfold dfrV
 split
 · rename_i h1
   exact dfr_new k bs PW PH ps W H ca pa cn cc pn pc w h1
 · rename_i h1
   have h1 : newOk W H 128 = true := by simpa using h1
   split
   · rename_i h2
     exact dfr_read k bs PW PH ps W H ca pa cn cc pn pc w h1 hb hl h2
   · rename_i h2
     have h2 : rdC k bs = 0 := by simpa using h2
     obtain ⟨k1, k4, -⟩ := rd_kind h2
     rcases (by omega : k = 1 ∨ k = 2 ∨ k = 3 ∨ k = 4) with rfl | rfl | rfl | rfl
     · rw [if_neg (by rintro ⟨h | h, -⟩ <;> omega), if_neg (by omega), if_neg (by omega)]
       exact dfr_1 bs PW PH ps W H ca pa cn cc pn pc w h1 hb hl h2
     · by_cases hln : leanP PW PH ps W H
       · rw [if_neg (fun h => h.2 hln), if_neg (by omega), if_neg (by omega)]
         exact dfr_2_yes bs PW PH ps W H ca pa cn cc pn pc w h1 hb hl h2 hip (decide_eq_true hln)
       · rw [if_pos ⟨.inl rfl, hln⟩]
         exact dfr_2_no bs PW PH ps W H ca pa cn cc pn pc w h1 hb hl h2 hip (decide_eq_false hln)
     · by_cases hln : leanP PW PH ps W H
       · rw [if_neg (fun h => h.2 hln), if_neg (by omega), if_pos rfl]
         exact dfr_3_yes bs PW PH ps W H ca pa cn cc pn pc w h1 hb hl h2 hip (decide_eq_true hln)
       · rw [if_pos ⟨.inr rfl, hln⟩]
         exact dfr_3_no bs PW PH ps W H ca pa cn cc pn pc w h1 hb hl h2 hip (decide_eq_false hln)
     · rw [if_neg (by rintro ⟨h | h, -⟩ <;> omega), if_pos rfl]
       exact dfr_4 bs PW PH ps W H ca pa cn cc pn pc w h1 hb hl h2
theorem lean_zero (W H : Int) : ¬ leanP 0 0 [] W H := fun h => by
 have := sideB_true h.1.1
 omega
theorem key_zero : sqRun (mD []) true 8 8 [] ((0 : Nat) : Int) 1 0 (greyL 8 8) ⟨ch0, newD []⟩ = (none, greyL 8 8) := by decide +kernel
theorem dfr_flat : dfrV 4 [] 0 0 [] 8 8 = (none, (8, 8, greyL 8 8)) := by
 unfold dfrV
 rw [if_neg (by decide), if_neg (by decide), if_neg (by rintro ⟨h | h, -⟩ <;> omega), if_pos rfl]
theorem dfr_skip0 : dfrV 3 [] 0 0 [] 8 8 = (some ([], 12), fr00) := by
 unfold dfrV
 rw [if_neg (by decide), if_neg (by decide), if_pos ⟨.inr rfl, lean_zero 8 8⟩]
theorem dfr_key0 : dfrV 1 [0] 0 0 [] 8 8 = (none, (8, 8, greyL 8 8)) := by
 unfold dfrV
 rw [if_neg (by decide), if_neg (by decide), if_neg (by rintro ⟨h | h, -⟩ <;> omega), if_neg (by decide), if_neg (by decide)]
 show frOf 8 8 (sqRun (mD []) true 8 8 [] ((0 : Nat) : Int) 1 0 (greyL 8 8) ⟨ch0, newD []⟩) = _
 rw [key_zero]
 rfl
theorem grey_len : (greyL 8 8).length = 64 := by unfold greyL; rw [rowL_length]; rfl
theorem grey_in : decide (within 128 128 (greyL 8 8)) = true := decide_eq_true (fun x hx => by
 obtain ⟨j, _, rfl⟩ := rowL_mem hx
 decide)
theorem grey_form {w : World} {u : Value} (h : Ints w u (greyL 8 8)) : ∃ a c, u = .slice a 64 c := by
 obtain ⟨a, c, e⟩ := h.form
 rw [grey_len] at e
 exact ⟨a, c, e⟩
set_option maxRecDepth 20000 in
set_option maxHeartbeats 4000000 in
theorem first21_any (w : World) (hg : EtIs w) : Calls Tryz.prog 9 #[] w fun e w' => e = .returned (.bool true) ∧ Ext w w' := by
 have HG := Lib.hid hg
 have U1 := Lib.hid (fun W' => dframe_any 4 [] 0 0 [] 8 8 none none 0 0 0 0 W' (Bys.nil W') (by decide) (Ints.nil W'))
 rw [dfr_flat] at U1
 have U2 := Lib.hid (fun W' => dframe_any 3 [] 0 0 [] 8 8 none none 0 0 0 0 W' (Bys.nil W') (by decide) (Ints.nil W'))
 rw [dfr_skip0] at U2
 unfold fr00 at U2
 have U3 := Lib.hid (fun a n c W' hb => dframe_any 1 [0] 0 0 [] 8 8 a none n c 0 0 W' hb (by decide) (Ints.nil W'))
 rw [dfr_key0] at U3
 have E0 : Ext w (w.alloc (.cells #[.int .i64 0, .int .i64 0, .slice none 0 0] 24)) := (Ext.refl w).alloc _
 have Z0 := BoxIs.new w #[.int .i64 0, .int .i64 0, .slice none 0 0] 24
 have z0 := Z0.cell (i := 0) (v := .int .i64 0) rfl
 have z1 := Z0.cell (i := 1) (v := .int .i64 0) rfl
 have z2 := Z0.cell (i := 2) (v := .slice none 0 0) rfl
 clear hg
 go_enter Tryz.func9, Tryz.ntmps9
 go_wp2_with fail
 refine (U1.out _).mono ?_; rintro e w2 ⟨u2, x2, X2, rfl, hx2, -, ho2⟩
 obtain ⟨hi2, he2⟩ := ho2.get
 clear ho2
 obtain rfl : x2 = .nilIface := he2
 obtain ⟨a2, c2, rfl⟩ := grey_form hi2
 have X2 := hx2.alloc (.cells #[.int .i64 8, .int .i64 8, .slice a2 64 c2] 24)
 have Z2 := Z0.ext X2
 have B2 := BoxIs.new w2 #[.int .i64 8, .int .i64 8, .slice a2 64 c2] 24
 have E2 := E0.trans X2
 have I2 := hi2.ext ((Ext.refl w2).alloc (.cells #[.int .i64 8, .int .i64 8, .slice a2 64 c2] 24))
 clear z0 z1 z2
 have z0 := Z2.cell (i := 0) (v := .int .i64 0) rfl
 have z1 := Z2.cell (i := 1) (v := .int .i64 0) rfl
 have z2 := Z2.cell (i := 2) (v := .slice none 0 0) rfl
 obtain ⟨w3, hw3⟩ : ∃ z, w2.alloc (.cells #[.int .i64 8, .int .i64 8, .slice a2 64 c2] 24) = z := ⟨_, rfl⟩
 rw [hw3] at Z2 B2 E2 I2
 have HW3 := Lib.hid hw3
 have HZ := Lib.hid Z2
 have HB2 := Lib.hid B2
 have HE2 := Lib.hid E2
 have HI2 := Lib.hid I2
 clear Z0 X2 Z2 B2 E0 E2 I2 hw3 hx2 hi2 U1
 go_wp2_with fail
 rw [HW3.out]
 refine (U2.out _).mono ?_; rintro e w4 ⟨u4, x4, X4, rfl, hx4, -, ho4⟩
 obtain ⟨hi4, he4⟩ := ho4.get
 clear ho4
 obtain rfl : x4 = .iface 40 (.int .i64 12) := he4.1
 obtain ⟨a4, c4, hu4⟩ := hi4.form
 obtain rfl : u4 = .slice a4 0 c4 := hu4
 have X5 := (hx4.alloc (.cells #[.int .i64 0, .int .i64 0, .slice a4 0 c4] 24)).alloc (.cells #[.int .u8 0] 5)
 have BY : Bys ((w4.alloc (.cells #[.int .i64 0, .int .i64 0, .slice a4 0 c4] 24)).alloc (.cells #[.int .u8 0] 5)) (.slice (some ⟨w4.heap.size + 1, 0, none⟩) 1 1) [0] := by
  have h9 := World.ownsRow_lit (e := 5) (base := (w4.alloc (.cells #[.int .i64 0, .int .i64 0, .slice a4 0 c4] 24)).heap.size) (size := 1) (w4.alloc (.cells #[.int .i64 0, .int .i64 0, .slice a4 0 c4] 24)) #[Value.int .u8 0] 1 (Nat.le_refl _) (by unfold maxLen; omega) (by simp)
  have h8 := Row.of_owns h9
  rw [show (w4.alloc (.cells #[.int .i64 0, .int .i64 0, .slice a4 0 c4] 24)).heap.size = w4.heap.size + 1 by simp] at h8
  exact ⟨h8, by simp, by simp⟩
 have Z5 := HZ.out.ext X5
 clear z0 z1 z2
 have z0 := Z5.cell (i := 0) (v := .int .i64 0) rfl
 have z1 := Z5.cell (i := 1) (v := .int .i64 0) rfl
 have z2 := Z5.cell (i := 2) (v := .slice none 0 0) rfl
 obtain ⟨w5, hw5⟩ : ∃ z, (w4.alloc (.cells #[.int .i64 0, .int .i64 0, .slice a4 0 c4] 24)).alloc (.cells #[.int .u8 0] 5) = z := ⟨_, rfl⟩
 rw [hw5] at BY X5
 have HW5 := Lib.hid hw5
 have HX5 := Lib.hid X5
 have HBY := Lib.hid BY
 clear X5 BY Z5 hw5 hx4 hi4 U2 HW3 HZ he4
 go_wp2_with fail
 rw [HW5.out]
 refine (U3.out _ _ _ _ HBY.out).mono ?_; rintro e w6 ⟨u6, x6, X6, rfl, hx6, -, ho6⟩
 obtain ⟨hi6, he6⟩ := ho6.get
 clear ho6
 obtain rfl : x6 = .nilIface := he6
 obtain ⟨a6, c6, rfl⟩ := grey_form hi6
 have X7 := HX5.out.trans (hx6.alloc (.cells #[.int .i64 8, .int .i64 8, .slice a6 64 c6] 24))
 have B6 := BoxIs.new w6 #[.int .i64 8, .int .i64 8, .slice a6 64 c6] 24
 have HI6 := Lib.hid (hi6.ext ((Ext.refl w6).alloc (.cells #[.int .i64 8, .int .i64 8, .slice a6 64 c6] 24)))
 have HB6 := Lib.hid B6
 have HX7 := Lib.hid X7
 clear z0 z1 z2 HW5 HBY hx6 hi6 X7 B6 U3
 go_wp2_with fail
 refine (fail_any 12 _).mono ?_; rintro e w8 ⟨rfl, hx8⟩
 have HX8 := Lib.hid (HX7.out.trans hx8)
 have HX68 := Lib.hid hx8
 clear hx8
 go_wp2_with fail
 refine (same_fall (some ([], 12)) _ _ _ _ (HG.out.ext (HE2.out.trans HX8.out)) (ErrIs.code (by decide)) (RErrIs.code (by decide))).mono ?_; rintro e w9 ⟨rfl, hx9⟩
 have HX9 := Lib.hid (HX8.out.trans hx9)
 have HX69 := Lib.hid (HX68.out.trans hx9)
 have p2 := (HB2.out.ext HX9.out).cell (i := 2) (v := .slice a2 64 c2) rfl
 clear hx9 HX8 HX68
 go_wp2_with fail
 refine (within_any (greyL 8 8) 128 128 _ _ (HI2.out.ext HX9.out)).mono ?_; rintro e w10 ⟨rfl, hx10⟩
 rw [grey_in]
 have HX10 := Lib.hid (HX9.out.trans hx10)
 have HX610 := Lib.hid (HX69.out.trans hx10)
 clear p2 hx10 HX9 HX69
 have p0 := (HB2.out.ext HX10.out).cell (i := 0) (v := .int .i64 8) rfl
 have p1 := (HB2.out.ext HX10.out).cell (i := 1) (v := .int .i64 8) rfl
 have p2 := (HB2.out.ext HX10.out).cell (i := 2) (v := .slice a2 64 c2) rfl
 have q0 := (HB6.out.ext HX610.out).cell (i := 0) (v := .int .i64 8) rfl
 have q1 := (HB6.out.ext HX610.out).cell (i := 1) (v := .int .i64 8) rfl
 have q2 := (HB6.out.ext HX610.out).cell (i := 2) (v := .slice a6 64 c6) rfl
 go_wp2_with fail
 refine (frame_same 8 8 (greyL 8 8) a2 a6 64 64 c2 c6 _ (HI2.out.ext HX10.out) (HI6.out.ext HX610.out)).mono ?_; rintro e w11 ⟨rfl, hx11⟩
 have E11 := HE2.out.trans (HX10.out.trans hx11)
 clear p0 p1 p2 q0 q1 q2 hx11
 go_wp2
 go_ret
 exact ⟨rfl, E11⟩
end Go.Proofs.YtcekpngkfldgkaaGreatDoor