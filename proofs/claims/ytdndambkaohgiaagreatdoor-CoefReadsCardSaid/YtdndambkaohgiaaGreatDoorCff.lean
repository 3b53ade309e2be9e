/- kinlaw14.first: its contract over this seat's translation. -/
import Derived.Test.YtdndambkaohgiaaGreatDoorCfW
import Derived.Test.YtdndambkaohgiaaGreatDoorZb
import Derived.Test.YtdndambkaohgiaaGreatDoorZa
namespace Go.Proofs.YtdndambkaohgiaaGreatDoor
set_option linter.unusedVariables false
set_option linter.unusedSimpArgs false
open Go.RowKit Go.Extern.Stop Go.Stop Go.Extern

def f14 : Ms Ec := (bitM mE ⟨ch0, newE⟩ 14 false).2
def g14 : Ms Dc := (bitM (mD []) ⟨ch0, newD []⟩ 39 false).2
theorem v14 : trimE (allE f14.co) = [] ∧ (bitM (mD []) ⟨ch0, newD []⟩ 39 false).1 = false := by decide +kernel
theorem w14 : (codP [1, 2, 3]).run mE f14 = ((fit, []), f14) := cod_no (by decide)
def l14 : List Int := (zsL 16).set 3 16321
theorem x14 : (codP l14).run mE f14 = ((range, []), f14) := cod_bad (by decide) (by decide)
theorem bz14 (w : World) : Calls Tryz.prog 34 #[.int .i64 8] w fun e w' => e = .returned (.int .i64 39) ∧ w = w' := base_8 w
theorem bf14 (w : World) : Calls Tryz.prog 34 #[.int .i64 5] w fun e w' => e = .returned (.int .i64 0) ∧ w = w' := by
  go_enter Tryz.func34, Tryz.ntmps34
  go_wp2
  go_ret
  exact ⟨rfl, rfl⟩
set_option maxHeartbeats 8000000 in
set_option maxRecDepth 20000 in
theorem first14_any (w : World) (hg : EtIs w) : Calls Tryz.prog 8 #[] w fun e w' => e = .returned (.bool true) ∧ Ext w w' := by
  obtain ⟨t1, t2⟩ := v14
  have HT1 := Lib.hid t1
  have HT2 := Lib.hid t2
  have HET := Lib.hid hg
  clear t1 t2 hg
  obtain ⟨i0, hi, hz0, hz1, hz2⟩ := info_parts infoInt
  have HI := Lib.hid (And.intro hi (And.intro hz0 (And.intro hz1 hz2)))
  clear hi hz0 hz1 hz2
  have K0 := Lib.hid okn13
  have K1 : Hid (okS okEm 4 f14) := bit_ok mkE 14 false okn13
  have D0 := Lib.hid (okd13 (bs := []) (by simp))
  have E1 : Hid ((codP (zsL 16)).run mE ⟨ch0, newE⟩ = ((none, zsL 16), f14)) := cod_zeroW (.inl rfl) gS_new
  have E2 : Hid ((codP (zsL 64)).run (mD []) ⟨ch0, newD []⟩ = ((none, zsL 64), g14)) := cod_zero (.inr rfl) (Prod.ext HT2.out rfl)
  go_enter Tryz.func8, Tryz.ntmps8
  go_wp2_with fail
  refine (mwnew_any _).mono ?_; rintro e w1 ⟨a, F, rfl, hF, hW, hx1⟩
  have H1 := Lib.hid (Uno.first hW hx1 hF)
  clear hW hx1 hF
  go_wp2_with fail
  refine (mrnew_any [] _ _ (Bys.nil _)).mono ?_; rintro e w2 ⟨d, G, rfl, hG, hR, hx2⟩
  have OO := Lib.hid ((WrF.obj a).sep (RdF.obj d []))
  have H2 := Lib.hid ((H1.out.add (WrF.obj a) hx2 hR hG).bag OO.out (P := fun _ => True) (fun _ => trivial))
  clear hx2 hR hG H1
  obtain ⟨hi, hz0, hz1, hz2⟩ := HI.out
  go_wp2_with (at_make; refine wpList_make_full _ rfl _ _ 29 rfl w2.heap.size 3 i0 (.int .i64 0) 1 Tryz.underlying29 hi hz0 hz1 .i64 .i64 _ _ 16 rfl rfl rfl rfl (by rw [hz2]; decide) (by decide) (Nat.le_refl _) ?_; intro w3 hown hgrow)
  have hE := Below.grown (Ext.refl w2) hgrow (Nat.le_refl _) (fun k hk => by cases hk)
  obtain ⟨m1, m2⟩ := ho_made (by decide) hown
  have H3 := Lib.hid (bag_add OO.out H2.out hE m1 m2)
  clear hE m1 m2 hown hgrow H2
  refine (wl_code (RdF.obj d []) H3.out K0.out (by omega) (fun W h => h.2)).mono ?_; rintro e w4 ⟨u4, x4, rfl, h4⟩
  rw [E1.out] at h4
  obtain rfl : x4 = .nilIface := h4.held.2.2
  have hf4 := h4.held.2.1.form
  rw [show (none, zsL 16).2.length = 16 from rfl] at hf4
  obtain ⟨u4a, u4c, rfl⟩ := hf4
  have H4 : Hid (Uno (Sep (Sep (WrF a) (RdF d [])) HoF) w w4 ((f14, ⟨ch0, newD []⟩), fun _ => True)) := bag_imp h4 (fun _ _ => trivial)
  clear h4 H3
  go_wp2_with fail
  have A5 := (Ext.refl w4).alloc (.cells #[.int .i64 1, .int .i64 2, .int .i64 3] 3)
  have ho5 : HoF (w4.alloc (.cells #[.int .i64 1, .int .i64 2, .int .i64 3] 3)) (fun k => k = w4.heap.size) (fun W => Ints W (.slice (some ⟨w4.heap.size, 0, none⟩) 3 3) [1, 2, 3]) :=
    ⟨fun k hk => by rw [hk]; simp, fun w' ha => by
      have := ha w4.heap.size rfl
      have hh := World.ownsRow_lit (e := 3) (base := w4.heap.size) (size := 1) w4 #[.int .i64 1, .int .i64 2, .int .i64 3] 3 (Nat.le_refl _) (by decide) rfl
      exact Ints.of_owns (zs := [1, 2, 3]) (own_block hh (fun g hg => by
        simp only [Value.ownBlock, Option.some.injEq] at hg
        rw [← hg]; exact this)) (by decide)⟩
  have H5 := Lib.hid (bag_add OO.out H4.out A5 ho5 (fun i hi => by rw [hi]; exact Nat.le_refl _))
  clear A5 ho5 H4
  refine (wl_code (RdF.obj d []) H5.out K1.out (by omega) (fun W h => h.2)).mono ?_; rintro e w6 ⟨u6, x6, rfl, h6⟩
  rw [w14] at h6
  have H6 : Hid (Uno (Sep (Sep (WrF a) (RdF d [])) HoF) w w6 ((f14, ⟨ch0, newD []⟩), fun W => ErrIs W fit x6)) := bag_imp h6 (fun W h => h.2.2)
  clear h6 H5
  go_wp2_with (at_make; refine wpList_make_full _ rfl _ _ 29 rfl w6.heap.size 3 i0 (.int .i64 0) 1 Tryz.underlying29 hi hz0 hz1 .i64 .i64 _ _ 16 rfl rfl rfl rfl (by rw [hz2]; decide) (by decide) (Nat.le_refl _) ?_; intro w7 hown hgrow; rw [zsL_made] at hown; obtain ⟨cz, fz⟩ := (TlF.new (n := 16) (by decide) hown).1.at (k := 3) (y := 0) (by decide))
  have hT := (TlF.new (n := 16) (by decide) hown).1
  have hS := hT.set (k := 3) (x := 16321) (by decide)
  have hE : Ext w6 (w7.setCell ⟨w6.heap.size, 3, none⟩ (.int .i64 16321)) := (Below.grown (Ext.refl w6) hgrow (Nat.le_refl _) (fun k hk => by cases hk)).setCell (Nat.le_refl _) _
  have H7 := Lib.hid (bag_add OO.out H6.out hE (hS.ho (by decide)) (fun i hi => by
    simp only [Value.ownBlock, Option.some.injEq] at hi
    rw [← hi]; exact Nat.le_refl _))
  clear hT hS hE hown hgrow cz fz H6
  generalize w7.setCell _ _ = w8 at H7 ⊢
  refine (wl_code (xs := l14) (RdF.obj d []) H7.out K1.out (by omega) (fun W h => h.2)).mono ?_; rintro e w9 ⟨u9, x9, rfl, h9⟩
  rw [x14] at h9
  have H9 : Hid (Uno (Sep (Sep (WrF a) (RdF d [])) HoF) w w9 ((f14, ⟨ch0, newD []⟩), fun W => ErrIs W fit x6 ∧ ErrIs W range x9)) := bag_imp h9 (fun W h => ⟨h.1.1, h.2.2⟩)
  clear h9 H7
  go_wp2_with (at_make; refine wpList_make_full _ rfl _ _ 29 rfl w9.heap.size 3 i0 (.int .i64 0) 1 Tryz.underlying29 hi hz0 hz1 .i64 .i64 _ _ 64 rfl rfl rfl rfl (by rw [hz2]; decide) (by decide) (Nat.le_refl _) ?_; intro w10 hown hgrow)
  have hE := Below.grown (Ext.refl w9) hgrow (Nat.le_refl _) (fun k hk => by cases hk)
  obtain ⟨m1, m2⟩ := ho_made (by decide) hown
  have H10 := Lib.hid (bag_add OO.out H9.out hE m1 m2)
  clear hE m1 m2 hown hgrow H9
  refine (rr_code (WrF.obj a) (by simp) H10.out D0.out (by omega) (fun W h => h.2)).mono ?_; rintro e w11 ⟨u11, x11, rfl, h11⟩
  rw [E2.out] at h11
  obtain rfl : x11 = .nilIface := h11.held.2.2
  have hf11 := h11.held.2.1.form
  rw [show (none, zsL 64).2.length = 64 from rfl] at hf11
  obtain ⟨u11a, u11c, rfl⟩ := hf11
  have H11 : Hid (Uno (Sep (Sep (WrF a) (RdF d [])) HoF) w w11 ((f14, g14), fun W => ErrIs W fit x6 ∧ ErrIs W range x9)) := bag_imp h11 (fun W h => h.1.1)
  clear h11 H10
  go_wp2_with fail
  refine (fail_any _ _).mono ?_; rintro e w12 ⟨rfl, hx12⟩
  have H12 := Lib.hid (bag_ext OO.out H11.out hx12)
  clear hx12 H11
  go_wp2_with fail
  refine (same_fall fit x6 _ 14 w12 (HET.out.ext H12.out.out) H12.out.held.1 (RErrIs.code (by decide))).mono ?_; rintro e w13 ⟨rfl, hx13⟩
  have H13 := Lib.hid (bag_ext OO.out H12.out hx13)
  clear hx13 H12
  go_wp2_with fail
  refine (fail_any _ _).mono ?_; rintro e w14 ⟨rfl, hx14⟩
  have H14 := Lib.hid (bag_ext OO.out H13.out hx14)
  clear hx14 H13
  go_wp2_with fail
  refine (same_fall range x9 _ 3 w14 (HET.out.ext H14.out.out) H14.out.held.2 (RErrIs.code (by decide))).mono ?_; rintro e w15 ⟨rfl, hx15⟩
  have H15 := Lib.hid (bag_ext OO.out H14.out hx15)
  clear hx15 H14
  go_wp2_with fail
  obtain ⟨GW, hW⟩ := H15.out.fst.l
  refine (mwend_any a 4 f14 GW w15 hW K1.out (by omega)).mono ?_; rintro e w16 ⟨g16, k16, c16, rfl, hl16, ho16, hx16⟩
  obtain rfl : k16 = 0 := by rw [HT1.out] at hl16; exact hl16.symm
  have H16 := Lib.hid (bag_ext OO.out H15.out hx16)
  clear hx16 H15 ho16 hl16 hW
  go_wp2_with fail
  refine (bz14 _).mono ?_; rintro e w17 ⟨rfl, rfl⟩
  go_wp2_with fail
  refine (bf14 _).mono ?_; rintro e w18 ⟨rfl, rfl⟩
  go_wp2
  go_ret
  exact ⟨rfl, H16.out.out⟩
end Go.Proofs.YtdndambkaohgiaaGreatDoor
