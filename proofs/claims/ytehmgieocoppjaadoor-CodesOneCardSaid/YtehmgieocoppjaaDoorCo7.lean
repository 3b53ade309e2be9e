/- kinlaw3.first; CodesFolds, CodesUnfolds, CodesRises: the walks. -/
import Derived.Test.YtehmgieocoppjaaDoorZu
import Derived.Test.YtehmgieocoppjaaDoorZs
namespace Go.Proofs.YtehmgieocoppjaaDoor
set_option linter.unusedVariables false
set_option linter.unusedSimpArgs false
open Go.RowKit Go.Extern.Stop Go.Stop Go.Extern

theorem f3_put : crF 9 2 = none ∧ crL [] 9 2 = [true, true, false, false, true] ∧ cuF 6 = none ∧ cuL [true, true, false, false, true] 6 = [true, true, false, false, true, false, false, true, true, true] ∧ pkL [true, true, false, false, true, false, false, true, true, true] = [201, 192] := by decide +kernel
theorem f3_get : ugG [56] 0 5 = (some ([(codesS, 5)], 3), 0, 5) := by decide +kernel
theorem f3_num : foldI (-3) = 6 ∧ unfoldI 5 = 3 ∧ szUe 0 = 1 ∧ szRi 9 2 = 5 := by decide +kernel
theorem str201 : strOf [201, 192] = { data := #[201, 192] } := by rfl
set_option maxHeartbeats 8000000 in
set_option maxRecDepth 20000 in
theorem first3_any (w : World) (hg : EtIs w) : Calls Tryd.prog 24 #[] w fun e w' => e = .returned (.bool true) ∧ Ext w w' := by
  go_enter Tryd.func24, Tryd.ntmps24
  go_wp2_with fail
  refine (newwr_any _).mono ?_; rintro e w1 ⟨b, rfl, hb, hw1, hx1⟩
  have A1 : Ext w1 (w1.alloc (.cells #[.int .u8 56] 5)) := (Ext.refl w1).alloc _
  have HY := Lib.hid (Bys.one w1 56 (by decide))
  go_wp2_with fail
  refine (newrd_any [56] _ _ HY.out).mono ?_; rintro e w2 ⟨c, rfl, hc, hr2, hx2⟩
  have hbw : b < w1.heap.size := Ext.lt (p := ⟨b, 0, none⟩) hw1.1.1
  have hcb : b < c := Nat.lt_of_lt_of_le hbw (Nat.le_trans A1.size hc)
  have hcs : c < w2.heap.size := by obtain ⟨_, _, hbx, _⟩ := hr2; exact Ext.lt (p := ⟨c, 0, none⟩) hbx.1
  have hbs : b < w2.heap.size := by omega
  have HFb := Lib.hid (Nat.lt_of_lt_of_le hbw A1.size)
  have HW2 := Lib.hid (WrAt.new (B := w2.heap.size) (hw1.ext (A1.trans hx2)) hbs (Nat.le_refl _))
  have HR2 := Lib.hid hr2
  have HE2 := Lib.hid (hx1.trans (A1.trans hx2))
  clear hw1 hr2 hx1 A1 hx2 HY
  have U1 := Lib.hid (putri_any b w2.heap.size 9 2 [] w2 HW2.out (by decide))
  rw [f3_put.1, f3_put.2.1] at U1
  go_wp2_with fail
  refine (U1.out).mono ?_; rintro e w3 ⟨x3, rfl, h3, k3, he3⟩
  obtain rfl : x3 = .nilIface := he3
  have U2 := Lib.hid (putue_any b w2.heap.size 6 [true, true, false, false, true] w3 h3 (by decide))
  rw [f3_put.2.2.1, f3_put.2.2.2.1] at U2
  go_wp2_with fail
  refine (U2.out).mono ?_; rintro e w5 ⟨x5, rfl, h5, k5, he5⟩
  obtain rfl : x5 = .nilIface := he5
  have K5 := k3.trans k5
  have HW5 := Lib.hid h5
  have HR5 := Lib.hid (HR2.out.wkp (.inl HFb.out) (by omega) K5)
  have E5 := WKp.out HE2.out K5 hb HE2.out.size
  clear h3 h5 k3 k5 U1 U2
  have G1 := Lib.hid (getue_any c 0 5 [56] w5 HR5.out (by decide))
  rw [f3_get] at G1
  go_wp2_with fail
  refine (G1.out).mono ?_; rintro e w7 ⟨x7, rfl, k7, r7, he7⟩
  have E7 := Kp.out E5 k7 (by have := HE2.out.size; omega)
  have HE7 := Lib.hid he7
  have HW7 : Hid (WrAt w7 b w2.heap.size [true, true, false, false, true, false, false, true, true, true]) := by
    obtain ⟨v, h1, h2, h3, h4⟩ := HW5.out
    exact ⟨v, h1.same (k7.block (Ext.lt (p := ⟨b, 0, none⟩) h1.1.1) (by omega)), h2.kept k7 (by
      cases hv : v.ownBlock with
      | none => exact .inl rfl
      | some k => exact .inr (fun e => by have := (h2.lt k hv).1; simp only [Option.some.injEq] at e; omega)), ⟨h3.1, Nat.le_trans h3.2 k7.size⟩, h4⟩
  obtain ⟨t7, y7, rfl⟩ := ErrIs.ne he7
  clear he7 r7 k7 G1
  go_wp2_with fail
  refine (wrlen_any b _ _ _ HW7.out).mono ?_; rintro e wB ⟨rfl, rfl⟩
  go_wp2_with fail
  refine (wbytes_any b _ _ _ HW7.out).mono ?_; rintro e wA ⟨u, rfl, ho, hxA⟩
  rw [f3_put.2.2.2.2] at ho
  have hu := Bys.of_owns ho (by decide) (by decide)
  obtain ⟨ua, uc, rfl⟩ := hu.form
  have cv : (convert 43 9 (.slice ua 2 uc)).run Tryd.prog wA = .ok (.string { data := #[201, 192] }) wA := by rw [← str201]; exact conv_bys hu
  have HxA := Lib.hid hxA
  clear ho hu hxA
  have N1 := Lib.hid (fun w => fold_any (-3) w)
  have N2 := Lib.hid (fun w => unfold_any 5 w)
  have N3 := Lib.hid (fun w => szue_any 0 w)
  have N4 := Lib.hid (fun w => szri_any 9 2 w)
  rw [f3_num.1] at N1
  rw [f3_num.2.1] at N2
  rw [f3_num.2.2.1] at N3
  rw [f3_num.2.2.2] at N4
  go_wp2_with fail
  refine (N1.out _).mono ?_; rintro e wB ⟨rfl, rfl⟩
  clear cv
  go_wp2_with fail
  refine (N2.out _).mono ?_; rintro e wB ⟨rfl, rfl⟩
  go_wp2_with fail
  refine (N3.out _).mono ?_; rintro e wB ⟨rfl, rfl⟩
  go_wp2_with fail
  refine (N4.out _).mono ?_; rintro e wB ⟨rfl, rfl⟩
  go_wp2_with fail
  refine (wrap_any codesS 5 3 _ (by decide)).mono ?_; rintro e wC ⟨u2, rfl, hoC, hxC⟩
  obtain ⟨va, vc, rfl⟩ : ∃ va vc, u2 = .slice va 1 vc := by
    rcases hoC.2 with ⟨-, h0⟩ | ⟨g, cap, cur, rfl, -⟩
    · cases h0
    · exact ⟨_, _, rfl⟩
  have HC := Lib.hid (Row.of_owns hoC)
  have EC := E7.trans (HxA.out.trans hxC)
  clear hoC
  go_wp2_with fail
  refine (same_fall (some ([(codesS, 5)], 3)) _ _ _ _ (hg.ext EC) (HE7.out.ext (HxA.out.trans hxC)) ⟨rfl, by decide, HC.out⟩).mono ?_; rintro e wD ⟨rfl, hxD⟩
  go_wp2
  go_ret
  exact ⟨rfl, EC.trans hxD⟩
set_option maxHeartbeats 8000000 in
set_option maxRecDepth 20000 in
theorem folds_law (v k : Int) (w : World) (hg : EtIs w) :
    Calls Tryd.prog 6 #[.int .i64 v, .int .i64 k] w fun e w' => e = .returned (.bool true) ∧ Ext w w' := by
  have A1 := Lib.hid (fun w => fold_any v w)
  have A2 := Lib.hid (fun w => rfold_any v w)
  have B1 := Lib.hid (fun w => unfold_any v w)
  have B2 := Lib.hid (fun w => runfold_any v w)
  have C1 := Lib.hid (fun w => szue_any v w)
  have C2 := Lib.hid (fun w => rszue_any v w)
  have D1 := Lib.hid (fun w => szri_any v k w)
  have D2 := Lib.hid (fun w => rszri_any v k w)
  generalize foldI v = a at *
  generalize unfoldI v = b at *
  generalize szUe v = c at *
  generalize szRi v k = d at *
  go_enter Tryd.func6, Tryd.ntmps6
  go_wp2_with fail
  refine (first3_any _ hg).mono ?_; rintro e w1 ⟨rfl, hx1⟩
  go_wp2_with fail
  refine (first3_any _ (hg.ext hx1)).mono ?_; rintro e w2 ⟨rfl, hx2⟩
  go_wp2_with fail
  refine (A1.out _).mono ?_; rintro e w3 ⟨rfl, rfl⟩
  go_wp2_with fail
  refine (A2.out _).mono ?_; rintro e w3 ⟨rfl, rfl⟩
  go_wp2_with fail
  refine (B1.out _).mono ?_; rintro e w3 ⟨rfl, rfl⟩
  go_wp2_with fail
  refine (B2.out _).mono ?_; rintro e w3 ⟨rfl, rfl⟩
  go_wp2_with fail
  refine (C1.out _).mono ?_; rintro e w3 ⟨rfl, rfl⟩
  go_wp2_with fail
  refine (C2.out _).mono ?_; rintro e w3 ⟨rfl, rfl⟩
  go_wp2_with fail
  refine (D1.out _).mono ?_; rintro e w3 ⟨rfl, rfl⟩
  go_wp2_with fail
  refine (D2.out _).mono ?_; rintro e w3 ⟨rfl, rfl⟩
  go_wp2
  go_ret
  exact ⟨rfl, hx1.trans hx2⟩
end Go.Proofs.YtehmgieocoppjaaDoor
