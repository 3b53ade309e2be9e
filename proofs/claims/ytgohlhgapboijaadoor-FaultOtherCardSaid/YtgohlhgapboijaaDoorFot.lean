/- kinlaw1.FaultOther: the walk. -/
import Derived.Test.YtgohlhgapboijaaDoorFsy
import Derived.Test.YtgohlhgapboijaaDoorErO
namespace Go.Proofs.YtgohlhgapboijaaDoor
set_option linter.unusedVariables false
set_option linter.unusedSimpArgs false
open Go.RowKit Go.Extern.Stop Go.Stop Go.Extern

set_option maxHeartbeats 8000000 in
set_option maxRecDepth 100000 in
theorem other_few (L : List (ByteArray × Int)) (S : ByteArray) (va : Value) (w : World) (hg : EtIs w) (hT : PwIs w) (ra : Row w va L.length (stepCells L)) (fw : fewP L) (hS : S.size ≤ 20000)
    (hb : ∀ y ∈ L, -9223372036854775808 ≤ y.2 ∧ y.2 ≤ 9223372036854775807) :
    Calls Tryd.prog 5 #[va, .string S] w fun e w' => e = .returned (.bool true) ∧ Ext w w' := by
  have HFL := Lib.hid (few_yes ra fw)
  have fl : L.length ≤ 400 := fw.1
  have hl6 : (pathT L).length ≤ 1000000000 := Nat.le_trans (few_text fw hb) (by decide)
  have SD := Lib.hid (fun (W : World) (x : Ext w W) => said_any L 15 va W (ra.ext x) (by omega) hl6 hb (by decide))
  have PA := Lib.hid (fun (o : Addr) (W : World) (v : Value) (x : Ext w W) (he : IsErrO o W L v) => pathO o L v W (hg.ext x) he (by omega))
  have TX := Lib.hid (fun (o : Addr) (W : World) (v : Value) (x : Ext w W) (he : IsErrO o W L v) =>
    text_gen L 15 v W (hT.below (Nat.le_refl _) x) he.ne_nil (fun W' x' => pathO o L v W' (hg.ext (x.trans x')) (he.ext x') (by omega)) (fun W' x' => ofO o L v W' (hg.ext (x.trans x')) (he.ext x')) (by omega) hl6 hb (by decide))
  have HG := Lib.hid hg
  have HT := Lib.hid hT
  obtain ⟨n, hn⟩ : ∃ n, L.length = n := ⟨_, rfl⟩
  have HN := Lib.hid hn
  rw [hn] at ra fl PA
  obtain ⟨a, ca, rfl⟩ := ra.form
  have RA := Lib.hid ra
  have hnn : ((n : Int) == (n : Int)) = true := by simp
  have hS' : ¬ (20000 : Int) < (S.size : Int) := by omega
  have m0 : IntKind.i64.wrap ((n : Int) - 1) = (n : Int) - 1 := by rw [IntKind.wrap_i64]; omega
  clear hg hT ra hn fw hb hl6
  go_enter Tryd.func5, Tryd.ntmps5
  go_wp2_with fail
  refine (first1_any _ HG.out HT.out).mono ?_; rintro e w1 ⟨rfl, x1⟩
  have HX1 := Lib.hid x1
  clear x1
  go_wp2_with fail
  refine (HFL.out _ HX1.out).mono ?_; rintro e w2 ⟨rfl, rfl⟩
  go_wp2_with fail
  refine (new_any S _).mono ?_; rintro e w3 ⟨rfl, x3⟩
  have HX3 := Lib.hid (HX1.out.trans x3)
  clear x3 HX1
  generalize w1.heap.size = B
  go_wp2_with fail
  go_loopw [6, 7, 8] (fun ev nv iv wr => ∃ i : Nat, i ≤ n ∧ iv = .int .i64 ((i : Int) - 1) ∧ nv = .nilIface ∧ Hid (IsErrO ⟨B, 0, none⟩ wr (L.drop i) ev) ∧ Hid (Ext w wr)) (fun _ _ iv _ => (intOf iv + 1).toNat)
  case atStart => exact ⟨n, Nat.le_refl _, rfl, rfl, by show IsErrO _ _ _ _; rw [List.drop_of_length_le (by rw [HN.out]; exact Nat.le_refl _)]; rfl, HX3⟩
  case round =>
    obtain ⟨i, hi, rfl, rfl, HE, HX⟩ := hrel
    by_cases h0 : i = 0
    · subst h0
      obtain ⟨tx, vx, hv⟩ := HE.out.ne_nil
      subst hv
      have HE0 : Hid (IsErrO ⟨B, 0, none⟩ wr L (.iface tx vx)) := HE
      go_wp2_with fail
      refine (first1_any _ (HG.out.ext HX.out) (HT.out.ext HX.out)).mono ?_; rintro e w5 ⟨rfl, x5⟩
      have HX5 := Lib.hid (HX.out.trans x5)
      have HE5 := Lib.hid (HE0.out.ext x5)
      clear x5 HX HE HE0
      go_wp2_with fail
      refine (text_nil _).mono ?_; rintro e w6 ⟨rfl, rfl⟩
      go_wp2_with fail
      refine (path_nil _ (HG.out.ext HX5.out)).mono ?_; rintro e w6 ⟨rfl, x6⟩
      have HX6 := Lib.hid (HX5.out.trans x6)
      have HE6 := Lib.hid (HE5.out.ext x6)
      clear x6 HX5 HE5
      go_wp2_with fail
      refine (ofO ⟨B, 0, none⟩ L _ _ (HG.out.ext HX6.out) HE6.out).mono ?_; rintro e w7 ⟨rfl, x7⟩
      have HX7 := Lib.hid (HX6.out.trans x7)
      have HE7 := Lib.hid (HE6.out.ext x7)
      clear x7 HX6 HE6
      go_wp2_with fail
      refine (Is_O ⟨B, 0, none⟩ L _ _ HE7.out).mono ?_; rintro e w8 ⟨rfl, rfl⟩
      go_wp2_with fail
      refine (PA.out ⟨B, 0, none⟩ _ _ HX7.out HE7.out).mono ?_; rintro e w9 ⟨u9, rfl, x9, o9⟩
      have HX9 := Lib.hid (HX7.out.trans x9)
      have HE9 := Lib.hid (HE7.out.ext x9)
      obtain ⟨ua, uc, rfl⟩ := (Row.of_owns o9).form
      clear x9 HX7 HE7 o9
      go_wp2_with fail
      refine (TX.out ⟨B, 0, none⟩ _ _ HX9.out HE9.out).mono ?_; rintro e w10 ⟨s6, rfl, hs6, x10⟩
      have HX10 := Lib.hid (HX9.out.trans x10)
      have HE10 := Lib.hid (HE9.out.ext x10)
      have HS6 := Lib.hid hs6
      clear x10 hs6 HX9 HE9
      go_wp2_with fail
      refine (SD.out _ HX10.out).mono ?_; rintro e w11 ⟨s7, rfl, hs7, x11⟩
      obtain rfl : s7 = s6 := data_inj (hs7.trans HS6.out.symm)
      have HX11 := Lib.hid (HX10.out.trans x11)
      have HE11 := Lib.hid (HE10.out.ext x11)
      have hse : (s7 == s7) = true := by rw [beq_toListBytes]; simp
      clear x11 hs7 HX10 HE10 HS6
      go_wp2_with fail
      refine (fisO ⟨B, 0, none⟩ L 15 _ _ HE11.out).mono ?_; rintro e w12 ⟨rfl, rfl⟩
      go_wp2
      go_ret
      exact ⟨rfl, HX11.out⟩
    · obtain ⟨j, rfl⟩ : ∃ j, i = j + 1 := ⟨i - 1, by omega⟩
      have e1 : ((j + 1 : Nat) : Int) - 1 = (j : Int) := by omega
      rw [e1]
      obtain ⟨⟨s, m⟩, hy⟩ : ∃ y, L[j]? = some y := ⟨_, List.getElem?_eq_getElem (by rw [HN.out]; omega)⟩
      obtain ⟨hc0, hc1⟩ := stepCells_get L j s m hy
      obtain ⟨g, off, rfl⟩ := row_had RA.out (by omega)
      have Q0 := Lib.hid (RA.out.at hc0)
      have Q1 := Lib.hid (RA.out.at hc1)
      have q0 := HX.out.cell Q0.out
      have q1 := HX.out.cell Q1.out
      rw [← Nat.add_assoc] at q1
      have x1 : (0 : Int) ≤ (j : Int) := by omega
      have x2 : (j : Int) < (n : Int) := by omega
      have HD : Hid (L.drop j = (s, m) :: L.drop (j + 1)) := by
        show _ = _
        obtain ⟨hj, hy'⟩ := List.getElem?_eq_some_iff.1 hy
        rw [List.drop_eq_getElem_cons hj, hy']
      have m1 : IntKind.i64.wrap ((j : Int) - 1) = (j : Int) - 1 := by rw [IntKind.wrap_i64]; omega
      clear hy hc0 hc1 e1
      go_wp2_with fail
      go_still_tail 11, (by kernel_rfl)
      change wpList _ _ _ _ _ wr.drew
      have HEz := Lib.hid (HE.out.ext (Ext.refl wr).drew)
      have HXz := Lib.hid (HX.out.drew)
      clear q0 q1 HE HX
      generalize wr.drew = wz at *
      go_wp2_with fail
      refine (inO ⟨B, 0, none⟩ s m _ _ _ HEz.out).mono ?_; rintro e w2 ⟨u2, rfl, x2, h2⟩
      have HE2 : Hid (IsErrO ⟨B, 0, none⟩ w2 (L.drop j) u2) := by show IsErrO _ _ _ _; rw [HD.out]; exact h2
      have HX2 := Lib.hid (HXz.out.trans x2)
      have q0 := HX2.out.cell Q0.out
      have q1 := HX2.out.cell Q1.out
      rw [← Nat.add_assoc] at q1
      clear h2 x2 HEz HXz
      go_wp2_with fail
      go_still_tail 11, (by kernel_rfl)
      change wpList _ _ _ _ _ w2.drew
      have HEy := Lib.hid (HE2.out.ext (Ext.refl w2).drew)
      have HXy := Lib.hid (HX2.out.drew)
      clear q0 q1 HE2 HX2
      generalize w2.drew = wy at *
      go_wp2_with fail
      refine (in_nil s m _).mono ?_; rintro e w3 ⟨rfl, x3⟩
      have HE3 := Lib.hid (HEy.out.ext x3)
      have HX3 := Lib.hid (HXy.out.trans x3)
      clear x3 HEy HXy
      go_wp2
      exact ⟨⟨j, by omega, rfl, rfl, HE3, HX3⟩, by simp [intOf]⟩
set_option maxHeartbeats 4000000 in
set_option maxRecDepth 100000 in
theorem other_law (L : List (ByteArray × Int)) (S : ByteArray) (va : Value) (w : World) (hg : EtIs w) (hT : PwIs w) (ra : Row w va L.length (stepCells L))
    (hb : ∀ y ∈ L, -9223372036854775808 ≤ y.2 ∧ y.2 ≤ 9223372036854775807) :
    Calls Tryd.prog 5 #[va, .string S] w fun e w' => e = .returned (.bool true) ∧ Ext w w' := by
  by_cases fl : fewP L
  · by_cases hS : S.size ≤ 20000
    · exact other_few L S va w hg hT ra fl hS hb
    · have FL := Lib.hid (few_yes ra fl)
      have HG := Lib.hid hg
      have HT := Lib.hid hT
      have hS' : (20000 : Int) < (S.size : Int) := by omega
      clear hg hT ra fl hb hS
      go_enter Tryd.func5, Tryd.ntmps5
      go_wp2_with fail
      refine (first1_any _ HG.out HT.out).mono ?_; rintro e w1 ⟨rfl, x1⟩
      go_wp2_with fail
      refine (FL.out _ x1).mono ?_; rintro e w2 ⟨rfl, rfl⟩
      go_wp2_with fail
      refine (first1_any _ (HG.out.ext x1) (HT.out.ext x1)).mono ?_; rintro e w3 ⟨rfl, x3⟩
      go_wp2
      go_ret
      exact ⟨rfl, x1.trans x3⟩
  · have FL := Lib.hid (few_no ra fl)
    have HG := Lib.hid hg
    have HT := Lib.hid hT
    clear hg hT ra fl hb
    go_enter Tryd.func5, Tryd.ntmps5
    go_wp2_with fail
    refine (first1_any _ HG.out HT.out).mono ?_; rintro e w1 ⟨rfl, x1⟩
    go_wp2_with fail
    refine (FL.out _ x1).mono ?_; rintro e w2 ⟨rfl, rfl⟩
    go_wp2_with fail
    refine (first1_any _ (HG.out.ext x1) (HT.out.ext x1)).mono ?_; rintro e w3 ⟨rfl, x3⟩
    go_wp2
    go_ret
    exact ⟨rfl, x1.trans x3⟩
end Go.Proofs.YtgohlhgapboijaaDoor
