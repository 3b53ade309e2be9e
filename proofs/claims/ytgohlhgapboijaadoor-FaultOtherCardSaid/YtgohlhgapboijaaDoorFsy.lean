/- kinlaw1.FaultSays: the walk. -/
import Derived.Test.YtgohlhgapboijaaDoorFsa
import Derived.Test.YtgohlhgapboijaaDoorSd
namespace Go.Proofs.YtgohlhgapboijaaDoor
set_option linter.unusedVariables false
set_option linter.unusedSimpArgs false
open Go.RowKit Go.Extern.Stop Go.Stop Go.Extern

theorem data_inj {s t : ByteArray} (h : s.data.toList = t.data.toList) : s = t := by
  obtain ⟨⟨x⟩⟩ := s
  obtain ⟨⟨y⟩⟩ := t
  have h : x = y := h
  rw [h]
set_option maxHeartbeats 8000000 in
set_option maxRecDepth 100000 in
theorem says_few (L : List (ByteArray × Int)) (c : Int) (va : Value) (w : World) (hg : EtIs w) (hT : PwIs w) (ra : Row w va L.length (stepCells L)) (fw : fewP L)
    (hb : ∀ y ∈ L, -9223372036854775808 ≤ y.2 ∧ y.2 ≤ 9223372036854775807) (hc : -9223372036854775808 ≤ c ∧ c ≤ 9223372036854775807) :
    Calls Tryd.prog 3 #[va, .int .i64 c] w fun e w' => e = .returned (.bool true) ∧ Ext w w' := by
  have HFL := Lib.hid (few_yes ra fw)
  have fl : L.length ≤ 400 := fw.1
  have hl6 : (pathT L).length ≤ 1000000000 := Nat.le_trans (few_text fw hb) (by decide)
  have WL := Lib.hid (fun (W : World) (x : Ext w W) (k : Int) => wrapped_any L k va W (ra.ext x) (by omega))
  have SD := Lib.hid (fun (W : World) (x : Ext w W) => said_any L c va W (ra.ext x) (by omega) hl6 hb hc)
  have TX := Lib.hid (fun (W : World) (v : Value) (x : Ext w W) (he : IsErr W L c v) => text_any L c v W (hg.ext x) (hT.below (Nat.le_refl _) x) he (by omega) hl6 hb hc)
  have PA := Lib.hid (fun (W : World) (v : Value) (x : Ext w W) (he : IsErr W L c v) => path_err L c v W (hg.ext x) he (by omega))
  have HG := Lib.hid hg
  have HT := Lib.hid hT
  obtain ⟨n, hn⟩ : ∃ n, L.length = n := ⟨_, rfl⟩
  have HN := Lib.hid hn
  rw [hn] at ra fl PA
  obtain ⟨a, ca, rfl⟩ := ra.form
  have RA := Lib.hid ra
  have hcc : (c != c) = false := by simp
  have hnn : ((n : Int) != (n : Int)) = false := by simp
  clear hg hT ra hn fw hb hl6
  go_enter Tryd.func3, Tryd.ntmps3
  go_wp2_with fail
  refine (first1_any _ HG.out HT.out).mono ?_; rintro e w1 ⟨rfl, x1⟩
  have HX1 := Lib.hid x1
  clear x1
  go_wp2_with fail
  refine (HFL.out _ HX1.out).mono ?_; rintro e w2 ⟨rfl, rfl⟩
  go_wp2_with fail
  refine (WL.out _ HX1.out c).mono ?_; rintro e w3 ⟨u3, rfl, x3, h3⟩
  have HX3 := Lib.hid (HX1.out.trans x3)
  have HE3 := Lib.hid h3
  obtain ⟨tx, vx, rfl⟩ := h3.ne_nil
  clear x3 h3 HX1
  go_wp2_with fail
  refine (PA.out _ _ HX3.out HE3.out).mono ?_; rintro e w4 ⟨u4, rfl, x4, o4⟩
  have HX4 := Lib.hid (HX3.out.trans x4)
  have HE4 := Lib.hid (HE3.out.ext x4)
  have HR4 := Lib.hid (Row.of_owns o4)
  obtain ⟨ua, uc, rfl⟩ := HR4.out.form
  clear x4 o4 HX3 HE3
  go_wp2_with fail
  refine (of_err L c _ _ (HG.out.ext HX4.out) HE4.out).mono ?_; rintro e w5 ⟨rfl, x5⟩
  have HX5 := Lib.hid (HX4.out.trans x5)
  have HE5 := Lib.hid (HE4.out.ext x5)
  have HR5 := Lib.hid (HR4.out.ext x5)
  clear x5 HX4 HE4 HR4
  go_wp2_with fail
  refine (TX.out _ _ HX5.out HE5.out).mono ?_; rintro e w6 ⟨s6, rfl, hs6, x6⟩
  have HX6 := Lib.hid (HX5.out.trans x6)
  have HR6 := Lib.hid (HR5.out.ext x6)
  have HS6 := Lib.hid hs6
  clear x6 hs6 HX5 HE5 HR5
  go_wp2_with fail
  refine (SD.out _ HX6.out).mono ?_; rintro e w7 ⟨s7, rfl, hs7, x7⟩
  obtain rfl : s7 = s6 := data_inj (hs7.trans HS6.out.symm)
  have HX7 := Lib.hid (HX6.out.trans x7)
  have HR7 := Lib.hid (HR6.out.ext x7)
  have hse : (s7 == s7) = true := by rw [beq_toListBytes]; simp
  have hss : (s7 != s7) = false := by unfold bne; rw [hse]; rfl
  clear x7 hs7 HX6 HR6 HS6
  go_wp2_with fail
  go_loopw [7] (fun iv wr => ∃ i : Nat, i ≤ n ∧ iv = .int .i64 (i : Int) ∧ Hid (Ext w7 wr)) (fun iv _ => n - (intOf iv).toNat)
  case atStart => exact ⟨0, Nat.zero_le _, rfl, Ext.refl w7⟩
  case round =>
    obtain ⟨i, hi, rfl, HX⟩ := hrel
    by_cases hlt : i < n
    · obtain ⟨g, off, rfl⟩ := row_had RA.out (by omega)
      obtain ⟨g', off', rfl⟩ := row_had HR7.out (by omega)
      obtain ⟨⟨s, z⟩, hx⟩ : ∃ y, L[i]? = some y := ⟨_, List.getElem?_eq_getElem (by rw [HN.out]; exact hlt)⟩
      obtain ⟨x0, x1⟩ := stepCells_get L i s z hx
      have p0 := HX.out.cell (HX7.out.cell (RA.out.at x0))
      have p1 := HX.out.cell (HX7.out.cell (RA.out.at x1))
      have q0 := HX.out.cell (HR7.out.at x0)
      have q1 := HX.out.cell (HR7.out.at x1)
      rw [← Nat.add_assoc] at p1 q1
      have t1 : (0 : Int) ≤ (i : Int) := by omega
      have t2 : (i : Int) < (n : Int) := by omega
      have nq := neq_same s z
      clear hx x0 x1
      go_wp2
      go_quiet (fail)
      go_wp2
      exact ⟨⟨i + 1, by omega, by go_num, HX.out.drewN _⟩, by simp [intOf]; omega⟩
    · have t2 : ¬ (i : Int) < (n : Int) := by omega
      have HX8 := Lib.hid (HX7.out.trans HX.out)
      go_wp2_with fail
      refine (first1_any _ (HG.out.ext HX8.out) (HT.out.ext HX8.out)).mono ?_; rintro e w9 ⟨rfl, x9⟩
      go_wp2
      go_ret
      exact ⟨rfl, HX8.out.trans x9⟩
set_option maxHeartbeats 4000000 in
set_option maxRecDepth 100000 in
theorem says_law (L : List (ByteArray × Int)) (c : Int) (va : Value) (w : World) (hg : EtIs w) (hT : PwIs w) (ra : Row w va L.length (stepCells L))
    (hb : ∀ y ∈ L, -9223372036854775808 ≤ y.2 ∧ y.2 ≤ 9223372036854775807) (hc : -9223372036854775808 ≤ c ∧ c ≤ 9223372036854775807) :
    Calls Tryd.prog 3 #[va, .int .i64 c] w fun e w' => e = .returned (.bool true) ∧ Ext w w' := by
  by_cases fl : fewP L
  · exact says_few L c va w hg hT ra fl hb hc
  · have FL := Lib.hid (few_no ra fl)
    have HG := Lib.hid hg
    have HT := Lib.hid hT
    clear hg hT ra fl hb
    go_enter Tryd.func3, Tryd.ntmps3
    go_wp2_with fail
    refine (first1_any _ HG.out HT.out).mono ?_; rintro e w1 ⟨rfl, x1⟩
    go_wp2_with fail
    refine (FL.out _ x1).mono ?_; rintro e w2 ⟨rfl, rfl⟩
    go_wp2_with fail
    refine (first1_any _ (HG.out.ext x1) (HT.out.ext x1)).mono ?_; rintro e w3 ⟨rfl, x3⟩
    go_wp2
    go_ret
    exact ⟨rfl, x1.trans x3⟩
end Go.Proofs.YtgohlhgapboijaaDoor
