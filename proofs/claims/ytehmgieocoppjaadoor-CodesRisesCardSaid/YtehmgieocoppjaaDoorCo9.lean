/- kinlaw3.CodesRises: the walk. -/
import Derived.Test.YtehmgieocoppjaaDoorCo8
import Derived.Deep.Cut
namespace Go.Proofs.YtehmgieocoppjaaDoor
set_option linter.unusedVariables false
set_option linter.unusedSimpArgs false
open Go.RowKit Go.Extern.Stop Go.Stop Go.Extern

set_option maxHeartbeats 16000000 in
set_option maxRecDepth 20000 in
theorem rises_truetruetrue (a b k : Int) (w : World) (hg : EtIs w) (hM : decide (0 ≤ a ∧ a ≤ 1073741824) = true) (hI : decide (0 ≤ b ∧ b ≤ 1073741824) = true) (hR : decide (0 ≤ k ∧ k ≤ 15) = true) :
    Calls Tryd.prog 10 #[.int .i64 a, .int .i64 b, .int .i64 k] w fun e w' => e = .returned (.bool true) ∧ Ext w w' := by
  simp only [decide_eq_true_eq, decide_eq_false_iff_not] at hM hI hR
  obtain ⟨f1, f2, f3⟩ := ri_facts a b k
  have A1 := Lib.hid (fun w => szue_any a w)
  have B1 := Lib.hid (fun w => szue_any b w)
  have A2 := Lib.hid (fun w => szri_any a k w)
  have B2 := Lib.hid (fun w => szri_any b k w)
  have UA := Lib.hid (fun c B w (h : WrAt w c B []) => putue_any c B a [] w h (by decide))
  have UB := Lib.hid (fun c B w (h : WrAt w c B (cuL [] a)) => putri_any c B b k (cuL [] a) w h (by omega))
  have UL := Lib.hid (fun c B w (h : WrAt w c B (crL (cuL [] a) b k)) => wrlen_any c B (crL (cuL [] a) b k) w h)
  have ma : ueOk a → ueOk b → a ≤ b → szUe a ≤ szUe b := szUe_le
  have mr : riOk a k → riOk b k → a ≤ b → szRi a k ≤ szRi b k := szRi_le
  have za : ueOk a ∧ 0 < szUe a ∧ szUe a ≤ 61 ∨ ¬ ueOk a ∧ szUe a = 0 := by
    by_cases h : ueOk a
    · exact .inl ⟨h, (szUe_yes h).2⟩
    · exact .inr ⟨h, szUe_no h⟩
  have zb : ueOk b ∧ 0 < szUe b ∧ szUe b ≤ 61 ∨ ¬ ueOk b ∧ szUe b = 0 := by
    by_cases h : ueOk b
    · exact .inl ⟨h, (szUe_yes h).2⟩
    · exact .inr ⟨h, szUe_no h⟩
  have zra : riOk a k ∧ 0 < szRi a k ∧ szRi a k ≤ 55 ∨ ¬ riOk a k ∧ szRi a k = 0 := by
    by_cases h : riOk a k
    · exact .inl ⟨h, (szRi_yes h).2⟩
    · exact .inr ⟨h, szRi_no h⟩
  have zrb : riOk b k ∧ 0 < szRi b k ∧ szRi b k ≤ 55 ∨ ¬ riOk b k ∧ szRi b k = 0 := by
    by_cases h : riOk b k
    · exact .inl ⟨h, (szRi_yes h).2⟩
    · exact .inr ⟨h, szRi_no h⟩
  have HFA : Hid (cuF a = none ∧ ueOk a ∨ cuF a = range ∧ ¬ ueOk a) := by
    show _ ∨ _
    unfold cuF
    by_cases h : ueOk a
    · rw [if_pos h]; exact .inl ⟨rfl, h⟩
    · rw [if_neg h]; exact .inr ⟨rfl, h⟩
  have HFB : Hid (crF b k = none ∧ riOk b k ∨ crF b k = range ∧ ¬ riOk b k) := by
    show _ ∨ _
    unfold crF
    by_cases h : riOk b k
    · rw [if_pos h]; exact .inl ⟨rfl, h⟩
    · rw [if_neg h]; exact .inr ⟨rfl, h⟩
  rw [f2] at UL
  have sa : 0 ≤ szUe a := by omega
  have sb : 0 ≤ szRi b k := by omega
  obtain ⟨X, hX⟩ : ∃ X : Nat, szUe a = (X : Int) := ⟨(szUe a).toNat, by omega⟩
  obtain ⟨Q, hQ⟩ : ∃ Q : Nat, szRi b k = (Q : Int) := ⟨(szRi b k).toNat, by omega⟩
  rw [hX, hQ, Int.toNat_natCast, Int.toNat_natCast] at UL
  obtain ⟨S, hS⟩ : ∃ S, X + Q = S := ⟨_, rfl⟩
  rw [hS] at UL
  have i1 : IntKind.i64.wrap ((X : Int) + (Q : Int)) = (S : Int) := by rw [IntKind.wrap_i64]; omega
  rw [hX] at A1 ma za
  rw [hQ] at B2 mr zrb
  have HXQ : Hid (X ≤ 61 ∧ Q ≤ 55) := ⟨by omega, by omega⟩
  generalize szUe b = y at *
  generalize szRi a k = p at *
  generalize cuL [] a = l1 at *
  generalize crL l1 b k = l2 at *
  clear f1 f2 f3 sa sb hX hQ
  unfold ueOk at *
  unfold riOk at *
  have hxy : ¬ ((0 ≤ a ∧ a ≤ 1073741824) ∧ 0 ≤ b ∧ b ≤ 1073741824) ∨ (((0 ≤ a ∧ a ≤ 1073741824) ∧ 0 ≤ b ∧ b ≤ 1073741824) ∧ b < a) ∨ (((0 ≤ a ∧ a ≤ 1073741824) ∧ 0 ≤ b ∧ b ≤ 1073741824) ∧ ¬ b < a ∧ (X : Int) ≤ y ∧ p ≤ (Q : Int)) := by omega
  clear ma mr
  have x61 : ¬ (61 : Int) < (X : Int) := by omega
  have p55 : ¬ (55 : Int) < p := by omega
  first | (have pX : (0 : Int) < (X : Int) := by omega) | (have pX : ¬ (0 : Int) < (X : Int) := by omega)
  first | (have py : (0 : Int) < y := by omega) | (have py : ¬ (0 : Int) < y := by omega)
  first | (have pp : (0 : Int) < p := by omega) | (have pp : ¬ (0 : Int) < p := by omega)
  first | (have pQ : (0 : Int) < (Q : Int) := by omega) | (have pQ : ¬ (0 : Int) < (Q : Int) := by omega)
  obtain ⟨b1, b2⟩ := HXQ.out
  first
    | (have s1 : X = 0 := by omega
       have s2 : Q = 0 := by omega
       have s3 : S = 0 := by omega
       subst s1
       subst s2
       subst s3)
    | (have s1 : X = 0 := by omega
       have s3 : Q = S := by omega
       have i2 : IntKind.i64.wrap (S : Int) = (S : Int) := by rw [IntKind.wrap_i64]; omega
       subst s1
       subst s3)
    | (have s1 : Q = 0 := by omega
       have s3 : X = S := by omega
       have i2 : IntKind.i64.wrap (S : Int) = (S : Int) := by rw [IntKind.wrap_i64]; omega
       subst s1
       subst s3)
    | skip
  clear za zb zra zrb b1 b2
  try clear hS
  have HM : Hid (a < 0 ∨ ¬ a < 0 ∧ (1073741824 < a ∨ ¬ 1073741824 < a)) := by show _ ∨ _; omega
  have HI : Hid (b < 0 ∨ ¬ b < 0 ∧ (1073741824 < b ∨ ¬ 1073741824 < b)) := by show _ ∨ _; omega
  have HK : Hid (k < 0 ∨ ¬ k < 0 ∧ (15 < k ∨ ¬ 15 < k)) := by show _ ∨ _; omega
  have HM2 := Lib.hid hM
  have HI2 := Lib.hid hI
  have HR2 := Lib.hid hR
  clear hM hI hR
  rcases hxy with h9 | ⟨h9, n1⟩ | ⟨h9, n1, n2, n3⟩
  all_goals first
    | (exfalso; have h1 := HM2.out; have h2 := HI2.out; omega)
    | (clear h9
       go_enter Tryd.func10, Tryd.ntmps10
       go_wp2_with fail
       refine (first3_any _ hg).mono ?_; rintro e w1 ⟨rfl, hx1⟩
       go_wp2_with fail
       refine (A1.out _).mono ?_; rintro e w2 ⟨rfl, rfl⟩
       go_wp2_with fail
       refine (B1.out _).mono ?_; rintro e w2 ⟨rfl, rfl⟩
       go_wp2_with fail
       refine (A2.out _).mono ?_; rintro e w2 ⟨rfl, rfl⟩
       go_wp2_with fail
       refine (B2.out _).mono ?_; rintro e w2 ⟨rfl, rfl⟩
       go_upto_region 5 with fail
       go_cut [11, 12] from 29 (fun s t wx => s = .bool true ∧ t = .bool true ∧ wx = w1)
       case first =>
         rcases HM.out with a1 | ⟨a1, a2 | a2⟩
         all_goals rcases HI.out with b1 | ⟨b1, b2 | b2⟩
         all_goals first
           | (exfalso; have h1 := HM2.out; have h2 := HI2.out; omega)
           | (go_wp2_with fail
              go_meet
              refine ⟨?_, ?_, rfl⟩ <;> first | rfl | exact congrArg Value.bool (decide_eq_false (by omega)) | exact congrArg Value.bool (decide_eq_true (by omega)))
       case rest =>
         obtain ⟨rfl, rfl, hw9⟩ := hcut
         obtain rfl := hw9.symm
         go_upto_region 6 with fail
         go_cut [13] from 41 (fun s wx => s = .bool true ∧ wx = w1)
         case first =>
           rcases HK.out with a1 | ⟨a1, a2 | a2⟩
           all_goals first
             | (exfalso; have h1 := HR2.out; omega)
             | (go_wp2_with fail
                go_meet
                refine ⟨?_, rfl⟩ <;> first | rfl | exact congrArg Value.bool (decide_eq_false (by omega)) | exact congrArg Value.bool (decide_eq_true (by omega)))
         case rest =>
           obtain ⟨rfl, hw9⟩ := hcut
           obtain rfl := hw9.symm
           go_wp2_with fail
           refine (newwr_any _).mono ?_; rintro e w2 ⟨c, rfl, hc, hw2, hx2⟩
           have hcB : c < w2.heap.size := Ext.lt (p := ⟨c, 0, none⟩) hw2.1.1
           have HW2 := Lib.hid (WrAt.new (B := w2.heap.size) hw2 hcB (Nat.le_refl _))
           have HE2 := Lib.hid (hx1.trans hx2)
           have hwc : w.heap.size ≤ c := Nat.le_trans hx1.size hc
           clear hw2 hx1 hx2 hc
           go_wp2_with fail
           refine (UA.out c _ _ HW2.out).mono ?_; rintro e w3 ⟨x3, rfl, h3, k3, e3⟩
           go_wp2_with fail
           refine (UB.out c _ _ h3).mono ?_; rintro e w4 ⟨x4, rfl, h4, k4, e4⟩
           have HE4 := Lib.hid (WKp.out HE2.out (k3.trans k4) hwc HE2.out.size)
           have HW4 := Lib.hid h4
           clear h3 h4 k3 k4
           go_wp2_with fail
           refine (first3_any _ (hg.ext HE4.out)).mono ?_; rintro e w5 ⟨rfl, hx5⟩
           have HW5 := Lib.hid (HW4.out.ext hx5)
           rcases HFA.out with ⟨fa, ga⟩ | ⟨fa, ga⟩
           all_goals rcases HFB.out with ⟨fb, gb⟩ | ⟨fb, gb⟩
           all_goals first
             | (exfalso; have h1 := HM2.out; have h2 := HI2.out; have h3 := HR2.out; omega)
             | (rw [fa] at e3
                rw [fb] at e4
                first | (obtain rfl : x3 = .nilIface := e3) | (obtain ⟨t3, y3, rfl⟩ := ErrIs.ne e3)
                first | (obtain rfl : x4 = .nilIface := e4) | (obtain ⟨t4, y4, rfl⟩ := ErrIs.ne e4)
                clear fa fb ga gb
                go_wp2_with fail
                refine (UL.out c _ _ HW5.out).mono ?_; rintro e w6 ⟨rfl, rfl⟩
                go_wp2
                go_ret
                exact ⟨rfl, HE4.out.trans hx5⟩))
set_option maxHeartbeats 16000000 in
set_option maxRecDepth 20000 in
theorem rises_truetruefalse (a b k : Int) (w : World) (hg : EtIs w) (hM : decide (0 ≤ a ∧ a ≤ 1073741824) = true) (hI : decide (0 ≤ b ∧ b ≤ 1073741824) = true) (hR : decide (0 ≤ k ∧ k ≤ 15) = false) :
    Calls Tryd.prog 10 #[.int .i64 a, .int .i64 b, .int .i64 k] w fun e w' => e = .returned (.bool true) ∧ Ext w w' := by
  simp only [decide_eq_true_eq, decide_eq_false_iff_not] at hM hI hR
  obtain ⟨f1, f2, f3⟩ := ri_facts a b k
  have A1 := Lib.hid (fun w => szue_any a w)
  have B1 := Lib.hid (fun w => szue_any b w)
  have A2 := Lib.hid (fun w => szri_any a k w)
  have B2 := Lib.hid (fun w => szri_any b k w)
  have UA := Lib.hid (fun c B w (h : WrAt w c B []) => putue_any c B a [] w h (by decide))
  have UB := Lib.hid (fun c B w (h : WrAt w c B (cuL [] a)) => putri_any c B b k (cuL [] a) w h (by omega))
  have UL := Lib.hid (fun c B w (h : WrAt w c B (crL (cuL [] a) b k)) => wrlen_any c B (crL (cuL [] a) b k) w h)
  have ma : ueOk a → ueOk b → a ≤ b → szUe a ≤ szUe b := szUe_le
  have mr : riOk a k → riOk b k → a ≤ b → szRi a k ≤ szRi b k := szRi_le
  have za : ueOk a ∧ 0 < szUe a ∧ szUe a ≤ 61 ∨ ¬ ueOk a ∧ szUe a = 0 := by
    by_cases h : ueOk a
    · exact .inl ⟨h, (szUe_yes h).2⟩
    · exact .inr ⟨h, szUe_no h⟩
  have zb : ueOk b ∧ 0 < szUe b ∧ szUe b ≤ 61 ∨ ¬ ueOk b ∧ szUe b = 0 := by
    by_cases h : ueOk b
    · exact .inl ⟨h, (szUe_yes h).2⟩
    · exact .inr ⟨h, szUe_no h⟩
  have zra : riOk a k ∧ 0 < szRi a k ∧ szRi a k ≤ 55 ∨ ¬ riOk a k ∧ szRi a k = 0 := by
    by_cases h : riOk a k
    · exact .inl ⟨h, (szRi_yes h).2⟩
    · exact .inr ⟨h, szRi_no h⟩
  have zrb : riOk b k ∧ 0 < szRi b k ∧ szRi b k ≤ 55 ∨ ¬ riOk b k ∧ szRi b k = 0 := by
    by_cases h : riOk b k
    · exact .inl ⟨h, (szRi_yes h).2⟩
    · exact .inr ⟨h, szRi_no h⟩
  have HFA : Hid (cuF a = none ∧ ueOk a ∨ cuF a = range ∧ ¬ ueOk a) := by
    show _ ∨ _
    unfold cuF
    by_cases h : ueOk a
    · rw [if_pos h]; exact .inl ⟨rfl, h⟩
    · rw [if_neg h]; exact .inr ⟨rfl, h⟩
  have HFB : Hid (crF b k = none ∧ riOk b k ∨ crF b k = range ∧ ¬ riOk b k) := by
    show _ ∨ _
    unfold crF
    by_cases h : riOk b k
    · rw [if_pos h]; exact .inl ⟨rfl, h⟩
    · rw [if_neg h]; exact .inr ⟨rfl, h⟩
  rw [f2] at UL
  have sa : 0 ≤ szUe a := by omega
  have sb : 0 ≤ szRi b k := by omega
  obtain ⟨X, hX⟩ : ∃ X : Nat, szUe a = (X : Int) := ⟨(szUe a).toNat, by omega⟩
  obtain ⟨Q, hQ⟩ : ∃ Q : Nat, szRi b k = (Q : Int) := ⟨(szRi b k).toNat, by omega⟩
  rw [hX, hQ, Int.toNat_natCast, Int.toNat_natCast] at UL
  obtain ⟨S, hS⟩ : ∃ S, X + Q = S := ⟨_, rfl⟩
  rw [hS] at UL
  have i1 : IntKind.i64.wrap ((X : Int) + (Q : Int)) = (S : Int) := by rw [IntKind.wrap_i64]; omega
  rw [hX] at A1 ma za
  rw [hQ] at B2 mr zrb
  have HXQ : Hid (X ≤ 61 ∧ Q ≤ 55) := ⟨by omega, by omega⟩
  generalize szUe b = y at *
  generalize szRi a k = p at *
  generalize cuL [] a = l1 at *
  generalize crL l1 b k = l2 at *
  clear f1 f2 f3 sa sb hX hQ
  unfold ueOk at *
  unfold riOk at *
  have hxy : ¬ ((0 ≤ a ∧ a ≤ 1073741824) ∧ 0 ≤ b ∧ b ≤ 1073741824) ∨ (((0 ≤ a ∧ a ≤ 1073741824) ∧ 0 ≤ b ∧ b ≤ 1073741824) ∧ b < a) ∨ (((0 ≤ a ∧ a ≤ 1073741824) ∧ 0 ≤ b ∧ b ≤ 1073741824) ∧ ¬ b < a ∧ (X : Int) ≤ y ∧ p ≤ (Q : Int)) := by omega
  clear ma mr
  have x61 : ¬ (61 : Int) < (X : Int) := by omega
  have p55 : ¬ (55 : Int) < p := by omega
  first | (have pX : (0 : Int) < (X : Int) := by omega) | (have pX : ¬ (0 : Int) < (X : Int) := by omega)
  first | (have py : (0 : Int) < y := by omega) | (have py : ¬ (0 : Int) < y := by omega)
  first | (have pp : (0 : Int) < p := by omega) | (have pp : ¬ (0 : Int) < p := by omega)
  first | (have pQ : (0 : Int) < (Q : Int) := by omega) | (have pQ : ¬ (0 : Int) < (Q : Int) := by omega)
  obtain ⟨b1, b2⟩ := HXQ.out
  first
    | (have s1 : X = 0 := by omega
       have s2 : Q = 0 := by omega
       have s3 : S = 0 := by omega
       subst s1
       subst s2
       subst s3)
    | (have s1 : X = 0 := by omega
       have s3 : Q = S := by omega
       have i2 : IntKind.i64.wrap (S : Int) = (S : Int) := by rw [IntKind.wrap_i64]; omega
       subst s1
       subst s3)
    | (have s1 : Q = 0 := by omega
       have s3 : X = S := by omega
       have i2 : IntKind.i64.wrap (S : Int) = (S : Int) := by rw [IntKind.wrap_i64]; omega
       subst s1
       subst s3)
    | skip
  clear za zb zra zrb b1 b2
  try clear hS
  have HM : Hid (a < 0 ∨ ¬ a < 0 ∧ (1073741824 < a ∨ ¬ 1073741824 < a)) := by show _ ∨ _; omega
  have HI : Hid (b < 0 ∨ ¬ b < 0 ∧ (1073741824 < b ∨ ¬ 1073741824 < b)) := by show _ ∨ _; omega
  have HK : Hid (k < 0 ∨ ¬ k < 0 ∧ (15 < k ∨ ¬ 15 < k)) := by show _ ∨ _; omega
  have HM2 := Lib.hid hM
  have HI2 := Lib.hid hI
  have HR2 := Lib.hid hR
  clear hM hI hR
  rcases hxy with h9 | ⟨h9, n1⟩ | ⟨h9, n1, n2, n3⟩
  all_goals first
    | (exfalso; have h1 := HM2.out; have h2 := HI2.out; omega)
    | (clear h9
       go_enter Tryd.func10, Tryd.ntmps10
       go_wp2_with fail
       refine (first3_any _ hg).mono ?_; rintro e w1 ⟨rfl, hx1⟩
       go_wp2_with fail
       refine (A1.out _).mono ?_; rintro e w2 ⟨rfl, rfl⟩
       go_wp2_with fail
       refine (B1.out _).mono ?_; rintro e w2 ⟨rfl, rfl⟩
       go_wp2_with fail
       refine (A2.out _).mono ?_; rintro e w2 ⟨rfl, rfl⟩
       go_wp2_with fail
       refine (B2.out _).mono ?_; rintro e w2 ⟨rfl, rfl⟩
       go_upto_region 5 with fail
       go_cut [11, 12] from 29 (fun s t wx => s = .bool true ∧ t = .bool true ∧ wx = w1)
       case first =>
         rcases HM.out with a1 | ⟨a1, a2 | a2⟩
         all_goals rcases HI.out with b1 | ⟨b1, b2 | b2⟩
         all_goals first
           | (exfalso; have h1 := HM2.out; have h2 := HI2.out; omega)
           | (go_wp2_with fail
              go_meet
              refine ⟨?_, ?_, rfl⟩ <;> first | rfl | exact congrArg Value.bool (decide_eq_false (by omega)) | exact congrArg Value.bool (decide_eq_true (by omega)))
       case rest =>
         obtain ⟨rfl, rfl, hw9⟩ := hcut
         obtain rfl := hw9.symm
         go_upto_region 6 with fail
         go_cut [13] from 41 (fun s wx => s = .bool false ∧ wx = w1)
         case first =>
           rcases HK.out with a1 | ⟨a1, a2 | a2⟩
           all_goals first
             | (exfalso; have h1 := HR2.out; omega)
             | (go_wp2_with fail
                go_meet
                refine ⟨?_, rfl⟩ <;> first | rfl | exact congrArg Value.bool (decide_eq_false (by omega)) | exact congrArg Value.bool (decide_eq_true (by omega)))
         case rest =>
           obtain ⟨rfl, hw9⟩ := hcut
           obtain rfl := hw9.symm
           go_wp2_with fail
           refine (newwr_any _).mono ?_; rintro e w2 ⟨c, rfl, hc, hw2, hx2⟩
           have hcB : c < w2.heap.size := Ext.lt (p := ⟨c, 0, none⟩) hw2.1.1
           have HW2 := Lib.hid (WrAt.new (B := w2.heap.size) hw2 hcB (Nat.le_refl _))
           have HE2 := Lib.hid (hx1.trans hx2)
           have hwc : w.heap.size ≤ c := Nat.le_trans hx1.size hc
           clear hw2 hx1 hx2 hc
           go_wp2_with fail
           refine (UA.out c _ _ HW2.out).mono ?_; rintro e w3 ⟨x3, rfl, h3, k3, e3⟩
           go_wp2_with fail
           refine (UB.out c _ _ h3).mono ?_; rintro e w4 ⟨x4, rfl, h4, k4, e4⟩
           have HE4 := Lib.hid (WKp.out HE2.out (k3.trans k4) hwc HE2.out.size)
           have HW4 := Lib.hid h4
           clear h3 h4 k3 k4
           go_wp2_with fail
           refine (first3_any _ (hg.ext HE4.out)).mono ?_; rintro e w5 ⟨rfl, hx5⟩
           have HW5 := Lib.hid (HW4.out.ext hx5)
           rcases HFA.out with ⟨fa, ga⟩ | ⟨fa, ga⟩
           all_goals rcases HFB.out with ⟨fb, gb⟩ | ⟨fb, gb⟩
           all_goals first
             | (exfalso; have h1 := HM2.out; have h2 := HI2.out; have h3 := HR2.out; omega)
             | (rw [fa] at e3
                rw [fb] at e4
                first | (obtain rfl : x3 = .nilIface := e3) | (obtain ⟨t3, y3, rfl⟩ := ErrIs.ne e3)
                first | (obtain rfl : x4 = .nilIface := e4) | (obtain ⟨t4, y4, rfl⟩ := ErrIs.ne e4)
                clear fa fb ga gb
                go_wp2_with fail
                refine (UL.out c _ _ HW5.out).mono ?_; rintro e w6 ⟨rfl, rfl⟩
                go_wp2
                go_ret
                exact ⟨rfl, HE4.out.trans hx5⟩))
set_option maxHeartbeats 16000000 in
set_option maxRecDepth 20000 in
theorem rises_truefalsetrue (a b k : Int) (w : World) (hg : EtIs w) (hM : decide (0 ≤ a ∧ a ≤ 1073741824) = true) (hI : decide (0 ≤ b ∧ b ≤ 1073741824) = false) (hR : decide (0 ≤ k ∧ k ≤ 15) = true) :
    Calls Tryd.prog 10 #[.int .i64 a, .int .i64 b, .int .i64 k] w fun e w' => e = .returned (.bool true) ∧ Ext w w' := by
  simp only [decide_eq_true_eq, decide_eq_false_iff_not] at hM hI hR
  obtain ⟨f1, f2, f3⟩ := ri_facts a b k
  have A1 := Lib.hid (fun w => szue_any a w)
  have B1 := Lib.hid (fun w => szue_any b w)
  have A2 := Lib.hid (fun w => szri_any a k w)
  have B2 := Lib.hid (fun w => szri_any b k w)
  have UA := Lib.hid (fun c B w (h : WrAt w c B []) => putue_any c B a [] w h (by decide))
  have UB := Lib.hid (fun c B w (h : WrAt w c B (cuL [] a)) => putri_any c B b k (cuL [] a) w h (by omega))
  have UL := Lib.hid (fun c B w (h : WrAt w c B (crL (cuL [] a) b k)) => wrlen_any c B (crL (cuL [] a) b k) w h)
  have ma : ueOk a → ueOk b → a ≤ b → szUe a ≤ szUe b := szUe_le
  have mr : riOk a k → riOk b k → a ≤ b → szRi a k ≤ szRi b k := szRi_le
  have za : ueOk a ∧ 0 < szUe a ∧ szUe a ≤ 61 ∨ ¬ ueOk a ∧ szUe a = 0 := by
    by_cases h : ueOk a
    · exact .inl ⟨h, (szUe_yes h).2⟩
    · exact .inr ⟨h, szUe_no h⟩
  have zb : ueOk b ∧ 0 < szUe b ∧ szUe b ≤ 61 ∨ ¬ ueOk b ∧ szUe b = 0 := by
    by_cases h : ueOk b
    · exact .inl ⟨h, (szUe_yes h).2⟩
    · exact .inr ⟨h, szUe_no h⟩
  have zra : riOk a k ∧ 0 < szRi a k ∧ szRi a k ≤ 55 ∨ ¬ riOk a k ∧ szRi a k = 0 := by
    by_cases h : riOk a k
    · exact .inl ⟨h, (szRi_yes h).2⟩
    · exact .inr ⟨h, szRi_no h⟩
  have zrb : riOk b k ∧ 0 < szRi b k ∧ szRi b k ≤ 55 ∨ ¬ riOk b k ∧ szRi b k = 0 := by
    by_cases h : riOk b k
    · exact .inl ⟨h, (szRi_yes h).2⟩
    · exact .inr ⟨h, szRi_no h⟩
  have HFA : Hid (cuF a = none ∧ ueOk a ∨ cuF a = range ∧ ¬ ueOk a) := by
    show _ ∨ _
    unfold cuF
    by_cases h : ueOk a
    · rw [if_pos h]; exact .inl ⟨rfl, h⟩
    · rw [if_neg h]; exact .inr ⟨rfl, h⟩
  have HFB : Hid (crF b k = none ∧ riOk b k ∨ crF b k = range ∧ ¬ riOk b k) := by
    show _ ∨ _
    unfold crF
    by_cases h : riOk b k
    · rw [if_pos h]; exact .inl ⟨rfl, h⟩
    · rw [if_neg h]; exact .inr ⟨rfl, h⟩
  rw [f2] at UL
  have sa : 0 ≤ szUe a := by omega
  have sb : 0 ≤ szRi b k := by omega
  obtain ⟨X, hX⟩ : ∃ X : Nat, szUe a = (X : Int) := ⟨(szUe a).toNat, by omega⟩
  obtain ⟨Q, hQ⟩ : ∃ Q : Nat, szRi b k = (Q : Int) := ⟨(szRi b k).toNat, by omega⟩
  rw [hX, hQ, Int.toNat_natCast, Int.toNat_natCast] at UL
  obtain ⟨S, hS⟩ : ∃ S, X + Q = S := ⟨_, rfl⟩
  rw [hS] at UL
  have i1 : IntKind.i64.wrap ((X : Int) + (Q : Int)) = (S : Int) := by rw [IntKind.wrap_i64]; omega
  rw [hX] at A1 ma za
  rw [hQ] at B2 mr zrb
  have HXQ : Hid (X ≤ 61 ∧ Q ≤ 55) := ⟨by omega, by omega⟩
  generalize szUe b = y at *
  generalize szRi a k = p at *
  generalize cuL [] a = l1 at *
  generalize crL l1 b k = l2 at *
  clear f1 f2 f3 sa sb hX hQ
  unfold ueOk at *
  unfold riOk at *
  have hxy : ¬ ((0 ≤ a ∧ a ≤ 1073741824) ∧ 0 ≤ b ∧ b ≤ 1073741824) ∨ (((0 ≤ a ∧ a ≤ 1073741824) ∧ 0 ≤ b ∧ b ≤ 1073741824) ∧ b < a) ∨ (((0 ≤ a ∧ a ≤ 1073741824) ∧ 0 ≤ b ∧ b ≤ 1073741824) ∧ ¬ b < a ∧ (X : Int) ≤ y ∧ p ≤ (Q : Int)) := by omega
  clear ma mr
  have x61 : ¬ (61 : Int) < (X : Int) := by omega
  have p55 : ¬ (55 : Int) < p := by omega
  first | (have pX : (0 : Int) < (X : Int) := by omega) | (have pX : ¬ (0 : Int) < (X : Int) := by omega)
  first | (have py : (0 : Int) < y := by omega) | (have py : ¬ (0 : Int) < y := by omega)
  first | (have pp : (0 : Int) < p := by omega) | (have pp : ¬ (0 : Int) < p := by omega)
  first | (have pQ : (0 : Int) < (Q : Int) := by omega) | (have pQ : ¬ (0 : Int) < (Q : Int) := by omega)
  obtain ⟨b1, b2⟩ := HXQ.out
  first
    | (have s1 : X = 0 := by omega
       have s2 : Q = 0 := by omega
       have s3 : S = 0 := by omega
       subst s1
       subst s2
       subst s3)
    | (have s1 : X = 0 := by omega
       have s3 : Q = S := by omega
       have i2 : IntKind.i64.wrap (S : Int) = (S : Int) := by rw [IntKind.wrap_i64]; omega
       subst s1
       subst s3)
    | (have s1 : Q = 0 := by omega
       have s3 : X = S := by omega
       have i2 : IntKind.i64.wrap (S : Int) = (S : Int) := by rw [IntKind.wrap_i64]; omega
       subst s1
       subst s3)
    | skip
  clear za zb zra zrb b1 b2
  try clear hS
  have HM : Hid (a < 0 ∨ ¬ a < 0 ∧ (1073741824 < a ∨ ¬ 1073741824 < a)) := by show _ ∨ _; omega
  have HI : Hid (b < 0 ∨ ¬ b < 0 ∧ (1073741824 < b ∨ ¬ 1073741824 < b)) := by show _ ∨ _; omega
  have HK : Hid (k < 0 ∨ ¬ k < 0 ∧ (15 < k ∨ ¬ 15 < k)) := by show _ ∨ _; omega
  have HM2 := Lib.hid hM
  have HI2 := Lib.hid hI
  have HR2 := Lib.hid hR
  clear hM hI hR
  rcases hxy with h9 | ⟨h9, n1⟩ | ⟨h9, n1, n2, n3⟩
  all_goals first
    | (exfalso; have h1 := HM2.out; have h2 := HI2.out; omega)
    | (clear h9
       go_enter Tryd.func10, Tryd.ntmps10
       go_wp2_with fail
       refine (first3_any _ hg).mono ?_; rintro e w1 ⟨rfl, hx1⟩
       go_wp2_with fail
       refine (A1.out _).mono ?_; rintro e w2 ⟨rfl, rfl⟩
       go_wp2_with fail
       refine (B1.out _).mono ?_; rintro e w2 ⟨rfl, rfl⟩
       go_wp2_with fail
       refine (A2.out _).mono ?_; rintro e w2 ⟨rfl, rfl⟩
       go_wp2_with fail
       refine (B2.out _).mono ?_; rintro e w2 ⟨rfl, rfl⟩
       go_upto_region 5 with fail
       go_cut [11, 12] from 29 (fun s t wx => s = .bool true ∧ t = .bool false ∧ wx = w1)
       case first =>
         rcases HM.out with a1 | ⟨a1, a2 | a2⟩
         all_goals rcases HI.out with b1 | ⟨b1, b2 | b2⟩
         all_goals first
           | (exfalso; have h1 := HM2.out; have h2 := HI2.out; omega)
           | (go_wp2_with fail
              go_meet
              refine ⟨?_, ?_, rfl⟩ <;> first | rfl | exact congrArg Value.bool (decide_eq_false (by omega)) | exact congrArg Value.bool (decide_eq_true (by omega)))
       case rest =>
         obtain ⟨rfl, rfl, hw9⟩ := hcut
         obtain rfl := hw9.symm
         go_upto_region 6 with fail
         go_cut [13] from 41 (fun s wx => s = .bool true ∧ wx = w1)
         case first =>
           rcases HK.out with a1 | ⟨a1, a2 | a2⟩
           all_goals first
             | (exfalso; have h1 := HR2.out; omega)
             | (go_wp2_with fail
                go_meet
                refine ⟨?_, rfl⟩ <;> first | rfl | exact congrArg Value.bool (decide_eq_false (by omega)) | exact congrArg Value.bool (decide_eq_true (by omega)))
         case rest =>
           obtain ⟨rfl, hw9⟩ := hcut
           obtain rfl := hw9.symm
           go_wp2_with fail
           refine (newwr_any _).mono ?_; rintro e w2 ⟨c, rfl, hc, hw2, hx2⟩
           have hcB : c < w2.heap.size := Ext.lt (p := ⟨c, 0, none⟩) hw2.1.1
           have HW2 := Lib.hid (WrAt.new (B := w2.heap.size) hw2 hcB (Nat.le_refl _))
           have HE2 := Lib.hid (hx1.trans hx2)
           have hwc : w.heap.size ≤ c := Nat.le_trans hx1.size hc
           clear hw2 hx1 hx2 hc
           go_wp2_with fail
           refine (UA.out c _ _ HW2.out).mono ?_; rintro e w3 ⟨x3, rfl, h3, k3, e3⟩
           go_wp2_with fail
           refine (UB.out c _ _ h3).mono ?_; rintro e w4 ⟨x4, rfl, h4, k4, e4⟩
           have HE4 := Lib.hid (WKp.out HE2.out (k3.trans k4) hwc HE2.out.size)
           have HW4 := Lib.hid h4
           clear h3 h4 k3 k4
           go_wp2_with fail
           refine (first3_any _ (hg.ext HE4.out)).mono ?_; rintro e w5 ⟨rfl, hx5⟩
           have HW5 := Lib.hid (HW4.out.ext hx5)
           rcases HFA.out with ⟨fa, ga⟩ | ⟨fa, ga⟩
           all_goals rcases HFB.out with ⟨fb, gb⟩ | ⟨fb, gb⟩
           all_goals first
             | (exfalso; have h1 := HM2.out; have h2 := HI2.out; have h3 := HR2.out; omega)
             | (rw [fa] at e3
                rw [fb] at e4
                first | (obtain rfl : x3 = .nilIface := e3) | (obtain ⟨t3, y3, rfl⟩ := ErrIs.ne e3)
                first | (obtain rfl : x4 = .nilIface := e4) | (obtain ⟨t4, y4, rfl⟩ := ErrIs.ne e4)
                clear fa fb ga gb
                go_wp2_with fail
                refine (UL.out c _ _ HW5.out).mono ?_; rintro e w6 ⟨rfl, rfl⟩
                go_wp2
                go_ret
                exact ⟨rfl, HE4.out.trans hx5⟩))
set_option maxHeartbeats 16000000 in
set_option maxRecDepth 20000 in
theorem rises_truefalsefalse (a b k : Int) (w : World) (hg : EtIs w) (hM : decide (0 ≤ a ∧ a ≤ 1073741824) = true) (hI : decide (0 ≤ b ∧ b ≤ 1073741824) = false) (hR : decide (0 ≤ k ∧ k ≤ 15) = false) :
    Calls Tryd.prog 10 #[.int .i64 a, .int .i64 b, .int .i64 k] w fun e w' => e = .returned (.bool true) ∧ Ext w w' := by
  simp only [decide_eq_true_eq, decide_eq_false_iff_not] at hM hI hR
  obtain ⟨f1, f2, f3⟩ := ri_facts a b k
  have A1 := Lib.hid (fun w => szue_any a w)
  have B1 := Lib.hid (fun w => szue_any b w)
  have A2 := Lib.hid (fun w => szri_any a k w)
  have B2 := Lib.hid (fun w => szri_any b k w)
  have UA := Lib.hid (fun c B w (h : WrAt w c B []) => putue_any c B a [] w h (by decide))
  have UB := Lib.hid (fun c B w (h : WrAt w c B (cuL [] a)) => putri_any c B b k (cuL [] a) w h (by omega))
  have UL := Lib.hid (fun c B w (h : WrAt w c B (crL (cuL [] a) b k)) => wrlen_any c B (crL (cuL [] a) b k) w h)
  have ma : ueOk a → ueOk b → a ≤ b → szUe a ≤ szUe b := szUe_le
  have mr : riOk a k → riOk b k → a ≤ b → szRi a k ≤ szRi b k := szRi_le
  have za : ueOk a ∧ 0 < szUe a ∧ szUe a ≤ 61 ∨ ¬ ueOk a ∧ szUe a = 0 := by
    by_cases h : ueOk a
    · exact .inl ⟨h, (szUe_yes h).2⟩
    · exact .inr ⟨h, szUe_no h⟩
  have zb : ueOk b ∧ 0 < szUe b ∧ szUe b ≤ 61 ∨ ¬ ueOk b ∧ szUe b = 0 := by
    by_cases h : ueOk b
    · exact .inl ⟨h, (szUe_yes h).2⟩
    · exact .inr ⟨h, szUe_no h⟩
  have zra : riOk a k ∧ 0 < szRi a k ∧ szRi a k ≤ 55 ∨ ¬ riOk a k ∧ szRi a k = 0 := by
    by_cases h : riOk a k
    · exact .inl ⟨h, (szRi_yes h).2⟩
    · exact .inr ⟨h, szRi_no h⟩
  have zrb : riOk b k ∧ 0 < szRi b k ∧ szRi b k ≤ 55 ∨ ¬ riOk b k ∧ szRi b k = 0 := by
    by_cases h : riOk b k
    · exact .inl ⟨h, (szRi_yes h).2⟩
    · exact .inr ⟨h, szRi_no h⟩
  have HFA : Hid (cuF a = none ∧ ueOk a ∨ cuF a = range ∧ ¬ ueOk a) := by
    show _ ∨ _
    unfold cuF
    by_cases h : ueOk a
    · rw [if_pos h]; exact .inl ⟨rfl, h⟩
    · rw [if_neg h]; exact .inr ⟨rfl, h⟩
  have HFB : Hid (crF b k = none ∧ riOk b k ∨ crF b k = range ∧ ¬ riOk b k) := by
    show _ ∨ _
    unfold crF
    by_cases h : riOk b k
    · rw [if_pos h]; exact .inl ⟨rfl, h⟩
    · rw [if_neg h]; exact .inr ⟨rfl, h⟩
  rw [f2] at UL
  have sa : 0 ≤ szUe a := by omega
  have sb : 0 ≤ szRi b k := by omega
  obtain ⟨X, hX⟩ : ∃ X : Nat, szUe a = (X : Int) := ⟨(szUe a).toNat, by omega⟩
  obtain ⟨Q, hQ⟩ : ∃ Q : Nat, szRi b k = (Q : Int) := ⟨(szRi b k).toNat, by omega⟩
  rw [hX, hQ, Int.toNat_natCast, Int.toNat_natCast] at UL
  obtain ⟨S, hS⟩ : ∃ S, X + Q = S := ⟨_, rfl⟩
  rw [hS] at UL
  have i1 : IntKind.i64.wrap ((X : Int) + (Q : Int)) = (S : Int) := by rw [IntKind.wrap_i64]; omega
  rw [hX] at A1 ma za
  rw [hQ] at B2 mr zrb
  have HXQ : Hid (X ≤ 61 ∧ Q ≤ 55) := ⟨by omega, by omega⟩
  generalize szUe b = y at *
  generalize szRi a k = p at *
  generalize cuL [] a = l1 at *
  generalize crL l1 b k = l2 at *
  clear f1 f2 f3 sa sb hX hQ
  unfold ueOk at *
  unfold riOk at *
  have hxy : ¬ ((0 ≤ a ∧ a ≤ 1073741824) ∧ 0 ≤ b ∧ b ≤ 1073741824) ∨ (((0 ≤ a ∧ a ≤ 1073741824) ∧ 0 ≤ b ∧ b ≤ 1073741824) ∧ b < a) ∨ (((0 ≤ a ∧ a ≤ 1073741824) ∧ 0 ≤ b ∧ b ≤ 1073741824) ∧ ¬ b < a ∧ (X : Int) ≤ y ∧ p ≤ (Q : Int)) := by omega
  clear ma mr
  have x61 : ¬ (61 : Int) < (X : Int) := by omega
  have p55 : ¬ (55 : Int) < p := by omega
  first | (have pX : (0 : Int) < (X : Int) := by omega) | (have pX : ¬ (0 : Int) < (X : Int) := by omega)
  first | (have py : (0 : Int) < y := by omega) | (have py : ¬ (0 : Int) < y := by omega)
  first | (have pp : (0 : Int) < p := by omega) | (have pp : ¬ (0 : Int) < p := by omega)
  first | (have pQ : (0 : Int) < (Q : Int) := by omega) | (have pQ : ¬ (0 : Int) < (Q : Int) := by omega)
  obtain ⟨b1, b2⟩ := HXQ.out
  first
    | (have s1 : X = 0 := by omega
       have s2 : Q = 0 := by omega
       have s3 : S = 0 := by omega
       subst s1
       subst s2
       subst s3)
    | (have s1 : X = 0 := by omega
       have s3 : Q = S := by omega
       have i2 : IntKind.i64.wrap (S : Int) = (S : Int) := by rw [IntKind.wrap_i64]; omega
       subst s1
       subst s3)
    | (have s1 : Q = 0 := by omega
       have s3 : X = S := by omega
       have i2 : IntKind.i64.wrap (S : Int) = (S : Int) := by rw [IntKind.wrap_i64]; omega
       subst s1
       subst s3)
    | skip
  clear za zb zra zrb b1 b2
  try clear hS
  have HM : Hid (a < 0 ∨ ¬ a < 0 ∧ (1073741824 < a ∨ ¬ 1073741824 < a)) := by show _ ∨ _; omega
  have HI : Hid (b < 0 ∨ ¬ b < 0 ∧ (1073741824 < b ∨ ¬ 1073741824 < b)) := by show _ ∨ _; omega
  have HK : Hid (k < 0 ∨ ¬ k < 0 ∧ (15 < k ∨ ¬ 15 < k)) := by show _ ∨ _; omega
  have HM2 := Lib.hid hM
  have HI2 := Lib.hid hI
  have HR2 := Lib.hid hR
  clear hM hI hR
  rcases hxy with h9 | ⟨h9, n1⟩ | ⟨h9, n1, n2, n3⟩
  all_goals first
    | (exfalso; have h1 := HM2.out; have h2 := HI2.out; omega)
    | (clear h9
       go_enter Tryd.func10, Tryd.ntmps10
       go_wp2_with fail
       refine (first3_any _ hg).mono ?_; rintro e w1 ⟨rfl, hx1⟩
       go_wp2_with fail
       refine (A1.out _).mono ?_; rintro e w2 ⟨rfl, rfl⟩
       go_wp2_with fail
       refine (B1.out _).mono ?_; rintro e w2 ⟨rfl, rfl⟩
       go_wp2_with fail
       refine (A2.out _).mono ?_; rintro e w2 ⟨rfl, rfl⟩
       go_wp2_with fail
       refine (B2.out _).mono ?_; rintro e w2 ⟨rfl, rfl⟩
       go_upto_region 5 with fail
       go_cut [11, 12] from 29 (fun s t wx => s = .bool true ∧ t = .bool false ∧ wx = w1)
       case first =>
         rcases HM.out with a1 | ⟨a1, a2 | a2⟩
         all_goals rcases HI.out with b1 | ⟨b1, b2 | b2⟩
         all_goals first
           | (exfalso; have h1 := HM2.out; have h2 := HI2.out; omega)
           | (go_wp2_with fail
              go_meet
              refine ⟨?_, ?_, rfl⟩ <;> first | rfl | exact congrArg Value.bool (decide_eq_false (by omega)) | exact congrArg Value.bool (decide_eq_true (by omega)))
       case rest =>
         obtain ⟨rfl, rfl, hw9⟩ := hcut
         obtain rfl := hw9.symm
         go_upto_region 6 with fail
         go_cut [13] from 41 (fun s wx => s = .bool false ∧ wx = w1)
         case first =>
           rcases HK.out with a1 | ⟨a1, a2 | a2⟩
           all_goals first
             | (exfalso; have h1 := HR2.out; omega)
             | (go_wp2_with fail
                go_meet
                refine ⟨?_, rfl⟩ <;> first | rfl | exact congrArg Value.bool (decide_eq_false (by omega)) | exact congrArg Value.bool (decide_eq_true (by omega)))
         case rest =>
           obtain ⟨rfl, hw9⟩ := hcut
           obtain rfl := hw9.symm
           go_wp2_with fail
           refine (newwr_any _).mono ?_; rintro e w2 ⟨c, rfl, hc, hw2, hx2⟩
           have hcB : c < w2.heap.size := Ext.lt (p := ⟨c, 0, none⟩) hw2.1.1
           have HW2 := Lib.hid (WrAt.new (B := w2.heap.size) hw2 hcB (Nat.le_refl _))
           have HE2 := Lib.hid (hx1.trans hx2)
           have hwc : w.heap.size ≤ c := Nat.le_trans hx1.size hc
           clear hw2 hx1 hx2 hc
           go_wp2_with fail
           refine (UA.out c _ _ HW2.out).mono ?_; rintro e w3 ⟨x3, rfl, h3, k3, e3⟩
           go_wp2_with fail
           refine (UB.out c _ _ h3).mono ?_; rintro e w4 ⟨x4, rfl, h4, k4, e4⟩
           have HE4 := Lib.hid (WKp.out HE2.out (k3.trans k4) hwc HE2.out.size)
           have HW4 := Lib.hid h4
           clear h3 h4 k3 k4
           go_wp2_with fail
           refine (first3_any _ (hg.ext HE4.out)).mono ?_; rintro e w5 ⟨rfl, hx5⟩
           have HW5 := Lib.hid (HW4.out.ext hx5)
           rcases HFA.out with ⟨fa, ga⟩ | ⟨fa, ga⟩
           all_goals rcases HFB.out with ⟨fb, gb⟩ | ⟨fb, gb⟩
           all_goals first
             | (exfalso; have h1 := HM2.out; have h2 := HI2.out; have h3 := HR2.out; omega)
             | (rw [fa] at e3
                rw [fb] at e4
                first | (obtain rfl : x3 = .nilIface := e3) | (obtain ⟨t3, y3, rfl⟩ := ErrIs.ne e3)
                first | (obtain rfl : x4 = .nilIface := e4) | (obtain ⟨t4, y4, rfl⟩ := ErrIs.ne e4)
                clear fa fb ga gb
                go_wp2_with fail
                refine (UL.out c _ _ HW5.out).mono ?_; rintro e w6 ⟨rfl, rfl⟩
                go_wp2
                go_ret
                exact ⟨rfl, HE4.out.trans hx5⟩))
set_option maxHeartbeats 16000000 in
set_option maxRecDepth 20000 in
theorem rises_falsetruetrue (a b k : Int) (w : World) (hg : EtIs w) (hM : decide (0 ≤ a ∧ a ≤ 1073741824) = false) (hI : decide (0 ≤ b ∧ b ≤ 1073741824) = true) (hR : decide (0 ≤ k ∧ k ≤ 15) = true) :
    Calls Tryd.prog 10 #[.int .i64 a, .int .i64 b, .int .i64 k] w fun e w' => e = .returned (.bool true) ∧ Ext w w' := by
  simp only [decide_eq_true_eq, decide_eq_false_iff_not] at hM hI hR
  obtain ⟨f1, f2, f3⟩ := ri_facts a b k
  have A1 := Lib.hid (fun w => szue_any a w)
  have B1 := Lib.hid (fun w => szue_any b w)
  have A2 := Lib.hid (fun w => szri_any a k w)
  have B2 := Lib.hid (fun w => szri_any b k w)
  have UA := Lib.hid (fun c B w (h : WrAt w c B []) => putue_any c B a [] w h (by decide))
  have UB := Lib.hid (fun c B w (h : WrAt w c B (cuL [] a)) => putri_any c B b k (cuL [] a) w h (by omega))
  have UL := Lib.hid (fun c B w (h : WrAt w c B (crL (cuL [] a) b k)) => wrlen_any c B (crL (cuL [] a) b k) w h)
  have ma : ueOk a → ueOk b → a ≤ b → szUe a ≤ szUe b := szUe_le
  have mr : riOk a k → riOk b k → a ≤ b → szRi a k ≤ szRi b k := szRi_le
  have za : ueOk a ∧ 0 < szUe a ∧ szUe a ≤ 61 ∨ ¬ ueOk a ∧ szUe a = 0 := by
    by_cases h : ueOk a
    · exact .inl ⟨h, (szUe_yes h).2⟩
    · exact .inr ⟨h, szUe_no h⟩
  have zb : ueOk b ∧ 0 < szUe b ∧ szUe b ≤ 61 ∨ ¬ ueOk b ∧ szUe b = 0 := by
    by_cases h : ueOk b
    · exact .inl ⟨h, (szUe_yes h).2⟩
    · exact .inr ⟨h, szUe_no h⟩
  have zra : riOk a k ∧ 0 < szRi a k ∧ szRi a k ≤ 55 ∨ ¬ riOk a k ∧ szRi a k = 0 := by
    by_cases h : riOk a k
    · exact .inl ⟨h, (szRi_yes h).2⟩
    · exact .inr ⟨h, szRi_no h⟩
  have zrb : riOk b k ∧ 0 < szRi b k ∧ szRi b k ≤ 55 ∨ ¬ riOk b k ∧ szRi b k = 0 := by
    by_cases h : riOk b k
    · exact .inl ⟨h, (szRi_yes h).2⟩
    · exact .inr ⟨h, szRi_no h⟩
  have HFA : Hid (cuF a = none ∧ ueOk a ∨ cuF a = range ∧ ¬ ueOk a) := by
    show _ ∨ _
    unfold cuF
    by_cases h : ueOk a
    · rw [if_pos h]; exact .inl ⟨rfl, h⟩
    · rw [if_neg h]; exact .inr ⟨rfl, h⟩
  have HFB : Hid (crF b k = none ∧ riOk b k ∨ crF b k = range ∧ ¬ riOk b k) := by
    show _ ∨ _
    unfold crF
    by_cases h : riOk b k
    · rw [if_pos h]; exact .inl ⟨rfl, h⟩
    · rw [if_neg h]; exact .inr ⟨rfl, h⟩
  rw [f2] at UL
  have sa : 0 ≤ szUe a := by omega
  have sb : 0 ≤ szRi b k := by omega
  obtain ⟨X, hX⟩ : ∃ X : Nat, szUe a = (X : Int) := ⟨(szUe a).toNat, by omega⟩
  obtain ⟨Q, hQ⟩ : ∃ Q : Nat, szRi b k = (Q : Int) := ⟨(szRi b k).toNat, by omega⟩
  rw [hX, hQ, Int.toNat_natCast, Int.toNat_natCast] at UL
  obtain ⟨S, hS⟩ : ∃ S, X + Q = S := ⟨_, rfl⟩
  rw [hS] at UL
  have i1 : IntKind.i64.wrap ((X : Int) + (Q : Int)) = (S : Int) := by rw [IntKind.wrap_i64]; omega
  rw [hX] at A1 ma za
  rw [hQ] at B2 mr zrb
  have HXQ : Hid (X ≤ 61 ∧ Q ≤ 55) := ⟨by omega, by omega⟩
  generalize szUe b = y at *
  generalize szRi a k = p at *
  generalize cuL [] a = l1 at *
  generalize crL l1 b k = l2 at *
  clear f1 f2 f3 sa sb hX hQ
  unfold ueOk at *
  unfold riOk at *
  have hxy : ¬ ((0 ≤ a ∧ a ≤ 1073741824) ∧ 0 ≤ b ∧ b ≤ 1073741824) ∨ (((0 ≤ a ∧ a ≤ 1073741824) ∧ 0 ≤ b ∧ b ≤ 1073741824) ∧ b < a) ∨ (((0 ≤ a ∧ a ≤ 1073741824) ∧ 0 ≤ b ∧ b ≤ 1073741824) ∧ ¬ b < a ∧ (X : Int) ≤ y ∧ p ≤ (Q : Int)) := by omega
  clear ma mr
  have x61 : ¬ (61 : Int) < (X : Int) := by omega
  have p55 : ¬ (55 : Int) < p := by omega
  first | (have pX : (0 : Int) < (X : Int) := by omega) | (have pX : ¬ (0 : Int) < (X : Int) := by omega)
  first | (have py : (0 : Int) < y := by omega) | (have py : ¬ (0 : Int) < y := by omega)
  first | (have pp : (0 : Int) < p := by omega) | (have pp : ¬ (0 : Int) < p := by omega)
  first | (have pQ : (0 : Int) < (Q : Int) := by omega) | (have pQ : ¬ (0 : Int) < (Q : Int) := by omega)
  obtain ⟨b1, b2⟩ := HXQ.out
  first
    | (have s1 : X = 0 := by omega
       have s2 : Q = 0 := by omega
       have s3 : S = 0 := by omega
       subst s1
       subst s2
       subst s3)
    | (have s1 : X = 0 := by omega
       have s3 : Q = S := by omega
       have i2 : IntKind.i64.wrap (S : Int) = (S : Int) := by rw [IntKind.wrap_i64]; omega
       subst s1
       subst s3)
    | (have s1 : Q = 0 := by omega
       have s3 : X = S := by omega
       have i2 : IntKind.i64.wrap (S : Int) = (S : Int) := by rw [IntKind.wrap_i64]; omega
       subst s1
       subst s3)
    | skip
  clear za zb zra zrb b1 b2
  try clear hS
  have HM : Hid (a < 0 ∨ ¬ a < 0 ∧ (1073741824 < a ∨ ¬ 1073741824 < a)) := by show _ ∨ _; omega
  have HI : Hid (b < 0 ∨ ¬ b < 0 ∧ (1073741824 < b ∨ ¬ 1073741824 < b)) := by show _ ∨ _; omega
  have HK : Hid (k < 0 ∨ ¬ k < 0 ∧ (15 < k ∨ ¬ 15 < k)) := by show _ ∨ _; omega
  have HM2 := Lib.hid hM
  have HI2 := Lib.hid hI
  have HR2 := Lib.hid hR
  clear hM hI hR
  rcases hxy with h9 | ⟨h9, n1⟩ | ⟨h9, n1, n2, n3⟩
  all_goals first
    | (exfalso; have h1 := HM2.out; have h2 := HI2.out; omega)
    | (clear h9
       go_enter Tryd.func10, Tryd.ntmps10
       go_wp2_with fail
       refine (first3_any _ hg).mono ?_; rintro e w1 ⟨rfl, hx1⟩
       go_wp2_with fail
       refine (A1.out _).mono ?_; rintro e w2 ⟨rfl, rfl⟩
       go_wp2_with fail
       refine (B1.out _).mono ?_; rintro e w2 ⟨rfl, rfl⟩
       go_wp2_with fail
       refine (A2.out _).mono ?_; rintro e w2 ⟨rfl, rfl⟩
       go_wp2_with fail
       refine (B2.out _).mono ?_; rintro e w2 ⟨rfl, rfl⟩
       go_upto_region 5 with fail
       go_cut [11, 12] from 29 (fun s t wx => s = .bool false ∧ t = .bool true ∧ wx = w1)
       case first =>
         rcases HM.out with a1 | ⟨a1, a2 | a2⟩
         all_goals rcases HI.out with b1 | ⟨b1, b2 | b2⟩
         all_goals first
           | (exfalso; have h1 := HM2.out; have h2 := HI2.out; omega)
           | (go_wp2_with fail
              go_meet
              refine ⟨?_, ?_, rfl⟩ <;> first | rfl | exact congrArg Value.bool (decide_eq_false (by omega)) | exact congrArg Value.bool (decide_eq_true (by omega)))
       case rest =>
         obtain ⟨rfl, rfl, hw9⟩ := hcut
         obtain rfl := hw9.symm
         go_upto_region 6 with fail
         go_cut [13] from 41 (fun s wx => s = .bool true ∧ wx = w1)
         case first =>
           rcases HK.out with a1 | ⟨a1, a2 | a2⟩
           all_goals first
             | (exfalso; have h1 := HR2.out; omega)
             | (go_wp2_with fail
                go_meet
                refine ⟨?_, rfl⟩ <;> first | rfl | exact congrArg Value.bool (decide_eq_false (by omega)) | exact congrArg Value.bool (decide_eq_true (by omega)))
         case rest =>
           obtain ⟨rfl, hw9⟩ := hcut
           obtain rfl := hw9.symm
           go_wp2_with fail
           refine (newwr_any _).mono ?_; rintro e w2 ⟨c, rfl, hc, hw2, hx2⟩
           have hcB : c < w2.heap.size := Ext.lt (p := ⟨c, 0, none⟩) hw2.1.1
           have HW2 := Lib.hid (WrAt.new (B := w2.heap.size) hw2 hcB (Nat.le_refl _))
           have HE2 := Lib.hid (hx1.trans hx2)
           have hwc : w.heap.size ≤ c := Nat.le_trans hx1.size hc
           clear hw2 hx1 hx2 hc
           go_wp2_with fail
           refine (UA.out c _ _ HW2.out).mono ?_; rintro e w3 ⟨x3, rfl, h3, k3, e3⟩
           go_wp2_with fail
           refine (UB.out c _ _ h3).mono ?_; rintro e w4 ⟨x4, rfl, h4, k4, e4⟩
           have HE4 := Lib.hid (WKp.out HE2.out (k3.trans k4) hwc HE2.out.size)
           have HW4 := Lib.hid h4
           clear h3 h4 k3 k4
           go_wp2_with fail
           refine (first3_any _ (hg.ext HE4.out)).mono ?_; rintro e w5 ⟨rfl, hx5⟩
           have HW5 := Lib.hid (HW4.out.ext hx5)
           rcases HFA.out with ⟨fa, ga⟩ | ⟨fa, ga⟩
           all_goals rcases HFB.out with ⟨fb, gb⟩ | ⟨fb, gb⟩
           all_goals first
             | (exfalso; have h1 := HM2.out; have h2 := HI2.out; have h3 := HR2.out; omega)
             | (rw [fa] at e3
                rw [fb] at e4
                first | (obtain rfl : x3 = .nilIface := e3) | (obtain ⟨t3, y3, rfl⟩ := ErrIs.ne e3)
                first | (obtain rfl : x4 = .nilIface := e4) | (obtain ⟨t4, y4, rfl⟩ := ErrIs.ne e4)
                clear fa fb ga gb
                go_wp2_with fail
                refine (UL.out c _ _ HW5.out).mono ?_; rintro e w6 ⟨rfl, rfl⟩
                go_wp2
                go_ret
                exact ⟨rfl, HE4.out.trans hx5⟩))
set_option maxHeartbeats 16000000 in
set_option maxRecDepth 20000 in
theorem rises_falsetruefalse (a b k : Int) (w : World) (hg : EtIs w) (hM : decide (0 ≤ a ∧ a ≤ 1073741824) = false) (hI : decide (0 ≤ b ∧ b ≤ 1073741824) = true) (hR : decide (0 ≤ k ∧ k ≤ 15) = false) :
    Calls Tryd.prog 10 #[.int .i64 a, .int .i64 b, .int .i64 k] w fun e w' => e = .returned (.bool true) ∧ Ext w w' := by
  simp only [decide_eq_true_eq, decide_eq_false_iff_not] at hM hI hR
  obtain ⟨f1, f2, f3⟩ := ri_facts a b k
  have A1 := Lib.hid (fun w => szue_any a w)
  have B1 := Lib.hid (fun w => szue_any b w)
  have A2 := Lib.hid (fun w => szri_any a k w)
  have B2 := Lib.hid (fun w => szri_any b k w)
  have UA := Lib.hid (fun c B w (h : WrAt w c B []) => putue_any c B a [] w h (by decide))
  have UB := Lib.hid (fun c B w (h : WrAt w c B (cuL [] a)) => putri_any c B b k (cuL [] a) w h (by omega))
  have UL := Lib.hid (fun c B w (h : WrAt w c B (crL (cuL [] a) b k)) => wrlen_any c B (crL (cuL [] a) b k) w h)
  have ma : ueOk a → ueOk b → a ≤ b → szUe a ≤ szUe b := szUe_le
  have mr : riOk a k → riOk b k → a ≤ b → szRi a k ≤ szRi b k := szRi_le
  have za : ueOk a ∧ 0 < szUe a ∧ szUe a ≤ 61 ∨ ¬ ueOk a ∧ szUe a = 0 := by
    by_cases h : ueOk a
    · exact .inl ⟨h, (szUe_yes h).2⟩
    · exact .inr ⟨h, szUe_no h⟩
  have zb : ueOk b ∧ 0 < szUe b ∧ szUe b ≤ 61 ∨ ¬ ueOk b ∧ szUe b = 0 := by
    by_cases h : ueOk b
    · exact .inl ⟨h, (szUe_yes h).2⟩
    · exact .inr ⟨h, szUe_no h⟩
  have zra : riOk a k ∧ 0 < szRi a k ∧ szRi a k ≤ 55 ∨ ¬ riOk a k ∧ szRi a k = 0 := by
    by_cases h : riOk a k
    · exact .inl ⟨h, (szRi_yes h).2⟩
    · exact .inr ⟨h, szRi_no h⟩
  have zrb : riOk b k ∧ 0 < szRi b k ∧ szRi b k ≤ 55 ∨ ¬ riOk b k ∧ szRi b k = 0 := by
    by_cases h : riOk b k
    · exact .inl ⟨h, (szRi_yes h).2⟩
    · exact .inr ⟨h, szRi_no h⟩
  have HFA : Hid (cuF a = none ∧ ueOk a ∨ cuF a = range ∧ ¬ ueOk a) := by
    show _ ∨ _
    unfold cuF
    by_cases h : ueOk a
    · rw [if_pos h]; exact .inl ⟨rfl, h⟩
    · rw [if_neg h]; exact .inr ⟨rfl, h⟩
  have HFB : Hid (crF b k = none ∧ riOk b k ∨ crF b k = range ∧ ¬ riOk b k) := by
    show _ ∨ _
    unfold crF
    by_cases h : riOk b k
    · rw [if_pos h]; exact .inl ⟨rfl, h⟩
    · rw [if_neg h]; exact .inr ⟨rfl, h⟩
  rw [f2] at UL
  have sa : 0 ≤ szUe a := by omega
  have sb : 0 ≤ szRi b k := by omega
  obtain ⟨X, hX⟩ : ∃ X : Nat, szUe a = (X : Int) := ⟨(szUe a).toNat, by omega⟩
  obtain ⟨Q, hQ⟩ : ∃ Q : Nat, szRi b k = (Q : Int) := ⟨(szRi b k).toNat, by omega⟩
  rw [hX, hQ, Int.toNat_natCast, Int.toNat_natCast] at UL
  obtain ⟨S, hS⟩ : ∃ S, X + Q = S := ⟨_, rfl⟩
  rw [hS] at UL
  have i1 : IntKind.i64.wrap ((X : Int) + (Q : Int)) = (S : Int) := by rw [IntKind.wrap_i64]; omega
  rw [hX] at A1 ma za
  rw [hQ] at B2 mr zrb
  have HXQ : Hid (X ≤ 61 ∧ Q ≤ 55) := ⟨by omega, by omega⟩
  generalize szUe b = y at *
  generalize szRi a k = p at *
  generalize cuL [] a = l1 at *
  generalize crL l1 b k = l2 at *
  clear f1 f2 f3 sa sb hX hQ
  unfold ueOk at *
  unfold riOk at *
  have hxy : ¬ ((0 ≤ a ∧ a ≤ 1073741824) ∧ 0 ≤ b ∧ b ≤ 1073741824) ∨ (((0 ≤ a ∧ a ≤ 1073741824) ∧ 0 ≤ b ∧ b ≤ 1073741824) ∧ b < a) ∨ (((0 ≤ a ∧ a ≤ 1073741824) ∧ 0 ≤ b ∧ b ≤ 1073741824) ∧ ¬ b < a ∧ (X : Int) ≤ y ∧ p ≤ (Q : Int)) := by omega
  clear ma mr
  have x61 : ¬ (61 : Int) < (X : Int) := by omega
  have p55 : ¬ (55 : Int) < p := by omega
  first | (have pX : (0 : Int) < (X : Int) := by omega) | (have pX : ¬ (0 : Int) < (X : Int) := by omega)
  first | (have py : (0 : Int) < y := by omega) | (have py : ¬ (0 : Int) < y := by omega)
  first | (have pp : (0 : Int) < p := by omega) | (have pp : ¬ (0 : Int) < p := by omega)
  first | (have pQ : (0 : Int) < (Q : Int) := by omega) | (have pQ : ¬ (0 : Int) < (Q : Int) := by omega)
  obtain ⟨b1, b2⟩ := HXQ.out
  first
    | (have s1 : X = 0 := by omega
       have s2 : Q = 0 := by omega
       have s3 : S = 0 := by omega
       subst s1
       subst s2
       subst s3)
    | (have s1 : X = 0 := by omega
       have s3 : Q = S := by omega
       have i2 : IntKind.i64.wrap (S : Int) = (S : Int) := by rw [IntKind.wrap_i64]; omega
       subst s1
       subst s3)
    | (have s1 : Q = 0 := by omega
       have s3 : X = S := by omega
       have i2 : IntKind.i64.wrap (S : Int) = (S : Int) := by rw [IntKind.wrap_i64]; omega
       subst s1
       subst s3)
    | skip
  clear za zb zra zrb b1 b2
  try clear hS
  have HM : Hid (a < 0 ∨ ¬ a < 0 ∧ (1073741824 < a ∨ ¬ 1073741824 < a)) := by show _ ∨ _; omega
  have HI : Hid (b < 0 ∨ ¬ b < 0 ∧ (1073741824 < b ∨ ¬ 1073741824 < b)) := by show _ ∨ _; omega
  have HK : Hid (k < 0 ∨ ¬ k < 0 ∧ (15 < k ∨ ¬ 15 < k)) := by show _ ∨ _; omega
  have HM2 := Lib.hid hM
  have HI2 := Lib.hid hI
  have HR2 := Lib.hid hR
  clear hM hI hR
  rcases hxy with h9 | ⟨h9, n1⟩ | ⟨h9, n1, n2, n3⟩
  all_goals first
    | (exfalso; have h1 := HM2.out; have h2 := HI2.out; omega)
    | (clear h9
       go_enter Tryd.func10, Tryd.ntmps10
       go_wp2_with fail
       refine (first3_any _ hg).mono ?_; rintro e w1 ⟨rfl, hx1⟩
       go_wp2_with fail
       refine (A1.out _).mono ?_; rintro e w2 ⟨rfl, rfl⟩
       go_wp2_with fail
       refine (B1.out _).mono ?_; rintro e w2 ⟨rfl, rfl⟩
       go_wp2_with fail
       refine (A2.out _).mono ?_; rintro e w2 ⟨rfl, rfl⟩
       go_wp2_with fail
       refine (B2.out _).mono ?_; rintro e w2 ⟨rfl, rfl⟩
       go_upto_region 5 with fail
       go_cut [11, 12] from 29 (fun s t wx => s = .bool false ∧ t = .bool true ∧ wx = w1)
       case first =>
         rcases HM.out with a1 | ⟨a1, a2 | a2⟩
         all_goals rcases HI.out with b1 | ⟨b1, b2 | b2⟩
         all_goals first
           | (exfalso; have h1 := HM2.out; have h2 := HI2.out; omega)
           | (go_wp2_with fail
              go_meet
              refine ⟨?_, ?_, rfl⟩ <;> first | rfl | exact congrArg Value.bool (decide_eq_false (by omega)) | exact congrArg Value.bool (decide_eq_true (by omega)))
       case rest =>
         obtain ⟨rfl, rfl, hw9⟩ := hcut
         obtain rfl := hw9.symm
         go_upto_region 6 with fail
         go_cut [13] from 41 (fun s wx => s = .bool false ∧ wx = w1)
         case first =>
           rcases HK.out with a1 | ⟨a1, a2 | a2⟩
           all_goals first
             | (exfalso; have h1 := HR2.out; omega)
             | (go_wp2_with fail
                go_meet
                refine ⟨?_, rfl⟩ <;> first | rfl | exact congrArg Value.bool (decide_eq_false (by omega)) | exact congrArg Value.bool (decide_eq_true (by omega)))
         case rest =>
           obtain ⟨rfl, hw9⟩ := hcut
           obtain rfl := hw9.symm
           go_wp2_with fail
           refine (newwr_any _).mono ?_; rintro e w2 ⟨c, rfl, hc, hw2, hx2⟩
           have hcB : c < w2.heap.size := Ext.lt (p := ⟨c, 0, none⟩) hw2.1.1
           have HW2 := Lib.hid (WrAt.new (B := w2.heap.size) hw2 hcB (Nat.le_refl _))
           have HE2 := Lib.hid (hx1.trans hx2)
           have hwc : w.heap.size ≤ c := Nat.le_trans hx1.size hc
           clear hw2 hx1 hx2 hc
           go_wp2_with fail
           refine (UA.out c _ _ HW2.out).mono ?_; rintro e w3 ⟨x3, rfl, h3, k3, e3⟩
           go_wp2_with fail
           refine (UB.out c _ _ h3).mono ?_; rintro e w4 ⟨x4, rfl, h4, k4, e4⟩
           have HE4 := Lib.hid (WKp.out HE2.out (k3.trans k4) hwc HE2.out.size)
           have HW4 := Lib.hid h4
           clear h3 h4 k3 k4
           go_wp2_with fail
           refine (first3_any _ (hg.ext HE4.out)).mono ?_; rintro e w5 ⟨rfl, hx5⟩
           have HW5 := Lib.hid (HW4.out.ext hx5)
           rcases HFA.out with ⟨fa, ga⟩ | ⟨fa, ga⟩
           all_goals rcases HFB.out with ⟨fb, gb⟩ | ⟨fb, gb⟩
           all_goals first
             | (exfalso; have h1 := HM2.out; have h2 := HI2.out; have h3 := HR2.out; omega)
             | (rw [fa] at e3
                rw [fb] at e4
                first | (obtain rfl : x3 = .nilIface := e3) | (obtain ⟨t3, y3, rfl⟩ := ErrIs.ne e3)
                first | (obtain rfl : x4 = .nilIface := e4) | (obtain ⟨t4, y4, rfl⟩ := ErrIs.ne e4)
                clear fa fb ga gb
                go_wp2_with fail
                refine (UL.out c _ _ HW5.out).mono ?_; rintro e w6 ⟨rfl, rfl⟩
                go_wp2
                go_ret
                exact ⟨rfl, HE4.out.trans hx5⟩))
set_option maxHeartbeats 16000000 in
set_option maxRecDepth 20000 in
theorem rises_falsefalsetrue (a b k : Int) (w : World) (hg : EtIs w) (hM : decide (0 ≤ a ∧ a ≤ 1073741824) = false) (hI : decide (0 ≤ b ∧ b ≤ 1073741824) = false) (hR : decide (0 ≤ k ∧ k ≤ 15) = true) :
    Calls Tryd.prog 10 #[.int .i64 a, .int .i64 b, .int .i64 k] w fun e w' => e = .returned (.bool true) ∧ Ext w w' := by
  simp only [decide_eq_true_eq, decide_eq_false_iff_not] at hM hI hR
  obtain ⟨f1, f2, f3⟩ := ri_facts a b k
  have A1 := Lib.hid (fun w => szue_any a w)
  have B1 := Lib.hid (fun w => szue_any b w)
  have A2 := Lib.hid (fun w => szri_any a k w)
  have B2 := Lib.hid (fun w => szri_any b k w)
  have UA := Lib.hid (fun c B w (h : WrAt w c B []) => putue_any c B a [] w h (by decide))
  have UB := Lib.hid (fun c B w (h : WrAt w c B (cuL [] a)) => putri_any c B b k (cuL [] a) w h (by omega))
  have UL := Lib.hid (fun c B w (h : WrAt w c B (crL (cuL [] a) b k)) => wrlen_any c B (crL (cuL [] a) b k) w h)
  have ma : ueOk a → ueOk b → a ≤ b → szUe a ≤ szUe b := szUe_le
  have mr : riOk a k → riOk b k → a ≤ b → szRi a k ≤ szRi b k := szRi_le
  have za : ueOk a ∧ 0 < szUe a ∧ szUe a ≤ 61 ∨ ¬ ueOk a ∧ szUe a = 0 := by
    by_cases h : ueOk a
    · exact .inl ⟨h, (szUe_yes h).2⟩
    · exact .inr ⟨h, szUe_no h⟩
  have zb : ueOk b ∧ 0 < szUe b ∧ szUe b ≤ 61 ∨ ¬ ueOk b ∧ szUe b = 0 := by
    by_cases h : ueOk b
    · exact .inl ⟨h, (szUe_yes h).2⟩
    · exact .inr ⟨h, szUe_no h⟩
  have zra : riOk a k ∧ 0 < szRi a k ∧ szRi a k ≤ 55 ∨ ¬ riOk a k ∧ szRi a k = 0 := by
    by_cases h : riOk a k
    · exact .inl ⟨h, (szRi_yes h).2⟩
    · exact .inr ⟨h, szRi_no h⟩
  have zrb : riOk b k ∧ 0 < szRi b k ∧ szRi b k ≤ 55 ∨ ¬ riOk b k ∧ szRi b k = 0 := by
    by_cases h : riOk b k
    · exact .inl ⟨h, (szRi_yes h).2⟩
    · exact .inr ⟨h, szRi_no h⟩
  have HFA : Hid (cuF a = none ∧ ueOk a ∨ cuF a = range ∧ ¬ ueOk a) := by
    show _ ∨ _
    unfold cuF
    by_cases h : ueOk a
    · rw [if_pos h]; exact .inl ⟨rfl, h⟩
    · rw [if_neg h]; exact .inr ⟨rfl, h⟩
  have HFB : Hid (crF b k = none ∧ riOk b k ∨ crF b k = range ∧ ¬ riOk b k) := by
    show _ ∨ _
    unfold crF
    by_cases h : riOk b k
    · rw [if_pos h]; exact .inl ⟨rfl, h⟩
    · rw [if_neg h]; exact .inr ⟨rfl, h⟩
  rw [f2] at UL
  have sa : 0 ≤ szUe a := by omega
  have sb : 0 ≤ szRi b k := by omega
  obtain ⟨X, hX⟩ : ∃ X : Nat, szUe a = (X : Int) := ⟨(szUe a).toNat, by omega⟩
  obtain ⟨Q, hQ⟩ : ∃ Q : Nat, szRi b k = (Q : Int) := ⟨(szRi b k).toNat, by omega⟩
  rw [hX, hQ, Int.toNat_natCast, Int.toNat_natCast] at UL
  obtain ⟨S, hS⟩ : ∃ S, X + Q = S := ⟨_, rfl⟩
  rw [hS] at UL
  have i1 : IntKind.i64.wrap ((X : Int) + (Q : Int)) = (S : Int) := by rw [IntKind.wrap_i64]; omega
  rw [hX] at A1 ma za
  rw [hQ] at B2 mr zrb
  have HXQ : Hid (X ≤ 61 ∧ Q ≤ 55) := ⟨by omega, by omega⟩
  generalize szUe b = y at *
  generalize szRi a k = p at *
  generalize cuL [] a = l1 at *
  generalize crL l1 b k = l2 at *
  clear f1 f2 f3 sa sb hX hQ
  unfold ueOk at *
  unfold riOk at *
  have hxy : ¬ ((0 ≤ a ∧ a ≤ 1073741824) ∧ 0 ≤ b ∧ b ≤ 1073741824) ∨ (((0 ≤ a ∧ a ≤ 1073741824) ∧ 0 ≤ b ∧ b ≤ 1073741824) ∧ b < a) ∨ (((0 ≤ a ∧ a ≤ 1073741824) ∧ 0 ≤ b ∧ b ≤ 1073741824) ∧ ¬ b < a ∧ (X : Int) ≤ y ∧ p ≤ (Q : Int)) := by omega
  clear ma mr
  have x61 : ¬ (61 : Int) < (X : Int) := by omega
  have p55 : ¬ (55 : Int) < p := by omega
  first | (have pX : (0 : Int) < (X : Int) := by omega) | (have pX : ¬ (0 : Int) < (X : Int) := by omega)
  first | (have py : (0 : Int) < y := by omega) | (have py : ¬ (0 : Int) < y := by omega)
  first | (have pp : (0 : Int) < p := by omega) | (have pp : ¬ (0 : Int) < p := by omega)
  first | (have pQ : (0 : Int) < (Q : Int) := by omega) | (have pQ : ¬ (0 : Int) < (Q : Int) := by omega)
  obtain ⟨b1, b2⟩ := HXQ.out
  first
    | (have s1 : X = 0 := by omega
       have s2 : Q = 0 := by omega
       have s3 : S = 0 := by omega
       subst s1
       subst s2
       subst s3)
    | (have s1 : X = 0 := by omega
       have s3 : Q = S := by omega
       have i2 : IntKind.i64.wrap (S : Int) = (S : Int) := by rw [IntKind.wrap_i64]; omega
       subst s1
       subst s3)
    | (have s1 : Q = 0 := by omega
       have s3 : X = S := by omega
       have i2 : IntKind.i64.wrap (S : Int) = (S : Int) := by rw [IntKind.wrap_i64]; omega
       subst s1
       subst s3)
    | skip
  clear za zb zra zrb b1 b2
  try clear hS
  have HM : Hid (a < 0 ∨ ¬ a < 0 ∧ (1073741824 < a ∨ ¬ 1073741824 < a)) := by show _ ∨ _; omega
  have HI : Hid (b < 0 ∨ ¬ b < 0 ∧ (1073741824 < b ∨ ¬ 1073741824 < b)) := by show _ ∨ _; omega
  have HK : Hid (k < 0 ∨ ¬ k < 0 ∧ (15 < k ∨ ¬ 15 < k)) := by show _ ∨ _; omega
  have HM2 := Lib.hid hM
  have HI2 := Lib.hid hI
  have HR2 := Lib.hid hR
  clear hM hI hR
  rcases hxy with h9 | ⟨h9, n1⟩ | ⟨h9, n1, n2, n3⟩
  all_goals first
    | (exfalso; have h1 := HM2.out; have h2 := HI2.out; omega)
    | (clear h9
       go_enter Tryd.func10, Tryd.ntmps10
       go_wp2_with fail
       refine (first3_any _ hg).mono ?_; rintro e w1 ⟨rfl, hx1⟩
       go_wp2_with fail
       refine (A1.out _).mono ?_; rintro e w2 ⟨rfl, rfl⟩
       go_wp2_with fail
       refine (B1.out _).mono ?_; rintro e w2 ⟨rfl, rfl⟩
       go_wp2_with fail
       refine (A2.out _).mono ?_; rintro e w2 ⟨rfl, rfl⟩
       go_wp2_with fail
       refine (B2.out _).mono ?_; rintro e w2 ⟨rfl, rfl⟩
       go_upto_region 5 with fail
       go_cut [11, 12] from 29 (fun s t wx => s = .bool false ∧ t = .bool false ∧ wx = w1)
       case first =>
         rcases HM.out with a1 | ⟨a1, a2 | a2⟩
         all_goals rcases HI.out with b1 | ⟨b1, b2 | b2⟩
         all_goals first
           | (exfalso; have h1 := HM2.out; have h2 := HI2.out; omega)
           | (go_wp2_with fail
              go_meet
              refine ⟨?_, ?_, rfl⟩ <;> first | rfl | exact congrArg Value.bool (decide_eq_false (by omega)) | exact congrArg Value.bool (decide_eq_true (by omega)))
       case rest =>
         obtain ⟨rfl, rfl, hw9⟩ := hcut
         obtain rfl := hw9.symm
         go_upto_region 6 with fail
         go_cut [13] from 41 (fun s wx => s = .bool true ∧ wx = w1)
         case first =>
           rcases HK.out with a1 | ⟨a1, a2 | a2⟩
           all_goals first
             | (exfalso; have h1 := HR2.out; omega)
             | (go_wp2_with fail
                go_meet
                refine ⟨?_, rfl⟩ <;> first | rfl | exact congrArg Value.bool (decide_eq_false (by omega)) | exact congrArg Value.bool (decide_eq_true (by omega)))
         case rest =>
           obtain ⟨rfl, hw9⟩ := hcut
           obtain rfl := hw9.symm
           go_wp2_with fail
           refine (newwr_any _).mono ?_; rintro e w2 ⟨c, rfl, hc, hw2, hx2⟩
           have hcB : c < w2.heap.size := Ext.lt (p := ⟨c, 0, none⟩) hw2.1.1
           have HW2 := Lib.hid (WrAt.new (B := w2.heap.size) hw2 hcB (Nat.le_refl _))
           have HE2 := Lib.hid (hx1.trans hx2)
           have hwc : w.heap.size ≤ c := Nat.le_trans hx1.size hc
           clear hw2 hx1 hx2 hc
           go_wp2_with fail
           refine (UA.out c _ _ HW2.out).mono ?_; rintro e w3 ⟨x3, rfl, h3, k3, e3⟩
           go_wp2_with fail
           refine (UB.out c _ _ h3).mono ?_; rintro e w4 ⟨x4, rfl, h4, k4, e4⟩
           have HE4 := Lib.hid (WKp.out HE2.out (k3.trans k4) hwc HE2.out.size)
           have HW4 := Lib.hid h4
           clear h3 h4 k3 k4
           go_wp2_with fail
           refine (first3_any _ (hg.ext HE4.out)).mono ?_; rintro e w5 ⟨rfl, hx5⟩
           have HW5 := Lib.hid (HW4.out.ext hx5)
           rcases HFA.out with ⟨fa, ga⟩ | ⟨fa, ga⟩
           all_goals rcases HFB.out with ⟨fb, gb⟩ | ⟨fb, gb⟩
           all_goals first
             | (exfalso; have h1 := HM2.out; have h2 := HI2.out; have h3 := HR2.out; omega)
             | (rw [fa] at e3
                rw [fb] at e4
                first | (obtain rfl : x3 = .nilIface := e3) | (obtain ⟨t3, y3, rfl⟩ := ErrIs.ne e3)
                first | (obtain rfl : x4 = .nilIface := e4) | (obtain ⟨t4, y4, rfl⟩ := ErrIs.ne e4)
                clear fa fb ga gb
                go_wp2_with fail
                refine (UL.out c _ _ HW5.out).mono ?_; rintro e w6 ⟨rfl, rfl⟩
                go_wp2
                go_ret
                exact ⟨rfl, HE4.out.trans hx5⟩))
set_option maxHeartbeats 16000000 in
set_option maxRecDepth 20000 in
theorem rises_falsefalsefalse (a b k : Int) (w : World) (hg : EtIs w) (hM : decide (0 ≤ a ∧ a ≤ 1073741824) = false) (hI : decide (0 ≤ b ∧ b ≤ 1073741824) = false) (hR : decide (0 ≤ k ∧ k ≤ 15) = false) :
    Calls Tryd.prog 10 #[.int .i64 a, .int .i64 b, .int .i64 k] w fun e w' => e = .returned (.bool true) ∧ Ext w w' := by
  simp only [decide_eq_true_eq, decide_eq_false_iff_not] at hM hI hR
  obtain ⟨f1, f2, f3⟩ := ri_facts a b k
  have A1 := Lib.hid (fun w => szue_any a w)
  have B1 := Lib.hid (fun w => szue_any b w)
  have A2 := Lib.hid (fun w => szri_any a k w)
  have B2 := Lib.hid (fun w => szri_any b k w)
  have UA := Lib.hid (fun c B w (h : WrAt w c B []) => putue_any c B a [] w h (by decide))
  have UB := Lib.hid (fun c B w (h : WrAt w c B (cuL [] a)) => putri_any c B b k (cuL [] a) w h (by omega))
  have UL := Lib.hid (fun c B w (h : WrAt w c B (crL (cuL [] a) b k)) => wrlen_any c B (crL (cuL [] a) b k) w h)
  have ma : ueOk a → ueOk b → a ≤ b → szUe a ≤ szUe b := szUe_le
  have mr : riOk a k → riOk b k → a ≤ b → szRi a k ≤ szRi b k := szRi_le
  have za : ueOk a ∧ 0 < szUe a ∧ szUe a ≤ 61 ∨ ¬ ueOk a ∧ szUe a = 0 := by
    by_cases h : ueOk a
    · exact .inl ⟨h, (szUe_yes h).2⟩
    · exact .inr ⟨h, szUe_no h⟩
  have zb : ueOk b ∧ 0 < szUe b ∧ szUe b ≤ 61 ∨ ¬ ueOk b ∧ szUe b = 0 := by
    by_cases h : ueOk b
    · exact .inl ⟨h, (szUe_yes h).2⟩
    · exact .inr ⟨h, szUe_no h⟩
  have zra : riOk a k ∧ 0 < szRi a k ∧ szRi a k ≤ 55 ∨ ¬ riOk a k ∧ szRi a k = 0 := by
    by_cases h : riOk a k
    · exact .inl ⟨h, (szRi_yes h).2⟩
    · exact .inr ⟨h, szRi_no h⟩
  have zrb : riOk b k ∧ 0 < szRi b k ∧ szRi b k ≤ 55 ∨ ¬ riOk b k ∧ szRi b k = 0 := by
    by_cases h : riOk b k
    · exact .inl ⟨h, (szRi_yes h).2⟩
    · exact .inr ⟨h, szRi_no h⟩
  have HFA : Hid (cuF a = none ∧ ueOk a ∨ cuF a = range ∧ ¬ ueOk a) := by
    show _ ∨ _
    unfold cuF
    by_cases h : ueOk a
    · rw [if_pos h]; exact .inl ⟨rfl, h⟩
    · rw [if_neg h]; exact .inr ⟨rfl, h⟩
  have HFB : Hid (crF b k = none ∧ riOk b k ∨ crF b k = range ∧ ¬ riOk b k) := by
    show _ ∨ _
    unfold crF
    by_cases h : riOk b k
    · rw [if_pos h]; exact .inl ⟨rfl, h⟩
    · rw [if_neg h]; exact .inr ⟨rfl, h⟩
  rw [f2] at UL
  have sa : 0 ≤ szUe a := by omega
  have sb : 0 ≤ szRi b k := by omega
  obtain ⟨X, hX⟩ : ∃ X : Nat, szUe a = (X : Int) := ⟨(szUe a).toNat, by omega⟩
  obtain ⟨Q, hQ⟩ : ∃ Q : Nat, szRi b k = (Q : Int) := ⟨(szRi b k).toNat, by omega⟩
  rw [hX, hQ, Int.toNat_natCast, Int.toNat_natCast] at UL
  obtain ⟨S, hS⟩ : ∃ S, X + Q = S := ⟨_, rfl⟩
  rw [hS] at UL
  have i1 : IntKind.i64.wrap ((X : Int) + (Q : Int)) = (S : Int) := by rw [IntKind.wrap_i64]; omega
  rw [hX] at A1 ma za
  rw [hQ] at B2 mr zrb
  have HXQ : Hid (X ≤ 61 ∧ Q ≤ 55) := ⟨by omega, by omega⟩
  generalize szUe b = y at *
  generalize szRi a k = p at *
  generalize cuL [] a = l1 at *
  generalize crL l1 b k = l2 at *
  clear f1 f2 f3 sa sb hX hQ
  unfold ueOk at *
  unfold riOk at *
  have hxy : ¬ ((0 ≤ a ∧ a ≤ 1073741824) ∧ 0 ≤ b ∧ b ≤ 1073741824) ∨ (((0 ≤ a ∧ a ≤ 1073741824) ∧ 0 ≤ b ∧ b ≤ 1073741824) ∧ b < a) ∨ (((0 ≤ a ∧ a ≤ 1073741824) ∧ 0 ≤ b ∧ b ≤ 1073741824) ∧ ¬ b < a ∧ (X : Int) ≤ y ∧ p ≤ (Q : Int)) := by omega
  clear ma mr
  have x61 : ¬ (61 : Int) < (X : Int) := by omega
  have p55 : ¬ (55 : Int) < p := by omega
  first | (have pX : (0 : Int) < (X : Int) := by omega) | (have pX : ¬ (0 : Int) < (X : Int) := by omega)
  first | (have py : (0 : Int) < y := by omega) | (have py : ¬ (0 : Int) < y := by omega)
  first | (have pp : (0 : Int) < p := by omega) | (have pp : ¬ (0 : Int) < p := by omega)
  first | (have pQ : (0 : Int) < (Q : Int) := by omega) | (have pQ : ¬ (0 : Int) < (Q : Int) := by omega)
  obtain ⟨b1, b2⟩ := HXQ.out
  first
    | (have s1 : X = 0 := by omega
       have s2 : Q = 0 := by omega
       have s3 : S = 0 := by omega
       subst s1
       subst s2
       subst s3)
    | (have s1 : X = 0 := by omega
       have s3 : Q = S := by omega
       have i2 : IntKind.i64.wrap (S : Int) = (S : Int) := by rw [IntKind.wrap_i64]; omega
       subst s1
       subst s3)
    | (have s1 : Q = 0 := by omega
       have s3 : X = S := by omega
       have i2 : IntKind.i64.wrap (S : Int) = (S : Int) := by rw [IntKind.wrap_i64]; omega
       subst s1
       subst s3)
    | skip
  clear za zb zra zrb b1 b2
  try clear hS
  have HM : Hid (a < 0 ∨ ¬ a < 0 ∧ (1073741824 < a ∨ ¬ 1073741824 < a)) := by show _ ∨ _; omega
  have HI : Hid (b < 0 ∨ ¬ b < 0 ∧ (1073741824 < b ∨ ¬ 1073741824 < b)) := by show _ ∨ _; omega
  have HK : Hid (k < 0 ∨ ¬ k < 0 ∧ (15 < k ∨ ¬ 15 < k)) := by show _ ∨ _; omega
  have HM2 := Lib.hid hM
  have HI2 := Lib.hid hI
  have HR2 := Lib.hid hR
  clear hM hI hR
  rcases hxy with h9 | ⟨h9, n1⟩ | ⟨h9, n1, n2, n3⟩
  all_goals first
    | (exfalso; have h1 := HM2.out; have h2 := HI2.out; omega)
    | (clear h9
       go_enter Tryd.func10, Tryd.ntmps10
       go_wp2_with fail
       refine (first3_any _ hg).mono ?_; rintro e w1 ⟨rfl, hx1⟩
       go_wp2_with fail
       refine (A1.out _).mono ?_; rintro e w2 ⟨rfl, rfl⟩
       go_wp2_with fail
       refine (B1.out _).mono ?_; rintro e w2 ⟨rfl, rfl⟩
       go_wp2_with fail
       refine (A2.out _).mono ?_; rintro e w2 ⟨rfl, rfl⟩
       go_wp2_with fail
       refine (B2.out _).mono ?_; rintro e w2 ⟨rfl, rfl⟩
       go_upto_region 5 with fail
       go_cut [11, 12] from 29 (fun s t wx => s = .bool false ∧ t = .bool false ∧ wx = w1)
       case first =>
         rcases HM.out with a1 | ⟨a1, a2 | a2⟩
         all_goals rcases HI.out with b1 | ⟨b1, b2 | b2⟩
         all_goals first
           | (exfalso; have h1 := HM2.out; have h2 := HI2.out; omega)
           | (go_wp2_with fail
              go_meet
              refine ⟨?_, ?_, rfl⟩ <;> first | rfl | exact congrArg Value.bool (decide_eq_false (by omega)) | exact congrArg Value.bool (decide_eq_true (by omega)))
       case rest =>
         obtain ⟨rfl, rfl, hw9⟩ := hcut
         obtain rfl := hw9.symm
         go_upto_region 6 with fail
         go_cut [13] from 41 (fun s wx => s = .bool false ∧ wx = w1)
         case first =>
           rcases HK.out with a1 | ⟨a1, a2 | a2⟩
           all_goals first
             | (exfalso; have h1 := HR2.out; omega)
             | (go_wp2_with fail
                go_meet
                refine ⟨?_, rfl⟩ <;> first | rfl | exact congrArg Value.bool (decide_eq_false (by omega)) | exact congrArg Value.bool (decide_eq_true (by omega)))
         case rest =>
           obtain ⟨rfl, hw9⟩ := hcut
           obtain rfl := hw9.symm
           go_wp2_with fail
           refine (newwr_any _).mono ?_; rintro e w2 ⟨c, rfl, hc, hw2, hx2⟩
           have hcB : c < w2.heap.size := Ext.lt (p := ⟨c, 0, none⟩) hw2.1.1
           have HW2 := Lib.hid (WrAt.new (B := w2.heap.size) hw2 hcB (Nat.le_refl _))
           have HE2 := Lib.hid (hx1.trans hx2)
           have hwc : w.heap.size ≤ c := Nat.le_trans hx1.size hc
           clear hw2 hx1 hx2 hc
           go_wp2_with fail
           refine (UA.out c _ _ HW2.out).mono ?_; rintro e w3 ⟨x3, rfl, h3, k3, e3⟩
           go_wp2_with fail
           refine (UB.out c _ _ h3).mono ?_; rintro e w4 ⟨x4, rfl, h4, k4, e4⟩
           have HE4 := Lib.hid (WKp.out HE2.out (k3.trans k4) hwc HE2.out.size)
           have HW4 := Lib.hid h4
           clear h3 h4 k3 k4
           go_wp2_with fail
           refine (first3_any _ (hg.ext HE4.out)).mono ?_; rintro e w5 ⟨rfl, hx5⟩
           have HW5 := Lib.hid (HW4.out.ext hx5)
           rcases HFA.out with ⟨fa, ga⟩ | ⟨fa, ga⟩
           all_goals rcases HFB.out with ⟨fb, gb⟩ | ⟨fb, gb⟩
           all_goals first
             | (exfalso; have h1 := HM2.out; have h2 := HI2.out; have h3 := HR2.out; omega)
             | (rw [fa] at e3
                rw [fb] at e4
                first | (obtain rfl : x3 = .nilIface := e3) | (obtain ⟨t3, y3, rfl⟩ := ErrIs.ne e3)
                first | (obtain rfl : x4 = .nilIface := e4) | (obtain ⟨t4, y4, rfl⟩ := ErrIs.ne e4)
                clear fa fb ga gb
                go_wp2_with fail
                refine (UL.out c _ _ HW5.out).mono ?_; rintro e w6 ⟨rfl, rfl⟩
                go_wp2
                go_ret
                exact ⟨rfl, HE4.out.trans hx5⟩))
theorem rises_law (a b k : Int) (w : World) (hg : EtIs w) :
    Calls Tryd.prog 10 #[.int .i64 a, .int .i64 b, .int .i64 k] w fun e w' => e = .returned (.bool true) ∧ Ext w w' := by
  cases hM : decide (0 ≤ a ∧ a ≤ 1073741824) <;> cases hI : decide (0 ≤ b ∧ b ≤ 1073741824) <;> cases hR : decide (0 ≤ k ∧ k ≤ 15)
  · exact rises_falsefalsefalse a b k w hg hM hI hR
  · exact rises_falsefalsetrue a b k w hg hM hI hR
  · exact rises_falsetruefalse a b k w hg hM hI hR
  · exact rises_falsetruetrue a b k w hg hM hI hR
  · exact rises_truefalsefalse a b k w hg hM hI hR
  · exact rises_truefalsetrue a b k w hg hM hI hR
  · exact rises_truetruefalse a b k w hg hM hI hR
  · exact rises_truetruetrue a b k w hg hM hI hR
end Go.Proofs.YtehmgieocoppjaaDoor
