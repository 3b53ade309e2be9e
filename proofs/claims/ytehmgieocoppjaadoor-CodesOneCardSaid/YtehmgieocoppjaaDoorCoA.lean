/- kinlaw3.CodesBounds, CodesOne: the walks. -/
import Derived.Test.YtehmgieocoppjaaDoorCo7
import Derived.Test.YtehmgieocoppjaaDoorZu
namespace Go.Proofs.YtehmgieocoppjaaDoor
set_option linter.unusedVariables false
set_option linter.unusedSimpArgs false
open Go.RowKit Go.Extern.Stop Go.Stop Go.Extern

theorem ErrIs.rkp {F : Nat → Prop} {w w' : World} {c p : Nat} {bs : List Nat} {f : Fall} {x : Value} (h : ErrIs w f x) (k : Kp c w w') (r : RdAt F w c bs p) : ErrIs w' f x := by
  obtain ⟨a, cap, ⟨h0, -, -⟩, -⟩ := r
  exact h.kp k h0
theorem RdAt.lt {F : Nat → Prop} {w : World} {b p : Nat} {bs : List Nat} (h : RdAt F w b bs p) : b < w.heap.size := by
  obtain ⟨_, _, hb, _⟩ := h
  exact Ext.lt (p := ⟨b, 0, none⟩) hb.1
set_option maxHeartbeats 8000000 in
set_option maxRecDepth 20000 in
theorem bounds_law (bs : List Nat) (v : Value) (k kind : Int) (w : World) (hg : EtIs w) (rb : Row w v bs.length (bs.map fun x : Nat => Value.int .u8 (x : Int))) (hb : ∀ x ∈ bs, x < 256) :
    Calls Tryd.prog 9 #[v, .int .i64 k, .int .i64 kind] w fun e w' => e = .returned (.bool true) ∧ Ext w w' := by
  obtain ⟨a, n, cap, rfl⟩ : ∃ a n cap, v = .slice a n cap := by obtain ⟨a, cap, e, -⟩ := rb; exact ⟨a, _, cap, e⟩
  have hn : n = bs.length := by obtain ⟨a', cap', e, -⟩ := rb; simp only [Value.slice.injEq] at e; exact e.2.1
  by_cases hl : n ≤ 20000
  · by_cases hk1 : k < 0
    · have t1 : ¬ (20000 : Int) < (n : Int) := by omega
      clear rb hn
      go_enter Tryd.func9, Tryd.ntmps9
      go_wp2_with fail
      refine (first3_any _ hg).mono ?_; rintro e w1 ⟨rfl, hx1⟩
      go_wp2_with fail
      refine (first3_any _ (hg.ext hx1)).mono ?_; rintro e w2 ⟨rfl, hx2⟩
      go_wp2
      go_ret
      exact ⟨rfl, hx1.trans hx2⟩
    · by_cases hk2 : 15 < k
      · have t1 : ¬ (20000 : Int) < (n : Int) := by omega
        clear rb hn
        go_enter Tryd.func9, Tryd.ntmps9
        go_wp2_with fail
        refine (first3_any _ hg).mono ?_; rintro e w1 ⟨rfl, hx1⟩
        go_wp2_with fail
        refine (first3_any _ (hg.ext hx1)).mono ?_; rintro e w2 ⟨rfl, hx2⟩
        go_wp2
        go_ret
        exact ⟨rfl, hx1.trans hx2⟩
      · have HB := Lib.hid (show Bys w (.slice a n cap) bs from ⟨rb, hb, by omega⟩)
        have t1 : ¬ (20000 : Int) < (n : Int) := by omega
        clear rb hb hn
        go_enter Tryd.func9, Tryd.ntmps9
        go_wp2_with fail
        refine (first3_any _ hg).mono ?_; rintro e w1 ⟨rfl, hx1⟩
        go_wp2_with fail
        refine (newrd_any bs _ _ (HB.out.ext hx1)).mono ?_; rintro e w2 ⟨c1, rfl, hc1, r1, hx2⟩
        go_wp2_with fail
        refine (newrd_any bs _ _ (HB.out.ext (hx1.trans hx2))).mono ?_; rintro e w3 ⟨c2, rfl, hc2, r2, hx3⟩
        have hl1 := r1.lt
        have hw1 : w.heap.size ≤ c1 := Nat.le_trans hx1.size hc1
        have hw2 : w.heap.size ≤ c2 := Nat.le_trans (hx1.trans hx2).size hc2
        have hc21 : c2 ≠ c1 := by omega
        have hc12 : c1 ≠ c2 := by omega
        have hF1 : c2 < w1.heap.size ∨ w2.heap.size ≤ c2 := .inr hc2
        have hF2 : c1 < w2.heap.size ∨ w3.heap.size ≤ c1 := .inl hl1
        have HR1 := Lib.hid (r1.ext hx3)
        have HR2 := Lib.hid r2
        have HE := Lib.hid (hx1.trans (hx2.trans hx3))
        clear r1 r2 hx1 hx2 hx3 hc1 hc2 hl1
        by_cases h0 : kind = 0
        · subst h0
          have V1 := Lib.hid (fun w' (h : RdAt (fun g => g < w1.heap.size ∨ w2.heap.size ≤ g) w' c1 bs 0) => getue_any c1 0 1073741824 bs w' h (Nat.zero_le _))
          have V2 := Lib.hid (fun m w' (h : RdAt (fun g => g < w2.heap.size ∨ w3.heap.size ≤ g) w' c2 bs 0) => getue_any c2 0 m bs w' h (Nat.zero_le _))
          obtain ⟨R, hR⟩ : ∃ R, ugG bs 0 1073741824 = R := ⟨_, rfl⟩
          rw [hR] at V1
          obtain ⟨f, v, q⟩ := R
          cases f with
          | some y =>
            obtain rfl := ugG_err hR
            have U1 := V1
            have U2 := Lib.hid (V2.out (-1))
            generalize ugG bs 0 (-1) = R2 at U2
            clear V1 V2 hR
            go_wp2_with fail
            refine (U1.out _ HR1.out).mono ?_; rintro e w5 ⟨x5, rfl, k5, r5, e5⟩
            have HE5 := Lib.hid (Kp.out HE.out k5 hw1)
            have HS2 := Lib.hid (HR2.out.kp k5 hF2 hc21)
            have HX5 := Lib.hid e5
            have HS1 := Lib.hid r5
            clear k5 r5 e5 HR1 HR2 HE
            go_wp2_with fail
            refine (U2.out _ HS2.out).mono ?_; rintro e w6 ⟨x6, rfl, k6, r6, e6⟩
            have HE6 := Lib.hid (Kp.out HE5.out k6 hw2)
            have HT1 := Lib.hid (HS1.out.kp k6 hF1 hc12)
            have HX6 := Lib.hid (HX5.out.rkp k6 HS2.out)
            have HY6 := Lib.hid e6
            have HT2 := Lib.hid r6
            clear k6 r6 e6 HS1 HS2 HE5 HX5
            obtain ⟨t5, y5, rfl⟩ := HX6.out.ne
            go_wp2_with fail
            refine (first3_any _ (hg.ext HE6.out)).mono ?_; rintro e w7 ⟨rfl, hx7⟩
            go_wp2
            go_ret
            exact ⟨rfl, HE6.out.trans hx7⟩
          | none =>
            have h2 := ugG_less hR
            obtain ⟨V, rfl, hV, -⟩ := ugG_code hR
            have U1 := V1
            have U2 := Lib.hid (V2.out ((V : Int) - 1))
            rw [h2] at U2
            have j1 : IntKind.i64.wrap ((V : Int) - 1) = (V : Int) - 1 := by rw [IntKind.wrap_i64]; omega
            have j2 : (V : Int) ≤ 1073741824 := by omega
            clear V1 V2 hR h2
            go_wp2_with fail
            refine (U1.out _ HR1.out).mono ?_; rintro e w5 ⟨x5, rfl, k5, r5, e5⟩
            have HE5 := Lib.hid (Kp.out HE.out k5 hw1)
            have HS2 := Lib.hid (HR2.out.kp k5 hF2 hc21)
            have HX5 := Lib.hid e5
            have HS1 := Lib.hid r5
            clear k5 r5 e5 HR1 HR2 HE
            go_wp2_with fail
            refine (U2.out _ HS2.out).mono ?_; rintro e w6 ⟨x6, rfl, k6, r6, e6⟩
            have HE6 := Lib.hid (Kp.out HE5.out k6 hw2)
            have HT1 := Lib.hid (HS1.out.kp k6 hF1 hc12)
            have HX6 := Lib.hid (HX5.out.rkp k6 HS2.out)
            have HY6 := Lib.hid e6
            have HT2 := Lib.hid r6
            clear k6 r6 e6 HS1 HS2 HE5 HX5
            obtain rfl : x5 = .nilIface := HX6.out
            obtain ⟨t6, y6, rfl⟩ := HY6.out.ne
            go_wp2_with fail
            refine (first3_any _ (hg.ext HE6.out)).mono ?_; rintro e w7 ⟨rfl, hx7⟩
            have HE7 := Lib.hid (HE6.out.trans hx7)
            have HV2 := Lib.hid (HT2.out.ext hx7)
            have HV1 := Lib.hid (HT1.out.ext hx7)
            have HY7 := Lib.hid (HY6.out.ext hx7)
            clear hx7 HE6 HT2 HT1 HY6 HX6
            go_wp2_with fail
            refine (place_any c2 q bs _ HV2.out).mono ?_; rintro e w8 ⟨rfl, rfl⟩
            go_wp2_with fail
            refine (wrap_any codesS (q : Int) 3 _ (by decide)).mono ?_; rintro e w9 ⟨u9, rfl, ho9, hx9⟩
            obtain ⟨va, vc, rfl⟩ : ∃ va vc, u9 = .slice va 1 vc := by
              rcases ho9.2 with ⟨-, h0⟩ | ⟨g, cap, cur, rfl, -⟩
              · cases h0
              · exact ⟨_, _, rfl⟩
            have HO9 := Lib.hid (Row.of_owns ho9)
            have HE9 := Lib.hid (HE7.out.trans hx9)
            have HV92 := Lib.hid (HV2.out.ext hx9)
            have HV91 := Lib.hid (HV1.out.ext hx9)
            have HY9 := Lib.hid (HY7.out.ext hx9)
            clear hx9 ho9 HE7 HV2 HV1 HY7
            go_wp2_with fail
            refine (same_fall (some ([(codesS, (q : Int))], 3)) _ _ _ _ (hg.ext HE9.out) HY9.out ⟨rfl, by decide, HO9.out⟩).mono ?_; rintro e wD ⟨rfl, hxD⟩
            have HVD2 := Lib.hid (HV92.out.ext hxD)
            have HVD1 := Lib.hid (HV91.out.ext hxD)
            have HED := Lib.hid (HE9.out.trans hxD)
            clear hxD HV92 HV91 HE9 HY9 HO9
            go_wp2_with fail
            refine (place_any c1 q bs _ HVD1.out).mono ?_; rintro e w8 ⟨rfl, rfl⟩
            go_wp2_with fail
            refine (place_any c2 q bs _ HVD2.out).mono ?_; rintro e w8 ⟨rfl, rfl⟩
            go_wp2
            go_ret
            exact ⟨rfl, HED.out⟩
        · by_cases h1 : kind = 1
          · subst h1
            have V1 := Lib.hid (fun w' (h : RdAt (fun g => g < w1.heap.size ∨ w2.heap.size ≤ g) w' c1 bs 0) => getse_any c1 0 536870912 bs w' h (Nat.zero_le _))
            have V2 := Lib.hid (fun m w' (h : RdAt (fun g => g < w2.heap.size ∨ w3.heap.size ≤ g) w' c2 bs 0) => getse_any c2 0 m bs w' h (Nat.zero_le _))
            obtain ⟨R, hR⟩ : ∃ R, sgG bs 0 536870912 = R := ⟨_, rfl⟩
            rw [hR] at V1
            obtain ⟨f, v, q⟩ := R
            have r9 := mx2
            cases f with
            | some y =>
              obtain rfl := sgG_err hR
              have U1 := V1
              have U2 := Lib.hid (V2.out (-1))
              generalize sgG bs 0 (-1) = R2 at U2
              clear V1 V2 hR
              go_wp2_with fail
              refine (U1.out _ HR1.out).mono ?_; rintro e w5 ⟨x5, rfl, k5, r5, e5⟩
              have HE5 := Lib.hid (Kp.out HE.out k5 hw1)
              have HS2 := Lib.hid (HR2.out.kp k5 hF2 hc21)
              have HX5 := Lib.hid e5
              have HS1 := Lib.hid r5
              clear k5 r5 e5 HR1 HR2 HE
              go_wp2_with fail
              refine (U2.out _ HS2.out).mono ?_; rintro e w6 ⟨x6, rfl, k6, r6, e6⟩
              have HE6 := Lib.hid (Kp.out HE5.out k6 hw2)
              have HT1 := Lib.hid (HS1.out.kp k6 hF1 hc12)
              have HX6 := Lib.hid (HX5.out.rkp k6 HS2.out)
              have HY6 := Lib.hid e6
              have HT2 := Lib.hid r6
              clear k6 r6 e6 HS1 HS2 HE5 HX5
              obtain ⟨t5, y5, rfl⟩ := HX6.out.ne
              go_wp2_with fail
              refine (first3_any _ (hg.ext HE6.out)).mono ?_; rintro e w7 ⟨rfl, hx7⟩
              go_wp2
              go_ret
              exact ⟨rfl, HE6.out.trans hx7⟩
            | none =>
              have h2 := sgG_less hR
              obtain ⟨V, -, -, hv, -⟩ := sgG_code hR
              have hv2 := abs_le.1 hv
              obtain ⟨s, hs⟩ : ∃ s, absI v = s := ⟨_, rfl⟩
              have U1 := V1
              rw [hs] at h2 hv
              have hs0 : 0 ≤ s := by rw [← hs]; unfold absI; omega
              have U2 := Lib.hid (V2.out (s - 1))
              rw [h2] at U2
              have j0 : IntKind.i64.wrap (-v) = -v := by rw [IntKind.wrap_i64]; omega
              have j3 : max v (-v) = s := hs
              have j1 : IntKind.i64.wrap (s - 1) = s - 1 := by rw [IntKind.wrap_i64]; omega
              have j2 : v ≤ 1073741824 := by omega
              clear V1 V2 hR h2 hs
              go_wp2_with fail
              refine (U1.out _ HR1.out).mono ?_; rintro e w5 ⟨x5, rfl, k5, r5, e5⟩
              have HE5 := Lib.hid (Kp.out HE.out k5 hw1)
              have HS2 := Lib.hid (HR2.out.kp k5 hF2 hc21)
              have HX5 := Lib.hid e5
              have HS1 := Lib.hid r5
              clear k5 r5 e5 HR1 HR2 HE
              go_wp2_with fail
              refine (U2.out _ HS2.out).mono ?_; rintro e w6 ⟨x6, rfl, k6, r6, e6⟩
              have HE6 := Lib.hid (Kp.out HE5.out k6 hw2)
              have HT1 := Lib.hid (HS1.out.kp k6 hF1 hc12)
              have HX6 := Lib.hid (HX5.out.rkp k6 HS2.out)
              have HY6 := Lib.hid e6
              have HT2 := Lib.hid r6
              clear k6 r6 e6 HS1 HS2 HE5 HX5
              obtain rfl : x5 = .nilIface := HX6.out
              obtain ⟨t6, y6, rfl⟩ := HY6.out.ne
              go_wp2_with fail
              refine (first3_any _ (hg.ext HE6.out)).mono ?_; rintro e w7 ⟨rfl, hx7⟩
              have HE7 := Lib.hid (HE6.out.trans hx7)
              have HV2 := Lib.hid (HT2.out.ext hx7)
              have HV1 := Lib.hid (HT1.out.ext hx7)
              have HY7 := Lib.hid (HY6.out.ext hx7)
              clear hx7 HE6 HT2 HT1 HY6 HX6
              go_wp2_with fail
              refine (place_any c2 q bs _ HV2.out).mono ?_; rintro e w8 ⟨rfl, rfl⟩
              go_wp2_with fail
              refine (wrap_any codesS (q : Int) 3 _ (by decide)).mono ?_; rintro e w9 ⟨u9, rfl, ho9, hx9⟩
              obtain ⟨va, vc, rfl⟩ : ∃ va vc, u9 = .slice va 1 vc := by
                rcases ho9.2 with ⟨-, h0⟩ | ⟨g, cap, cur, rfl, -⟩
                · cases h0
                · exact ⟨_, _, rfl⟩
              have HO9 := Lib.hid (Row.of_owns ho9)
              have HE9 := Lib.hid (HE7.out.trans hx9)
              have HV92 := Lib.hid (HV2.out.ext hx9)
              have HV91 := Lib.hid (HV1.out.ext hx9)
              have HY9 := Lib.hid (HY7.out.ext hx9)
              clear hx9 ho9 HE7 HV2 HV1 HY7
              go_wp2_with fail
              refine (same_fall (some ([(codesS, (q : Int))], 3)) _ _ _ _ (hg.ext HE9.out) HY9.out ⟨rfl, by decide, HO9.out⟩).mono ?_; rintro e wD ⟨rfl, hxD⟩
              have HVD2 := Lib.hid (HV92.out.ext hxD)
              have HVD1 := Lib.hid (HV91.out.ext hxD)
              have HED := Lib.hid (HE9.out.trans hxD)
              clear hxD HV92 HV91 HE9 HY9 HO9
              go_wp2_with fail
              refine (place_any c1 q bs _ HVD1.out).mono ?_; rintro e w8 ⟨rfl, rfl⟩
              go_wp2_with fail
              refine (place_any c2 q bs _ HVD2.out).mono ?_; rintro e w8 ⟨rfl, rfl⟩
              go_wp2
              go_ret
              exact ⟨rfl, HED.out⟩
          · have V1 := Lib.hid (fun w' (h : RdAt (fun g => g < w1.heap.size ∨ w2.heap.size ≤ g) w' c1 bs 0) => getri_any c1 0 k 1073741824 bs w' h (Nat.zero_le _))
            have V2 := Lib.hid (fun m w' (h : RdAt (fun g => g < w2.heap.size ∨ w3.heap.size ≤ g) w' c2 bs 0) => getri_any c2 0 k m bs w' h (Nat.zero_le _))
            obtain ⟨R, hR⟩ : ∃ R, rgG bs 0 k 1073741824 = R := ⟨_, rfl⟩
            rw [hR] at V1
            obtain ⟨f, v, q⟩ := R
            cases f with
            | some y =>
              obtain rfl := rgG_err hR
              have U1 := V1
              have U2 := Lib.hid (V2.out (-1))
              generalize rgG bs 0 k (-1) = R2 at U2
              clear V1 V2 hR
              go_wp2_with fail
              refine (U1.out _ HR1.out).mono ?_; rintro e w5 ⟨x5, rfl, k5, r5, e5⟩
              have HE5 := Lib.hid (Kp.out HE.out k5 hw1)
              have HS2 := Lib.hid (HR2.out.kp k5 hF2 hc21)
              have HX5 := Lib.hid e5
              have HS1 := Lib.hid r5
              clear k5 r5 e5 HR1 HR2 HE
              go_wp2_with fail
              refine (U2.out _ HS2.out).mono ?_; rintro e w6 ⟨x6, rfl, k6, r6, e6⟩
              have HE6 := Lib.hid (Kp.out HE5.out k6 hw2)
              have HT1 := Lib.hid (HS1.out.kp k6 hF1 hc12)
              have HX6 := Lib.hid (HX5.out.rkp k6 HS2.out)
              have HY6 := Lib.hid e6
              have HT2 := Lib.hid r6
              clear k6 r6 e6 HS1 HS2 HE5 HX5
              obtain ⟨t5, y5, rfl⟩ := HX6.out.ne
              go_wp2_with fail
              refine (first3_any _ (hg.ext HE6.out)).mono ?_; rintro e w7 ⟨rfl, hx7⟩
              go_wp2
              go_ret
              exact ⟨rfl, HE6.out.trans hx7⟩
            | none =>
              have h2 := rgG_less hR
              obtain ⟨-, V, rfl, hV, -⟩ := rgG_code (Nat.zero_le _) hR
              have U1 := V1
              have U2 := Lib.hid (V2.out ((V : Int) - 1))
              rw [h2] at U2
              have j1 : IntKind.i64.wrap ((V : Int) - 1) = (V : Int) - 1 := by rw [IntKind.wrap_i64]; omega
              have j2 : (V : Int) ≤ 1073741824 := by omega
              clear V1 V2 hR h2
              go_wp2_with fail
              refine (U1.out _ HR1.out).mono ?_; rintro e w5 ⟨x5, rfl, k5, r5, e5⟩
              have HE5 := Lib.hid (Kp.out HE.out k5 hw1)
              have HS2 := Lib.hid (HR2.out.kp k5 hF2 hc21)
              have HX5 := Lib.hid e5
              have HS1 := Lib.hid r5
              clear k5 r5 e5 HR1 HR2 HE
              go_wp2_with fail
              refine (U2.out _ HS2.out).mono ?_; rintro e w6 ⟨x6, rfl, k6, r6, e6⟩
              have HE6 := Lib.hid (Kp.out HE5.out k6 hw2)
              have HT1 := Lib.hid (HS1.out.kp k6 hF1 hc12)
              have HX6 := Lib.hid (HX5.out.rkp k6 HS2.out)
              have HY6 := Lib.hid e6
              have HT2 := Lib.hid r6
              clear k6 r6 e6 HS1 HS2 HE5 HX5
              obtain rfl : x5 = .nilIface := HX6.out
              obtain ⟨t6, y6, rfl⟩ := HY6.out.ne
              go_wp2_with fail
              refine (first3_any _ (hg.ext HE6.out)).mono ?_; rintro e w7 ⟨rfl, hx7⟩
              have HE7 := Lib.hid (HE6.out.trans hx7)
              have HV2 := Lib.hid (HT2.out.ext hx7)
              have HV1 := Lib.hid (HT1.out.ext hx7)
              have HY7 := Lib.hid (HY6.out.ext hx7)
              clear hx7 HE6 HT2 HT1 HY6 HX6
              go_wp2_with fail
              refine (place_any c2 q bs _ HV2.out).mono ?_; rintro e w8 ⟨rfl, rfl⟩
              go_wp2_with fail
              refine (wrap_any codesS (q : Int) 3 _ (by decide)).mono ?_; rintro e w9 ⟨u9, rfl, ho9, hx9⟩
              obtain ⟨va, vc, rfl⟩ : ∃ va vc, u9 = .slice va 1 vc := by
                rcases ho9.2 with ⟨-, h0⟩ | ⟨g, cap, cur, rfl, -⟩
                · cases h0
                · exact ⟨_, _, rfl⟩
              have HO9 := Lib.hid (Row.of_owns ho9)
              have HE9 := Lib.hid (HE7.out.trans hx9)
              have HV92 := Lib.hid (HV2.out.ext hx9)
              have HV91 := Lib.hid (HV1.out.ext hx9)
              have HY9 := Lib.hid (HY7.out.ext hx9)
              clear hx9 ho9 HE7 HV2 HV1 HY7
              go_wp2_with fail
              refine (same_fall (some ([(codesS, (q : Int))], 3)) _ _ _ _ (hg.ext HE9.out) HY9.out ⟨rfl, by decide, HO9.out⟩).mono ?_; rintro e wD ⟨rfl, hxD⟩
              have HVD2 := Lib.hid (HV92.out.ext hxD)
              have HVD1 := Lib.hid (HV91.out.ext hxD)
              have HED := Lib.hid (HE9.out.trans hxD)
              clear hxD HV92 HV91 HE9 HY9 HO9
              go_wp2_with fail
              refine (place_any c1 q bs _ HVD1.out).mono ?_; rintro e w8 ⟨rfl, rfl⟩
              go_wp2_with fail
              refine (place_any c2 q bs _ HVD2.out).mono ?_; rintro e w8 ⟨rfl, rfl⟩
              go_wp2
              go_ret
              exact ⟨rfl, HED.out⟩
  · have t1 : (20000 : Int) < (n : Int) := by omega
    clear rb hn
    go_enter Tryd.func9, Tryd.ntmps9
    go_wp2_with fail
    refine (first3_any _ hg).mono ?_; rintro e w1 ⟨rfl, hx1⟩
    go_wp2_with fail
    refine (first3_any _ (hg.ext hx1)).mono ?_; rintro e w2 ⟨rfl, hx2⟩
    go_wp2
    go_ret
    exact ⟨rfl, hx1.trans hx2⟩
theorem RdAt.wkpB {F : Nat → Prop} {w w' : World} {b B c p : Nat} {bs : List Nat} (h : RdAt F w c bs p) (k : WKp b B w w') (hF : ∀ g, B ≤ g → F g) (hfb : F b) (hcB : c < B) (hc : c ≠ b) : RdAt F w' c bs p := by
  obtain ⟨a, cap, ⟨h0, h1, h2⟩, h3, h4⟩ := h
  have e := k.2.2 c (Ext.lt (p := ⟨c, 0, none⟩) h0) hc (.inl hcB)
  refine ⟨a, cap, ⟨(World.cell?_of_block (a := ⟨c, 0, none⟩) e).trans h0, (World.cell?_of_block (a := ⟨c, 1, none⟩) e).trans h1, (World.frozen?_of_block (a := ⟨c, 1, none⟩) e).trans h2⟩, ⟨?_, h3.2⟩, h4⟩
  obtain ⟨a', cap', e', g1, g2, g3, g4⟩ := h3.1
  simp only [Value.slice.injEq] at e'
  obtain ⟨rfl, -, rfl⟩ := e'
  refine ⟨a, cap, rfl, g1, g2, g3, fun g off ha j u hu => ?_⟩
  have hg := (h4 g off ha).2
  have c0 := g4 g off ha j u hu
  have hgB : g < B := by
    rcases Nat.lt_or_ge g B with h | h
    · exact h
    · exact absurd (hF g h) hg
  exact (World.cell?_of_block (k.2.2 g (Ext.lt c0) (fun e => hg (e ▸ hfb)) (.inl hgB))).trans c0
theorem WrAt.kpc {w w' : World} {b B c : Nat} {l : List Bool} (h : WrAt w b B l) (k : Kp c w w') (hcb : b ≠ c) (hcB : c < B) : WrAt w' b B l := by
  obtain ⟨v, h1, h2, h3, h4⟩ := h
  refine ⟨v, h1.same (k.block (Ext.lt (p := ⟨b, 0, none⟩) h1.1.1) hcb), h2.kept k ?_, ⟨h3.1, Nat.le_trans h3.2 k.size⟩, h4⟩
  cases hv : v.ownBlock with
  | none => exact .inl rfl
  | some k => exact .inr (fun e => by have := (h2.lt k hv).1; simp only [Option.some.injEq] at e; omega)
/-- bits read, put, and read again -/
theorem one_bits {bs : List Nat} {L : List Bool} (h : L = bsOf (nmN bs 0 L.length) L.length) {i : Nat} (hi : i < L.length) : (btN bs i == 1) = L.getD i false ∧ (btN (pkL L) i == 1) = L.getD i false := by
  have e1 : bL L i = btN bs i := by
    have := bs_read_bit bs 0 L.length i hi
    rw [← h, Nat.zero_add] at this
    exact this
  have e2 : btN (pkL L) i = bL L i := bt_pk L i (by omega)
  have e3 : (bL L i == 1) = L.getD i false := by unfold bL; cases L.getD i false <;> rfl
  exact ⟨by rw [← e1]; exact e3, by rw [e2]; exact e3⟩
set_option maxHeartbeats 8000000 in
set_option maxRecDepth 20000 in
theorem one_law (bs : List Nat) (v : Value) (k kind : Int) (w : World) (hg : EtIs w) (rb : Row w v bs.length (bs.map fun x : Nat => Value.int .u8 (x : Int))) (hb : ∀ x ∈ bs, x < 256) :
    Calls Tryd.prog 11 #[v, .int .i64 k, .int .i64 kind] w fun e w' => e = .returned (.bool true) ∧ Ext w w' := by
  obtain ⟨a, n, cap, rfl⟩ : ∃ a n cap, v = .slice a n cap := by obtain ⟨a, cap, e, -⟩ := rb; exact ⟨a, _, cap, e⟩
  have hn : n = bs.length := by obtain ⟨a', cap', e, -⟩ := rb; simp only [Value.slice.injEq] at e; exact e.2.1
  by_cases hl : n ≤ 20000
  · by_cases hk1 : k < 0
    · have t1 : ¬ (20000 : Int) < (n : Int) := by omega
      clear rb hn
      go_enter Tryd.func11, Tryd.ntmps11
      go_wp2_with fail
      refine (first3_any _ hg).mono ?_; rintro e w1 ⟨rfl, hx1⟩
      go_wp2_with fail
      refine (first3_any _ (hg.ext hx1)).mono ?_; rintro e w2 ⟨rfl, hx2⟩
      go_wp2
      go_ret
      exact ⟨rfl, hx1.trans hx2⟩
    · by_cases hk2 : 15 < k
      · have t1 : ¬ (20000 : Int) < (n : Int) := by omega
        clear rb hn
        go_enter Tryd.func11, Tryd.ntmps11
        go_wp2_with fail
        refine (first3_any _ hg).mono ?_; rintro e w1 ⟨rfl, hx1⟩
        go_wp2_with fail
        refine (first3_any _ (hg.ext hx1)).mono ?_; rintro e w2 ⟨rfl, hx2⟩
        go_wp2
        go_ret
        exact ⟨rfl, hx1.trans hx2⟩
      · have HB := Lib.hid (show Bys w (.slice a n cap) bs from ⟨rb, hb, by omega⟩)
        have t1 : ¬ (20000 : Int) < (n : Int) := by omega
        clear rb hb hn
        go_enter Tryd.func11, Tryd.ntmps11
        go_wp2_with fail
        refine (first3_any _ hg).mono ?_; rintro e w1 ⟨rfl, hx1⟩
        go_wp2_with fail
        refine (newrd_any bs _ _ (HB.out.ext hx1)).mono ?_; rintro e w2 ⟨c1, rfl, hc1, r1, hx2⟩
        go_wp2_with fail
        refine (newwr_any _).mono ?_; rintro e w3 ⟨b, rfl, hb3, hw3, hx3⟩
        go_wp2_with fail
        refine (newrd_any bs _ _ (HB.out.ext (hx1.trans (hx2.trans hx3)))).mono ?_; rintro e w4 ⟨c2, rfl, hc2, r2, hx4⟩
        have hl1 := r1.lt
        have hl2 := r2.lt
        have hlb : b < w3.heap.size := Ext.lt (p := ⟨b, 0, none⟩) hw3.1.1
        have s1 := hx1.size
        have s2 := hx2.size
        have s3 := hx3.size
        have s4 := hx4.size
        have hw1 : w.heap.size ≤ c1 := by omega
        have hw2 : w.heap.size ≤ c2 := by omega
        have hwb : w.heap.size ≤ b := by omega
        have hc21 : c2 ≠ c1 := by omega
        have hbc : b ≠ c1 := by omega
        have hcb : c1 ≠ b := by omega
        have hc2b : c2 ≠ b := by omega
        have hF21 : c1 < w3.heap.size ∨ w4.heap.size ≤ c1 := .inl (by omega)
        have hF2b : b < w3.heap.size ∨ w4.heap.size ≤ b := .inl hlb
        have hF1b : b < w1.heap.size ∨ w2.heap.size ≤ b := .inr hb3
        have HW := Lib.hid (WrAt.new (B := w4.heap.size) (hw3.ext hx4) (by omega) (Nat.le_refl _))
        have hF1' : ∀ g, w4.heap.size ≤ g → g < w1.heap.size ∨ w2.heap.size ≤ g := fun g h => .inr (by omega)
        have hF2' : ∀ g, w4.heap.size ≤ g → g < w3.heap.size ∨ w4.heap.size ≤ g := fun g h => .inr h
        have HR1 := Lib.hid (r1.ext (hx3.trans hx4))
        have HR2 := Lib.hid r2
        have HE := Lib.hid (hx1.trans (hx2.trans (hx3.trans hx4)))
        clear r1 r2 hx1 hx2 hx3 hx4 hw3
        obtain ⟨B, hBB⟩ : ∃ B, w4.heap.size = B := ⟨_, rfl⟩
        have hc1B : c1 < B := by omega
        have hc2B : c2 < B := by omega
        have hbB : b < B := by omega
        have hwB : w.heap.size ≤ B := by omega
        have hF1 : ∀ g, B ≤ g → g < w1.heap.size ∨ w2.heap.size ≤ g := by rw [← hBB]; exact hF1'
        have hF2 : ∀ g, B ≤ g → g < w3.heap.size ∨ w4.heap.size ≤ g := by rw [← hBB]; exact hF2'
        have HW' : Hid (WrAt w4 b B []) := by show WrAt _ _ _ _; rw [← hBB]; exact HW.out
        clear HW hF1' hF2' hBB hc1 hb3 hc2 hl1 hl2 hlb s1 s2 s3 s4
        have HW := HW'
        clear HW'
        by_cases h0 : kind = 0
        · subst h0
          have U1 := Lib.hid (fun w' (h : RdAt (fun g => g < w1.heap.size ∨ w2.heap.size ≤ g) w' c1 bs 0) => getue_any c1 0 1073741824 bs w' h (Nat.zero_le _))
          have V2 := Lib.hid (fun v w' (h : WrAt w' b B []) => putue_any b B v [] w' h (by decide))
          obtain ⟨R, hR⟩ : ∃ R, ugG bs 0 1073741824 = R := ⟨_, rfl⟩
          rw [hR] at U1
          obtain ⟨f, v, q⟩ := R
          cases f with
          | some y =>
            obtain rfl := ugG_err hR
            have U2 := Lib.hid (V2.out 0)
            clear V2 hR
            go_wp2_with fail
            refine (U1.out _ HR1.out).mono ?_; rintro e w5 ⟨x5, rfl, k5, r5, e5⟩
            have HE5 := Lib.hid (Kp.out HE.out k5 hw1)
            have HS2 := Lib.hid (HR2.out.kp k5 hF21 hc21)
            have HW5 := Lib.hid (HW.out.kpc k5 hbc hc1B)
            have HX5 := Lib.hid e5
            have HS1 := Lib.hid r5
            clear k5 r5 e5 HR1 HR2 HE HW
            go_wp2_with fail
            refine (U2.out _ HW5.out).mono ?_; rintro e w6 ⟨x6, rfl, h6, k6, e6⟩
            have HE6 := Lib.hid (WKp.out HE5.out k6 hwb hwB)
            obtain ⟨t5, y5, rfl⟩ := HX5.out.ne
            clear h6 k6 e6
            go_wp2_with fail
            refine (first3_any _ (hg.ext HE6.out)).mono ?_; rintro e w7 ⟨rfl, hx7⟩
            go_wp2
            go_ret
            exact ⟨rfl, HE6.out.trans hx7⟩
          | none =>
            obtain ⟨V, rfl, hV, -, -, hI, hq, hq8⟩ := ugG_code hR
            have hok : ueOk (V : Int) := ⟨by omega, by omega⟩
            have hF : cuF (V : Int) = none := by unfold cuF; rw [if_pos hok]
            have hL : cuL [] (V : Int) = ueL V := by unfold cuL; rw [if_pos hok]; rfl
            have HL := Lib.hid hI.bits
            have hLb : (ueL V).length ≤ 61 := by have := szUe_yes hok; rw [this.1] at this; simp only [Int.toNat_natCast] at this; omega
            have HQ : Hid (q = (ueL V).length ∧ q ≤ 8 * bs.length) := ⟨by omega, hq8⟩
            have U2 := Lib.hid (V2.out (V : Int))
            rw [hF, hL] at U2
            generalize ueL V = L at U2 HL hLb HQ
            clear V2 hR hI hq hq8 hok hF hL
            go_wp2_with fail
            refine (U1.out _ HR1.out).mono ?_; rintro e w5 ⟨x5, rfl, k5, r5, e5⟩
            have HE5 := Lib.hid (Kp.out HE.out k5 hw1)
            have HS2 := Lib.hid (HR2.out.kp k5 hF21 hc21)
            have HW5 := Lib.hid (HW.out.kpc k5 hbc hc1B)
            have HX5 := Lib.hid e5
            have HS1 := Lib.hid r5
            clear k5 r5 e5 HR1 HR2 HE HW
            go_wp2_with fail
            refine (U2.out _ HW5.out).mono ?_; rintro e w6 ⟨x6, rfl, h6, k6, e6⟩
            have HE6 := Lib.hid (WKp.out HE5.out k6 hwb hwB)
            -- HL : L = bsOf .., HQ : q = L.length ∧ q ≤ 8 * bs.length, hLb : L.length ≤ 61; e6 : none
            obtain rfl : x5 = .nilIface := HX5.out
            obtain rfl : x6 = .nilIface := e6
            have HT1 := Lib.hid (HS1.out.wkpB k6 hF1 hF1b hc1B hcb)
            have HT2 := Lib.hid (HS2.out.wkpB k6 hF2 hF2b hc2B hc2b)
            have HW6 := Lib.hid h6
            clear h6 k6 HS1 HS2 HW5 HE5 HX5 U1 U2
            go_wp2_with fail
            refine (wbytes_any b B L _ HW6.out).mono ?_; rintro e w7 ⟨u7, rfl, ho7, hx7⟩
            have HY7 := Lib.hid (Bys.of_owns ho7 (pkL_lt L) (by rw [pkL_length]; omega))
            clear ho7
            go_wp2_with fail
            refine (newrd_any (pkL L) _ _ HY7.out).mono ?_; rintro e w8 ⟨c3, rfl, hc3, r8, hx8⟩
            have hx78 := hx7.trans hx8
            have hB6 : B ≤ w6.heap.size := by obtain ⟨_, _, _, hB, _⟩ := HW6.out; exact hB.2
            have h67 : w6.heap.size ≤ w7.heap.size := hx7.size
            have HW8 := Lib.hid (HW6.out.ext hx78)
            have HT18 := Lib.hid (HT1.out.ext hx78)
            have HT28 := Lib.hid (HT2.out.ext hx78)
            have HE8 := Lib.hid (HE6.out.trans hx78)
            have HR8 := Lib.hid r8
            have hw3 : w.heap.size ≤ c3 := by have := HE6.out.size; omega
            have hc32 : c3 ≠ c2 := by omega
            have hc23 : c2 ≠ c3 := by omega
            have hF23 := hF2 c3 (by omega)
            have hF32 : c2 < w7.heap.size ∨ w8.heap.size ≤ c2 := .inl (by omega)
            obtain ⟨m, hm⟩ : ∃ m, L.length = m := ⟨_, rfl⟩
            have hbx : ∃ u, WrBox w8 b u m := by obtain ⟨v, h1, -⟩ := HW8.out; exact ⟨v, by rw [← hm]; exact h1⟩
            obtain ⟨uv, hbx⟩ := hbx
            have HBX := Lib.hid hbx
            have HQm : Hid (q = m) := by show _ = _; rw [← hm]; exact HQ.out.1
            have HM := Lib.hid hm
            clear hx7 hx8 hx78 r8 hbx HT1 HT2 HE6 HY7 HW6
            have WL := Lib.hid (fun w' (h : WrBox w' b uv m) => wrlen_box b m uv w' h)
            go_wp2_with fail
            refine (WL.out _ HBX.out).mono ?_; rintro e w9 ⟨rfl, rfl⟩
            go_wp2_with fail
            refine (place_any c1 q bs _ HT18.out).mono ?_; rintro e w9 ⟨rfl, rfl⟩
            rw [HQm.out]
            go_wp2_with fail
            go_loopw [14] (fun iv wr => ∃ i : Nat, i ≤ m ∧ iv = .int .i64 (i : Int) ∧ Hid (RdAt (fun g => g < w7.heap.size ∨ w8.heap.size ≤ g) wr c3 (pkL L) i) ∧ Hid (RdAt (fun g => g < w3.heap.size ∨ w4.heap.size ≤ g) wr c2 bs i) ∧ Hid (WrBox wr b uv m) ∧ Hid (Ext w wr)) (fun iv _ => m - (intOf iv).toNat)
            case atStart => exact ⟨0, Nat.zero_le _, rfl, HR8.out, HT28.out, HBX.out, HE8.out⟩
            case round =>
              clear HR8 HT28 HBX HE8 HT18 HW8
              obtain ⟨i, hi, rfl, HRa, HRb, HBX, HE⟩ := hrel
              go_wp2_with fail
              refine (WL.out _ HBX.out).mono ?_; rintro e w9 ⟨rfl, rfl⟩
              by_cases him : i < m
              · obtain ⟨o1, o2⟩ := one_bits HL.out (i := i) (by rw [HM.out]; exact him)
                obtain ⟨x, hx⟩ : ∃ x, L.getD i false = x := ⟨_, rfl⟩
                rw [hx] at o1 o2
                have FA := Lib.hid (flag_bit c3 i x (pkL L) _ HRa.out (by rw [pkL_length, HM.out]; omega) o2)
                clear hx o2
                have him2 : (i : Int) < (m : Int) := by omega
                have hq8 : i < 8 * bs.length := by have h1 := HQ.out.2; have h2 := HQm.out; omega
                have OB := Lib.hid (fun w' (h : RdAt (fun g => g < w3.heap.size ∨ w4.heap.size ≤ g) w' c2 bs i) => flag_bit c2 i x bs w' h hq8 o1)
                clear o1 hq8
                go_wp2_with fail
                refine (FA.out).mono ?_; rintro e wa ⟨xa, rfl, ka, ra, ea⟩
                obtain rfl : xa = .nilIface := ea
                have HEa := Lib.hid (Kp.out HE.out ka hw3)
                have HRba := Lib.hid (HRb.out.kp ka hF23 hc23)
                have HBXa := Lib.hid (HBX.out.same (ka.block (Ext.lt (p := ⟨b, 0, none⟩) HBX.out.1.1) (by omega)))
                have HRaa := Lib.hid ra
                clear ka ra
                go_wp2_with fail
                refine (OB.out _ HRba.out).mono ?_; rintro e wb ⟨xb, rfl, kb, rb, eb⟩
                obtain rfl : xb = .nilIface := eb
                have HEb := Lib.hid (Kp.out HEa.out kb hw2)
                have HRab := Lib.hid (HRaa.out.kp kb hF32 hc32)
                have HBXb := Lib.hid (HBXa.out.same (kb.block (Ext.lt (p := ⟨b, 0, none⟩) HBXa.out.1.1) (by omega)))
                have HRbb := Lib.hid rb
                clear kb rb
                have xx : (x != x) = false := by simp
                go_wp2
                go_roundw
                case rel => exact ⟨i + 1, by omega, by go_num, HRab.out, HRbb.out, HBXb.out, HEb.out⟩
                case measure => simp [intOf]; omega
              · obtain rfl : i = m := by omega
                go_wp2_with fail
                refine (first3_any _ (hg.ext HE.out)).mono ?_; rintro e w9 ⟨rfl, hx9⟩
                go_wp2
                go_ret
                exact ⟨rfl, HE.out.trans hx9⟩
        · by_cases h1 : kind = 1
          · subst h1
            have U1 := Lib.hid (fun w' (h : RdAt (fun g => g < w1.heap.size ∨ w2.heap.size ≤ g) w' c1 bs 0) => getse_any c1 0 536870912 bs w' h (Nat.zero_le _))
            have V2 := Lib.hid (fun v w' (h : WrAt w' b B []) => putse_any b B v [] w' h (by decide))
            obtain ⟨R, hR⟩ : ∃ R, sgG bs 0 536870912 = R := ⟨_, rfl⟩
            rw [hR] at U1
            obtain ⟨f, v, q⟩ := R
            cases f with
            | some y =>
              obtain rfl := sgG_err hR
              have U2 := Lib.hid (V2.out 0)
              clear V2 hR
              go_wp2_with fail
              refine (U1.out _ HR1.out).mono ?_; rintro e w5 ⟨x5, rfl, k5, r5, e5⟩
              have HE5 := Lib.hid (Kp.out HE.out k5 hw1)
              have HS2 := Lib.hid (HR2.out.kp k5 hF21 hc21)
              have HW5 := Lib.hid (HW.out.kpc k5 hbc hc1B)
              have HX5 := Lib.hid e5
              have HS1 := Lib.hid r5
              clear k5 r5 e5 HR1 HR2 HE HW
              go_wp2_with fail
              refine (U2.out _ HW5.out).mono ?_; rintro e w6 ⟨x6, rfl, h6, k6, e6⟩
              have HE6 := Lib.hid (WKp.out HE5.out k6 hwb hwB)
              obtain ⟨t5, y5, rfl⟩ := HX5.out.ne
              clear h6 k6 e6
              go_wp2_with fail
              refine (first3_any _ (hg.ext HE6.out)).mono ?_; rintro e w7 ⟨rfl, hx7⟩
              go_wp2
              go_ret
              exact ⟨rfl, HE6.out.trans hx7⟩
            | none =>
              obtain ⟨V, hv, hV, hab, -, -, hI, hq, hq8⟩ := sgG_code hR
              have hab2 := abs_le.1 hab
              have hok : seOk v := ⟨by omega, by omega⟩
              have hfu : foldI v = (V : Int) := by rw [hv]; exact fold_unfold (by omega)
              have hF : csF v = none := by unfold csF; rw [if_pos hok]
              have hL : csL [] v = ueL V := by unfold csL; rw [if_pos hok, hfu]; rfl
              have HL := Lib.hid hI.bits
              have hok2 : ueOk (V : Int) := by rw [← hfu]; exact fold_ok hok
              have hLb : (ueL V).length ≤ 61 := by have := szUe_yes hok2; rw [this.1] at this; simp only [Int.toNat_natCast] at this; omega
              have HQ : Hid (q = (ueL V).length ∧ q ≤ 8 * bs.length) := ⟨by omega, hq8⟩
              have U2 := Lib.hid (V2.out v)
              rw [hF, hL] at U2
              generalize ueL V = L at U2 HL hLb HQ
              clear V2 hR hI hq hq8 hok hF hL hv hab hab2 hfu hok2
              go_wp2_with fail
              refine (U1.out _ HR1.out).mono ?_; rintro e w5 ⟨x5, rfl, k5, r5, e5⟩
              have HE5 := Lib.hid (Kp.out HE.out k5 hw1)
              have HS2 := Lib.hid (HR2.out.kp k5 hF21 hc21)
              have HW5 := Lib.hid (HW.out.kpc k5 hbc hc1B)
              have HX5 := Lib.hid e5
              have HS1 := Lib.hid r5
              clear k5 r5 e5 HR1 HR2 HE HW
              go_wp2_with fail
              refine (U2.out _ HW5.out).mono ?_; rintro e w6 ⟨x6, rfl, h6, k6, e6⟩
              have HE6 := Lib.hid (WKp.out HE5.out k6 hwb hwB)
              -- HL : L = bsOf .., HQ : q = L.length ∧ q ≤ 8 * bs.length, hLb : L.length ≤ 61; e6 : none
              obtain rfl : x5 = .nilIface := HX5.out
              obtain rfl : x6 = .nilIface := e6
              have HT1 := Lib.hid (HS1.out.wkpB k6 hF1 hF1b hc1B hcb)
              have HT2 := Lib.hid (HS2.out.wkpB k6 hF2 hF2b hc2B hc2b)
              have HW6 := Lib.hid h6
              clear h6 k6 HS1 HS2 HW5 HE5 HX5 U1 U2
              go_wp2_with fail
              refine (wbytes_any b B L _ HW6.out).mono ?_; rintro e w7 ⟨u7, rfl, ho7, hx7⟩
              have HY7 := Lib.hid (Bys.of_owns ho7 (pkL_lt L) (by rw [pkL_length]; omega))
              clear ho7
              go_wp2_with fail
              refine (newrd_any (pkL L) _ _ HY7.out).mono ?_; rintro e w8 ⟨c3, rfl, hc3, r8, hx8⟩
              have hx78 := hx7.trans hx8
              have hB6 : B ≤ w6.heap.size := by obtain ⟨_, _, _, hB, _⟩ := HW6.out; exact hB.2
              have h67 : w6.heap.size ≤ w7.heap.size := hx7.size
              have HW8 := Lib.hid (HW6.out.ext hx78)
              have HT18 := Lib.hid (HT1.out.ext hx78)
              have HT28 := Lib.hid (HT2.out.ext hx78)
              have HE8 := Lib.hid (HE6.out.trans hx78)
              have HR8 := Lib.hid r8
              have hw3 : w.heap.size ≤ c3 := by have := HE6.out.size; omega
              have hc32 : c3 ≠ c2 := by omega
              have hc23 : c2 ≠ c3 := by omega
              have hF23 := hF2 c3 (by omega)
              have hF32 : c2 < w7.heap.size ∨ w8.heap.size ≤ c2 := .inl (by omega)
              obtain ⟨m, hm⟩ : ∃ m, L.length = m := ⟨_, rfl⟩
              have hbx : ∃ u, WrBox w8 b u m := by obtain ⟨v, h1, -⟩ := HW8.out; exact ⟨v, by rw [← hm]; exact h1⟩
              obtain ⟨uv, hbx⟩ := hbx
              have HBX := Lib.hid hbx
              have HQm : Hid (q = m) := by show _ = _; rw [← hm]; exact HQ.out.1
              have HM := Lib.hid hm
              clear hx7 hx8 hx78 r8 hbx HT1 HT2 HE6 HY7 HW6
              have WL := Lib.hid (fun w' (h : WrBox w' b uv m) => wrlen_box b m uv w' h)
              go_wp2_with fail
              refine (WL.out _ HBX.out).mono ?_; rintro e w9 ⟨rfl, rfl⟩
              go_wp2_with fail
              refine (place_any c1 q bs _ HT18.out).mono ?_; rintro e w9 ⟨rfl, rfl⟩
              rw [HQm.out]
              go_wp2_with fail
              go_loopw [14] (fun iv wr => ∃ i : Nat, i ≤ m ∧ iv = .int .i64 (i : Int) ∧ Hid (RdAt (fun g => g < w7.heap.size ∨ w8.heap.size ≤ g) wr c3 (pkL L) i) ∧ Hid (RdAt (fun g => g < w3.heap.size ∨ w4.heap.size ≤ g) wr c2 bs i) ∧ Hid (WrBox wr b uv m) ∧ Hid (Ext w wr)) (fun iv _ => m - (intOf iv).toNat)
              case atStart => exact ⟨0, Nat.zero_le _, rfl, HR8.out, HT28.out, HBX.out, HE8.out⟩
              case round =>
                clear HR8 HT28 HBX HE8 HT18 HW8
                obtain ⟨i, hi, rfl, HRa, HRb, HBX, HE⟩ := hrel
                go_wp2_with fail
                refine (WL.out _ HBX.out).mono ?_; rintro e w9 ⟨rfl, rfl⟩
                by_cases him : i < m
                · obtain ⟨o1, o2⟩ := one_bits HL.out (i := i) (by rw [HM.out]; exact him)
                  obtain ⟨x, hx⟩ : ∃ x, L.getD i false = x := ⟨_, rfl⟩
                  rw [hx] at o1 o2
                  have FA := Lib.hid (flag_bit c3 i x (pkL L) _ HRa.out (by rw [pkL_length, HM.out]; omega) o2)
                  clear hx o2
                  have him2 : (i : Int) < (m : Int) := by omega
                  have hq8 : i < 8 * bs.length := by have h1 := HQ.out.2; have h2 := HQm.out; omega
                  have OB := Lib.hid (fun w' (h : RdAt (fun g => g < w3.heap.size ∨ w4.heap.size ≤ g) w' c2 bs i) => flag_bit c2 i x bs w' h hq8 o1)
                  clear o1 hq8
                  go_wp2_with fail
                  refine (FA.out).mono ?_; rintro e wa ⟨xa, rfl, ka, ra, ea⟩
                  obtain rfl : xa = .nilIface := ea
                  have HEa := Lib.hid (Kp.out HE.out ka hw3)
                  have HRba := Lib.hid (HRb.out.kp ka hF23 hc23)
                  have HBXa := Lib.hid (HBX.out.same (ka.block (Ext.lt (p := ⟨b, 0, none⟩) HBX.out.1.1) (by omega)))
                  have HRaa := Lib.hid ra
                  clear ka ra
                  go_wp2_with fail
                  refine (OB.out _ HRba.out).mono ?_; rintro e wb ⟨xb, rfl, kb, rb, eb⟩
                  obtain rfl : xb = .nilIface := eb
                  have HEb := Lib.hid (Kp.out HEa.out kb hw2)
                  have HRab := Lib.hid (HRaa.out.kp kb hF32 hc32)
                  have HBXb := Lib.hid (HBXa.out.same (kb.block (Ext.lt (p := ⟨b, 0, none⟩) HBXa.out.1.1) (by omega)))
                  have HRbb := Lib.hid rb
                  clear kb rb
                  have xx : (x != x) = false := by simp
                  go_wp2
                  go_roundw
                  case rel => exact ⟨i + 1, by omega, by go_num, HRab.out, HRbb.out, HBXb.out, HEb.out⟩
                  case measure => simp [intOf]; omega
                · obtain rfl : i = m := by omega
                  go_wp2_with fail
                  refine (first3_any _ (hg.ext HE.out)).mono ?_; rintro e w9 ⟨rfl, hx9⟩
                  go_wp2
                  go_ret
                  exact ⟨rfl, HE.out.trans hx9⟩
          · have U1 := Lib.hid (fun w' (h : RdAt (fun g => g < w1.heap.size ∨ w2.heap.size ≤ g) w' c1 bs 0) => getri_any c1 0 k 1073741824 bs w' h (Nat.zero_le _))
            have V2 := Lib.hid (fun v w' (h : WrAt w' b B []) => putri_any b B v k [] w' h (by decide))
            obtain ⟨R, hR⟩ : ∃ R, rgG bs 0 k 1073741824 = R := ⟨_, rfl⟩
            rw [hR] at U1
            obtain ⟨f, v, q⟩ := R
            cases f with
            | some y =>
              obtain rfl := rgG_err hR
              have U2 := Lib.hid (V2.out 0)
              clear V2 hR
              go_wp2_with fail
              refine (U1.out _ HR1.out).mono ?_; rintro e w5 ⟨x5, rfl, k5, r5, e5⟩
              have HE5 := Lib.hid (Kp.out HE.out k5 hw1)
              have HS2 := Lib.hid (HR2.out.kp k5 hF21 hc21)
              have HW5 := Lib.hid (HW.out.kpc k5 hbc hc1B)
              have HX5 := Lib.hid e5
              have HS1 := Lib.hid r5
              clear k5 r5 e5 HR1 HR2 HE HW
              go_wp2_with fail
              refine (U2.out _ HW5.out).mono ?_; rintro e w6 ⟨x6, rfl, h6, k6, e6⟩
              have HE6 := Lib.hid (WKp.out HE5.out k6 hwb hwB)
              obtain ⟨t5, y5, rfl⟩ := HX5.out.ne
              clear h6 k6 e6
              go_wp2_with fail
              refine (first3_any _ (hg.ext HE6.out)).mono ?_; rintro e w7 ⟨rfl, hx7⟩
              go_wp2
              go_ret
              exact ⟨rfl, HE6.out.trans hx7⟩
            | none =>
              obtain ⟨hk, V, rfl, hV, -, hI, hq, hq8⟩ := rgG_code (Nat.zero_le _) hR
              have hok : riOk (V : Int) k := ⟨⟨by omega, by omega⟩, hk⟩
              have hF : crF (V : Int) k = none := by unfold crF; rw [if_pos hok]
              have hL : crL [] (V : Int) k = riL V k.toNat := by unfold crL; rw [if_pos hok]; rfl
              have HL := Lib.hid hI.bits
              have hLb : (riL V k.toNat).length ≤ 61 := by have := szRi_yes hok; rw [this.1] at this; simp only [Int.toNat_natCast] at this; omega
              have HQ : Hid (q = (riL V k.toNat).length ∧ q ≤ 8 * bs.length) := ⟨by omega, hq8⟩
              have U2 := Lib.hid (V2.out (V : Int))
              rw [hF, hL] at U2
              generalize riL V k.toNat = L at U2 HL hLb HQ
              clear V2 hR hI hq hq8 hok hF hL
              go_wp2_with fail
              refine (U1.out _ HR1.out).mono ?_; rintro e w5 ⟨x5, rfl, k5, r5, e5⟩
              have HE5 := Lib.hid (Kp.out HE.out k5 hw1)
              have HS2 := Lib.hid (HR2.out.kp k5 hF21 hc21)
              have HW5 := Lib.hid (HW.out.kpc k5 hbc hc1B)
              have HX5 := Lib.hid e5
              have HS1 := Lib.hid r5
              clear k5 r5 e5 HR1 HR2 HE HW
              go_wp2_with fail
              refine (U2.out _ HW5.out).mono ?_; rintro e w6 ⟨x6, rfl, h6, k6, e6⟩
              have HE6 := Lib.hid (WKp.out HE5.out k6 hwb hwB)
              -- HL : L = bsOf .., HQ : q = L.length ∧ q ≤ 8 * bs.length, hLb : L.length ≤ 61; e6 : none
              obtain rfl : x5 = .nilIface := HX5.out
              obtain rfl : x6 = .nilIface := e6
              have HT1 := Lib.hid (HS1.out.wkpB k6 hF1 hF1b hc1B hcb)
              have HT2 := Lib.hid (HS2.out.wkpB k6 hF2 hF2b hc2B hc2b)
              have HW6 := Lib.hid h6
              clear h6 k6 HS1 HS2 HW5 HE5 HX5 U1 U2
              go_wp2_with fail
              refine (wbytes_any b B L _ HW6.out).mono ?_; rintro e w7 ⟨u7, rfl, ho7, hx7⟩
              have HY7 := Lib.hid (Bys.of_owns ho7 (pkL_lt L) (by rw [pkL_length]; omega))
              clear ho7
              go_wp2_with fail
              refine (newrd_any (pkL L) _ _ HY7.out).mono ?_; rintro e w8 ⟨c3, rfl, hc3, r8, hx8⟩
              have hx78 := hx7.trans hx8
              have hB6 : B ≤ w6.heap.size := by obtain ⟨_, _, _, hB, _⟩ := HW6.out; exact hB.2
              have h67 : w6.heap.size ≤ w7.heap.size := hx7.size
              have HW8 := Lib.hid (HW6.out.ext hx78)
              have HT18 := Lib.hid (HT1.out.ext hx78)
              have HT28 := Lib.hid (HT2.out.ext hx78)
              have HE8 := Lib.hid (HE6.out.trans hx78)
              have HR8 := Lib.hid r8
              have hw3 : w.heap.size ≤ c3 := by have := HE6.out.size; omega
              have hc32 : c3 ≠ c2 := by omega
              have hc23 : c2 ≠ c3 := by omega
              have hF23 := hF2 c3 (by omega)
              have hF32 : c2 < w7.heap.size ∨ w8.heap.size ≤ c2 := .inl (by omega)
              obtain ⟨m, hm⟩ : ∃ m, L.length = m := ⟨_, rfl⟩
              have hbx : ∃ u, WrBox w8 b u m := by obtain ⟨v, h1, -⟩ := HW8.out; exact ⟨v, by rw [← hm]; exact h1⟩
              obtain ⟨uv, hbx⟩ := hbx
              have HBX := Lib.hid hbx
              have HQm : Hid (q = m) := by show _ = _; rw [← hm]; exact HQ.out.1
              have HM := Lib.hid hm
              clear hx7 hx8 hx78 r8 hbx HT1 HT2 HE6 HY7 HW6
              have WL := Lib.hid (fun w' (h : WrBox w' b uv m) => wrlen_box b m uv w' h)
              go_wp2_with fail
              refine (WL.out _ HBX.out).mono ?_; rintro e w9 ⟨rfl, rfl⟩
              go_wp2_with fail
              refine (place_any c1 q bs _ HT18.out).mono ?_; rintro e w9 ⟨rfl, rfl⟩
              rw [HQm.out]
              go_wp2_with fail
              go_loopw [14] (fun iv wr => ∃ i : Nat, i ≤ m ∧ iv = .int .i64 (i : Int) ∧ Hid (RdAt (fun g => g < w7.heap.size ∨ w8.heap.size ≤ g) wr c3 (pkL L) i) ∧ Hid (RdAt (fun g => g < w3.heap.size ∨ w4.heap.size ≤ g) wr c2 bs i) ∧ Hid (WrBox wr b uv m) ∧ Hid (Ext w wr)) (fun iv _ => m - (intOf iv).toNat)
              case atStart => exact ⟨0, Nat.zero_le _, rfl, HR8.out, HT28.out, HBX.out, HE8.out⟩
              case round =>
                clear HR8 HT28 HBX HE8 HT18 HW8
                obtain ⟨i, hi, rfl, HRa, HRb, HBX, HE⟩ := hrel
                go_wp2_with fail
                refine (WL.out _ HBX.out).mono ?_; rintro e w9 ⟨rfl, rfl⟩
                by_cases him : i < m
                · obtain ⟨o1, o2⟩ := one_bits HL.out (i := i) (by rw [HM.out]; exact him)
                  obtain ⟨x, hx⟩ : ∃ x, L.getD i false = x := ⟨_, rfl⟩
                  rw [hx] at o1 o2
                  have FA := Lib.hid (flag_bit c3 i x (pkL L) _ HRa.out (by rw [pkL_length, HM.out]; omega) o2)
                  clear hx o2
                  have him2 : (i : Int) < (m : Int) := by omega
                  have hq8 : i < 8 * bs.length := by have h1 := HQ.out.2; have h2 := HQm.out; omega
                  have OB := Lib.hid (fun w' (h : RdAt (fun g => g < w3.heap.size ∨ w4.heap.size ≤ g) w' c2 bs i) => flag_bit c2 i x bs w' h hq8 o1)
                  clear o1 hq8
                  go_wp2_with fail
                  refine (FA.out).mono ?_; rintro e wa ⟨xa, rfl, ka, ra, ea⟩
                  obtain rfl : xa = .nilIface := ea
                  have HEa := Lib.hid (Kp.out HE.out ka hw3)
                  have HRba := Lib.hid (HRb.out.kp ka hF23 hc23)
                  have HBXa := Lib.hid (HBX.out.same (ka.block (Ext.lt (p := ⟨b, 0, none⟩) HBX.out.1.1) (by omega)))
                  have HRaa := Lib.hid ra
                  clear ka ra
                  go_wp2_with fail
                  refine (OB.out _ HRba.out).mono ?_; rintro e wb ⟨xb, rfl, kb, rb, eb⟩
                  obtain rfl : xb = .nilIface := eb
                  have HEb := Lib.hid (Kp.out HEa.out kb hw2)
                  have HRab := Lib.hid (HRaa.out.kp kb hF32 hc32)
                  have HBXb := Lib.hid (HBXa.out.same (kb.block (Ext.lt (p := ⟨b, 0, none⟩) HBXa.out.1.1) (by omega)))
                  have HRbb := Lib.hid rb
                  clear kb rb
                  have xx : (x != x) = false := by simp
                  go_wp2
                  go_roundw
                  case rel => exact ⟨i + 1, by omega, by go_num, HRab.out, HRbb.out, HBXb.out, HEb.out⟩
                  case measure => simp [intOf]; omega
                · obtain rfl : i = m := by omega
                  go_wp2_with fail
                  refine (first3_any _ (hg.ext HE.out)).mono ?_; rintro e w9 ⟨rfl, hx9⟩
                  go_wp2
                  go_ret
                  exact ⟨rfl, HE.out.trans hx9⟩
  · have t1 : (20000 : Int) < (n : Int) := by omega
    clear rb hn
    go_enter Tryd.func11, Tryd.ntmps11
    go_wp2_with fail
    refine (first3_any _ hg).mono ?_; rintro e w1 ⟨rfl, hx1⟩
    go_wp2_with fail
    refine (first3_any _ (hg.ext hx1)).mono ?_; rintro e w2 ⟨rfl, hx2⟩
    go_wp2
    go_ret
    exact ⟨rfl, hx1.trans hx2⟩
end Go.Proofs.YtehmgieocoppjaaDoor
