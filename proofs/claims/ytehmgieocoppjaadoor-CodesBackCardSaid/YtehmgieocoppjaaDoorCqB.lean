/- kinlaw3.CodesBack: the walk. -/
import Derived.Test.YtehmgieocoppjaaDoorCqO
import Derived.Deep.RegionHeld3
namespace Go.Proofs.YtehmgieocoppjaaDoor
set_option linter.unusedVariables false
set_option linter.unusedSimpArgs false
open Go.RowKit Go.Extern.Stop Go.Stop Go.Extern

theorem doneq_app {D : List Oq4} {o : Oq4} {k : Nat} (h : (∀ o ∈ D, okQ o) ∧ D.length = k ∧ (eqL D).length ≤ 61 * k) (hk : okQ o) : (∀ x ∈ D ++ [o], okQ x) ∧ (D ++ [o]).length = k + 1 ∧ (eqL (D ++ [o])).length ≤ 61 * (k + 1) := by
  obtain ⟨h1, h2, h3⟩ := h
  refine ⟨fun x hx => ?_, by simp [h2], ?_⟩
  · rcases List.mem_append.1 hx with hx | hx
    · exact h1 x hx
    · rw [List.mem_singleton.1 hx]; exact hk
  · rw [eqL_app, List.length_append]
    have := cdL_len hk
    omega
set_option maxHeartbeats 16000000 in
set_option maxRecDepth 20000 in
theorem cback_law (L : List Oq4) (u : Value) (w : World) (hg : EtIs w) (ho : Oqs w u L) :
    Calls Tryd.prog 7 #[u] w fun e w' => e = .returned (.bool true) ∧ Ext w w' := by
  have hm := ho.small
  obtain ⟨b0, cb, rfl⟩ := ho.form
  have HO := Lib.hid ho
  obtain ⟨m, hm'⟩ : ∃ m, m = L.length := ⟨_, rfl⟩
  rw [← hm'] at HO hm ⊢
  have HM := Lib.hid hm'
  unfold maxLen at hm
  clear ho hm'
  go_enter Tryd.func7, Tryd.ntmps7
  go_wp2_with fail
  refine (first3_any _ hg).mono ?_; rintro e w1 ⟨rfl, hx1⟩
  go_wp2_with fail
  refine (newwr_any _).mono ?_; rintro e w2 ⟨b, rfl, hb, hw2, hx2⟩
  have hbB : b < w2.heap.size := Ext.lt (p := ⟨b, 0, none⟩) hw2.1.1
  have HW2 := Lib.hid (WrAt.new (B := w2.heap.size) hw2 hbB (Nat.le_refl _))
  have HE2 := Lib.hid (hx1.trans hx2)
  have hwB : w.heap.size ≤ w2.heap.size := HE2.out.size
  have hwb : w.heap.size ≤ b := Nat.le_trans hx1.size hb
  clear hw2 hx1 hx2 hb
  obtain ⟨B, hB⟩ : ∃ B, w2.heap.size = B := ⟨_, rfl⟩
  rw [hB] at HW2 hbB hwB
  clear hB
  have HBS : Hid (∀ (wr : World) {l : List Bool}, WrAt wr b B l → B ≤ wr.heap.size) := fun wr l h => by obtain ⟨_, _, _, h3, _⟩ := h; exact h3.2
  go_wp2_with fail
  go_loopw [4, 5] (fun ov iv wr => ∃ (i k : Nat) (D : List Oq4), ((i ≤ m ∧ i ≤ 1000) ∧ k ≤ i) ∧ iv = .int .i64 (i : Int) ∧ Hid ((∀ o ∈ D, okQ o) ∧ D.length = k ∧ (eqL D).length ≤ 61 * k) ∧ Hid (wr.ownsRow B 50 4 ov k (oqcells D)) ∧ Hid (WrAt wr b B (eqL D)) ∧ Hid (Ext w wr)) (fun _ iv _ => 1000 - (intOf iv).toNat)
  case atStart => exact ⟨0, 0, [], ⟨⟨Nat.zero_le _, Nat.zero_le _⟩, Nat.le_refl _⟩, rfl, ⟨fun _ h => (by cases h), rfl, Nat.le_refl _⟩, World.ownsRow_nil _ _ _ _, HW2.out, HE2.out⟩
  case round =>
    clear HW2 HE2
    obtain ⟨i, k, D, ⟨⟨hi, hi2⟩, hk⟩, rfl, HD, HOW, HWR, HE⟩ := hrel
    obtain ⟨oa, ocp, rfl⟩ := oq_own_slice HOW.out
    have hlen := HD.out.2.2
    obtain ⟨l, hl⟩ : ∃ l, eqL D = l := ⟨_, rfl⟩
    rw [hl] at HWR hlen
    have hl8 : l.length ≤ 700000 := by omega
    have HL := Lib.hid hl
    clear hl
    by_cases hlt : i < m
    · by_cases hlt2 : i < 1000
      · obtain ⟨g, off, ha, hq⟩ := HO.out.had (by have := HM.out; omega)
        subst ha
        obtain ⟨o, ho⟩ : ∃ o, L[i]? = some o := ⟨_, List.getElem?_eq_getElem (by rw [← HM.out]; exact hlt)⟩
        obtain ⟨kd, vv, kk, mm⟩ := o
        obtain ⟨c0, c1, c2, c3⟩ := (hq i _ ho).ext HE.out
        dsimp only at c0 c1 c2 c3
        have x1 : (0 : Int) ≤ (i : Int) := by omega
        have x2 : (i : Int) < (m : Int) := by omega
        have x3 : (i : Int) < 1000 := by omega
        have A1 : Ext wr (wr.alloc (.cells #[.int .i64 kd, .int .i64 vv, .int .i64 kk, .int .i64 mm] 50)) := (Ext.refl wr).alloc _
        have HQ1 : Hid (Oc4 (wr.alloc (.cells #[.int .i64 kd, .int .i64 vv, .int .i64 kk, .int .i64 mm] 50)) wr.heap.size kd vv kk mm) := ⟨by simp, by simp, by simp, by simp⟩
        have hbw : b < wr.heap.size := by obtain ⟨v, h1, -⟩ := HWR.out; exact Ext.lt (p := ⟨b, 0, none⟩) h1.1.1
        have hob : ∃ cs fr, (wr.alloc (.cells #[.int .i64 kd, .int .i64 vv, .int .i64 kk, .int .i64 mm] 50)).heap[wr.heap.size]? = some (.cells cs 50 fr) ∧ wr.heap.size ≠ b := ⟨_, _, heap_alloc_new wr _, by omega⟩
        have HW1 := Lib.hid (HWR.out.ext A1)
        have HO1 := Lib.hid (oq_own_wkp HOW.out (WKp.of_ext A1) hbB)
        have HE1 := Lib.hid (HE.out.trans A1)
        have UL1 := Lib.hid (wrlen_any b B l _ HW1.out)
        obtain ⟨n1, hn1⟩ : ∃ n1, l.length = n1 := ⟨_, rfl⟩
        rw [hn1] at UL1
        clear hq ho A1 HWR HOW HE
        go_wp2_with fail
        refine (UL1.out).mono ?_; rintro e w9 ⟨rfl, rfl⟩
        obtain ⟨q0, q1, q2, q3⟩ := HQ1.out
        clear c0 c1 c2 c3 UL1
        by_cases h0 : kd = 0
        · subst h0
          have UP := Lib.hid (putue_any b B vv l _ HW1.out (by omega))
          by_cases hok : ueOk vv
          · have hF : cuF vv = none := by unfold cuF; rw [if_pos hok]
            have hL : cuL l vv = l ++ ueL vv.toNat := by unfold cuL; rw [if_pos hok]
            have hsz := szUe_yes hok
            rw [hF, hL] at UP
            have HOK : Hid (okQ (0, vv, kk, mm)) := .inl ⟨rfl, hok⟩
            have HST0 : eqL D ++ cdL (0, vv, kk, mm) = l ++ ueL vv.toNat := by rw [HL.out]; rfl
            obtain ⟨l2, hl2⟩ : ∃ l2, l ++ ueL vv.toNat = l2 := ⟨_, rfl⟩
            obtain ⟨n2, hn2⟩ : ∃ n2, l2.length = n2 := ⟨_, rfl⟩
            have hn12 : ((n2 : Int)) - (n1 : Int) = szUe vv := by rw [hsz.1, ← hn2, ← hl2, List.length_append, hn1]; omega
            rw [hl2] at UP HST0
            have HST := Lib.hid HST0
            have U1 := Lib.hid (fun w => szue_any vv w)
            obtain ⟨S, hS⟩ : ∃ S, szUe vv = S := ⟨_, rfl⟩
            rw [hS] at U1 hn12 hsz
            have j1 : IntKind.i64.wrap ((n2 : Int) - (n1 : Int)) = S := by rw [IntKind.wrap_i64]; omega
            clear hF hL hsz HST0 hl2 hok hS hn1 hn12
            go_wp2_with fail
            refine (UP.out).mono ?_; rintro e wc ⟨x5, rfl, p5, k5, he5⟩
            obtain rfl : x5 = .nilIface := he5
            -- behind the put: wc, p5 k5 -> HWC HOC HQC HEC
            have HWC := Lib.hid p5
            have HOC := Lib.hid (oq_own_wkp HO1.out k5 hbB)
            have HEC := Lib.hid (WKp.out HE1.out k5 hwb hwB)
            have HQC := Lib.hid (HQ1.out.wkp k5 hob)
            clear p5 k5 HW1 HO1 HE1 HQ1 q0 q1 q2 q3
            obtain ⟨q0, q1, q2, q3⟩ := HQC.out
            -- HWC at l2, HST : eqL D ++ cdL o = l2, HOK : okQ o; n2 : l2.length; SZ : the size
            have KS : Hid (∀ w', Ext wc w' → Oc4 w' wr.heap.size 0 vv kk mm ∧ Ext wc w') := fun w' h => ⟨HQC.out.ext h, h⟩
            have UL := Lib.hid (fun w' (h : WrAt w' b B l2) => wrlen_any b B l2 w' h)
            rw [hn2] at UL
            unfold Oc4 at KS
            go_wp2_with fail
            go_region_held3 (fun w' => (w'.cell? ⟨wr.heap.size, 0, none⟩ = some (.int .i64 0) ∧ w'.cell? ⟨wr.heap.size, 1, none⟩ = some (.int .i64 vv) ∧ w'.cell? ⟨wr.heap.size, 2, none⟩ = some (.int .i64 kk) ∧ w'.cell? ⟨wr.heap.size, 3, none⟩ = some (.int .i64 mm)) ∧ Ext wc w')
              (first | assumption | (go_split_ands; exact KS.out _ (by repeat (first | exact Ext.refl _ | assumption | refine Ext.drew ?_ | refine Ext.trans ?_ (by assumption)))))
              ((first
                | (go_at_call 20; obtain ⟨_, hE1⟩ : _ ∧ Ext wc _ := (by assumption); refine (UL.out _ (HWC.out.ext hE1)).mono ?_; rintro e w6 ⟨rfl, rfl⟩)
                | (go_at_call 32; refine (U1.out _).mono ?_; rintro e w7 ⟨rfl, rfl⟩)))
            all_goals obtain ⟨⟨q0, q1, q2, q3⟩, hE9⟩ : _ ∧ Ext wc _ := by assumption
            all_goals have HW9 := Lib.hid (HWC.out.ext hE9)
            all_goals have HO9 := Lib.hid (oq_own_wkp HOC.out (WKp.of_ext hE9) hbB)
            all_goals have HE9 := Lib.hid (HEC.out.trans hE9)
            all_goals have hBs := HBS.out _ HW9.out
            all_goals clear hE9 HWC HOC HEC HQC KS
            all_goals
              go_wp2_with (at_builtin; refine push_oq rfl _ _ 47 rfl Tryd.underlying47 _ k _ (0, vv, kk, mm) rfl HO9.out (by first | rfl | (show Value.slice (some ⟨_, 0, none⟩) 1 1 = _; simp)) hBs (by omega) ?_; intro v8 w8 h1 h2; have HO8 := Lib.hid h1; have HW8 := Lib.hid (HW9.out.grownq HO9.out h2); have HE8 := Lib.hid (HE9.out.of_below (Below.grown (Below.refl _ _) h2 (Nat.le_trans hwB hBs) (fun k hk => Nat.le_trans hwB (HO9.out.lt k hk).1)) (Nat.le_refl _)); clear h1 h2)
              go_roundw
              case rel =>
                refine ⟨i + 1, k + 1, D ++ [(0, vv, kk, mm)], ⟨⟨by omega, by omega⟩, by omega⟩, by go_num, doneq_app HD.out HOK.out, ?_, ?_, HE8.out⟩
                · show World.ownsRow _ _ _ _ _ _ _
                  rw [oqcells_app]; exact HO8.out
                · show WrAt _ _ _ _
                  rw [eqL_app, HST.out]; exact HW8.out
              case measure => simp [intOf]; omega
          · have hF : cuF vv = range := by unfold cuF; rw [if_neg hok]
            have hL : cuL l vv = l := by unfold cuL; rw [if_neg hok]
            rw [hF, hL] at UP
            clear hF hL hok hn1
            go_wp2_with fail
            refine (UP.out).mono ?_; rintro e wc ⟨x5, rfl, p5, k5, he5⟩
            obtain ⟨t5, y5, rfl⟩ := ErrIs.ne he5
            clear he5
            -- behind the put: wc, p5 k5 -> HWC HOC HQC HEC
            have HWC := Lib.hid p5
            have HOC := Lib.hid (oq_own_wkp HO1.out k5 hbB)
            have HEC := Lib.hid (WKp.out HE1.out k5 hwb hwB)
            have HQC := Lib.hid (HQ1.out.wkp k5 hob)
            clear p5 k5 HW1 HO1 HE1 HQ1 q0 q1 q2 q3
            obtain ⟨q0, q1, q2, q3⟩ := HQC.out
            -- nothing was put: HWC (its bits l), HOC, HEC
            go_wp2
            go_roundw
            case rel => exact ⟨i + 1, k, D, ⟨⟨by omega, by omega⟩, by omega⟩, by go_num, HD.out, HOC.out, by show WrAt _ _ _ _; rw [HL.out]; exact HWC.out, HEC.out⟩
            case measure => simp [intOf]; omega
        · by_cases h1 : kd = 1
          · subst h1
            clear h0
            have UP := Lib.hid (putse_any b B vv l _ HW1.out (by omega))
            by_cases hok : seOk vv
            · have hF : csF vv = none := by unfold csF; rw [if_pos hok]
              have hL : csL l vv = l ++ ueL (foldI vv).toNat := by unfold csL; rw [if_pos hok]
              have hsz := szUe_yes (fold_ok hok)
              rw [hF, hL] at UP
              have HOK : Hid (okQ (1, vv, kk, mm)) := .inr (.inl ⟨rfl, hok⟩)
              have HST0 : eqL D ++ cdL (1, vv, kk, mm) = l ++ ueL (foldI vv).toNat := by rw [HL.out]; rfl
              obtain ⟨l2, hl2⟩ : ∃ l2, l ++ ueL (foldI vv).toNat = l2 := ⟨_, rfl⟩
              obtain ⟨n2, hn2⟩ : ∃ n2, l2.length = n2 := ⟨_, rfl⟩
              have hn12 : ((n2 : Int)) - (n1 : Int) = szUe (foldI vv) := by rw [hsz.1, ← hn2, ← hl2, List.length_append, hn1]; omega
              rw [hl2] at UP HST0
              have HST := Lib.hid HST0
              have U0 := Lib.hid (fun w => fold_any vv w)
              have U1 := Lib.hid (fun w => szue_any (foldI vv) w)
              obtain ⟨fv, hfv⟩ : ∃ fv, foldI vv = fv := ⟨_, rfl⟩
              rw [hfv] at U0 U1 hn12 hsz
              obtain ⟨S, hS⟩ : ∃ S, szUe fv = S := ⟨_, rfl⟩
              rw [hS] at U1 hn12 hsz
              have j1 : IntKind.i64.wrap ((n2 : Int) - (n1 : Int)) = S := by rw [IntKind.wrap_i64]; omega
              clear hF hL hsz HST0 hl2 hok hS hn1 hn12 hfv
              go_wp2_with fail
              refine (UP.out).mono ?_; rintro e wc ⟨x5, rfl, p5, k5, he5⟩
              obtain rfl : x5 = .nilIface := he5
              -- behind the put: wc, p5 k5 -> HWC HOC HQC HEC
              have HWC := Lib.hid p5
              have HOC := Lib.hid (oq_own_wkp HO1.out k5 hbB)
              have HEC := Lib.hid (WKp.out HE1.out k5 hwb hwB)
              have HQC := Lib.hid (HQ1.out.wkp k5 hob)
              clear p5 k5 HW1 HO1 HE1 HQ1 q0 q1 q2 q3
              obtain ⟨q0, q1, q2, q3⟩ := HQC.out
              -- HWC at l2, HST : eqL D ++ cdL o = l2, HOK : okQ o; n2 : l2.length; SZ : the size
              have KS : Hid (∀ w', Ext wc w' → Oc4 w' wr.heap.size 1 vv kk mm ∧ Ext wc w') := fun w' h => ⟨HQC.out.ext h, h⟩
              have UL := Lib.hid (fun w' (h : WrAt w' b B l2) => wrlen_any b B l2 w' h)
              rw [hn2] at UL
              unfold Oc4 at KS
              go_wp2_with fail
              go_region_held3 (fun w' => (w'.cell? ⟨wr.heap.size, 0, none⟩ = some (.int .i64 1) ∧ w'.cell? ⟨wr.heap.size, 1, none⟩ = some (.int .i64 vv) ∧ w'.cell? ⟨wr.heap.size, 2, none⟩ = some (.int .i64 kk) ∧ w'.cell? ⟨wr.heap.size, 3, none⟩ = some (.int .i64 mm)) ∧ Ext wc w')
                (first | assumption | (go_split_ands; exact KS.out _ (by repeat (first | exact Ext.refl _ | assumption | refine Ext.drew ?_ | refine Ext.trans ?_ (by assumption)))))
                ((first
                  | (go_at_call 20; obtain ⟨_, hE1⟩ : _ ∧ Ext wc _ := (by assumption); refine (UL.out _ (HWC.out.ext hE1)).mono ?_; rintro e w6 ⟨rfl, rfl⟩)
                  | (go_at_call 28; refine (U0.out _).mono ?_; rintro e w7 ⟨rfl, rfl⟩)
                  | (go_at_call 32; refine (U1.out _).mono ?_; rintro e w7 ⟨rfl, rfl⟩)))
              all_goals obtain ⟨⟨q0, q1, q2, q3⟩, hE9⟩ : _ ∧ Ext wc _ := by assumption
              all_goals have HW9 := Lib.hid (HWC.out.ext hE9)
              all_goals have HO9 := Lib.hid (oq_own_wkp HOC.out (WKp.of_ext hE9) hbB)
              all_goals have HE9 := Lib.hid (HEC.out.trans hE9)
              all_goals have hBs := HBS.out _ HW9.out
              all_goals clear hE9 HWC HOC HEC HQC KS
              all_goals
                go_wp2_with (at_builtin; refine push_oq rfl _ _ 47 rfl Tryd.underlying47 _ k _ (1, vv, kk, mm) rfl HO9.out (by first | rfl | (show Value.slice (some ⟨_, 0, none⟩) 1 1 = _; simp)) hBs (by omega) ?_; intro v8 w8 h1 h2; have HO8 := Lib.hid h1; have HW8 := Lib.hid (HW9.out.grownq HO9.out h2); have HE8 := Lib.hid (HE9.out.of_below (Below.grown (Below.refl _ _) h2 (Nat.le_trans hwB hBs) (fun k hk => Nat.le_trans hwB (HO9.out.lt k hk).1)) (Nat.le_refl _)); clear h1 h2)
                go_roundw
                case rel =>
                  refine ⟨i + 1, k + 1, D ++ [(1, vv, kk, mm)], ⟨⟨by omega, by omega⟩, by omega⟩, by go_num, doneq_app HD.out HOK.out, ?_, ?_, HE8.out⟩
                  · show World.ownsRow _ _ _ _ _ _ _
                    rw [oqcells_app]; exact HO8.out
                  · show WrAt _ _ _ _
                    rw [eqL_app, HST.out]; exact HW8.out
                case measure => simp [intOf]; omega
            · have hF : csF vv = range := by unfold csF; rw [if_neg hok]
              have hL : csL l vv = l := by unfold csL; rw [if_neg hok]
              rw [hF, hL] at UP
              clear hF hL hok hn1
              go_wp2_with fail
              refine (UP.out).mono ?_; rintro e wc ⟨x5, rfl, p5, k5, he5⟩
              obtain ⟨t5, y5, rfl⟩ := ErrIs.ne he5
              clear he5
              -- behind the put: wc, p5 k5 -> HWC HOC HQC HEC
              have HWC := Lib.hid p5
              have HOC := Lib.hid (oq_own_wkp HO1.out k5 hbB)
              have HEC := Lib.hid (WKp.out HE1.out k5 hwb hwB)
              have HQC := Lib.hid (HQ1.out.wkp k5 hob)
              clear p5 k5 HW1 HO1 HE1 HQ1 q0 q1 q2 q3
              obtain ⟨q0, q1, q2, q3⟩ := HQC.out
              -- nothing was put: HWC (its bits l), HOC, HEC
              go_wp2
              go_roundw
              case rel => exact ⟨i + 1, k, D, ⟨⟨by omega, by omega⟩, by omega⟩, by go_num, HD.out, HOC.out, by show WrAt _ _ _ _; rw [HL.out]; exact HWC.out, HEC.out⟩
              case measure => simp [intOf]; omega
          · by_cases h2 : kd = 2
            · subst h2
              clear h0 h1
              have UP := Lib.hid (putri_any b B vv kk l _ HW1.out (by omega))
              by_cases hok : riOk vv kk
              · have hF : crF vv kk = none := by unfold crF; rw [if_pos hok]
                have hL : crL l vv kk = l ++ riL vv.toNat kk.toNat := by unfold crL; rw [if_pos hok]
                have hsz := szRi_yes hok
                rw [hF, hL] at UP
                have HOK : Hid (okQ (2, vv, kk, mm)) := .inr (.inr ⟨rfl, hok⟩)
                have HST0 : eqL D ++ cdL (2, vv, kk, mm) = l ++ riL vv.toNat kk.toNat := by rw [HL.out]; rfl
                obtain ⟨l2, hl2⟩ : ∃ l2, l ++ riL vv.toNat kk.toNat = l2 := ⟨_, rfl⟩
                obtain ⟨n2, hn2⟩ : ∃ n2, l2.length = n2 := ⟨_, rfl⟩
                have hn12 : ((n2 : Int)) - (n1 : Int) = szRi vv kk := by rw [hsz.1, ← hn2, ← hl2, List.length_append, hn1]; omega
                rw [hl2] at UP HST0
                have HST := Lib.hid HST0
                have U1 := Lib.hid (fun w => szri_any vv kk w)
                obtain ⟨S, hS⟩ : ∃ S, szRi vv kk = S := ⟨_, rfl⟩
                rw [hS] at U1 hn12 hsz
                have j1 : IntKind.i64.wrap ((n2 : Int) - (n1 : Int)) = S := by rw [IntKind.wrap_i64]; omega
                clear hF hL hsz HST0 hl2 hok hS hn1 hn12
                go_wp2_with fail
                refine (UP.out).mono ?_; rintro e wc ⟨x5, rfl, p5, k5, he5⟩
                obtain rfl : x5 = .nilIface := he5
                -- behind the put: wc, p5 k5 -> HWC HOC HQC HEC
                have HWC := Lib.hid p5
                have HOC := Lib.hid (oq_own_wkp HO1.out k5 hbB)
                have HEC := Lib.hid (WKp.out HE1.out k5 hwb hwB)
                have HQC := Lib.hid (HQ1.out.wkp k5 hob)
                clear p5 k5 HW1 HO1 HE1 HQ1 q0 q1 q2 q3
                obtain ⟨q0, q1, q2, q3⟩ := HQC.out
                -- HWC at l2, HST : eqL D ++ cdL o = l2, HOK : okQ o; n2 : l2.length; SZ : the size
                have KS : Hid (∀ w', Ext wc w' → Oc4 w' wr.heap.size 2 vv kk mm ∧ Ext wc w') := fun w' h => ⟨HQC.out.ext h, h⟩
                have UL := Lib.hid (fun w' (h : WrAt w' b B l2) => wrlen_any b B l2 w' h)
                rw [hn2] at UL
                unfold Oc4 at KS
                go_wp2_with fail
                go_region_held3 (fun w' => (w'.cell? ⟨wr.heap.size, 0, none⟩ = some (.int .i64 2) ∧ w'.cell? ⟨wr.heap.size, 1, none⟩ = some (.int .i64 vv) ∧ w'.cell? ⟨wr.heap.size, 2, none⟩ = some (.int .i64 kk) ∧ w'.cell? ⟨wr.heap.size, 3, none⟩ = some (.int .i64 mm)) ∧ Ext wc w')
                  (first | assumption | (go_split_ands; exact KS.out _ (by repeat (first | exact Ext.refl _ | assumption | refine Ext.drew ?_ | refine Ext.trans ?_ (by assumption)))))
                  ((first
                    | (go_at_call 20; obtain ⟨_, hE1⟩ : _ ∧ Ext wc _ := (by assumption); refine (UL.out _ (HWC.out.ext hE1)).mono ?_; rintro e w6 ⟨rfl, rfl⟩)
                    | (go_at_call 34; refine (U1.out _).mono ?_; rintro e w7 ⟨rfl, rfl⟩)))
                all_goals obtain ⟨⟨q0, q1, q2, q3⟩, hE9⟩ : _ ∧ Ext wc _ := by assumption
                all_goals have HW9 := Lib.hid (HWC.out.ext hE9)
                all_goals have HO9 := Lib.hid (oq_own_wkp HOC.out (WKp.of_ext hE9) hbB)
                all_goals have HE9 := Lib.hid (HEC.out.trans hE9)
                all_goals have hBs := HBS.out _ HW9.out
                all_goals clear hE9 HWC HOC HEC HQC KS
                all_goals
                  go_wp2_with (at_builtin; refine push_oq rfl _ _ 47 rfl Tryd.underlying47 _ k _ (2, vv, kk, mm) rfl HO9.out (by first | rfl | (show Value.slice (some ⟨_, 0, none⟩) 1 1 = _; simp)) hBs (by omega) ?_; intro v8 w8 h1 h2; have HO8 := Lib.hid h1; have HW8 := Lib.hid (HW9.out.grownq HO9.out h2); have HE8 := Lib.hid (HE9.out.of_below (Below.grown (Below.refl _ _) h2 (Nat.le_trans hwB hBs) (fun k hk => Nat.le_trans hwB (HO9.out.lt k hk).1)) (Nat.le_refl _)); clear h1 h2)
                  go_roundw
                  case rel =>
                    refine ⟨i + 1, k + 1, D ++ [(2, vv, kk, mm)], ⟨⟨by omega, by omega⟩, by omega⟩, by go_num, doneq_app HD.out HOK.out, ?_, ?_, HE8.out⟩
                    · show World.ownsRow _ _ _ _ _ _ _
                      rw [oqcells_app]; exact HO8.out
                    · show WrAt _ _ _ _
                      rw [eqL_app, HST.out]; exact HW8.out
                  case measure => simp [intOf]; omega
              · have hF : crF vv kk = range := by unfold crF; rw [if_neg hok]
                have hL : crL l vv kk = l := by unfold crL; rw [if_neg hok]
                rw [hF, hL] at UP
                clear hF hL hok hn1
                go_wp2_with fail
                refine (UP.out).mono ?_; rintro e wc ⟨x5, rfl, p5, k5, he5⟩
                obtain ⟨t5, y5, rfl⟩ := ErrIs.ne he5
                clear he5
                -- behind the put: wc, p5 k5 -> HWC HOC HQC HEC
                have HWC := Lib.hid p5
                have HOC := Lib.hid (oq_own_wkp HO1.out k5 hbB)
                have HEC := Lib.hid (WKp.out HE1.out k5 hwb hwB)
                have HQC := Lib.hid (HQ1.out.wkp k5 hob)
                clear p5 k5 HW1 HO1 HE1 HQ1 q0 q1 q2 q3
                obtain ⟨q0, q1, q2, q3⟩ := HQC.out
                -- nothing was put: HWC (its bits l), HOC, HEC
                go_wp2
                go_roundw
                case rel => exact ⟨i + 1, k, D, ⟨⟨by omega, by omega⟩, by omega⟩, by go_num, HD.out, HOC.out, by show WrAt _ _ _ _; rw [HL.out]; exact HWC.out, HEC.out⟩
                case measure => simp [intOf]; omega
            · have HWC := HW1
              have HOC := HO1
              have HEC := HE1
              clear HW1 HO1 HE1 hn1
              -- nothing was put: HWC (its bits l), HOC, HEC
              go_wp2
              go_roundw
              case rel => exact ⟨i + 1, k, D, ⟨⟨by omega, by omega⟩, by omega⟩, by go_num, HD.out, HOC.out, by show WrAt _ _ _ _; rw [HL.out]; exact HWC.out, HEC.out⟩
              case measure => simp [intOf]; omega
      · obtain rfl : i = 1000 := by omega
        obtain ⟨uv, hbx, -, -, -⟩ := id HWR.out
        go_wp2_with fail
        refine (wbytes_any b B l _ HWR.out).mono ?_; rintro e w3 ⟨u3, rfl, ho3, hx3⟩
        have HY3 := Lib.hid (Bys.of_owns ho3 (pkL_lt l) (by rw [pkL_length]; omega))
        clear ho3
        go_wp2_with fail
        refine (newrd_any (pkL l) _ _ HY3.out).mono ?_; rintro e w4 ⟨c, rfl, hc4, r4, hx4⟩
        have hx34 := hx3.trans hx4
        have hcr : wr.heap.size ≤ c := Nat.le_trans hx3.size hc4
        have HR4 := Lib.hid (r4.mono (E := fun _ => False) (fun g h => h.elim))
        have HDN := Lib.hid (DqAt.of HOW.out HD.out.2.1 hx34 hcr)
        have hbwr := Ext.lt (p := ⟨b, 0, none⟩) hbx.1.1
        have hbc : b ≠ c := by have : b < wr.heap.size := hbwr; omega
        have HBX := Lib.hid (hbx.ext hx34)
        have HE4 := Lib.hid (HE.out.trans hx34)
        have hwc : w.heap.size ≤ c := Nat.le_trans HE.out.size hcr
        obtain ⟨ln, hln⟩ : ∃ ln, l.length = ln := ⟨_, rfl⟩
        rw [hln] at HBX
        have HLN := Lib.hid hln
        clear hbx hx3 hx4 hx34 hc4 r4 hbwr hcr HWR HOW HE HY3 hln
        go_wp2_with fail
        go_loopw [9] (fun iv wr => ∃ j, j ≤ k ∧ iv = .int .i64 (j : Int) ∧ Hid (RdAt (fun _ => False) wr c (pkL l) (eqL (D.take j)).length) ∧ Hid (DqAt wr c oa D) ∧ Hid (WrBox wr b uv ln) ∧ Hid (Ext w wr)) (fun iv _ => k - (intOf iv).toNat)
        case atStart => exact ⟨0, Nat.zero_le _, rfl, HR4.out, HDN.out, HBX.out, HE4.out⟩
        case round =>
          clear HR4 HDN HBX HE4
          obtain ⟨j, hj, rfl, HR, HDN, HBX, HE⟩ := hrel
          by_cases hjk : j < k
          · obtain ⟨g2, hg2, hgc, hq2⟩ := HDN.out (by have := HD.out.2.1; omega)
            subst hg2
            obtain ⟨o, ho⟩ : ∃ o, D[j]? = some o := ⟨_, List.getElem?_eq_getElem (by rw [HD.out.2.1]; exact hjk)⟩
            obtain ⟨c0, c1, c2, c3⟩ := hq2 j o ho
            have x4 : (0 : Int) ≤ (j : Int) := by omega
            have x5 : (j : Int) < (k : Int) := by omega
            have hcw : c < wr.heap.size := HR.out.lt
            have hokq := HD.out.1 o (List.mem_of_getElem? ho)
            have B0 := fun h0 hk w h => back_ue (F := fun _ => False) (c := c) HL.out ho h0 hk w h
            have B1 := fun h0 hk w h => back_se (F := fun _ => False) (c := c) HL.out ho h0 hk w h
            have B2 := fun h0 hk w h => back_ri (F := fun _ => False) (c := c) HL.out ho h0 hk w h
            obtain ⟨p0, hp0⟩ : ∃ p0, (eqL (D.take j)).length = p0 := ⟨_, rfl⟩
            obtain ⟨p1, hp1⟩ : ∃ p1, (eqL (D.take (j + 1))).length = p1 := ⟨_, rfl⟩
            rw [hp0] at HR B0 B1 B2
            rw [hp1] at B0 B1 B2
            have HP1 := Lib.hid hp1
            clear ho hq2 hp0 hp1
            obtain ⟨kd, vv, kk, mm⟩ := o
            dsimp only at c0 c1 c2 c3 B0 B1 B2
            rcases hokq with ⟨h0, hk⟩ | ⟨h0, hk⟩ | ⟨h0, hk⟩
            · dsimp only at h0 hk
              have U := Lib.hid (B0 h0 hk)
              subst h0
              clear B0 B1 B2
              go_wp2_with fail
              refine (U.out _ (HR.out.ext ((Ext.refl wr).alloc _))).mono ?_; rintro e w5 ⟨x5, rfl, k5, r5, e5⟩
              obtain rfl : x5 = .nilIface := e5
              have hv := k5.cell (p := ⟨wr.heap.size, 1, none⟩) (v := .int .i64 vv) (by simp) (by show wr.heap.size ≠ c; omega)
              have K5 := Lib.hid ((Kp.of_ext ((Ext.refl wr).alloc _)).trans k5)
              have HR5 := Lib.hid r5
              clear k5 r5
              go_wp2
              go_roundw
              case rel => exact ⟨j + 1, by omega, by go_num, by show RdAt _ _ _ _ _; rw [HP1.out]; exact HR5.out, HDN.out.kp K5.out, HBX.out.same (K5.out.block (Ext.lt (p := ⟨b, 0, none⟩) HBX.out.1.1) hbc), Kp.out HE.out K5.out hwc⟩
              case measure => simp [intOf]; omega
            · dsimp only at h0 hk
              have U := Lib.hid (B1 h0 hk)
              subst h0
              unfold seOk at hk
              obtain ⟨s, hs⟩ : ∃ s, absI vv = s := ⟨_, rfl⟩
              rw [hs] at U
              have i1 : IntKind.i64.wrap (-vv) = -vv := by rw [IntKind.wrap_i64]; omega
              have i2 : max vv (-vv) = s := hs
              have r2 := mx2
              clear B0 B1 B2 hs
              go_wp2_with fail
              refine (U.out _ (HR.out.ext ((Ext.refl wr).alloc _))).mono ?_; rintro e w5 ⟨x5, rfl, k5, r5, e5⟩
              obtain rfl : x5 = .nilIface := e5
              have hv := k5.cell (p := ⟨wr.heap.size, 1, none⟩) (v := .int .i64 vv) (by simp) (by show wr.heap.size ≠ c; omega)
              clear i2
              have K5 := Lib.hid ((Kp.of_ext ((Ext.refl wr).alloc _)).trans k5)
              have HR5 := Lib.hid r5
              clear k5 r5
              go_wp2
              go_roundw
              case rel => exact ⟨j + 1, by omega, by go_num, by show RdAt _ _ _ _ _; rw [HP1.out]; exact HR5.out, HDN.out.kp K5.out, HBX.out.same (K5.out.block (Ext.lt (p := ⟨b, 0, none⟩) HBX.out.1.1) hbc), Kp.out HE.out K5.out hwc⟩
              case measure => simp [intOf]; omega
            · dsimp only at h0 hk
              have U := Lib.hid (B2 h0 hk)
              subst h0
              clear B0 B1 B2
              go_wp2_with fail
              refine (U.out _ (HR.out.ext ((Ext.refl wr).alloc _))).mono ?_; rintro e w5 ⟨x5, rfl, k5, r5, e5⟩
              obtain rfl : x5 = .nilIface := e5
              have hv := k5.cell (p := ⟨wr.heap.size, 1, none⟩) (v := .int .i64 vv) (by simp) (by show wr.heap.size ≠ c; omega)
              have K5 := Lib.hid ((Kp.of_ext ((Ext.refl wr).alloc _)).trans k5)
              have HR5 := Lib.hid r5
              clear k5 r5
              go_wp2
              go_roundw
              case rel => exact ⟨j + 1, by omega, by go_num, by show RdAt _ _ _ _ _; rw [HP1.out]; exact HR5.out, HDN.out.kp K5.out, HBX.out.same (K5.out.block (Ext.lt (p := ⟨b, 0, none⟩) HBX.out.1.1) hbc), Kp.out HE.out K5.out hwc⟩
              case measure => simp [intOf]; omega
          · obtain rfl : j = k := by omega
            have hend : RdAt (fun _ => False) wr c (pkL l) ln := by
              have := HR.out
              rwa [List.take_of_length_le (by rw [HD.out.2.1]; exact Nat.le_refl _), HL.out, HLN.out] at this
            have HEND := Lib.hid hend
            clear hend HR HDN
            go_wp2_with fail
            refine (first3_any _ (hg.ext HE.out)).mono ?_; rintro e w5 ⟨rfl, hx5⟩
            have HEND5 := Lib.hid (HEND.out.ext hx5)
            go_wp2_with fail
            refine (place_any c ln (pkL l) _ HEND5.out).mono ?_; rintro e w6 ⟨rfl, rfl⟩
            go_wp2_with fail
            refine (wrlen_box b ln uv _ (HBX.out.ext hx5)).mono ?_; rintro e w6 ⟨rfl, rfl⟩
            go_wp2
            go_ret
            exact ⟨rfl, HE.out.trans hx5⟩
    · obtain rfl : i = m := by omega
      obtain ⟨uv, hbx, -, -, -⟩ := id HWR.out
      go_wp2_with fail
      refine (wbytes_any b B l _ HWR.out).mono ?_; rintro e w3 ⟨u3, rfl, ho3, hx3⟩
      have HY3 := Lib.hid (Bys.of_owns ho3 (pkL_lt l) (by rw [pkL_length]; omega))
      clear ho3
      go_wp2_with fail
      refine (newrd_any (pkL l) _ _ HY3.out).mono ?_; rintro e w4 ⟨c, rfl, hc4, r4, hx4⟩
      have hx34 := hx3.trans hx4
      have hcr : wr.heap.size ≤ c := Nat.le_trans hx3.size hc4
      have HR4 := Lib.hid (r4.mono (E := fun _ => False) (fun g h => h.elim))
      have HDN := Lib.hid (DqAt.of HOW.out HD.out.2.1 hx34 hcr)
      have hbwr := Ext.lt (p := ⟨b, 0, none⟩) hbx.1.1
      have hbc : b ≠ c := by have : b < wr.heap.size := hbwr; omega
      have HBX := Lib.hid (hbx.ext hx34)
      have HE4 := Lib.hid (HE.out.trans hx34)
      have hwc : w.heap.size ≤ c := Nat.le_trans HE.out.size hcr
      obtain ⟨ln, hln⟩ : ∃ ln, l.length = ln := ⟨_, rfl⟩
      rw [hln] at HBX
      have HLN := Lib.hid hln
      clear hbx hx3 hx4 hx34 hc4 r4 hbwr hcr HWR HOW HE HY3 hln
      go_wp2_with fail
      go_loopw [9] (fun iv wr => ∃ j, j ≤ k ∧ iv = .int .i64 (j : Int) ∧ Hid (RdAt (fun _ => False) wr c (pkL l) (eqL (D.take j)).length) ∧ Hid (DqAt wr c oa D) ∧ Hid (WrBox wr b uv ln) ∧ Hid (Ext w wr)) (fun iv _ => k - (intOf iv).toNat)
      case atStart => exact ⟨0, Nat.zero_le _, rfl, HR4.out, HDN.out, HBX.out, HE4.out⟩
      case round =>
        clear HR4 HDN HBX HE4
        obtain ⟨j, hj, rfl, HR, HDN, HBX, HE⟩ := hrel
        by_cases hjk : j < k
        · obtain ⟨g2, hg2, hgc, hq2⟩ := HDN.out (by have := HD.out.2.1; omega)
          subst hg2
          obtain ⟨o, ho⟩ : ∃ o, D[j]? = some o := ⟨_, List.getElem?_eq_getElem (by rw [HD.out.2.1]; exact hjk)⟩
          obtain ⟨c0, c1, c2, c3⟩ := hq2 j o ho
          have x4 : (0 : Int) ≤ (j : Int) := by omega
          have x5 : (j : Int) < (k : Int) := by omega
          have hcw : c < wr.heap.size := HR.out.lt
          have hokq := HD.out.1 o (List.mem_of_getElem? ho)
          have B0 := fun h0 hk w h => back_ue (F := fun _ => False) (c := c) HL.out ho h0 hk w h
          have B1 := fun h0 hk w h => back_se (F := fun _ => False) (c := c) HL.out ho h0 hk w h
          have B2 := fun h0 hk w h => back_ri (F := fun _ => False) (c := c) HL.out ho h0 hk w h
          obtain ⟨p0, hp0⟩ : ∃ p0, (eqL (D.take j)).length = p0 := ⟨_, rfl⟩
          obtain ⟨p1, hp1⟩ : ∃ p1, (eqL (D.take (j + 1))).length = p1 := ⟨_, rfl⟩
          rw [hp0] at HR B0 B1 B2
          rw [hp1] at B0 B1 B2
          have HP1 := Lib.hid hp1
          clear ho hq2 hp0 hp1
          obtain ⟨kd, vv, kk, mm⟩ := o
          dsimp only at c0 c1 c2 c3 B0 B1 B2
          rcases hokq with ⟨h0, hk⟩ | ⟨h0, hk⟩ | ⟨h0, hk⟩
          · dsimp only at h0 hk
            have U := Lib.hid (B0 h0 hk)
            subst h0
            clear B0 B1 B2
            go_wp2_with fail
            refine (U.out _ (HR.out.ext ((Ext.refl wr).alloc _))).mono ?_; rintro e w5 ⟨x5, rfl, k5, r5, e5⟩
            obtain rfl : x5 = .nilIface := e5
            have hv := k5.cell (p := ⟨wr.heap.size, 1, none⟩) (v := .int .i64 vv) (by simp) (by show wr.heap.size ≠ c; omega)
            have K5 := Lib.hid ((Kp.of_ext ((Ext.refl wr).alloc _)).trans k5)
            have HR5 := Lib.hid r5
            clear k5 r5
            go_wp2
            go_roundw
            case rel => exact ⟨j + 1, by omega, by go_num, by show RdAt _ _ _ _ _; rw [HP1.out]; exact HR5.out, HDN.out.kp K5.out, HBX.out.same (K5.out.block (Ext.lt (p := ⟨b, 0, none⟩) HBX.out.1.1) hbc), Kp.out HE.out K5.out hwc⟩
            case measure => simp [intOf]; omega
          · dsimp only at h0 hk
            have U := Lib.hid (B1 h0 hk)
            subst h0
            unfold seOk at hk
            obtain ⟨s, hs⟩ : ∃ s, absI vv = s := ⟨_, rfl⟩
            rw [hs] at U
            have i1 : IntKind.i64.wrap (-vv) = -vv := by rw [IntKind.wrap_i64]; omega
            have i2 : max vv (-vv) = s := hs
            have r2 := mx2
            clear B0 B1 B2 hs
            go_wp2_with fail
            refine (U.out _ (HR.out.ext ((Ext.refl wr).alloc _))).mono ?_; rintro e w5 ⟨x5, rfl, k5, r5, e5⟩
            obtain rfl : x5 = .nilIface := e5
            have hv := k5.cell (p := ⟨wr.heap.size, 1, none⟩) (v := .int .i64 vv) (by simp) (by show wr.heap.size ≠ c; omega)
            clear i2
            have K5 := Lib.hid ((Kp.of_ext ((Ext.refl wr).alloc _)).trans k5)
            have HR5 := Lib.hid r5
            clear k5 r5
            go_wp2
            go_roundw
            case rel => exact ⟨j + 1, by omega, by go_num, by show RdAt _ _ _ _ _; rw [HP1.out]; exact HR5.out, HDN.out.kp K5.out, HBX.out.same (K5.out.block (Ext.lt (p := ⟨b, 0, none⟩) HBX.out.1.1) hbc), Kp.out HE.out K5.out hwc⟩
            case measure => simp [intOf]; omega
          · dsimp only at h0 hk
            have U := Lib.hid (B2 h0 hk)
            subst h0
            clear B0 B1 B2
            go_wp2_with fail
            refine (U.out _ (HR.out.ext ((Ext.refl wr).alloc _))).mono ?_; rintro e w5 ⟨x5, rfl, k5, r5, e5⟩
            obtain rfl : x5 = .nilIface := e5
            have hv := k5.cell (p := ⟨wr.heap.size, 1, none⟩) (v := .int .i64 vv) (by simp) (by show wr.heap.size ≠ c; omega)
            have K5 := Lib.hid ((Kp.of_ext ((Ext.refl wr).alloc _)).trans k5)
            have HR5 := Lib.hid r5
            clear k5 r5
            go_wp2
            go_roundw
            case rel => exact ⟨j + 1, by omega, by go_num, by show RdAt _ _ _ _ _; rw [HP1.out]; exact HR5.out, HDN.out.kp K5.out, HBX.out.same (K5.out.block (Ext.lt (p := ⟨b, 0, none⟩) HBX.out.1.1) hbc), Kp.out HE.out K5.out hwc⟩
            case measure => simp [intOf]; omega
        · obtain rfl : j = k := by omega
          have hend : RdAt (fun _ => False) wr c (pkL l) ln := by
            have := HR.out
            rwa [List.take_of_length_le (by rw [HD.out.2.1]; exact Nat.le_refl _), HL.out, HLN.out] at this
          have HEND := Lib.hid hend
          clear hend HR HDN
          go_wp2_with fail
          refine (first3_any _ (hg.ext HE.out)).mono ?_; rintro e w5 ⟨rfl, hx5⟩
          have HEND5 := Lib.hid (HEND.out.ext hx5)
          go_wp2_with fail
          refine (place_any c ln (pkL l) _ HEND5.out).mono ?_; rintro e w6 ⟨rfl, rfl⟩
          go_wp2_with fail
          refine (wrlen_box b ln uv _ (HBX.out.ext hx5)).mono ?_; rintro e w6 ⟨rfl, rfl⟩
          go_wp2
          go_ret
          exact ⟨rfl, HE.out.trans hx5⟩
end Go.Proofs.YtehmgieocoppjaaDoor
