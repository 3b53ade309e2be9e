/- kinlaw14.CoefWrites: the walk. -/
import Derived.Test.YtdndambkaohgiaaGreatDoorDa3
import Derived.Test.YtdndambkaohgiaaGreatDoorCff
import Derived.Test.YtdndambkaohgiaaGreatDoorCfF
import Derived.Test.YtdndambkaohgiaaGreatDoorCpw
import Derived.Test.YtdndambkaohgiaaGreatDoorMdw
import Derived.Test.YtdndambkaohgiaaGreatDoorZb
import Derived.Deep.RegionHeld3
namespace Go.Proofs.YtdndambkaohgiaaGreatDoor
set_option linter.unusedVariables false
set_option linter.unusedSimpArgs false
open Go.RowKit Go.Extern.Stop Go.Stop Go.Extern

theorem few_stepW {L : List (List Int)} (h : fewCB L = true) {i : Nat} {xs : List Int} (hi : L[i]? = some xs) : (xs.length : Int) + fewC L i = fewC L (i + 1) ∧ fewC L (i + 1) ≤ 5000 := by
  obtain ⟨h1, h2⟩ := fewC_out h
  have hil := (List.getElem?_eq_some_iff.1 hi).1
  have hm := fewC_mono L (show i + 1 ≤ L.length by omega)
  have hb := fewC_bound L i
  have e : fewC L (i + 1) = fewC L i + min ((xs.length : Nat) : Int) 5001 := by
    show fewC L i + min (((L.getD i []).length : Nat) : Int) 5001 = _
    rw [List.getD_eq_getElem?_getD, hi]
    rfl
  omega
def cstW (L : List (List Int)) (i N : Nat) : Prop := (N : Int) ≤ 172 * fewC L i + 300 * (i : Int)
theorem cst_stepW {L : List (List Int)} {i N : Nat} {xs : List Int} (hf : fewCB L = true) (hx : L[i]? = some xs) (h : cstW L i N) : cstW L (i + 1) (N + 4 * (43 * xs.length + 1)) ∧ N + 4 * (43 * xs.length + 1) + 5 ≤ 3900000 := by
  obtain ⟨h1, h2⟩ := few_stepW hf hx
  have hil := (List.getElem?_eq_some_iff.1 hx).1
  have hl := (fewC_out hf).1
  have hb := fewC_bound L i
  refine ⟨?_, ?_⟩
  · unfold cstW at h ⊢
    push_cast
    omega
  · unfold cstW at h
    have := fewC_bound L i
    omega
set_option maxHeartbeats 8000000 in
set_option maxRecDepth 20000 in
theorem cwrites_law (L : List (List Int)) (v : Value) (w : World) (hg : EtIs w) (hL : Mat w v L) : Calls Tryz.prog 3 #[v] w fun e w' => e = .returned (.bool true) ∧ Ext w w' := by
  have HET := Lib.hid hg
  clear hg
  obtain ⟨la, lc, rfl⟩ := hL.form
  obtain ⟨m, hm'⟩ : ∃ m, L.length = m := ⟨_, rfl⟩
  have HNL := Lib.hid hm'
  have HOT : Hid (Mat w (.slice la m lc) L) := by show Mat _ _ _; rw [← hm']; exact hL
  rw [hm']
  have UF := Lib.hid (fun w' (h : Ext w w') => fewC_any L (.slice la m lc) w' (HOT.out.ext h))
  clear hL hm'
  go_enter Tryz.func3, Tryz.ntmps3
  go_wp2_with fail
  refine (first14_any _ HET.out).mono ?_; rintro e w1 ⟨rfl, hx1⟩
  have HE1 := Lib.hid hx1
  clear hx1
  go_wp2_with fail
  refine (mwnew_any _).mono ?_; rintro e w2 ⟨a, F, rfl, hF, hW, hx2⟩
  have HU : Hid (Uno (WrF a) w w2 ⟨ch0, newE⟩) := Uno.first hW (HE1.out.trans hx2) (fun k hk => Nat.le_trans HE1.out.size (hF k hk))
  clear hF hW hx2 HE1
  go_wp2_with fail
  refine (UF.out _ HU.out.out).mono ?_; rintro e w3 ⟨rfl, rfl⟩
  clear UF
  cases hfew : fewCB L
  · go_wp2_with fail
    refine (first14_any _ (HET.out.ext HU.out.out)).mono ?_; rintro e w6 ⟨rfl, hx6⟩
    go_wp2
    go_ret
    exact ⟨rfl, HU.out.out.trans hx6⟩
  have HFW := Lib.hid hfew
  have hm2 : m ≤ 200 := by have := (fewC_out hfew).1; rw [HNL.out] at this; exact this
  clear hfew
  go_wp2_with fail
  refine (dwnew_any _).mono ?_; rintro e w3 ⟨c, G, rfl, hG, hD, hx3⟩
  have HU3 := Lib.hid (HU.out.add (WrF.obj a) hx3 hD hG)
  have OO := Lib.hid ((WrF.obj a).sep (DwF.obj c))
  clear hG hD hx3 HU
  go_wp2_with fail
  go_loopw [5] (fun iv wr => ∃ (i N : Nat) (s : Ms Ec) (t : Ms Xe), i ≤ m ∧ iv = .int .i64 (i : Int) ∧ Hid (cstW L i N) ∧ Hid (rS Ral N s t) ∧ Hid (Uno (Sep (WrF a) (DwF c)) w wr (s, t))) (fun iv _ => m - (intOf iv).toNat)
  case atStart => exact ⟨0, 0, _, _, Nat.zero_le _, rfl, (by show ((0 : Nat) : Int) ≤ 172 * 0 + 300 * ((0 : Nat) : Int); decide), ral_new, HU3.out⟩
  case round =>
    clear HU3
    obtain ⟨i, N, s, t, hi, rfl, HC, HJ, HU⟩ := hrel
    by_cases hlt : i < m
    · obtain ⟨xs, hX⟩ : ∃ xs, L[i]? = some xs := ⟨_, List.getElem?_eq_getElem (by rw [HNL.out]; exact hlt)⟩
      obtain ⟨g, off, rfl⟩ := HOT.out.had (by omega)
      obtain ⟨ra, rc, q0, q1⟩ := HOT.out.row hX
      obtain ⟨hl1, hl2⟩ := few_stepW HFW.out hX
      obtain ⟨k1, k2⟩ := cst_stepW HFW.out hX HC.out
      have hfb := fewC_bound L i
      have HV1 : Hid (Ints w (.slice ra xs.length rc) xs) := ⟨q1, by omega⟩
      have hlx : xs.length ≤ 1000000 := by omega
      have HQ0 := Lib.hid q0
      have HC2 := Lib.hid k1
      obtain ⟨o1, o2⟩ := ral_ok HJ.out
      obtain ⟨a1, a2⟩ := Pg.same mrE (cod_dep xs) HJ.out
      have HO1 := Lib.hid o1
      have HO2 := Lib.hid o2
      have HA1 := Lib.hid a1
      have HJ2 : Hid (rS Ral (N + 4 * (43 * xs.length + 1)) ((codP xs).run mE s).2 ((codP xs).run mX t).2) := a2
      have x1 : (0 : Int) ≤ (i : Int) := by omega
      have x2 : (i : Int) < (m : Int) := by omega
      have c0 := HU.out.out.cell q0
      have UCP := Lib.hid (copy_own xs _ wr (HV1.out.ext HU.out.out) hlx)
      have HLX := Lib.hid hlx
      have hN4 : N + 5 ≤ 3900000 := by omega
      clear hX q0 q1 hl1 hl2 hfb k1 k2 o1 o2 a1 a2 HC HJ hlx
      go_wp2_with fail
      refine (UCP.out).mono ?_; rintro e w5 ⟨u5, rfl, ho5, hx5⟩
      obtain ⟨hT, hTf⟩ := TlF.new rfl ho5
      have H5 := Lib.hid (bag_add OO.out (HU.out.bag OO.out (P := fun _ => True) (fun _ => trivial)) hx5 (hT.ho HLX.out) hTf)
      have UA := Lib.hid (wl_code (DwF.obj c) H5.out HO1.out (by omega) (fun W h => h.2))
      clear UCP ho5 hx5 hT hTf HU c0 H5
      go_wp2_with fail
      refine (UA.out).mono ?_; rintro e w6 ⟨u6, x6, rfl, h6⟩
      have c6 := h6.out.cell HQ0.out
      have UX := Lib.hid (xr_arg (WrF.obj a) h6 HO2.out hN4 HV1.out)
      clear UA h6
      go_wp2_with fail
      refine (UX.out).mono ?_; rintro e w7 ⟨u7, cc, ea, en, ek, rfl, h7⟩
      rw [← HA1.out] at h7
      obtain ⟨f, hf⟩ : ∃ f, ((codP xs).run mE s).1.1 = f := ⟨_, rfl⟩
      obtain ⟨ys, hys⟩ : ∃ ys, ((codP xs).run mE s).1.2 = ys := ⟨_, rfl⟩
      rw [hf, hys] at h7
      obtain ⟨s2, hs2⟩ : ∃ z, ((codP xs).run mE s).2 = z := ⟨_, rfl⟩
      obtain ⟨t2, ht2⟩ : ∃ z, ((codP xs).run mX t).2 = z := ⟨_, rfl⟩
      rw [hs2, ht2] at h7 HJ2
      have H7 := Lib.hid h7
      clear UX h7 c6 hf hys hs2 ht2 HA1 HO1 HO2
      have A8 := (Ext.refl w7).alloc (.cells #[.int .i64 cc, .slice ea en ek] 38)
      have H8 := Lib.hid (bag_ext OO.out H7.out A8)
      obtain ⟨v0, v1⟩ := evar w7 cc ea en ek (Ext.refl _)
      have U1 := Lib.hid (ints_same ys ys u6 u7 _ H8.out.held.1.2.1 H8.out.held.2.1)
      rw [decide_eq_true rfl] at U1
      clear A8 H7
      go_wp2_with fail
      refine (U1.out).mono ?_; rintro e w9 ⟨rfl, hx9⟩
      have H9 := Lib.hid (bag_ext OO.out H8.out hx9)
      have y0 := hx9.cell v0
      have y1 := hx9.cell v1
      have U2 := Lib.hid (same_fall f x6 (.slice ea en ek) cc w9 (HET.out.ext H9.out.out) H9.out.held.1.2.2 H9.out.held.2.2)
      clear U1 hx9 H8 v0 v1
      go_wp2_with fail
      refine (U2.out).mono ?_; rintro e w10 ⟨rfl, hx10⟩
      have H10 := Lib.hid (bag_ext OO.out H9.out hx10)
      have c10 := H10.out.out.cell HQ0.out
      have U3 := Lib.hid (ints_same xs xs u5 (.slice ra xs.length rc) w10 H10.out.held.1.1.2 (HV1.out.ext H10.out.out))
      rw [decide_eq_true rfl] at U3
      clear U2 hx10 H9 y0 y1
      go_wp2_with fail
      refine (U3.out).mono ?_; rintro e w11 ⟨rfl, hx11⟩
      have HUz := Lib.hid ((bag_ext OO.out H10.out hx11).fst)
      clear U3 hx11 H10 c10
      go_wp2
      go_roundw
      case rel => exact ⟨i + 1, _, s2, t2, by omega, by go_num, HC2.out, HJ2.out, HUz.out⟩
      case measure => simp [intOf] <;> omega
    · have x2 : ¬ (i : Int) < (m : Int) := by omega
      obtain ⟨q1, q2⟩ := ral_ok HJ.out
      have HQ1 := Lib.hid q1
      have HQ2 := Lib.hid q2
      have HAL := Lib.hid HJ.out.2.2.1
      have hN9 : N + 5 ≤ 3900000 := by
        have h1 := HC.out
        have h2 := (fewC_out HFW.out).2
        have h3 := fewC_mono L (show i ≤ L.length by rw [HNL.out]; exact hi)
        unfold cstW at h1
        omega
      have hL9 : (trimE (allE s.co)).length ≤ 4000000 := by
        have h1 := trim_le (allE s.co)
        rw [allE_len] at h1
        have h2 := q1.2.1.1
        have h3 : lenE s.co ≤ s.co.done.length + s.co.run + 5 := by unfold lenE; split <;> omega
        omega
      have HLT := Lib.hid (fun (y : Nat) (hy : y ∈ trimE (allE s.co)) => all_lt q1.2.1 y (trim_mem _ y hy))
      clear q1 q2
      have HU' := HU
      obtain ⟨_, hd⟩ := HU'.out.r
      obtain ⟨xb, _, hx1, -, ⟨-, cx⟩, -⟩ := hd
      clear hx1 HU'
      have O2 := (WrF.obj a).sep (DwF.obj c)
      have KS : Hid (∀ w', Ext wr w' → w'.cell? ⟨c, 1, none⟩ = some (.pointer (some ⟨xb, 0, none⟩)) ∧ Ext wr w') := fun w' h => ⟨h.cell cx, h⟩
      obtain ⟨bs, hbs⟩ : ∃ bs, trimE (allE s.co) = bs := ⟨_, rfl⟩
      have UE : Hid (∀ w', Ext wr w' → Calls Tryz.prog 18 #[.pointer (some ⟨a, 0, none⟩)] w' (XvPost w' bs)) := fun w' h => by
        refine (uw_end (HU.out.ext O2 h) HQ1.out (by omega)).mono ?_
        rintro e w8 ⟨g8, k8, c8, rfl, hl8, ho8, hx8⟩
        rw [hbs] at hl8 ho8
        have hL := HLT.out
        rw [hbs] at hL hL9
        exact ⟨_, rfl, Bys_n ho8 hl8 hL (by omega), by rw [hl8]; exact ho8, hx8⟩
      have UX : Hid (∀ w', Ext wr w' → Calls Tryz.prog 19 #[.pointer (some ⟨xb, 0, none⟩)] w' (XvPost w' bs)) := fun w' h => by
        rw [← hbs, ← HAL.out.2.1]
        exact ux_end (HU.out.ext O2 h) (h.cell cx) HQ2.out (by omega)
      have UFI : Hid (∀ w', Ext wr w' → Calls Tryz.prog 8 #[] w' fun e w'' => e = .returned (.bool true) ∧ Ext w' w'') := fun w' h => first14_any w' (HET.out.ext (HU.out.out.trans h))
      have HEW := Lib.hid HU.out.out
      clear hbs HQ1 HQ2 HAL HLT hL9 HJ hN9
      go_wp2_with fail
      go_region_held3 (fun w' => w'.cell? ⟨c, 1, none⟩ = some (.pointer (some ⟨xb, 0, none⟩)) ∧ Ext wr w')
        (first | assumption | (go_split_ands; exact KS.out _ (by repeat (first | exact Ext.refl _ | assumption | refine Ext.drew ?_ | refine Ext.trans ?_ (by assumption)))))
        ((first
          | (go_at_call 8; obtain ⟨_, hE1⟩ : _ ∧ Ext wr _ := (by assumption); refine (UFI.out _ hE1).mono ?_; rintro e w6 ⟨rfl, hx6⟩; have E6 := hE1.trans hx6; clear hE1)
          | (go_at_call 18; obtain ⟨_, hE1⟩ : _ ∧ Ext wr _ := (by assumption); refine (UE.out _ hE1).mono ?_; rintro e w8 ⟨u8, rfl, hy8, -, hx8⟩; have E8 := hE1.trans hx8; have HY := Lib.hid hy8; clear hE1 hy8)
          | (go_at_call 19; obtain ⟨_, hE1⟩ : _ ∧ Ext wr _ := (by assumption); refine (UX.out _ hE1).mono ?_; rintro e w9 ⟨u9, rfl, hy9, -, hx9⟩; have E9 := hE1.trans hx9; have HX := Lib.hid hy9; clear hE1 hy9)
          | (go_at_call 17; refine (bytes_same bs _ _ _ (HY.out.ext (by repeat (first | exact Ext.refl _ | assumption | refine Ext.drew ?_ | refine Ext.trans ?_ (by assumption)))) (HX.out.ext (by repeat (first | exact Ext.refl _ | assumption | refine Ext.drew ?_ | refine Ext.trans ?_ (by assumption))))).mono ?_; rintro e w10 ⟨rfl, rfl⟩)))
      all_goals obtain ⟨_, hE9⟩ : _ ∧ Ext wr _ := by assumption
      all_goals go_wp2
      all_goals go_ret
      all_goals exact ⟨rfl, HEW.out.trans hE9⟩
end Go.Proofs.YtdndambkaohgiaaGreatDoor
