/- kinlaw21.DecodeLeans: the walk, a place from 0 on. -/
import Derived.Test.YtcekpngkfldgkaaGreatDoorLDeT
import Derived.Deep.RegionHeld3
namespace Go.Proofs.YtcekpngkfldgkaaGreatDoor
set_option linter.unusedVariables false
set_option linter.unusedSimpArgs false
open Go.RowKit Go.Extern.Stop Go.Stop Go.Extern

set_option maxRecDepth 20000 in
set_option maxHeartbeats 16000000 in
theorem leans_pos (L : List Cd) (PW PH : Int) (ps : List Int) (AT W H : Int) (la pa : Option Addr) (ln lc pn pc : Nat) (w : World) (hn : Hid (¬ AT < 0)) (hg : EtIs w) (hA : -9223372036854775808 ≤ AT ∧ AT ≤ 9223372036854775807) (hL : Cds w (.slice la ln lc) L) (hip : Row w (.slice pa pn pc) ps.length (ps.map (Value.int .i64))) :
    Calls Tryz.prog 6 #[.slice la ln lc, .agg #[.int .i64 PW, .int .i64 PH, .slice pa pn pc], .int .i64 AT, .int .i64 W, .int .i64 H] w fun e w' => e = .returned (.bool true) ∧ Ext w w' := by
  have HET := Lib.hid hg
  have HL := Lib.hid hL
  have HI := Lib.hid hip
  have hln : ln = L.length := hL.len
  have HLN := Lib.hid hln
  have A0 := BoxIs.new w #[.int .i64 PW, .int .i64 PH, .slice pa pn pc] 24
  have E0 := (Ext.refl w).alloc (.cells #[.int .i64 PW, .int .i64 PH, .slice pa pn pc] 24)
  obtain ⟨u, hu⟩ : ∃ z, w.alloc (.cells #[.int .i64 PW, .int .i64 PH, .slice pa pn pc] 24) = z := ⟨_, rfl⟩
  rw [hu] at A0 E0
  have HU := Lib.hid hu
  have hcap := hL.caps.2
  clear hg hL hip hu hln
  go_enter Tryz.func6, Tryz.ntmps6
  go_wp2_with fail
  rw [HU.out]
  refine (first21_any _ (HET.out.ext E0)).mono ?_; rintro e w1 ⟨rfl, hx1⟩
  have HA0 := Lib.hid (A0.ext hx1)
  have HE1 := Lib.hid (E0.trans hx1)
  clear A0 E0 hx1 HU
  have p0 := HA0.out.cell (i := 0) (v := .int .i64 PW) rfl
  have p1 := HA0.out.cell (i := 1) (v := .int .i64 PH) rfl
  have p2 := HA0.out.cell (i := 2) (v := .slice pa pn pc) rfl
  have B3 := BoxIs.new w1 #[.int .i64 PW, .int .i64 PH, .slice pa pn pc] 24
  have X3 := (Ext.refl w1).alloc (.cells #[.int .i64 PW, .int .i64 PH, .slice pa pn pc] 24)
  obtain ⟨w3, hw3⟩ : ∃ z, w1.alloc (.cells #[.int .i64 PW, .int .i64 PH, .slice pa pn pc] 24) = z := ⟨_, rfl⟩
  rw [hw3] at B3 X3
  have HW3 := Lib.hid hw3
  have E3 := HE1.out.trans X3
  have HFM := Lib.hid (Fms.one B3 (HI.out.ext E3))
  have HE3 := Lib.hid E3
  have HX3 := Lib.hid X3
  clear hw3 B3 X3 E3
  go_wp2_with fail
  rw [HW3.out]
  refine (few21_any L _ _ _ _ (HL.out.ext HE3.out) HFM.out (by simp)).mono ?_; rintro e w4 ⟨rfl, hx4⟩
  clear HFM HW3 p0 p1 p2
  obtain ⟨fb, hfb⟩ : ∃ b, fewF L [(PW, PH, ps)] = b := ⟨_, rfl⟩
  rw [hfb]
  have HE4 := Lib.hid (HE3.out.trans hx4)
  have HA4 := Lib.hid (HA0.out.ext (HX3.out.trans hx4))
  clear hx4 HE3 HX3 HA0 HE1
  cases fb with
  | false =>
    go_wp2_with fail
    refine (first21_any _ (HET.out.ext HE4.out)).mono ?_; rintro e w5 ⟨rfl, hx5⟩
    have E5 := HE4.out.trans hx5
    clear hx5
    go_wp2
    go_ret
    exact ⟨rfl, E5⟩
  | true =>
    have hfew : (L.length ≤ 40 ∧ ∀ (q : Nat) (c : Cd), L[q]? = some c → c.2.length ≤ 20000) ∧ ps.length ≤ 20000 := by
      unfold fewF at hfb
      rw [Bool.and_eq_true] at hfb
      exact ⟨fewC_out hfb.1, (pixB_out hfb.2).2 0 (PW, PH, ps) rfl⟩
    have HFW := Lib.hid hfew
    have HII : Hid (Ints w (.slice pa pn pc) ps) := ⟨HI.out, by have := HFW.out.2; omega⟩
    have hl40 : ln ≤ 40 := by rw [HLN.out]; exact HFW.out.1.1
    clear hfb hfew HI hcap
    by_cases hz : ln = 0
    · have t0 : ((ln : Int) == 0) = true := by subst hz; rfl
      subst hz
      go_wp2_with fail
      refine (first21_any _ (HET.out.ext HE4.out)).mono ?_; rintro e w5 ⟨rfl, hx5⟩
      have E5 := HE4.out.trans hx5
      clear hx5
      go_wp2
      go_ret
      exact ⟨rfl, E5⟩
    · obtain ⟨g0, o0, rfl⟩ := HL.out.had (by omega)
      obtain ⟨q, a, hq, ha, hmod, ha9⟩ := at_of AT ln (by omega) hA
      have hz2 : ¬ (ln : Int) = 0 := by omega
      have UFS := Lib.hid (fun W' (kx : Ext w W') => dframes_any L _ W H W' (HL.out.ext kx) (fun q c hq => Nat.le_trans (HFW.out.1.2 q c hq) (by decide)) (by have := HFW.out.1.1; omega))
      obtain ⟨T, hT⟩ : ∃ T, dfsV L W H = T := ⟨_, rfl⟩
      rw [hT] at UFS
      have HT := Lib.hid hT
      clear hT
      · have hn : ¬ AT < 0 := by have := hn.out; omega
        rw [if_neg hn] at ha
        subst ha
        have d3 : IntKind.i64.wrap (q : Int) = (q : Int) := by rw [IntKind.wrap_i64]; omega
        go_wp2_with fail
        refine (UFS.out _ HE4.out).mono ?_; rintro e w5 ⟨v5, x5, rfl, hx5, ⟨hf5, hc5⟩, he5⟩
        have HE5 := Lib.hid (HE4.out.trans hx5)
        have HA5 := Lib.hid (HA4.out.ext hx5)
        have HF5 := Lib.hid hf5
        have HC5 := Lib.hid hc5
        clear hx5 hf5 hc5 HE4 HA4 UFS
        obtain ⟨rf, A⟩ := T
        cases rf with
        | some ee =>
          obtain rfl : A = [] := dfs_some HT.out
          obtain ⟨xt, xv, rfl⟩ := ErrIs.ne he5
          obtain ⟨va, vc, hv⟩ := HF5.out.form
          obtain rfl : v5 = .slice va 0 vc := hv
          clear he5 HF5 HC5 HA5 HT
          go_wp2_with fail
          refine (first21_any _ (HET.out.ext HE5.out)).mono ?_; rintro e w6 ⟨rfl, hx6⟩
          have E6 := HE5.out.trans hx6
          clear hx6
          go_wp2
          go_ret
          exact ⟨rfl, E6⟩
        | none =>
          obtain rfl : x5 = .nilIface := he5
          obtain ⟨hl16, hch⟩ := dfs_none HT.out
          have HCH := Lib.hid hch
          have HAL : Hid (ln = A.length) := by show _ = _; rw [chn_len hch, ← HLN.out]
          obtain ⟨va, vc, hv⟩ := HF5.out.form
          rw [show (none, A).2 = A from rfl] at hv
          obtain rfl : v5 = .slice va ln vc := by rw [HAL.out]; exact hv
          have hvc : ln ≤ vc ∧ vc ≤ maxLen := HC5.out.of
          have HF : Hid (Fms w5 (.slice va ln vc) A) := HF5.out
          obtain ⟨g5, o5, rfl⟩ := HF.out.had (by omega)
          have HSM := Lib.hid (chn_small hch)
          have HL16 := Lib.hid hl16
          obtain ⟨c, hc⟩ : ∃ c, L[q]? = some c := ⟨_, List.getElem?_eq_getElem (by rw [← HLN.out]; exact hq)⟩
          obtain ⟨f, hf, hfd⟩ := chn_at hch hc
          obtain ⟨ck, cb⟩ := c
          have hlcap := HL.out.caps
          have HCQ := Lib.hid hc
          have HFQ := Lib.hid hf
          obtain ⟨ra, rn, rc, k0, k1, k2, k3⟩ := (HL.out.ext HE5.out).at hc
          dsimp only at k0 k1 k2 k3
          have HBY : Hid (Bys w5 (.slice ra rn rc) cb) := ⟨k2, k3, by have h9 := HFW.out.1.2 q _ hc; dsimp only at h9; omega⟩
          have HBL : Hid (cb.length ≤ 1000000) := Nat.le_trans (HFW.out.1.2 q _ hc) (by decide)
          have hql : (q : Int) < (ln : Int) := by omega
          have hq0 : (0 : Int) ≤ (q : Int) ∧ (q : Int) ≤ (ln : Int) := by omega
          have hqc : (q : Int) ≤ (lc : Int) := by omega
          have hqv : (q : Int) ≤ (vc : Int) := by omega
          have n1 : ¬ lc = q := by omega
          have n2 : ¬ lc - q = 0 := by omega
          have n3 : ¬ vc = q := by omega
          have n4 : ¬ vc - q = 0 := by omega
          have k0' : w5.cell? ⟨g0, o0 + q * 2 + 0, none⟩ = some (.int .i64 ck) := k0
          clear hv hc hf hch hl16 k2 k3 HF5 HC5 hfd
          -- the frames ahead of place q, at the end
          have UHD := Lib.hid (fun W' (kx : Ext w W') => dframes_any (L.take q) _ W H W' ((HL.out.ext kx).take (q := q) (by omega)) (fun j c hj => by
            rw [List.getElem?_take] at hj
            split at hj
            · exact Nat.le_trans (HFW.out.1.2 j c hj) (by decide)
            · cases hj) (by rw [List.length_take]; have := HFW.out.1.1; omega))
          rw [dfs_of (by rw [List.length_take]; have := HL16.out; omega) (chn_take q HCH.out)] at UHD
          by_cases hk : ck = 1 ∨ ck = 4
          · have hchq : Chn W H fr00 (L.drop q) (A.drop q) := by
              have h9 := chn_drop q (by rw [← HLN.out]; omega) HCH.out
              obtain ⟨h3, h4⟩ := List.getElem?_eq_some_iff.1 HCQ.out
              rw [List.drop_eq_getElem_cons h3, h4] at h9 ⊢
              exact chn_key hk h9
            have UKF := Lib.hid (fun W' (kx : Ext w W') => dframes_any (L.drop q) _ W H W' ((HL.out.ext kx).drop (q := q) hq) (fun j c hj => by
              rw [List.getElem?_drop] at hj
              exact Nat.le_trans (HFW.out.1.2 _ c hj) (by decide)) (by rw [List.length_drop]; have := HFW.out.1.1; omega))
            rw [dfs_of (by rw [List.length_drop]; have := HL16.out; omega) hchq] at UKF
            have hfr : dfrV ck cb PW PH ps W H = (none, f) := by
              obtain ⟨f', h1, h2⟩ := chn_at HCH.out HCQ.out
              rw [HFQ.out] at h1
              obtain rfl := Option.some.inj h1
              exact (dfr_key hk).trans h2
            have UKG := Lib.hid (fun W' (hb : Bys W' (.slice ra rn rc) cb) (kx : Ext w W') => dframe_any ck cb PW PH ps W H ra pa rn rc pn pc W' hb HBL.out (HII.out.ext kx))
            rw [hfr] at UKG
            obtain ⟨f1, f2, f3⟩ := f
            clear hchq hfr
            by_cases hk1 : ck = 1
            · have t1 : (ck == 1) = true := by simp [hk1]
              have t1' : decide (ck = 1) = true := decide_eq_true hk1
              clear hk hk1
              go_wp2_with fail
              refine (UKF.out _ HE5.out).mono ?_; rintro e w6 ⟨v6, x6, rfl, hx6, ⟨hf6, hc6⟩, he6⟩
              obtain rfl : x6 = .nilIface := he6
              have HF6 := Lib.hid hf6
              have HX6 := Lib.hid hx6
              have HE6 := Lib.hid (HE5.out.trans hx6)
              have HA6 := Lib.hid (HA5.out.ext hx6)
              obtain ⟨wa6, wc6, hv6⟩ := hf6.form
              obtain ⟨wn6, hwn6⟩ : ∃ z : Nat, z = (A.drop q).length := ⟨_, rfl⟩
              obtain rfl : v6 = .slice wa6 wn6 wc6 := by rw [hwn6]; exact hv6
              have j0 := hx6.cell k0
              have j1 := hx6.cell k1
              have p0 := HA6.out.cell (i := 0) (v := .int .i64 PW) rfl
              have p1 := HA6.out.cell (i := 1) (v := .int .i64 PH) rfl
              have p2 := HA6.out.cell (i := 2) (v := .slice pa pn pc) rfl
              have KS : Hid (∀ W', Ext w6 W' → (W'.cell? ⟨g0, o0 + q * 2, none⟩ = some (.int .i64 ck) ∧ W'.cell? ⟨g0, o0 + q * 2 + 1, none⟩ = some (.slice ra rn rc)) ∧ (W'.cell? ⟨w.heap.size, 0, none⟩ = some (.int .i64 PW) ∧ W'.cell? ⟨w.heap.size, 1, none⟩ = some (.int .i64 PH) ∧ W'.cell? ⟨w.heap.size, 2, none⟩ = some (.slice pa pn pc)) ∧ Ext w6 W') := fun W' kx => ⟨⟨kx.cell j0, kx.cell j1⟩, ⟨kx.cell p0, kx.cell p1, kx.cell p2⟩, kx⟩
              obtain ⟨ya, yn, yc, y0, y1, y2, y3⟩ := (HF.out.ext hx6).at HFQ.out
              dsimp only at y0 y1 y2 y3
              have HIY : Hid (Ints w6 (.slice ya yn yc) f3) := ⟨y3, by have h9 := HSM.out q _ HFQ.out; dsimp only at h9; omega⟩
              clear hx6 hf6 hc6 hv6 hwn6 k0' UKF y3
              go_wp2_with fail
              refine wp_region_held_drew (S := fun w' => (w'.cell? ⟨g0, o0 + q * 2, none⟩ = some (.int .i64 ck) ∧ w'.cell? ⟨g0, o0 + q * 2 + 1, none⟩ = some (.slice ra rn rc)) ∧ (w'.cell? ⟨w.heap.size, 0, none⟩ = some (.int .i64 PW) ∧ w'.cell? ⟨w.heap.size, 1, none⟩ = some (.int .i64 PH) ∧ w'.cell? ⟨w.heap.size, 2, none⟩ = some (.slice pa pn pc)) ∧ Ext w6 w') (by kernel_rfl) (KS.out _ (Ext.refl _).drew) (fun hHeld => ?_)
              refine wpAnyH_take (i := 0) (oi := _) (v := ?_) rfl (by kernel_rfl) (by kernel_rfl) (by kernel_rfl) (fun _ _ _ h => h) (Or.inl ⟨by rfl, ?_⟩) (by assumption) ?_
              case refine_2 => (intro w hSw; (try dsimp only at hSw); go_simp; (try with_reducible rfl))
              try simp only [Act.put, List.setIfInBounds_toArray, List.set_cons_zero, List.set_cons_succ]
              refine wpAnyH_take (i := 1) (oi := _) (v := ?_) rfl (by kernel_rfl) (by kernel_rfl) (by kernel_rfl) (fun _ _ _ h => h) (Or.inl ⟨by rfl, ?_⟩) (by assumption) ?_
              case refine_2 => (intro w hSw; (try dsimp only at hSw); go_simp; (try with_reducible rfl))
              try simp only [Act.put, List.setIfInBounds_toArray, List.set_cons_zero, List.set_cons_succ]
              refine wpAnyH_take (i := 2) (oi := _) (v := ?_) rfl (by kernel_rfl) (by kernel_rfl) (by kernel_rfl) (fun _ _ _ h => h) (Or.inl ⟨by rfl, ?_⟩) (by assumption) ?_
              case refine_2 => (intro w hSw; (try dsimp only at hSw); go_simp; (try with_reducible rfl))
              try simp only [Act.put, List.setIfInBounds_toArray, List.set_cons_zero, List.set_cons_succ]
              refine wpAnyH_take (i := 3) (oi := _) (v := ?_) rfl (by kernel_rfl) (by kernel_rfl) (by kernel_rfl) (fun _ _ _ h => h) (Or.inl ⟨by rfl, ?_⟩) (by assumption) ?_
              case refine_2 => (intro w hSw; (try dsimp only at hSw); go_simp; (try with_reducible rfl))
              try simp only [Act.put, List.setIfInBounds_toArray, List.set_cons_zero, List.set_cons_succ]
              refine wpAnyH_take (i := 4) (oi := _) (v := ?_) rfl (by kernel_rfl) (by kernel_rfl) (by kernel_rfl) (fun _ _ _ h => h) (Or.inl ⟨by rfl, ?_⟩) (by assumption) ?_
              case refine_2 => (intro w hSw; (try dsimp only at hSw); go_simp; (try with_reducible rfl))
              try simp only [Act.put, List.setIfInBounds_toArray, List.set_cons_zero, List.set_cons_succ]
              refine wpAnyH_take (i := 5) (oi := _) (v := ?_) rfl (by kernel_rfl) (by kernel_rfl) (by kernel_rfl) (fun _ _ _ h => h) (Or.inl ⟨by rfl, ?_⟩) (by assumption) ?_
              case refine_2 => (intro w hSw; (try dsimp only at hSw); go_simp; (try with_reducible rfl))
              try simp only [Act.put, List.setIfInBounds_toArray, List.set_cons_zero, List.set_cons_succ]
              refine wpAnyH_take (i := 6) (oi := _) (v := ?_) rfl (by kernel_rfl) (by kernel_rfl) (by kernel_rfl) (fun _ _ _ h => h) (Or.inl ⟨by rfl, ?_⟩) (by assumption) ?_
              case refine_2 => (intro w hSw; (try dsimp only at hSw); go_simp; (try with_reducible rfl))
              try simp only [Act.put, List.setIfInBounds_toArray, List.set_cons_zero, List.set_cons_succ]
              refine wpAnyH_ready (rs := [7, 11]) (by kernel_rfl) (by simp) ?_
              refine AllReadyH.cons (o := _) rfl (fun K hK => ?_) (AllReadyH.cons (o := _) rfl (fun K hK => ?_) AllReadyH.nil)
              · go_simp
                go_at_call 24
                refine (UKG.out _ (HBY.out.ext (HX6.out.trans (Ext.refl w6).drew)) (HE6.out.trans (Ext.refl w6).drew)).mono ?_; intro e w7 hd7; obtain ⟨ua, un, uc, X, rfl, hx7, hX, ho7⟩ := hd7.key; clear hd7
                have hx8 : Ext w6 w7 := (Ext.refl w6).drew.trans hx7; have HI7 := Lib.hid ho7.get; clear hx7 hX ho7
                refine hK.out _ _ (KS.out _ hx8) (fun hHeld => ?_)
                clear hK K
                try simp only [Act.put, List.setIfInBounds_toArray, List.set_cons_zero, List.set_cons_succ]
                refine wpAnyH_take (i := 8) (oi := _) (v := ?_) rfl (by kernel_rfl) (by kernel_rfl) (by kernel_rfl) (fun _ _ _ h => h) (Or.inl ⟨by rfl, ?_⟩) (by assumption) ?_
                case refine_2 => (intro w hSw; (try dsimp only at hSw); go_simp; (try with_reducible rfl))
                try simp only [Act.put, List.setIfInBounds_toArray, List.set_cons_zero, List.set_cons_succ]
                refine wpAnyH_take (i := 9) (oi := _) (v := ?_) rfl (by kernel_rfl) (by kernel_rfl) (by kernel_rfl) (fun _ _ _ h => h) (Or.inl ⟨by rfl, ?_⟩) (by assumption) ?_
                case refine_2 => (intro w hSw; (try dsimp only at hSw); go_simp; (try with_reducible rfl))
                try simp only [Act.put, List.setIfInBounds_toArray, List.set_cons_zero, List.set_cons_succ]
                refine wpAnyH_take (i := 10) (oi := _) (v := ?_) rfl (by kernel_rfl) (by kernel_rfl) (by kernel_rfl) (fun _ _ _ h => h) (Or.inl ⟨by rfl, ?_⟩) (by assumption) ?_
                case refine_2 => (intro w hSw; (try dsimp only at hSw); go_simp; (try with_reducible rfl))
                try simp only [Act.put, List.setIfInBounds_toArray, List.set_cons_zero, List.set_cons_succ]
                refine wpAnyH_ready (rs := [11]) (by kernel_rfl) (by simp) ?_
                refine AllReadyH.cons (o := _) rfl (fun K hK => ?_) AllReadyH.nil
                go_simp
                refine hK.out _ _ (KS.out _ (hx8.alloc _)) (fun hHeld => ?_)
                clear hK K
                try simp only [Act.put, List.setIfInBounds_toArray, List.set_cons_zero, List.set_cons_succ]
                refine wpAnyH_ready (rs := [12]) (by kernel_rfl) (by simp) ?_
                refine AllReadyH.cons (o := _) rfl (fun K hK => ?_) AllReadyH.nil
                go_simp
                have BYA := Lib.hid (BoxIs.new w7 #[.int .i64 f1, .int .i64 f2, .slice ua un uc] 24)
                have HEA := Lib.hid (hx8.alloc (.cells #[.int .i64 f1, .int .i64 f2, .slice ua un uc] 24))
                have HIA := Lib.hid (HI7.out.ext ((Ext.refl w7).alloc (.cells #[.int .i64 f1, .int .i64 f2, .slice ua un uc] 24)))
                refine hK.out _ _ (KS.out _ HEA.out) (fun hHeld => ?_)
                clear hK K
                try simp only [Act.put, List.setIfInBounds_toArray, List.set_cons_zero, List.set_cons_succ]
                refine wpAnyH_take (i := 13) (oi := { dst := some 16, op := Op.assign (Operand.tmp 101), type := 37, pos := "law.go:118", after := #[{ on := 10, ground := Ground.data }, { on := 12, ground := Ground.chain }, { on := 0, ground := Ground.phase }, { on := 1, ground := Ground.phase }, { on := 2, ground := Ground.phase }, { on := 3, ground := Ground.phase }, { on := 4, ground := Ground.phase }, { on := 5, ground := Ground.phase }, { on := 6, ground := Ground.phase }, { on := 7, ground := Ground.phase }, { on := 8, ground := Ground.phase }, { on := 9, ground := Ground.phase }, { on := 10, ground := Ground.phase }, { on := 11, ground := Ground.phase }, { on := 12, ground := Ground.phase }], guard := none }) (v := ?_) rfl (by kernel_rfl) (by kernel_rfl) (by kernel_rfl) (fun _ _ _ h => h) (Or.inl ⟨by rfl, ?_⟩) (by assumption) ?_
                case refine_2 => (intro w hSw; (try dsimp only at hSw); go_simp; (try with_reducible rfl))
                try simp only [Act.put, List.setIfInBounds_toArray, List.set_cons_zero, List.set_cons_succ]
                refine wpAnyH_done (by kernel_rfl) ?_ _
                obtain ⟨b, hb⟩ : ∃ b, w7.heap.size = b := ⟨_, rfl⟩
                obtain ⟨wy, hwy⟩ : ∃ z, w7.alloc (.cells #[.int .i64 f1, .int .i64 f2, .slice ua un uc] 24) = z := ⟨_, rfl⟩
                rw [hb, hwy] at BYA
                rw [hwy] at HEA HIA
                have BY9 := BYA; have HE9 := HEA; have HI9 := HIA
                rw [hb, hwy]
                clear hb hwy BYA HEA HIA HI7 hx8
                clear hHeld p0 p1 p2 j0 j1 KS UKG
                -- the world is wy; BY9 : the box b there, HI9, HE9 : Ext w6 wy
                have KT : Hid (∀ W', Ext wy W' → (W'.cell? ⟨b, 0, none⟩ = some (.int .i64 f1) ∧ W'.cell? ⟨b, 1, none⟩ = some (.int .i64 f2) ∧ W'.cell? ⟨b, 2, none⟩ = some (.slice ua un uc)) ∧ (W'.cell? ⟨g5, o5 + q * 3, none⟩ = some (.int .i64 f1) ∧ W'.cell? ⟨g5, o5 + q * 3 + 1, none⟩ = some (.int .i64 f2) ∧ W'.cell? ⟨g5, o5 + q * 3 + 2, none⟩ = some (.slice ya yn yc)) ∧ Ext wy W') := fun W' kx => ⟨⟨kx.cell (BY9.out.cell (i := 0) rfl), kx.cell (BY9.out.cell (i := 1) rfl), kx.cell (BY9.out.cell (i := 2) rfl)⟩, ⟨(HE9.out.trans kx).cell y0, (HE9.out.trans kx).cell y1, (HE9.out.trans kx).cell y2⟩, kx⟩
                have UFR := Lib.hid (fun W' (kx : Ext wy W') => frames_same (A.drop q) (.slice wa6 wn6 wc6) (.slice (some ⟨g5, o5 + q * 3, none⟩) (ln - q) (vc - q)) W' (HF6.out.ext (HE9.out.trans kx)) ((HF.out.ext (HX6.out.trans (HE9.out.trans kx))).drop (q := q)) (by rw [List.length_drop]; have := HAL.out; omega) (fun j f hj => by
                  rw [List.getElem?_drop] at hj
                  exact HSM.out _ f hj))
                have UFM := Lib.hid (fun W' (kx : Ext wy W') => frame_same f1 f2 f3 ua ya un yn uc yc W' (HI9.out.ext kx) (HIY.out.ext (HE9.out.trans kx)))
                go_wp2_with fail
                go_region_held3 (fun w' => (w'.cell? ⟨b, 0, none⟩ = some (.int .i64 f1) ∧ w'.cell? ⟨b, 1, none⟩ = some (.int .i64 f2) ∧ w'.cell? ⟨b, 2, none⟩ = some (.slice ua un uc)) ∧ (w'.cell? ⟨g5, o5 + q * 3, none⟩ = some (.int .i64 f1) ∧ w'.cell? ⟨g5, o5 + q * 3 + 1, none⟩ = some (.int .i64 f2) ∧ w'.cell? ⟨g5, o5 + q * 3 + 2, none⟩ = some (.slice ya yn yc)) ∧ Ext wy w')
                  (first | assumption | (go_split_ands; exact KT.out _ (by first | exact (Ext.refl _).drew | exact Ext.refl _ | exact Ext.trans (by assumption) hx)))
                  ((first | (go_at_call 22; obtain ⟨_, _, hE1⟩ : _ ∧ _ ∧ Ext wy _ := (by assumption); refine (UFR.out _ hE1).mono ?_; rintro e w' ⟨rfl, hx⟩) | (go_at_call 16; obtain ⟨_, _, hE1⟩ : _ ∧ _ ∧ Ext wy _ := (by assumption); refine (UFM.out _ hE1).mono ?_; rintro e w' ⟨rfl, hx⟩)))
                obtain ⟨_, _, hE1⟩ : _ ∧ _ ∧ Ext wy w' := by assumption
                obtain ⟨wz, rfl⟩ : ∃ z, z = w' := ⟨_, rfl⟩
                have HEr : Hid (Ext w5 wz) := HX6.out.trans (HE9.out.trans hE1)
                clear y0 y1 y2 UFR UFM KT hx hE1 HI9 BY9 HE9 HIY HF6 HX6 HE6 HA6 HBY HBL HCQ HFQ k0 k1
                go_wp2_with fail
                go_loopw [17] (fun iv wr => ∃ i : Nat, i ≤ ln ∧ iv = .int .i64 (i : Int) ∧ Ext wz wr) (fun iv _ => ln - (intOf iv).toNat)
                case atStart => exact ⟨0, Nat.zero_le _, rfl, Ext.refl _⟩
                case round =>
                  obtain ⟨i, hi, rfl, hE⟩ := hrel
                  have hE5 := HEr.out.trans hE
                  by_cases hin : i < ln
                  · have ti : (i : Int) < (ln : Int) := by omega
                    obtain ⟨c, hc⟩ : ∃ c, L[i]? = some c := ⟨_, List.getElem?_eq_getElem (by rw [← HLN.out]; exact hin)⟩
                    obtain ⟨sk, sb⟩ := c
                    obtain ⟨sa, sn, sc, s0, s1, -, -⟩ := (HL.out.ext (HE5.out.trans hE5)).at hc
                    dsimp only at s0 s1
                    have s0' : wr.cell? ⟨g0, o0 + i * 2 + 0, none⟩ = some (.int .i64 sk) := s0
                    have dw : IntKind.i64.wrap ((i : Int) + 1) = (i : Int) + 1 := by rw [IntKind.wrap_i64]; omega
                    by_cases hs3 : sk = 3
                    · subst hs3
                      obtain ⟨hi0, f, hf1, hf2⟩ := chn_skip HCH.out hc
                      obtain ⟨p, hp⟩ : ∃ p, i = p + 1 := ⟨i - 1, by omega⟩
                      have hf2' : A[p]? = some f := by rw [show p = i - 1 by omega]; exact hf2
                      have dp : IntKind.i64.wrap ((i : Int) - 1) = (p : Int) := by rw [IntKind.wrap_i64]; omega
                      have tz : ((i : Int) == 0) = false := by simp; omega
                      have pn1 : (p : Int) < (ln : Int) := by omega
                      have fs := HSM.out i f hf1
                      obtain ⟨f1, f2, f3⟩ := f
                      obtain ⟨ua, un, uc, u0, u1, u2, u3⟩ := (HF.out.ext hE5).at hf1
                      obtain ⟨ya, yn, yc, y0, y1, y2, y3⟩ := (HF.out.ext hE5).at hf2'
                      dsimp only at u0 u1 u2 u3 y0 y1 y2 y3 fs
                      have UE := Lib.hid (fun W' (kx : Ext wr W') => frame_same f1 f2 f3 ua ya un yn uc yc W' ((show Ints wr (.slice ua un uc) f3 from ⟨u3, by omega⟩).ext kx) ((show Ints wr (.slice ya yn yc) f3 from ⟨y3, by omega⟩).ext kx))
                      have KS : Hid (∀ W', Ext wr W' → W'.cell? ⟨g0, o0 + i * 2, none⟩ = some (.int .i64 3) ∧ (W'.cell? ⟨g5, o5 + i * 3, none⟩ = some (.int .i64 f1) ∧ W'.cell? ⟨g5, o5 + i * 3 + 1, none⟩ = some (.int .i64 f2) ∧ W'.cell? ⟨g5, o5 + i * 3 + 2, none⟩ = some (.slice ua un uc)) ∧ (W'.cell? ⟨g5, o5 + p * 3, none⟩ = some (.int .i64 f1) ∧ W'.cell? ⟨g5, o5 + p * 3 + 1, none⟩ = some (.int .i64 f2) ∧ W'.cell? ⟨g5, o5 + p * 3 + 2, none⟩ = some (.slice ya yn yc)) ∧ Ext wr W') := fun W' kx => ⟨kx.cell s0, ⟨kx.cell u0, kx.cell u1, kx.cell u2⟩, ⟨kx.cell y0, kx.cell y1, kx.cell y2⟩, kx⟩
                      clear hc hf1 hf2 hf2' u3 y3 fs hi0 hp
                      go_wp2_with fail
                      go_region_held3 (fun w' => w'.cell? ⟨g0, o0 + i * 2, none⟩ = some (.int .i64 3) ∧ (w'.cell? ⟨g5, o5 + i * 3, none⟩ = some (.int .i64 f1) ∧ w'.cell? ⟨g5, o5 + i * 3 + 1, none⟩ = some (.int .i64 f2) ∧ w'.cell? ⟨g5, o5 + i * 3 + 2, none⟩ = some (.slice ua un uc)) ∧ (w'.cell? ⟨g5, o5 + p * 3, none⟩ = some (.int .i64 f1) ∧ w'.cell? ⟨g5, o5 + p * 3 + 1, none⟩ = some (.int .i64 f2) ∧ w'.cell? ⟨g5, o5 + p * 3 + 2, none⟩ = some (.slice ya yn yc)) ∧ Ext wr w')
                        (first | assumption | (go_split_ands; exact KS.out _ (by first | assumption | exact (Ext.refl _).drew | exact Ext.refl _)))
                        ((go_at_call 16; refine (UE.out _ (show Ext wr _ from (by first | exact (Ext.refl _).drew | exact Ext.refl _ | assumption))).mono ?_; rintro e w7 ⟨rfl, hx7⟩; have hx8 : Ext wr w7 := (show Ext wr _ from (Ext.refl wr).drew).trans hx7; clear hx7))
                      have E8 := hE.trans hx8
                      clear s0 s0' s1 u0 u1 u2 y0 y1 y2 UE KS hE hE5
                      go_wp2
                      go_roundw
                      case rel => exact ⟨i + 1, by omega, by go_num, E8⟩
                      case measure => simp [intOf]; omega
                    · have t3 : (sk == 3) = false := by simp [hs3]
                      have t3' : decide (sk = 3) = false := decide_eq_false hs3
                      clear hc
                      go_wp2_with fail
                      go_quiet (fail)
                      have E8 := hE.drewN nq
                      clear s0 s0' s1 hE hE5
                      go_wp2
                      go_roundw
                      case rel => exact ⟨i + 1, by omega, by go_num, E8⟩
                      case measure => simp [intOf]; omega
                  · obtain rfl : i = ln := by omega
                    have ti : ¬ (i : Int) < (i : Int) := by omega
                    have HEz := Lib.hid (HE5.out.trans hE5)
                    have HFz := Lib.hid (HF.out.ext hE5)
                    clear hE
                    go_wp2_with fail
                    refine (UHD.out _ HEz.out).mono ?_; rintro e w7 ⟨v7, x7, rfl, hx7, ⟨hf7, hc7⟩, he7⟩
                    obtain rfl : x7 = .nilIface := he7
                    have HF7 := Lib.hid hf7
                    have HE7 := Lib.hid (HEz.out.trans hx7)
                    have HFy := Lib.hid (HFz.out.ext hx7)
                    obtain ⟨wa7, wc7, hv7⟩ := hf7.form
                    obtain ⟨wn7, hwn⟩ : ∃ z : Nat, z = (A.take q).length := ⟨_, rfl⟩
                    obtain rfl : v7 = .slice wa7 wn7 wc7 := by rw [hwn]; exact hv7
                    clear hx7 hf7 hc7 HEz HFz hv7 hwn
                    go_wp2_with fail
                    refine (first21_any _ (HET.out.ext HE7.out)).mono ?_; rintro e w8 ⟨rfl, hx8⟩
                    have HE8 := Lib.hid (HE7.out.trans hx8)
                    have HX8 := Lib.hid hx8
                    clear hx8
                    go_wp2_with fail
                    refine (frames_same (A.take q) _ _ _ (HF7.out.ext HX8.out) ((HFy.out.ext HX8.out).take (q := q) (by omega)) (by rw [List.length_take]; have := HAL.out; omega) (fun j f hj => by
                      rw [List.getElem?_take] at hj
                      split at hj
                      · exact HSM.out j f hj
                      · cases hj)).mono ?_; rintro e w9 ⟨rfl, hx9⟩
                    have E9 := HE8.out.trans hx9
                    clear hx9
                    go_wp2
                    go_ret
                    exact ⟨rfl, E9⟩
              · go_simp
                have HZ0 : Hid (BoxIs (w6.drew.alloc (.cells #[.int .i64 0, .int .i64 0, .slice none 0 0] 24)) w6.heap.size #[.int .i64 0, .int .i64 0, .slice none 0 0] 24) := BoxIs.new w6.drew #[.int .i64 0, .int .i64 0, .slice none 0 0] 24
                have hz0 : Ext w6 (w6.drew.alloc (.cells #[.int .i64 0, .int .i64 0, .slice none 0 0] 24)) := (Ext.refl w6).drew.alloc _
                refine hK.out _ _ (KS.out _ hz0) (fun hHeld => ?_)
                clear hK K
                try simp only [Act.put, List.setIfInBounds_toArray, List.set_cons_zero, List.set_cons_succ]
                refine wpAnyH_ready (rs := [7]) (by kernel_rfl) (by simp) ?_
                refine AllReadyH.cons (o := _) rfl (fun K hK => ?_) AllReadyH.nil
                go_simp
                go_at_call 24
                refine (UKG.out _ (HBY.out.ext (HX6.out.trans hz0)) (HE6.out.trans hz0)).mono ?_; intro e w7 hd7; obtain ⟨ua, un, uc, X, rfl, hx7, hX, ho7⟩ := hd7.key; clear hd7
                have hx8 : Ext w6 w7 := hz0.trans hx7
                have HZ7 := Lib.hid (HZ0.out.ext hx7)
                have hnx : ¬ X w6.heap.size := fun hk => Nat.lt_irrefl _ (Nat.lt_of_lt_of_le HZ0.out.lt (hX _ hk))
                have z0 := HZ7.out.cell (i := 0) (v := .int .i64 0) rfl
                have z1 := HZ7.out.cell (i := 1) (v := .int .i64 0) rfl
                have z2 := HZ7.out.cell (i := 2) (v := .slice none 0 0) rfl
                have y60 := HZ7.out.free (i := 0)
                have y61 := HZ7.out.free (i := 1)
                have y62 := HZ7.out.free (i := 2)
                have HIA := Lib.hid (((ho7.setc (p := ⟨w6.heap.size, 0, none⟩) (v := .int .i64 f1) hnx).setc (p := ⟨w6.heap.size, 1, none⟩) (v := .int .i64 f2) hnx).setc (p := ⟨w6.heap.size, 2, none⟩) (v := .slice ua un uc) hnx).get
                have BYA := Lib.hid (((HZ7.out.set (i := 0) (.int .i64 f1)).set (i := 1) (.int .i64 f2)).set (i := 2) (.slice ua un uc))
                have HEA := Lib.hid (((hx8.setCell (p := ⟨w6.heap.size, 0, none⟩) (Nat.le_refl _) (.int .i64 f1)).setCell (p := ⟨w6.heap.size, 1, none⟩) (Nat.le_refl _) (.int .i64 f2)).setCell (p := ⟨w6.heap.size, 2, none⟩) (Nat.le_refl _) (.slice ua un uc))
                clear hx7 hX ho7 hnx HZ0
                refine hK.out _ _ (KS.out _ hx8) (fun hHeld => ?_)
                clear hK K
                try simp only [Act.put, List.setIfInBounds_toArray, List.set_cons_zero, List.set_cons_succ]
                refine wpAnyH_take (i := 8) (oi := _) (v := ?_) rfl (by kernel_rfl) (by kernel_rfl) (by kernel_rfl) (fun _ _ _ h => h) (Or.inl ⟨by rfl, ?_⟩) (by assumption) ?_
                case refine_2 => (intro w hSw; (try dsimp only at hSw); go_simp; (try with_reducible rfl))
                try simp only [Act.put, List.setIfInBounds_toArray, List.set_cons_zero, List.set_cons_succ]
                refine wpAnyH_take (i := 9) (oi := _) (v := ?_) rfl (by kernel_rfl) (by kernel_rfl) (by kernel_rfl) (fun _ _ _ h => h) (Or.inl ⟨by rfl, ?_⟩) (by assumption) ?_
                case refine_2 => (intro w hSw; (try dsimp only at hSw); go_simp; (try with_reducible rfl))
                try simp only [Act.put, List.setIfInBounds_toArray, List.set_cons_zero, List.set_cons_succ]
                refine wpAnyH_take (i := 10) (oi := _) (v := ?_) rfl (by kernel_rfl) (by kernel_rfl) (by kernel_rfl) (fun _ _ _ h => h) (Or.inl ⟨by rfl, ?_⟩) (by assumption) ?_
                case refine_2 => (intro w hSw; (try dsimp only at hSw); go_simp; (try with_reducible rfl))
                try simp only [Act.put, List.setIfInBounds_toArray, List.set_cons_zero, List.set_cons_succ]
                refine wpAnyH_ready (rs := [12]) (by kernel_rfl) (by simp) ?_
                refine AllReadyH.cons (o := _) rfl (fun K hK => ?_) AllReadyH.nil
                go_simp
                refine hK.out _ _ (KS.out _ HEA.out) (fun hHeld => ?_)
                clear hK K
                try simp only [Act.put, List.setIfInBounds_toArray, List.set_cons_zero, List.set_cons_succ]
                refine wpAnyH_take (i := 13) (oi := { dst := some 16, op := Op.assign (Operand.tmp 101), type := 37, pos := "law.go:118", after := #[{ on := 10, ground := Ground.data }, { on := 12, ground := Ground.chain }, { on := 0, ground := Ground.phase }, { on := 1, ground := Ground.phase }, { on := 2, ground := Ground.phase }, { on := 3, ground := Ground.phase }, { on := 4, ground := Ground.phase }, { on := 5, ground := Ground.phase }, { on := 6, ground := Ground.phase }, { on := 7, ground := Ground.phase }, { on := 8, ground := Ground.phase }, { on := 9, ground := Ground.phase }, { on := 10, ground := Ground.phase }, { on := 11, ground := Ground.phase }, { on := 12, ground := Ground.phase }], guard := none }) (v := ?_) rfl (by kernel_rfl) (by kernel_rfl) (by kernel_rfl) (fun _ _ _ h => h) (Or.inl ⟨by rfl, ?_⟩) (by assumption) ?_
                case refine_2 => (intro w hSw; (try dsimp only at hSw); go_simp; (try with_reducible rfl))
                try simp only [Act.put, List.setIfInBounds_toArray, List.set_cons_zero, List.set_cons_succ]
                refine wpAnyH_done (by kernel_rfl) ?_ _
                obtain ⟨b, hb⟩ : ∃ b, w6.heap.size = b := ⟨_, rfl⟩
                obtain ⟨wy, hwy⟩ : ∃ z, ((w7.setCell ⟨w6.heap.size, 0, none⟩ (.int .i64 f1)).setCell ⟨w6.heap.size, 1, none⟩ (.int .i64 f2)).setCell ⟨w6.heap.size, 2, none⟩ (.slice ua un uc) = z := ⟨_, rfl⟩
                rw [hwy] at BYA HEA HIA ⊢
                rw [hb] at BYA
                have BY9 : Hid (BoxIs wy b #[.int .i64 f1, .int .i64 f2, .slice ua un uc] 24) := BYA; have HE9 := HEA; have HI9 := HIA
                rw [hb]
                clear hb hwy BYA HEA HIA hx8 z0 z1 z2 y60 y61 y62 HZ7 hz0
                clear hHeld p0 p1 p2 j0 j1 KS UKG
                -- the world is wy; BY9 : the box b there, HI9, HE9 : Ext w6 wy
                have KT : Hid (∀ W', Ext wy W' → (W'.cell? ⟨b, 0, none⟩ = some (.int .i64 f1) ∧ W'.cell? ⟨b, 1, none⟩ = some (.int .i64 f2) ∧ W'.cell? ⟨b, 2, none⟩ = some (.slice ua un uc)) ∧ (W'.cell? ⟨g5, o5 + q * 3, none⟩ = some (.int .i64 f1) ∧ W'.cell? ⟨g5, o5 + q * 3 + 1, none⟩ = some (.int .i64 f2) ∧ W'.cell? ⟨g5, o5 + q * 3 + 2, none⟩ = some (.slice ya yn yc)) ∧ Ext wy W') := fun W' kx => ⟨⟨kx.cell (BY9.out.cell (i := 0) rfl), kx.cell (BY9.out.cell (i := 1) rfl), kx.cell (BY9.out.cell (i := 2) rfl)⟩, ⟨(HE9.out.trans kx).cell y0, (HE9.out.trans kx).cell y1, (HE9.out.trans kx).cell y2⟩, kx⟩
                have UFR := Lib.hid (fun W' (kx : Ext wy W') => frames_same (A.drop q) (.slice wa6 wn6 wc6) (.slice (some ⟨g5, o5 + q * 3, none⟩) (ln - q) (vc - q)) W' (HF6.out.ext (HE9.out.trans kx)) ((HF.out.ext (HX6.out.trans (HE9.out.trans kx))).drop (q := q)) (by rw [List.length_drop]; have := HAL.out; omega) (fun j f hj => by
                  rw [List.getElem?_drop] at hj
                  exact HSM.out _ f hj))
                have UFM := Lib.hid (fun W' (kx : Ext wy W') => frame_same f1 f2 f3 ua ya un yn uc yc W' (HI9.out.ext kx) (HIY.out.ext (HE9.out.trans kx)))
                go_wp2_with fail
                go_region_held3 (fun w' => (w'.cell? ⟨b, 0, none⟩ = some (.int .i64 f1) ∧ w'.cell? ⟨b, 1, none⟩ = some (.int .i64 f2) ∧ w'.cell? ⟨b, 2, none⟩ = some (.slice ua un uc)) ∧ (w'.cell? ⟨g5, o5 + q * 3, none⟩ = some (.int .i64 f1) ∧ w'.cell? ⟨g5, o5 + q * 3 + 1, none⟩ = some (.int .i64 f2) ∧ w'.cell? ⟨g5, o5 + q * 3 + 2, none⟩ = some (.slice ya yn yc)) ∧ Ext wy w')
                  (first | assumption | (go_split_ands; exact KT.out _ (by first | exact (Ext.refl _).drew | exact Ext.refl _ | exact Ext.trans (by assumption) hx)))
                  ((first | (go_at_call 22; obtain ⟨_, _, hE1⟩ : _ ∧ _ ∧ Ext wy _ := (by assumption); refine (UFR.out _ hE1).mono ?_; rintro e w' ⟨rfl, hx⟩) | (go_at_call 16; obtain ⟨_, _, hE1⟩ : _ ∧ _ ∧ Ext wy _ := (by assumption); refine (UFM.out _ hE1).mono ?_; rintro e w' ⟨rfl, hx⟩)))
                obtain ⟨_, _, hE1⟩ : _ ∧ _ ∧ Ext wy w' := by assumption
                obtain ⟨wz, rfl⟩ : ∃ z, z = w' := ⟨_, rfl⟩
                have HEr : Hid (Ext w5 wz) := HX6.out.trans (HE9.out.trans hE1)
                clear y0 y1 y2 UFR UFM KT hx hE1 HI9 BY9 HE9 HIY HF6 HX6 HE6 HA6 HBY HBL HCQ HFQ k0 k1
                go_wp2_with fail
                go_loopw [17] (fun iv wr => ∃ i : Nat, i ≤ ln ∧ iv = .int .i64 (i : Int) ∧ Ext wz wr) (fun iv _ => ln - (intOf iv).toNat)
                case atStart => exact ⟨0, Nat.zero_le _, rfl, Ext.refl _⟩
                case round =>
                  obtain ⟨i, hi, rfl, hE⟩ := hrel
                  have hE5 := HEr.out.trans hE
                  by_cases hin : i < ln
                  · have ti : (i : Int) < (ln : Int) := by omega
                    obtain ⟨c, hc⟩ : ∃ c, L[i]? = some c := ⟨_, List.getElem?_eq_getElem (by rw [← HLN.out]; exact hin)⟩
                    obtain ⟨sk, sb⟩ := c
                    obtain ⟨sa, sn, sc, s0, s1, -, -⟩ := (HL.out.ext (HE5.out.trans hE5)).at hc
                    dsimp only at s0 s1
                    have s0' : wr.cell? ⟨g0, o0 + i * 2 + 0, none⟩ = some (.int .i64 sk) := s0
                    have dw : IntKind.i64.wrap ((i : Int) + 1) = (i : Int) + 1 := by rw [IntKind.wrap_i64]; omega
                    by_cases hs3 : sk = 3
                    · subst hs3
                      obtain ⟨hi0, f, hf1, hf2⟩ := chn_skip HCH.out hc
                      obtain ⟨p, hp⟩ : ∃ p, i = p + 1 := ⟨i - 1, by omega⟩
                      have hf2' : A[p]? = some f := by rw [show p = i - 1 by omega]; exact hf2
                      have dp : IntKind.i64.wrap ((i : Int) - 1) = (p : Int) := by rw [IntKind.wrap_i64]; omega
                      have tz : ((i : Int) == 0) = false := by simp; omega
                      have pn1 : (p : Int) < (ln : Int) := by omega
                      have fs := HSM.out i f hf1
                      obtain ⟨f1, f2, f3⟩ := f
                      obtain ⟨ua, un, uc, u0, u1, u2, u3⟩ := (HF.out.ext hE5).at hf1
                      obtain ⟨ya, yn, yc, y0, y1, y2, y3⟩ := (HF.out.ext hE5).at hf2'
                      dsimp only at u0 u1 u2 u3 y0 y1 y2 y3 fs
                      have UE := Lib.hid (fun W' (kx : Ext wr W') => frame_same f1 f2 f3 ua ya un yn uc yc W' ((show Ints wr (.slice ua un uc) f3 from ⟨u3, by omega⟩).ext kx) ((show Ints wr (.slice ya yn yc) f3 from ⟨y3, by omega⟩).ext kx))
                      have KS : Hid (∀ W', Ext wr W' → W'.cell? ⟨g0, o0 + i * 2, none⟩ = some (.int .i64 3) ∧ (W'.cell? ⟨g5, o5 + i * 3, none⟩ = some (.int .i64 f1) ∧ W'.cell? ⟨g5, o5 + i * 3 + 1, none⟩ = some (.int .i64 f2) ∧ W'.cell? ⟨g5, o5 + i * 3 + 2, none⟩ = some (.slice ua un uc)) ∧ (W'.cell? ⟨g5, o5 + p * 3, none⟩ = some (.int .i64 f1) ∧ W'.cell? ⟨g5, o5 + p * 3 + 1, none⟩ = some (.int .i64 f2) ∧ W'.cell? ⟨g5, o5 + p * 3 + 2, none⟩ = some (.slice ya yn yc)) ∧ Ext wr W') := fun W' kx => ⟨kx.cell s0, ⟨kx.cell u0, kx.cell u1, kx.cell u2⟩, ⟨kx.cell y0, kx.cell y1, kx.cell y2⟩, kx⟩
                      clear hc hf1 hf2 hf2' u3 y3 fs hi0 hp
                      go_wp2_with fail
                      go_region_held3 (fun w' => w'.cell? ⟨g0, o0 + i * 2, none⟩ = some (.int .i64 3) ∧ (w'.cell? ⟨g5, o5 + i * 3, none⟩ = some (.int .i64 f1) ∧ w'.cell? ⟨g5, o5 + i * 3 + 1, none⟩ = some (.int .i64 f2) ∧ w'.cell? ⟨g5, o5 + i * 3 + 2, none⟩ = some (.slice ua un uc)) ∧ (w'.cell? ⟨g5, o5 + p * 3, none⟩ = some (.int .i64 f1) ∧ w'.cell? ⟨g5, o5 + p * 3 + 1, none⟩ = some (.int .i64 f2) ∧ w'.cell? ⟨g5, o5 + p * 3 + 2, none⟩ = some (.slice ya yn yc)) ∧ Ext wr w')
                        (first | assumption | (go_split_ands; exact KS.out _ (by first | assumption | exact (Ext.refl _).drew | exact Ext.refl _)))
                        ((go_at_call 16; refine (UE.out _ (show Ext wr _ from (by first | exact (Ext.refl _).drew | exact Ext.refl _ | assumption))).mono ?_; rintro e w7 ⟨rfl, hx7⟩; have hx8 : Ext wr w7 := (show Ext wr _ from (Ext.refl wr).drew).trans hx7; clear hx7))
                      have E8 := hE.trans hx8
                      clear s0 s0' s1 u0 u1 u2 y0 y1 y2 UE KS hE hE5
                      go_wp2
                      go_roundw
                      case rel => exact ⟨i + 1, by omega, by go_num, E8⟩
                      case measure => simp [intOf]; omega
                    · have t3 : (sk == 3) = false := by simp [hs3]
                      have t3' : decide (sk = 3) = false := decide_eq_false hs3
                      clear hc
                      go_wp2_with fail
                      go_quiet (fail)
                      have E8 := hE.drewN nq
                      clear s0 s0' s1 hE hE5
                      go_wp2
                      go_roundw
                      case rel => exact ⟨i + 1, by omega, by go_num, E8⟩
                      case measure => simp [intOf]; omega
                  · obtain rfl : i = ln := by omega
                    have ti : ¬ (i : Int) < (i : Int) := by omega
                    have HEz := Lib.hid (HE5.out.trans hE5)
                    have HFz := Lib.hid (HF.out.ext hE5)
                    clear hE
                    go_wp2_with fail
                    refine (UHD.out _ HEz.out).mono ?_; rintro e w7 ⟨v7, x7, rfl, hx7, ⟨hf7, hc7⟩, he7⟩
                    obtain rfl : x7 = .nilIface := he7
                    have HF7 := Lib.hid hf7
                    have HE7 := Lib.hid (HEz.out.trans hx7)
                    have HFy := Lib.hid (HFz.out.ext hx7)
                    obtain ⟨wa7, wc7, hv7⟩ := hf7.form
                    obtain ⟨wn7, hwn⟩ : ∃ z : Nat, z = (A.take q).length := ⟨_, rfl⟩
                    obtain rfl : v7 = .slice wa7 wn7 wc7 := by rw [hwn]; exact hv7
                    clear hx7 hf7 hc7 HEz HFz hv7 hwn
                    go_wp2_with fail
                    refine (first21_any _ (HET.out.ext HE7.out)).mono ?_; rintro e w8 ⟨rfl, hx8⟩
                    have HE8 := Lib.hid (HE7.out.trans hx8)
                    have HX8 := Lib.hid hx8
                    clear hx8
                    go_wp2_with fail
                    refine (frames_same (A.take q) _ _ _ (HF7.out.ext HX8.out) ((HFy.out.ext HX8.out).take (q := q) (by omega)) (by rw [List.length_take]; have := HAL.out; omega) (fun j f hj => by
                      rw [List.getElem?_take] at hj
                      split at hj
                      · exact HSM.out j f hj
                      · cases hj)).mono ?_; rintro e w9 ⟨rfl, hx9⟩
                    have E9 := HE8.out.trans hx9
                    clear hx9
                    go_wp2
                    go_ret
                    exact ⟨rfl, E9⟩
            · have t1 : (ck == 1) = false := by simp [hk1]
              have t4 : (ck == 4) = true := by simp; omega
              clear hk hk1
              go_wp2_with fail
              refine (UKF.out _ HE5.out).mono ?_; rintro e w6 ⟨v6, x6, rfl, hx6, ⟨hf6, hc6⟩, he6⟩
              obtain rfl : x6 = .nilIface := he6
              have HF6 := Lib.hid hf6
              have HX6 := Lib.hid hx6
              have HE6 := Lib.hid (HE5.out.trans hx6)
              have HA6 := Lib.hid (HA5.out.ext hx6)
              obtain ⟨wa6, wc6, hv6⟩ := hf6.form
              obtain ⟨wn6, hwn6⟩ : ∃ z : Nat, z = (A.drop q).length := ⟨_, rfl⟩
              obtain rfl : v6 = .slice wa6 wn6 wc6 := by rw [hwn6]; exact hv6
              have j0 := hx6.cell k0
              have j1 := hx6.cell k1
              have p0 := HA6.out.cell (i := 0) (v := .int .i64 PW) rfl
              have p1 := HA6.out.cell (i := 1) (v := .int .i64 PH) rfl
              have p2 := HA6.out.cell (i := 2) (v := .slice pa pn pc) rfl
              have KS : Hid (∀ W', Ext w6 W' → (W'.cell? ⟨g0, o0 + q * 2, none⟩ = some (.int .i64 ck) ∧ W'.cell? ⟨g0, o0 + q * 2 + 1, none⟩ = some (.slice ra rn rc)) ∧ (W'.cell? ⟨w.heap.size, 0, none⟩ = some (.int .i64 PW) ∧ W'.cell? ⟨w.heap.size, 1, none⟩ = some (.int .i64 PH) ∧ W'.cell? ⟨w.heap.size, 2, none⟩ = some (.slice pa pn pc)) ∧ Ext w6 W') := fun W' kx => ⟨⟨kx.cell j0, kx.cell j1⟩, ⟨kx.cell p0, kx.cell p1, kx.cell p2⟩, kx⟩
              obtain ⟨ya, yn, yc, y0, y1, y2, y3⟩ := (HF.out.ext hx6).at HFQ.out
              dsimp only at y0 y1 y2 y3
              have HIY : Hid (Ints w6 (.slice ya yn yc) f3) := ⟨y3, by have h9 := HSM.out q _ HFQ.out; dsimp only at h9; omega⟩
              clear hx6 hf6 hc6 hv6 hwn6 k0' UKF y3
              go_wp2_with fail
              refine wp_region_held_drew (S := fun w' => (w'.cell? ⟨g0, o0 + q * 2, none⟩ = some (.int .i64 ck) ∧ w'.cell? ⟨g0, o0 + q * 2 + 1, none⟩ = some (.slice ra rn rc)) ∧ (w'.cell? ⟨w.heap.size, 0, none⟩ = some (.int .i64 PW) ∧ w'.cell? ⟨w.heap.size, 1, none⟩ = some (.int .i64 PH) ∧ w'.cell? ⟨w.heap.size, 2, none⟩ = some (.slice pa pn pc)) ∧ Ext w6 w') (by kernel_rfl) (KS.out _ (Ext.refl _).drew) (fun hHeld => ?_)
              refine wpAnyH_take (i := 0) (oi := _) (v := ?_) rfl (by kernel_rfl) (by kernel_rfl) (by kernel_rfl) (fun _ _ _ h => h) (Or.inl ⟨by rfl, ?_⟩) (by assumption) ?_
              case refine_2 => (intro w hSw; (try dsimp only at hSw); go_simp; (try with_reducible rfl))
              try simp only [Act.put, List.setIfInBounds_toArray, List.set_cons_zero, List.set_cons_succ]
              refine wpAnyH_take (i := 1) (oi := _) (v := ?_) rfl (by kernel_rfl) (by kernel_rfl) (by kernel_rfl) (fun _ _ _ h => h) (Or.inl ⟨by rfl, ?_⟩) (by assumption) ?_
              case refine_2 => (intro w hSw; (try dsimp only at hSw); go_simp; (try with_reducible rfl))
              try simp only [Act.put, List.setIfInBounds_toArray, List.set_cons_zero, List.set_cons_succ]
              refine wpAnyH_take (i := 2) (oi := _) (v := ?_) rfl (by kernel_rfl) (by kernel_rfl) (by kernel_rfl) (fun _ _ _ h => h) (Or.inl ⟨by rfl, ?_⟩) (by assumption) ?_
              case refine_2 => (intro w hSw; (try dsimp only at hSw); go_simp; (try with_reducible rfl))
              try simp only [Act.put, List.setIfInBounds_toArray, List.set_cons_zero, List.set_cons_succ]
              refine wpAnyH_take (i := 3) (oi := _) (v := ?_) rfl (by kernel_rfl) (by kernel_rfl) (by kernel_rfl) (fun _ _ _ h => h) (Or.inl ⟨by rfl, ?_⟩) (by assumption) ?_
              case refine_2 => (intro w hSw; (try dsimp only at hSw); go_simp; (try with_reducible rfl))
              try simp only [Act.put, List.setIfInBounds_toArray, List.set_cons_zero, List.set_cons_succ]
              refine wpAnyH_take (i := 4) (oi := _) (v := ?_) rfl (by kernel_rfl) (by kernel_rfl) (by kernel_rfl) (fun _ _ _ h => h) (Or.inl ⟨by rfl, ?_⟩) (by assumption) ?_
              case refine_2 => (intro w hSw; (try dsimp only at hSw); go_simp; (try with_reducible rfl))
              try simp only [Act.put, List.setIfInBounds_toArray, List.set_cons_zero, List.set_cons_succ]
              refine wpAnyH_take (i := 5) (oi := _) (v := ?_) rfl (by kernel_rfl) (by kernel_rfl) (by kernel_rfl) (fun _ _ _ h => h) (Or.inl ⟨by rfl, ?_⟩) (by assumption) ?_
              case refine_2 => (intro w hSw; (try dsimp only at hSw); go_simp; (try with_reducible rfl))
              try simp only [Act.put, List.setIfInBounds_toArray, List.set_cons_zero, List.set_cons_succ]
              refine wpAnyH_take (i := 6) (oi := _) (v := ?_) rfl (by kernel_rfl) (by kernel_rfl) (by kernel_rfl) (fun _ _ _ h => h) (Or.inl ⟨by rfl, ?_⟩) (by assumption) ?_
              case refine_2 => (intro w hSw; (try dsimp only at hSw); go_simp; (try with_reducible rfl))
              try simp only [Act.put, List.setIfInBounds_toArray, List.set_cons_zero, List.set_cons_succ]
              refine wpAnyH_ready (rs := [7, 11]) (by kernel_rfl) (by simp) ?_
              refine AllReadyH.cons (o := _) rfl (fun K hK => ?_) (AllReadyH.cons (o := _) rfl (fun K hK => ?_) AllReadyH.nil)
              · go_simp
                go_at_call 24
                refine (UKG.out _ (HBY.out.ext (HX6.out.trans (Ext.refl w6).drew)) (HE6.out.trans (Ext.refl w6).drew)).mono ?_; intro e w7 hd7; obtain ⟨ua, un, uc, X, rfl, hx7, hX, ho7⟩ := hd7.key; clear hd7
                have hx8 : Ext w6 w7 := (Ext.refl w6).drew.trans hx7; have HI7 := Lib.hid ho7.get; clear hx7 hX ho7
                refine hK.out _ _ (KS.out _ hx8) (fun hHeld => ?_)
                clear hK K
                try simp only [Act.put, List.setIfInBounds_toArray, List.set_cons_zero, List.set_cons_succ]
                refine wpAnyH_take (i := 8) (oi := _) (v := ?_) rfl (by kernel_rfl) (by kernel_rfl) (by kernel_rfl) (fun _ _ _ h => h) (Or.inl ⟨by rfl, ?_⟩) (by assumption) ?_
                case refine_2 => (intro w hSw; (try dsimp only at hSw); go_simp; (try with_reducible rfl))
                try simp only [Act.put, List.setIfInBounds_toArray, List.set_cons_zero, List.set_cons_succ]
                refine wpAnyH_take (i := 9) (oi := _) (v := ?_) rfl (by kernel_rfl) (by kernel_rfl) (by kernel_rfl) (fun _ _ _ h => h) (Or.inl ⟨by rfl, ?_⟩) (by assumption) ?_
                case refine_2 => (intro w hSw; (try dsimp only at hSw); go_simp; (try with_reducible rfl))
                try simp only [Act.put, List.setIfInBounds_toArray, List.set_cons_zero, List.set_cons_succ]
                refine wpAnyH_take (i := 10) (oi := _) (v := ?_) rfl (by kernel_rfl) (by kernel_rfl) (by kernel_rfl) (fun _ _ _ h => h) (Or.inl ⟨by rfl, ?_⟩) (by assumption) ?_
                case refine_2 => (intro w hSw; (try dsimp only at hSw); go_simp; (try with_reducible rfl))
                try simp only [Act.put, List.setIfInBounds_toArray, List.set_cons_zero, List.set_cons_succ]
                refine wpAnyH_ready (rs := [11]) (by kernel_rfl) (by simp) ?_
                refine AllReadyH.cons (o := _) rfl (fun K hK => ?_) AllReadyH.nil
                go_simp
                refine hK.out _ _ (KS.out _ (hx8.alloc _)) (fun hHeld => ?_)
                clear hK K
                try simp only [Act.put, List.setIfInBounds_toArray, List.set_cons_zero, List.set_cons_succ]
                refine wpAnyH_ready (rs := [12]) (by kernel_rfl) (by simp) ?_
                refine AllReadyH.cons (o := _) rfl (fun K hK => ?_) AllReadyH.nil
                go_simp
                have BYA := Lib.hid (BoxIs.new w7 #[.int .i64 f1, .int .i64 f2, .slice ua un uc] 24)
                have HEA := Lib.hid (hx8.alloc (.cells #[.int .i64 f1, .int .i64 f2, .slice ua un uc] 24))
                have HIA := Lib.hid (HI7.out.ext ((Ext.refl w7).alloc (.cells #[.int .i64 f1, .int .i64 f2, .slice ua un uc] 24)))
                refine hK.out _ _ (KS.out _ HEA.out) (fun hHeld => ?_)
                clear hK K
                try simp only [Act.put, List.setIfInBounds_toArray, List.set_cons_zero, List.set_cons_succ]
                refine wpAnyH_take (i := 13) (oi := { dst := some 16, op := Op.assign (Operand.tmp 101), type := 37, pos := "law.go:118", after := #[{ on := 10, ground := Ground.data }, { on := 12, ground := Ground.chain }, { on := 0, ground := Ground.phase }, { on := 1, ground := Ground.phase }, { on := 2, ground := Ground.phase }, { on := 3, ground := Ground.phase }, { on := 4, ground := Ground.phase }, { on := 5, ground := Ground.phase }, { on := 6, ground := Ground.phase }, { on := 7, ground := Ground.phase }, { on := 8, ground := Ground.phase }, { on := 9, ground := Ground.phase }, { on := 10, ground := Ground.phase }, { on := 11, ground := Ground.phase }, { on := 12, ground := Ground.phase }], guard := none }) (v := ?_) rfl (by kernel_rfl) (by kernel_rfl) (by kernel_rfl) (fun _ _ _ h => h) (Or.inl ⟨by rfl, ?_⟩) (by assumption) ?_
                case refine_2 => (intro w hSw; (try dsimp only at hSw); go_simp; (try with_reducible rfl))
                try simp only [Act.put, List.setIfInBounds_toArray, List.set_cons_zero, List.set_cons_succ]
                refine wpAnyH_done (by kernel_rfl) ?_ _
                obtain ⟨b, hb⟩ : ∃ b, w7.heap.size = b := ⟨_, rfl⟩
                obtain ⟨wy, hwy⟩ : ∃ z, w7.alloc (.cells #[.int .i64 f1, .int .i64 f2, .slice ua un uc] 24) = z := ⟨_, rfl⟩
                rw [hb, hwy] at BYA
                rw [hwy] at HEA HIA
                have BY9 := BYA; have HE9 := HEA; have HI9 := HIA
                rw [hb, hwy]
                clear hb hwy BYA HEA HIA HI7 hx8
                clear hHeld p0 p1 p2 j0 j1 KS UKG
                -- the world is wy; BY9 : the box b there, HI9, HE9 : Ext w6 wy
                have KT : Hid (∀ W', Ext wy W' → (W'.cell? ⟨b, 0, none⟩ = some (.int .i64 f1) ∧ W'.cell? ⟨b, 1, none⟩ = some (.int .i64 f2) ∧ W'.cell? ⟨b, 2, none⟩ = some (.slice ua un uc)) ∧ (W'.cell? ⟨g5, o5 + q * 3, none⟩ = some (.int .i64 f1) ∧ W'.cell? ⟨g5, o5 + q * 3 + 1, none⟩ = some (.int .i64 f2) ∧ W'.cell? ⟨g5, o5 + q * 3 + 2, none⟩ = some (.slice ya yn yc)) ∧ Ext wy W') := fun W' kx => ⟨⟨kx.cell (BY9.out.cell (i := 0) rfl), kx.cell (BY9.out.cell (i := 1) rfl), kx.cell (BY9.out.cell (i := 2) rfl)⟩, ⟨(HE9.out.trans kx).cell y0, (HE9.out.trans kx).cell y1, (HE9.out.trans kx).cell y2⟩, kx⟩
                have UFR := Lib.hid (fun W' (kx : Ext wy W') => frames_same (A.drop q) (.slice wa6 wn6 wc6) (.slice (some ⟨g5, o5 + q * 3, none⟩) (ln - q) (vc - q)) W' (HF6.out.ext (HE9.out.trans kx)) ((HF.out.ext (HX6.out.trans (HE9.out.trans kx))).drop (q := q)) (by rw [List.length_drop]; have := HAL.out; omega) (fun j f hj => by
                  rw [List.getElem?_drop] at hj
                  exact HSM.out _ f hj))
                have UFM := Lib.hid (fun W' (kx : Ext wy W') => frame_same f1 f2 f3 ua ya un yn uc yc W' (HI9.out.ext kx) (HIY.out.ext (HE9.out.trans kx)))
                go_wp2_with fail
                go_region_held3 (fun w' => (w'.cell? ⟨b, 0, none⟩ = some (.int .i64 f1) ∧ w'.cell? ⟨b, 1, none⟩ = some (.int .i64 f2) ∧ w'.cell? ⟨b, 2, none⟩ = some (.slice ua un uc)) ∧ (w'.cell? ⟨g5, o5 + q * 3, none⟩ = some (.int .i64 f1) ∧ w'.cell? ⟨g5, o5 + q * 3 + 1, none⟩ = some (.int .i64 f2) ∧ w'.cell? ⟨g5, o5 + q * 3 + 2, none⟩ = some (.slice ya yn yc)) ∧ Ext wy w')
                  (first | assumption | (go_split_ands; exact KT.out _ (by first | exact (Ext.refl _).drew | exact Ext.refl _ | exact Ext.trans (by assumption) hx)))
                  ((first | (go_at_call 22; obtain ⟨_, _, hE1⟩ : _ ∧ _ ∧ Ext wy _ := (by assumption); refine (UFR.out _ hE1).mono ?_; rintro e w' ⟨rfl, hx⟩) | (go_at_call 16; obtain ⟨_, _, hE1⟩ : _ ∧ _ ∧ Ext wy _ := (by assumption); refine (UFM.out _ hE1).mono ?_; rintro e w' ⟨rfl, hx⟩)))
                obtain ⟨_, _, hE1⟩ : _ ∧ _ ∧ Ext wy w' := by assumption
                obtain ⟨wz, rfl⟩ : ∃ z, z = w' := ⟨_, rfl⟩
                have HEr : Hid (Ext w5 wz) := HX6.out.trans (HE9.out.trans hE1)
                clear y0 y1 y2 UFR UFM KT hx hE1 HI9 BY9 HE9 HIY HF6 HX6 HE6 HA6 HBY HBL HCQ HFQ k0 k1
                go_wp2_with fail
                go_loopw [17] (fun iv wr => ∃ i : Nat, i ≤ ln ∧ iv = .int .i64 (i : Int) ∧ Ext wz wr) (fun iv _ => ln - (intOf iv).toNat)
                case atStart => exact ⟨0, Nat.zero_le _, rfl, Ext.refl _⟩
                case round =>
                  obtain ⟨i, hi, rfl, hE⟩ := hrel
                  have hE5 := HEr.out.trans hE
                  by_cases hin : i < ln
                  · have ti : (i : Int) < (ln : Int) := by omega
                    obtain ⟨c, hc⟩ : ∃ c, L[i]? = some c := ⟨_, List.getElem?_eq_getElem (by rw [← HLN.out]; exact hin)⟩
                    obtain ⟨sk, sb⟩ := c
                    obtain ⟨sa, sn, sc, s0, s1, -, -⟩ := (HL.out.ext (HE5.out.trans hE5)).at hc
                    dsimp only at s0 s1
                    have s0' : wr.cell? ⟨g0, o0 + i * 2 + 0, none⟩ = some (.int .i64 sk) := s0
                    have dw : IntKind.i64.wrap ((i : Int) + 1) = (i : Int) + 1 := by rw [IntKind.wrap_i64]; omega
                    by_cases hs3 : sk = 3
                    · subst hs3
                      obtain ⟨hi0, f, hf1, hf2⟩ := chn_skip HCH.out hc
                      obtain ⟨p, hp⟩ : ∃ p, i = p + 1 := ⟨i - 1, by omega⟩
                      have hf2' : A[p]? = some f := by rw [show p = i - 1 by omega]; exact hf2
                      have dp : IntKind.i64.wrap ((i : Int) - 1) = (p : Int) := by rw [IntKind.wrap_i64]; omega
                      have tz : ((i : Int) == 0) = false := by simp; omega
                      have pn1 : (p : Int) < (ln : Int) := by omega
                      have fs := HSM.out i f hf1
                      obtain ⟨f1, f2, f3⟩ := f
                      obtain ⟨ua, un, uc, u0, u1, u2, u3⟩ := (HF.out.ext hE5).at hf1
                      obtain ⟨ya, yn, yc, y0, y1, y2, y3⟩ := (HF.out.ext hE5).at hf2'
                      dsimp only at u0 u1 u2 u3 y0 y1 y2 y3 fs
                      have UE := Lib.hid (fun W' (kx : Ext wr W') => frame_same f1 f2 f3 ua ya un yn uc yc W' ((show Ints wr (.slice ua un uc) f3 from ⟨u3, by omega⟩).ext kx) ((show Ints wr (.slice ya yn yc) f3 from ⟨y3, by omega⟩).ext kx))
                      have KS : Hid (∀ W', Ext wr W' → W'.cell? ⟨g0, o0 + i * 2, none⟩ = some (.int .i64 3) ∧ (W'.cell? ⟨g5, o5 + i * 3, none⟩ = some (.int .i64 f1) ∧ W'.cell? ⟨g5, o5 + i * 3 + 1, none⟩ = some (.int .i64 f2) ∧ W'.cell? ⟨g5, o5 + i * 3 + 2, none⟩ = some (.slice ua un uc)) ∧ (W'.cell? ⟨g5, o5 + p * 3, none⟩ = some (.int .i64 f1) ∧ W'.cell? ⟨g5, o5 + p * 3 + 1, none⟩ = some (.int .i64 f2) ∧ W'.cell? ⟨g5, o5 + p * 3 + 2, none⟩ = some (.slice ya yn yc)) ∧ Ext wr W') := fun W' kx => ⟨kx.cell s0, ⟨kx.cell u0, kx.cell u1, kx.cell u2⟩, ⟨kx.cell y0, kx.cell y1, kx.cell y2⟩, kx⟩
                      clear hc hf1 hf2 hf2' u3 y3 fs hi0 hp
                      go_wp2_with fail
                      go_region_held3 (fun w' => w'.cell? ⟨g0, o0 + i * 2, none⟩ = some (.int .i64 3) ∧ (w'.cell? ⟨g5, o5 + i * 3, none⟩ = some (.int .i64 f1) ∧ w'.cell? ⟨g5, o5 + i * 3 + 1, none⟩ = some (.int .i64 f2) ∧ w'.cell? ⟨g5, o5 + i * 3 + 2, none⟩ = some (.slice ua un uc)) ∧ (w'.cell? ⟨g5, o5 + p * 3, none⟩ = some (.int .i64 f1) ∧ w'.cell? ⟨g5, o5 + p * 3 + 1, none⟩ = some (.int .i64 f2) ∧ w'.cell? ⟨g5, o5 + p * 3 + 2, none⟩ = some (.slice ya yn yc)) ∧ Ext wr w')
                        (first | assumption | (go_split_ands; exact KS.out _ (by first | assumption | exact (Ext.refl _).drew | exact Ext.refl _)))
                        ((go_at_call 16; refine (UE.out _ (show Ext wr _ from (by first | exact (Ext.refl _).drew | exact Ext.refl _ | assumption))).mono ?_; rintro e w7 ⟨rfl, hx7⟩; have hx8 : Ext wr w7 := (show Ext wr _ from (Ext.refl wr).drew).trans hx7; clear hx7))
                      have E8 := hE.trans hx8
                      clear s0 s0' s1 u0 u1 u2 y0 y1 y2 UE KS hE hE5
                      go_wp2
                      go_roundw
                      case rel => exact ⟨i + 1, by omega, by go_num, E8⟩
                      case measure => simp [intOf]; omega
                    · have t3 : (sk == 3) = false := by simp [hs3]
                      have t3' : decide (sk = 3) = false := decide_eq_false hs3
                      clear hc
                      go_wp2_with fail
                      go_quiet (fail)
                      have E8 := hE.drewN nq
                      clear s0 s0' s1 hE hE5
                      go_wp2
                      go_roundw
                      case rel => exact ⟨i + 1, by omega, by go_num, E8⟩
                      case measure => simp [intOf]; omega
                  · obtain rfl : i = ln := by omega
                    have ti : ¬ (i : Int) < (i : Int) := by omega
                    have HEz := Lib.hid (HE5.out.trans hE5)
                    have HFz := Lib.hid (HF.out.ext hE5)
                    clear hE
                    go_wp2_with fail
                    refine (UHD.out _ HEz.out).mono ?_; rintro e w7 ⟨v7, x7, rfl, hx7, ⟨hf7, hc7⟩, he7⟩
                    obtain rfl : x7 = .nilIface := he7
                    have HF7 := Lib.hid hf7
                    have HE7 := Lib.hid (HEz.out.trans hx7)
                    have HFy := Lib.hid (HFz.out.ext hx7)
                    obtain ⟨wa7, wc7, hv7⟩ := hf7.form
                    obtain ⟨wn7, hwn⟩ : ∃ z : Nat, z = (A.take q).length := ⟨_, rfl⟩
                    obtain rfl : v7 = .slice wa7 wn7 wc7 := by rw [hwn]; exact hv7
                    clear hx7 hf7 hc7 HEz HFz hv7 hwn
                    go_wp2_with fail
                    refine (first21_any _ (HET.out.ext HE7.out)).mono ?_; rintro e w8 ⟨rfl, hx8⟩
                    have HE8 := Lib.hid (HE7.out.trans hx8)
                    have HX8 := Lib.hid hx8
                    clear hx8
                    go_wp2_with fail
                    refine (frames_same (A.take q) _ _ _ (HF7.out.ext HX8.out) ((HFy.out.ext HX8.out).take (q := q) (by omega)) (by rw [List.length_take]; have := HAL.out; omega) (fun j f hj => by
                      rw [List.getElem?_take] at hj
                      split at hj
                      · exact HSM.out j f hj
                      · cases hj)).mono ?_; rintro e w9 ⟨rfl, hx9⟩
                    have E9 := HE8.out.trans hx9
                    clear hx9
                    go_wp2
                    go_ret
                    exact ⟨rfl, E9⟩
              · go_simp
                have HZ0 : Hid (BoxIs (w6.drew.alloc (.cells #[.int .i64 0, .int .i64 0, .slice none 0 0] 24)) w6.heap.size #[.int .i64 0, .int .i64 0, .slice none 0 0] 24) := BoxIs.new w6.drew #[.int .i64 0, .int .i64 0, .slice none 0 0] 24
                have hz0 : Ext w6 (w6.drew.alloc (.cells #[.int .i64 0, .int .i64 0, .slice none 0 0] 24)) := (Ext.refl w6).drew.alloc _
                refine hK.out _ _ (KS.out _ hz0) (fun hHeld => ?_)
                clear hK K
                try simp only [Act.put, List.setIfInBounds_toArray, List.set_cons_zero, List.set_cons_succ]
                refine wpAnyH_ready (rs := [7]) (by kernel_rfl) (by simp) ?_
                refine AllReadyH.cons (o := _) rfl (fun K hK => ?_) AllReadyH.nil
                go_simp
                go_at_call 24
                refine (UKG.out _ (HBY.out.ext (HX6.out.trans hz0)) (HE6.out.trans hz0)).mono ?_; intro e w7 hd7; obtain ⟨ua, un, uc, X, rfl, hx7, hX, ho7⟩ := hd7.key; clear hd7
                have hx8 : Ext w6 w7 := hz0.trans hx7
                have HZ7 := Lib.hid (HZ0.out.ext hx7)
                have hnx : ¬ X w6.heap.size := fun hk => Nat.lt_irrefl _ (Nat.lt_of_lt_of_le HZ0.out.lt (hX _ hk))
                have z0 := HZ7.out.cell (i := 0) (v := .int .i64 0) rfl
                have z1 := HZ7.out.cell (i := 1) (v := .int .i64 0) rfl
                have z2 := HZ7.out.cell (i := 2) (v := .slice none 0 0) rfl
                have y60 := HZ7.out.free (i := 0)
                have y61 := HZ7.out.free (i := 1)
                have y62 := HZ7.out.free (i := 2)
                have HIA := Lib.hid (((ho7.setc (p := ⟨w6.heap.size, 0, none⟩) (v := .int .i64 f1) hnx).setc (p := ⟨w6.heap.size, 1, none⟩) (v := .int .i64 f2) hnx).setc (p := ⟨w6.heap.size, 2, none⟩) (v := .slice ua un uc) hnx).get
                have BYA := Lib.hid (((HZ7.out.set (i := 0) (.int .i64 f1)).set (i := 1) (.int .i64 f2)).set (i := 2) (.slice ua un uc))
                have HEA := Lib.hid (((hx8.setCell (p := ⟨w6.heap.size, 0, none⟩) (Nat.le_refl _) (.int .i64 f1)).setCell (p := ⟨w6.heap.size, 1, none⟩) (Nat.le_refl _) (.int .i64 f2)).setCell (p := ⟨w6.heap.size, 2, none⟩) (Nat.le_refl _) (.slice ua un uc))
                clear hx7 hX ho7 hnx HZ0
                refine hK.out _ _ (KS.out _ hx8) (fun hHeld => ?_)
                clear hK K
                try simp only [Act.put, List.setIfInBounds_toArray, List.set_cons_zero, List.set_cons_succ]
                refine wpAnyH_take (i := 8) (oi := _) (v := ?_) rfl (by kernel_rfl) (by kernel_rfl) (by kernel_rfl) (fun _ _ _ h => h) (Or.inl ⟨by rfl, ?_⟩) (by assumption) ?_
                case refine_2 => (intro w hSw; (try dsimp only at hSw); go_simp; (try with_reducible rfl))
                try simp only [Act.put, List.setIfInBounds_toArray, List.set_cons_zero, List.set_cons_succ]
                refine wpAnyH_take (i := 9) (oi := _) (v := ?_) rfl (by kernel_rfl) (by kernel_rfl) (by kernel_rfl) (fun _ _ _ h => h) (Or.inl ⟨by rfl, ?_⟩) (by assumption) ?_
                case refine_2 => (intro w hSw; (try dsimp only at hSw); go_simp; (try with_reducible rfl))
                try simp only [Act.put, List.setIfInBounds_toArray, List.set_cons_zero, List.set_cons_succ]
                refine wpAnyH_take (i := 10) (oi := _) (v := ?_) rfl (by kernel_rfl) (by kernel_rfl) (by kernel_rfl) (fun _ _ _ h => h) (Or.inl ⟨by rfl, ?_⟩) (by assumption) ?_
                case refine_2 => (intro w hSw; (try dsimp only at hSw); go_simp; (try with_reducible rfl))
                try simp only [Act.put, List.setIfInBounds_toArray, List.set_cons_zero, List.set_cons_succ]
                refine wpAnyH_ready (rs := [12]) (by kernel_rfl) (by simp) ?_
                refine AllReadyH.cons (o := _) rfl (fun K hK => ?_) AllReadyH.nil
                go_simp
                refine hK.out _ _ (KS.out _ HEA.out) (fun hHeld => ?_)
                clear hK K
                try simp only [Act.put, List.setIfInBounds_toArray, List.set_cons_zero, List.set_cons_succ]
                refine wpAnyH_take (i := 13) (oi := { dst := some 16, op := Op.assign (Operand.tmp 101), type := 37, pos := "law.go:118", after := #[{ on := 10, ground := Ground.data }, { on := 12, ground := Ground.chain }, { on := 0, ground := Ground.phase }, { on := 1, ground := Ground.phase }, { on := 2, ground := Ground.phase }, { on := 3, ground := Ground.phase }, { on := 4, ground := Ground.phase }, { on := 5, ground := Ground.phase }, { on := 6, ground := Ground.phase }, { on := 7, ground := Ground.phase }, { on := 8, ground := Ground.phase }, { on := 9, ground := Ground.phase }, { on := 10, ground := Ground.phase }, { on := 11, ground := Ground.phase }, { on := 12, ground := Ground.phase }], guard := none }) (v := ?_) rfl (by kernel_rfl) (by kernel_rfl) (by kernel_rfl) (fun _ _ _ h => h) (Or.inl ⟨by rfl, ?_⟩) (by assumption) ?_
                case refine_2 => (intro w hSw; (try dsimp only at hSw); go_simp; (try with_reducible rfl))
                try simp only [Act.put, List.setIfInBounds_toArray, List.set_cons_zero, List.set_cons_succ]
                refine wpAnyH_done (by kernel_rfl) ?_ _
                obtain ⟨b, hb⟩ : ∃ b, w6.heap.size = b := ⟨_, rfl⟩
                obtain ⟨wy, hwy⟩ : ∃ z, ((w7.setCell ⟨w6.heap.size, 0, none⟩ (.int .i64 f1)).setCell ⟨w6.heap.size, 1, none⟩ (.int .i64 f2)).setCell ⟨w6.heap.size, 2, none⟩ (.slice ua un uc) = z := ⟨_, rfl⟩
                rw [hwy] at BYA HEA HIA ⊢
                rw [hb] at BYA
                have BY9 : Hid (BoxIs wy b #[.int .i64 f1, .int .i64 f2, .slice ua un uc] 24) := BYA; have HE9 := HEA; have HI9 := HIA
                rw [hb]
                clear hb hwy BYA HEA HIA hx8 z0 z1 z2 y60 y61 y62 HZ7 hz0
                clear hHeld p0 p1 p2 j0 j1 KS UKG
                -- the world is wy; BY9 : the box b there, HI9, HE9 : Ext w6 wy
                have KT : Hid (∀ W', Ext wy W' → (W'.cell? ⟨b, 0, none⟩ = some (.int .i64 f1) ∧ W'.cell? ⟨b, 1, none⟩ = some (.int .i64 f2) ∧ W'.cell? ⟨b, 2, none⟩ = some (.slice ua un uc)) ∧ (W'.cell? ⟨g5, o5 + q * 3, none⟩ = some (.int .i64 f1) ∧ W'.cell? ⟨g5, o5 + q * 3 + 1, none⟩ = some (.int .i64 f2) ∧ W'.cell? ⟨g5, o5 + q * 3 + 2, none⟩ = some (.slice ya yn yc)) ∧ Ext wy W') := fun W' kx => ⟨⟨kx.cell (BY9.out.cell (i := 0) rfl), kx.cell (BY9.out.cell (i := 1) rfl), kx.cell (BY9.out.cell (i := 2) rfl)⟩, ⟨(HE9.out.trans kx).cell y0, (HE9.out.trans kx).cell y1, (HE9.out.trans kx).cell y2⟩, kx⟩
                have UFR := Lib.hid (fun W' (kx : Ext wy W') => frames_same (A.drop q) (.slice wa6 wn6 wc6) (.slice (some ⟨g5, o5 + q * 3, none⟩) (ln - q) (vc - q)) W' (HF6.out.ext (HE9.out.trans kx)) ((HF.out.ext (HX6.out.trans (HE9.out.trans kx))).drop (q := q)) (by rw [List.length_drop]; have := HAL.out; omega) (fun j f hj => by
                  rw [List.getElem?_drop] at hj
                  exact HSM.out _ f hj))
                have UFM := Lib.hid (fun W' (kx : Ext wy W') => frame_same f1 f2 f3 ua ya un yn uc yc W' (HI9.out.ext kx) (HIY.out.ext (HE9.out.trans kx)))
                go_wp2_with fail
                go_region_held3 (fun w' => (w'.cell? ⟨b, 0, none⟩ = some (.int .i64 f1) ∧ w'.cell? ⟨b, 1, none⟩ = some (.int .i64 f2) ∧ w'.cell? ⟨b, 2, none⟩ = some (.slice ua un uc)) ∧ (w'.cell? ⟨g5, o5 + q * 3, none⟩ = some (.int .i64 f1) ∧ w'.cell? ⟨g5, o5 + q * 3 + 1, none⟩ = some (.int .i64 f2) ∧ w'.cell? ⟨g5, o5 + q * 3 + 2, none⟩ = some (.slice ya yn yc)) ∧ Ext wy w')
                  (first | assumption | (go_split_ands; exact KT.out _ (by first | exact (Ext.refl _).drew | exact Ext.refl _ | exact Ext.trans (by assumption) hx)))
                  ((first | (go_at_call 22; obtain ⟨_, _, hE1⟩ : _ ∧ _ ∧ Ext wy _ := (by assumption); refine (UFR.out _ hE1).mono ?_; rintro e w' ⟨rfl, hx⟩) | (go_at_call 16; obtain ⟨_, _, hE1⟩ : _ ∧ _ ∧ Ext wy _ := (by assumption); refine (UFM.out _ hE1).mono ?_; rintro e w' ⟨rfl, hx⟩)))
                obtain ⟨_, _, hE1⟩ : _ ∧ _ ∧ Ext wy w' := by assumption
                obtain ⟨wz, rfl⟩ : ∃ z, z = w' := ⟨_, rfl⟩
                have HEr : Hid (Ext w5 wz) := HX6.out.trans (HE9.out.trans hE1)
                clear y0 y1 y2 UFR UFM KT hx hE1 HI9 BY9 HE9 HIY HF6 HX6 HE6 HA6 HBY HBL HCQ HFQ k0 k1
                go_wp2_with fail
                go_loopw [17] (fun iv wr => ∃ i : Nat, i ≤ ln ∧ iv = .int .i64 (i : Int) ∧ Ext wz wr) (fun iv _ => ln - (intOf iv).toNat)
                case atStart => exact ⟨0, Nat.zero_le _, rfl, Ext.refl _⟩
                case round =>
                  obtain ⟨i, hi, rfl, hE⟩ := hrel
                  have hE5 := HEr.out.trans hE
                  by_cases hin : i < ln
                  · have ti : (i : Int) < (ln : Int) := by omega
                    obtain ⟨c, hc⟩ : ∃ c, L[i]? = some c := ⟨_, List.getElem?_eq_getElem (by rw [← HLN.out]; exact hin)⟩
                    obtain ⟨sk, sb⟩ := c
                    obtain ⟨sa, sn, sc, s0, s1, -, -⟩ := (HL.out.ext (HE5.out.trans hE5)).at hc
                    dsimp only at s0 s1
                    have s0' : wr.cell? ⟨g0, o0 + i * 2 + 0, none⟩ = some (.int .i64 sk) := s0
                    have dw : IntKind.i64.wrap ((i : Int) + 1) = (i : Int) + 1 := by rw [IntKind.wrap_i64]; omega
                    by_cases hs3 : sk = 3
                    · subst hs3
                      obtain ⟨hi0, f, hf1, hf2⟩ := chn_skip HCH.out hc
                      obtain ⟨p, hp⟩ : ∃ p, i = p + 1 := ⟨i - 1, by omega⟩
                      have hf2' : A[p]? = some f := by rw [show p = i - 1 by omega]; exact hf2
                      have dp : IntKind.i64.wrap ((i : Int) - 1) = (p : Int) := by rw [IntKind.wrap_i64]; omega
                      have tz : ((i : Int) == 0) = false := by simp; omega
                      have pn1 : (p : Int) < (ln : Int) := by omega
                      have fs := HSM.out i f hf1
                      obtain ⟨f1, f2, f3⟩ := f
                      obtain ⟨ua, un, uc, u0, u1, u2, u3⟩ := (HF.out.ext hE5).at hf1
                      obtain ⟨ya, yn, yc, y0, y1, y2, y3⟩ := (HF.out.ext hE5).at hf2'
                      dsimp only at u0 u1 u2 u3 y0 y1 y2 y3 fs
                      have UE := Lib.hid (fun W' (kx : Ext wr W') => frame_same f1 f2 f3 ua ya un yn uc yc W' ((show Ints wr (.slice ua un uc) f3 from ⟨u3, by omega⟩).ext kx) ((show Ints wr (.slice ya yn yc) f3 from ⟨y3, by omega⟩).ext kx))
                      have KS : Hid (∀ W', Ext wr W' → W'.cell? ⟨g0, o0 + i * 2, none⟩ = some (.int .i64 3) ∧ (W'.cell? ⟨g5, o5 + i * 3, none⟩ = some (.int .i64 f1) ∧ W'.cell? ⟨g5, o5 + i * 3 + 1, none⟩ = some (.int .i64 f2) ∧ W'.cell? ⟨g5, o5 + i * 3 + 2, none⟩ = some (.slice ua un uc)) ∧ (W'.cell? ⟨g5, o5 + p * 3, none⟩ = some (.int .i64 f1) ∧ W'.cell? ⟨g5, o5 + p * 3 + 1, none⟩ = some (.int .i64 f2) ∧ W'.cell? ⟨g5, o5 + p * 3 + 2, none⟩ = some (.slice ya yn yc)) ∧ Ext wr W') := fun W' kx => ⟨kx.cell s0, ⟨kx.cell u0, kx.cell u1, kx.cell u2⟩, ⟨kx.cell y0, kx.cell y1, kx.cell y2⟩, kx⟩
                      clear hc hf1 hf2 hf2' u3 y3 fs hi0 hp
                      go_wp2_with fail
                      go_region_held3 (fun w' => w'.cell? ⟨g0, o0 + i * 2, none⟩ = some (.int .i64 3) ∧ (w'.cell? ⟨g5, o5 + i * 3, none⟩ = some (.int .i64 f1) ∧ w'.cell? ⟨g5, o5 + i * 3 + 1, none⟩ = some (.int .i64 f2) ∧ w'.cell? ⟨g5, o5 + i * 3 + 2, none⟩ = some (.slice ua un uc)) ∧ (w'.cell? ⟨g5, o5 + p * 3, none⟩ = some (.int .i64 f1) ∧ w'.cell? ⟨g5, o5 + p * 3 + 1, none⟩ = some (.int .i64 f2) ∧ w'.cell? ⟨g5, o5 + p * 3 + 2, none⟩ = some (.slice ya yn yc)) ∧ Ext wr w')
                        (first | assumption | (go_split_ands; exact KS.out _ (by first | assumption | exact (Ext.refl _).drew | exact Ext.refl _)))
                        ((go_at_call 16; refine (UE.out _ (show Ext wr _ from (by first | exact (Ext.refl _).drew | exact Ext.refl _ | assumption))).mono ?_; rintro e w7 ⟨rfl, hx7⟩; have hx8 : Ext wr w7 := (show Ext wr _ from (Ext.refl wr).drew).trans hx7; clear hx7))
                      have E8 := hE.trans hx8
                      clear s0 s0' s1 u0 u1 u2 y0 y1 y2 UE KS hE hE5
                      go_wp2
                      go_roundw
                      case rel => exact ⟨i + 1, by omega, by go_num, E8⟩
                      case measure => simp [intOf]; omega
                    · have t3 : (sk == 3) = false := by simp [hs3]
                      have t3' : decide (sk = 3) = false := decide_eq_false hs3
                      clear hc
                      go_wp2_with fail
                      go_quiet (fail)
                      have E8 := hE.drewN nq
                      clear s0 s0' s1 hE hE5
                      go_wp2
                      go_roundw
                      case rel => exact ⟨i + 1, by omega, by go_num, E8⟩
                      case measure => simp [intOf]; omega
                  · obtain rfl : i = ln := by omega
                    have ti : ¬ (i : Int) < (i : Int) := by omega
                    have HEz := Lib.hid (HE5.out.trans hE5)
                    have HFz := Lib.hid (HF.out.ext hE5)
                    clear hE
                    go_wp2_with fail
                    refine (UHD.out _ HEz.out).mono ?_; rintro e w7 ⟨v7, x7, rfl, hx7, ⟨hf7, hc7⟩, he7⟩
                    obtain rfl : x7 = .nilIface := he7
                    have HF7 := Lib.hid hf7
                    have HE7 := Lib.hid (HEz.out.trans hx7)
                    have HFy := Lib.hid (HFz.out.ext hx7)
                    obtain ⟨wa7, wc7, hv7⟩ := hf7.form
                    obtain ⟨wn7, hwn⟩ : ∃ z : Nat, z = (A.take q).length := ⟨_, rfl⟩
                    obtain rfl : v7 = .slice wa7 wn7 wc7 := by rw [hwn]; exact hv7
                    clear hx7 hf7 hc7 HEz HFz hv7 hwn
                    go_wp2_with fail
                    refine (first21_any _ (HET.out.ext HE7.out)).mono ?_; rintro e w8 ⟨rfl, hx8⟩
                    have HE8 := Lib.hid (HE7.out.trans hx8)
                    have HX8 := Lib.hid hx8
                    clear hx8
                    go_wp2_with fail
                    refine (frames_same (A.take q) _ _ _ (HF7.out.ext HX8.out) ((HFy.out.ext HX8.out).take (q := q) (by omega)) (by rw [List.length_take]; have := HAL.out; omega) (fun j f hj => by
                      rw [List.getElem?_take] at hj
                      split at hj
                      · exact HSM.out j f hj
                      · cases hj)).mono ?_; rintro e w9 ⟨rfl, hx9⟩
                    have E9 := HE8.out.trans hx9
                    clear hx9
                    go_wp2
                    go_ret
                    exact ⟨rfl, E9⟩
          · have hk1 : ¬ ck = 1 := fun e => hk (.inl e)
            have hk4 : ¬ ck = 4 := fun e => hk (.inr e)
            have hk1' : (ck == 1) = false := by simp [hk1]
            have hk4' : (ck == 4) = false := by simp [hk4]
            obtain ⟨wz, hwz⟩ : ∃ z, w5 = z := ⟨_, rfl⟩
            have HEr : Hid (Ext w5 wz) := by subst hwz; exact Ext.refl _
            have HWZ := Lib.hid hwz
            clear hwz
            go_wp2_with fail
            rw [HWZ.out]
            clear k0 k0' k1 HBY HBL HCQ HFQ HWZ
            go_loopw [17] (fun iv wr => ∃ i : Nat, i ≤ ln ∧ iv = .int .i64 (i : Int) ∧ Ext wz wr) (fun iv _ => ln - (intOf iv).toNat)
            case atStart => exact ⟨0, Nat.zero_le _, rfl, Ext.refl _⟩
            case round =>
              obtain ⟨i, hi, rfl, hE⟩ := hrel
              have hE5 := HEr.out.trans hE
              by_cases hin : i < ln
              · have ti : (i : Int) < (ln : Int) := by omega
                obtain ⟨c, hc⟩ : ∃ c, L[i]? = some c := ⟨_, List.getElem?_eq_getElem (by rw [← HLN.out]; exact hin)⟩
                obtain ⟨sk, sb⟩ := c
                obtain ⟨sa, sn, sc, s0, s1, -, -⟩ := (HL.out.ext (HE5.out.trans hE5)).at hc
                dsimp only at s0 s1
                have s0' : wr.cell? ⟨g0, o0 + i * 2 + 0, none⟩ = some (.int .i64 sk) := s0
                have dw : IntKind.i64.wrap ((i : Int) + 1) = (i : Int) + 1 := by rw [IntKind.wrap_i64]; omega
                by_cases hs3 : sk = 3
                · subst hs3
                  obtain ⟨hi0, f, hf1, hf2⟩ := chn_skip HCH.out hc
                  obtain ⟨p, hp⟩ : ∃ p, i = p + 1 := ⟨i - 1, by omega⟩
                  have hf2' : A[p]? = some f := by rw [show p = i - 1 by omega]; exact hf2
                  have dp : IntKind.i64.wrap ((i : Int) - 1) = (p : Int) := by rw [IntKind.wrap_i64]; omega
                  have tz : ((i : Int) == 0) = false := by simp; omega
                  have pn1 : (p : Int) < (ln : Int) := by omega
                  have fs := HSM.out i f hf1
                  obtain ⟨f1, f2, f3⟩ := f
                  obtain ⟨ua, un, uc, u0, u1, u2, u3⟩ := (HF.out.ext hE5).at hf1
                  obtain ⟨ya, yn, yc, y0, y1, y2, y3⟩ := (HF.out.ext hE5).at hf2'
                  dsimp only at u0 u1 u2 u3 y0 y1 y2 y3 fs
                  have UE := Lib.hid (fun W' (kx : Ext wr W') => frame_same f1 f2 f3 ua ya un yn uc yc W' ((show Ints wr (.slice ua un uc) f3 from ⟨u3, by omega⟩).ext kx) ((show Ints wr (.slice ya yn yc) f3 from ⟨y3, by omega⟩).ext kx))
                  have KS : Hid (∀ W', Ext wr W' → W'.cell? ⟨g0, o0 + i * 2, none⟩ = some (.int .i64 3) ∧ (W'.cell? ⟨g5, o5 + i * 3, none⟩ = some (.int .i64 f1) ∧ W'.cell? ⟨g5, o5 + i * 3 + 1, none⟩ = some (.int .i64 f2) ∧ W'.cell? ⟨g5, o5 + i * 3 + 2, none⟩ = some (.slice ua un uc)) ∧ (W'.cell? ⟨g5, o5 + p * 3, none⟩ = some (.int .i64 f1) ∧ W'.cell? ⟨g5, o5 + p * 3 + 1, none⟩ = some (.int .i64 f2) ∧ W'.cell? ⟨g5, o5 + p * 3 + 2, none⟩ = some (.slice ya yn yc)) ∧ Ext wr W') := fun W' kx => ⟨kx.cell s0, ⟨kx.cell u0, kx.cell u1, kx.cell u2⟩, ⟨kx.cell y0, kx.cell y1, kx.cell y2⟩, kx⟩
                  clear hc hf1 hf2 hf2' u3 y3 fs hi0 hp
                  go_wp2_with fail
                  go_region_held3 (fun w' => w'.cell? ⟨g0, o0 + i * 2, none⟩ = some (.int .i64 3) ∧ (w'.cell? ⟨g5, o5 + i * 3, none⟩ = some (.int .i64 f1) ∧ w'.cell? ⟨g5, o5 + i * 3 + 1, none⟩ = some (.int .i64 f2) ∧ w'.cell? ⟨g5, o5 + i * 3 + 2, none⟩ = some (.slice ua un uc)) ∧ (w'.cell? ⟨g5, o5 + p * 3, none⟩ = some (.int .i64 f1) ∧ w'.cell? ⟨g5, o5 + p * 3 + 1, none⟩ = some (.int .i64 f2) ∧ w'.cell? ⟨g5, o5 + p * 3 + 2, none⟩ = some (.slice ya yn yc)) ∧ Ext wr w')
                    (first | assumption | (go_split_ands; exact KS.out _ (by first | assumption | exact (Ext.refl _).drew | exact Ext.refl _)))
                    ((go_at_call 16; refine (UE.out _ (show Ext wr _ from (by first | exact (Ext.refl _).drew | exact Ext.refl _ | assumption))).mono ?_; rintro e w7 ⟨rfl, hx7⟩; have hx8 : Ext wr w7 := (show Ext wr _ from (Ext.refl wr).drew).trans hx7; clear hx7))
                  have E8 := hE.trans hx8
                  clear s0 s0' s1 u0 u1 u2 y0 y1 y2 UE KS hE hE5
                  go_wp2
                  go_roundw
                  case rel => exact ⟨i + 1, by omega, by go_num, E8⟩
                  case measure => simp [intOf]; omega
                · have t3 : (sk == 3) = false := by simp [hs3]
                  have t3' : decide (sk = 3) = false := decide_eq_false hs3
                  clear hc
                  go_wp2_with fail
                  go_quiet (fail)
                  have E8 := hE.drewN nq
                  clear s0 s0' s1 hE hE5
                  go_wp2
                  go_roundw
                  case rel => exact ⟨i + 1, by omega, by go_num, E8⟩
                  case measure => simp [intOf]; omega
              · obtain rfl : i = ln := by omega
                have ti : ¬ (i : Int) < (i : Int) := by omega
                have HEz := Lib.hid (HE5.out.trans hE5)
                have HFz := Lib.hid (HF.out.ext hE5)
                clear hE
                go_wp2_with fail
                refine (UHD.out _ HEz.out).mono ?_; rintro e w7 ⟨v7, x7, rfl, hx7, ⟨hf7, hc7⟩, he7⟩
                obtain rfl : x7 = .nilIface := he7
                have HF7 := Lib.hid hf7
                have HE7 := Lib.hid (HEz.out.trans hx7)
                have HFy := Lib.hid (HFz.out.ext hx7)
                obtain ⟨wa7, wc7, hv7⟩ := hf7.form
                obtain ⟨wn7, hwn⟩ : ∃ z : Nat, z = (A.take q).length := ⟨_, rfl⟩
                obtain rfl : v7 = .slice wa7 wn7 wc7 := by rw [hwn]; exact hv7
                clear hx7 hf7 hc7 HEz HFz hv7 hwn
                go_wp2_with fail
                refine (first21_any _ (HET.out.ext HE7.out)).mono ?_; rintro e w8 ⟨rfl, hx8⟩
                have HE8 := Lib.hid (HE7.out.trans hx8)
                have HX8 := Lib.hid hx8
                clear hx8
                go_wp2_with fail
                refine (frames_same (A.take q) _ _ _ (HF7.out.ext HX8.out) ((HFy.out.ext HX8.out).take (q := q) (by omega)) (by rw [List.length_take]; have := HAL.out; omega) (fun j f hj => by
                  rw [List.getElem?_take] at hj
                  split at hj
                  · exact HSM.out j f hj
                  · cases hj)).mono ?_; rintro e w9 ⟨rfl, hx9⟩
                have E9 := HE8.out.trans hx9
                clear hx9
                go_wp2
                go_ret
                exact ⟨rfl, E9⟩
end Go.Proofs.YtcekpngkfldgkaaGreatDoor
