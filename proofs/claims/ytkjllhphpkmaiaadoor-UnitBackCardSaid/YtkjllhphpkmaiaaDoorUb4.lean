/- kinlaw4.UnitBack: the walk. -/
import Derived.Test.YtkjllhphpkmaiaaDoorUb3
namespace Go.Proofs.YtkjllhphpkmaiaaDoor
set_option linter.unusedVariables false
set_option linter.unusedSimpArgs false
open Go.RowKit Go.Extern.Stop Go.Stop Go.Extern

theorem Bys.upto {w : World} {a : Option Addr} {n cap : Nat} {bs : List Nat} (h : Bys w (.slice a n cap) bs) {k : Nat} (hk : k ≤ n) : Bys w (.slice a k cap) (bs.take k) := by
  have hl := h.len
  obtain ⟨⟨a', cap', e, h1, h2, h3, h4⟩, hb, hm⟩ := h
  simp only [Value.slice.injEq] at e
  obtain ⟨rfl, -, rfl⟩ := e
  have ht : (bs.take k).length = k := by rw [List.length_take]; omega
  refine ⟨⟨a, cap, by rw [ht], by rw [ht]; omega, h2, fun h0 => h3 (by rw [ht] at h0; omega), fun g off ha j u hu => ?_⟩, fun x hx => hb x (List.mem_of_mem_take hx), by rw [ht]; omega⟩
  rw [List.getElem?_map, List.getElem?_take] at hu
  split at hu
  · exact h4 g off ha j u (by rw [List.getElem?_map]; exact hu)
  · cases hu
theorem Uns.upto {w : World} {a : Option Addr} {n cap : Nat} {L : List Un} (h : Uns w (.slice a n cap) L) {k : Nat} (hk : k ≤ n) : Uns w (.slice a k cap) (L.take k) := by
  have hl := h.len
  obtain ⟨a', cap', e, hc, h3⟩ := id h
  simp only [Value.slice.injEq] at e
  obtain ⟨rfl, -, rfl⟩ := e
  have ht : (L.take k).length = k := by rw [List.length_take]; omega
  refine ⟨a, cap, by rw [ht], by rw [ht]; omega, fun h0 => ?_⟩
  rw [ht] at h0
  obtain ⟨g, off, e, h4⟩ := h3 (by omega)
  refine ⟨g, off, e, fun q u hq => h4 q u ?_⟩
  rw [List.getElem?_take] at hq
  split at hq
  · exact hq
  · cases hq
theorem eN_le (l : List Um) (n : Nat) : eN l n ≤ (outM l).length := by
  unfold eN
  have : outM l = outM (l.take n) ++ outM (l.drop n) := by rw [← outM_app, List.take_append_drop]
  rw [this, List.length_append]
  omega
theorem eN_zero (l : List Um) : eN l 0 = 0 := rfl
set_option maxHeartbeats 8000000 in
set_option maxRecDepth 20000 in
theorem back_law (ks : List Int) (L : List (List Nat)) (cut : Int) (v u : Value) (w : World) (hg : EtIs w) (hnb : NbIs w) (hk : Row w v ks.length (ks.map (Value.int .i64))) (h : Bmt w u L) (hc : -9223372036854775808 ≤ cut ∧ cut ≤ 9223372036854775807) :
    Calls Tryd.prog 7 #[v, u, .int .i64 cut] w fun e w' => e = .returned (.bool true) ∧ Ext w w' := by
  have HG := Lib.hid hg
  have HNB := Lib.hid hnb
  have HK := Lib.hid hk
  have HL := Lib.hid h
  have UF := Lib.hid (few_any L)
  obtain ⟨a1, c1, rfl⟩ := hk.form
  obtain ⟨a2, c2, rfl⟩ := h.form
  obtain ⟨n1, hn1⟩ : ∃ n, ks.length = n := ⟨_, rfl⟩
  obtain ⟨n2, hn2⟩ : ∃ n, L.length = n := ⟨_, rfl⟩
  cases hf : fewB L with
  | false =>
    clear hg hnb hk h hn1 hn2
    go_enter Tryd.func7, Tryd.ntmps7
    go_wp2_with fail
    refine (first4_any _ HG.out HNB.out).mono ?_; rintro e w1 ⟨rfl, hx1⟩
    have HX1 := Lib.hid hx1
    clear hx1
    go_wp2_with fail
    refine (UF.out _ _ (HL.out.ext HX1.out)).mono ?_; rintro e w2 ⟨rfl, rfl⟩
    rw [hf]
    go_wp2_with fail
    refine (first4_any _ (HG.out.ext HX1.out) (HNB.out.ext HX1.out)).mono ?_; rintro e w2 ⟨rfl, hx2⟩
    go_wp2
    go_ret
    exact ⟨rfl, HX1.out.trans hx2⟩
  | true =>
    have UMd : Hid (∀ w', NbIs w' → Row w' (.slice a1 ks.length c1) ks.length (ks.map (Value.int .i64)) → Bmt w' (.slice a2 L.length c2) L → Calls Tryd.prog 28 #[.slice a1 ks.length c1, .slice a2 L.length c2] w' (MdPost w')) := fun w' h1 h2 h3 => made_any ks L _ _ w' h1 h2 h3 hf
    rw [hn1] at HK UMd ⊢
    rw [hn2] at HL UMd ⊢
    clear hg hnb hk h hn1 hn2
    by_cases hc0 : cut < 0
    · obtain ⟨c0, hc1⟩ : ∃ c0 : Nat, -(cut + 1) = (c0 : Int) := ⟨(-(cut + 1)).toNat, by omega⟩
      have z1 : IntKind.i64.wrap (cut + 1) = cut + 1 := by rw [IntKind.wrap_i64]; omega
      have z2 : IntKind.i64.wrap (-(cut + 1)) = (c0 : Int) := by rw [IntKind.wrap_i64]; omega
      clear hc1
      go_enter Tryd.func7, Tryd.ntmps7
      go_wp2_with fail
      refine (first4_any _ HG.out HNB.out).mono ?_; rintro e w1 ⟨rfl, hx1⟩
      have HX1 := Lib.hid hx1
      clear hx1
      go_wp2_with fail
      refine (UF.out _ _ (HL.out.ext HX1.out)).mono ?_; rintro e w2 ⟨rfl, rfl⟩
      rw [hf]
      go_wp2_with fail
      refine (UMd.out _ (HNB.out.ext HX1.out) (HK.out.ext HX1.out) (HL.out.ext HX1.out)).mono ?_; rintro e w3 ⟨l, ov, ev, av, rfl, hok, ⟨hob, hlb⟩, hov, hev, hav, hx3⟩
      obtain ⟨T, hT⟩ : ∃ T, (outM l).length = T := ⟨_, rfl⟩
      obtain ⟨m, hm⟩ : ∃ m, l.length = m := ⟨_, rfl⟩
      obtain ⟨oa, oc, rfl⟩ := hov.form
      obtain ⟨ia, ic, rfl⟩ := hev.form
      obtain ⟨ua, uc, rfl, huc, -⟩ := hav.form
      have hoc : T ≤ oc := by have := hov.caps; rw [hT] at this; omega
      rw [ends_len, hm] at hev ⊢
      rw [lay_len, hm] at hav huc ⊢
      rw [hT] at hob hov ⊢
      rw [hm] at hlb
      have HOK := Lib.hid hok
      have HTT := Lib.hid hT
      have HMM := Lib.hid hm
      have HX3 := Lib.hid (HX1.out.trans hx3)
      have HO3 := Lib.hid hov
      have HI3 := Lib.hid hev
      have HA3 := Lib.hid hav
      have US : Hid (∀ v w, NbIs w → Bys w v (outM l) → Calls Tryd.prog 24 #[v] w (SpPost w (none, lay 0 l))) := fun v w h k => by
        have := split_any (outM l) v w h k (by rw [HTT.out]; omega)
        rw [sp_whole HOK.out] at this
        exact this
      clear hok hT hm hov hev hav hx3
      go_wp2_with fail
      refine (US.out _ _ (HNB.out.ext HX3.out) HO3.out).mono ?_; rintro e w4 ⟨lv, x, S, rfl, ho4, hs4, he4, hx4⟩
      obtain rfl : x = .nilIface := he4
      have HU4 : Hid (Uns w4 lv (lay 0 l)) := Uns.of_own ho4 (by show (lay 0 l).length ≤ _; rw [lay_len, HMM.out]; omega) hs4
      have HX4 := Lib.hid (HX3.out.trans hx4)
      have HO4 := Lib.hid (HO3.out.ext hx4)
      have HI4 := Lib.hid (HI3.out.ext hx4)
      have HA4 := Lib.hid (HA3.out.ext hx4)
      clear ho4 hs4 hx4 HO3 HI3 HA3
      go_wp2_with fail
      refine (units_same _ _ _ _ HU4.out HA4.out).mono ?_; rintro e w5 ⟨rfl, hx5⟩
      have HX5 := Lib.hid (HX4.out.trans hx5)
      have HO5 := Lib.hid (HO4.out.ext hx5)
      have HI5 := Lib.hid (HI4.out.ext hx5)
      have HA5 := Lib.hid (HA4.out.ext hx5)
      clear hx5 HU4 HO4 HI4 HA4
      obtain ⟨C, hC⟩ : ∃ C, c0 % (T + 1) = C := ⟨_, rfl⟩
      have hCT : C ≤ T := by have := Nat.mod_lt c0 (show 0 < T + 1 by omega); omega
      have y1 : IntKind.i64.wrap ((T : Int) + 1) = (T : Int) + 1 := by rw [IntKind.wrap_i64]; omega
      have y2 : Int.tmod (c0 : Int) ((T : Int) + 1) = (C : Int) := by
        rw [← hC, show ((T : Int) + 1) = ((T + 1 : Nat) : Int) by omega, Int.ofNat_tmod]
      have y3 : ((T : Int) + 1) ≠ 0 := by omega
      have y4 : IntKind.i64.wrap (C : Int) = (C : Int) := by rw [IntKind.wrap_i64]; omega
      clear hC
      go_wp2_with fail
      go_loop [12] (fun iv => ∃ q : Nat, q ≤ m ∧ iv = .int .i64 (q : Int) ∧ Hid (eN l q ≤ C)) (fun iv => m - (intOf iv).toNat)
      case atStart => exact ⟨0, Nat.zero_le _, rfl, Nat.zero_le _⟩
      case round =>
        obtain ⟨q, hq, rfl, HQ⟩ := hrel
        by_cases hqm : q < m
        · obtain ⟨⟨a', cap', e, -, -, h3, h4⟩, -⟩ := HI5.out
          simp only [Value.slice.injEq] at e
          obtain ⟨ea, -, ec⟩ := e
          obtain ⟨ig, io, ei⟩ := h3 (by rw [ends_len, HMM.out]; omega)
          have cE := h4 ig io ei q (.int .i64 ((eN l (q + 1) : Nat) : Int)) (by rw [List.getElem?_map, ends_get l (by rw [HMM.out]; exact hqm)]; rfl)
          have ei2 : ia = some ⟨ig, io, none⟩ := ea.trans ei
          subst ei2
          obtain ⟨V, hV⟩ : ∃ V, eN l (q + 1) = V := ⟨_, rfl⟩
          rw [hV] at cE
          have HV := Lib.hid hV
          have x1 : (0 : Int) ≤ (q : Int) := by omega
          have x2 : (q : Int) < (m : Int) := by omega
          clear h3 h4 ei ea ec hV
          by_cases hVC : V ≤ C
          · have t0 : (V : Int) ≤ (C : Int) := by omega
            go_wp2
            go_roundw
            case rel => exact ⟨q + 1, by omega, by go_num, by show eN l (q + 1) ≤ C; rw [HV.out]; exact hVC⟩
            case measure => simp [intOf]; omega
          · have t0 : ¬ (V : Int) ≤ (C : Int) := by omega
            have hstop : q = l.length ∨ C < eN l (q + 1) := .inr (by rw [HV.out]; omega)
            obtain ⟨G, hG1, hG2⟩ := sp_cut HOK.out (n := q) (c := C) (by rw [HMM.out]; exact hq) HQ.out hstop (by rw [HTT.out]; exact hCT)
            have USc : Hid (∀ w', NbIs w' → Bys w' (.slice oa C oc) ((outM l).take C) → Calls Tryd.prog 24 #[.slice oa C oc] w' (SpPost w' (G, (lay 0 l).take q))) := fun w' h k => by
              have := split_any ((outM l).take C) _ w' h k (by rw [List.length_take, HTT.out]; omega)
              rw [hG1] at this
              exact this
            have HOC := Lib.hid (HO5.out.upto hCT)
            have xC : (C : Int) ≤ (oc : Int) := by omega
            have xC0 : (0 : Int) ≤ (C : Int) := by omega
            have xq : (q : Int) ≤ (uc : Int) := by omega
            have xq0 : (0 : Int) ≤ (q : Int) := by omega
            clear hG1
            go_wp2_with fail
            refine (USc.out _ (HNB.out.ext HX5.out) HOC.out).mono ?_; rintro e w6 ⟨mv, y, S2, rfl, ho6, hs6, he6, hx6⟩
            have HM6 : Hid (Uns w6 mv ((lay 0 l).take q)) := Uns.of_own ho6 (by show ((lay 0 l).take q).length ≤ _; rw [List.length_take]; omega) hs6
            have HA6 := Lib.hid ((HA5.out.upto hq).ext hx6)
            have HE6 : Hid (ErrIs w6 G y) := he6
            have HX6 := Lib.hid (HX5.out.trans hx6)
            have HI6 := Lib.hid (HI5.out.ext hx6)
            clear ho6 hs6 he6 hx6 HOC USc HO5 HA5 HI5 US
            -- in hand: whether C is where the first q end (hCe); the tests
            have hGn := hG2
            cases G with
            | none =>
              have hCe : C = eN l q := hGn.1 rfl
              obtain rfl : y = .nilIface := HE6.out
              by_cases hq0 : q = 0
              · have t1 : ((q : Int) == 0) = true := by rw [beq_iff_eq]; omega
                have t2 : ¬ (0 : Int) < (q : Int) := by omega
                have he0 : eN l q = 0 := by rw [hq0]; rfl
                by_cases hC0 : C = 0
                · have t3 : ((C : Int) == 0) = true := by rw [beq_iff_eq]; omega
                  clear hCe hG2 hGn hq0 hC0 he0
                  -- in hand: slots decided; w6; HY : y known; whole decided
                  go_wp2_with fail
                  refine (first4_any _ (HG.out.ext HX6.out) (HNB.out.ext HX6.out)).mono ?_; rintro e w7 ⟨rfl, hx7⟩
                  have HX7 := Lib.hid (HX6.out.trans hx7)
                  have HM7 := Lib.hid (HM6.out.ext hx7)
                  have HA7 := Lib.hid (HA6.out.ext hx7)
                  clear hx7
                  go_wp2_with fail
                  refine (units_same _ _ _ _ HM7.out HA7.out).mono ?_; rintro e w8 ⟨rfl, hx8⟩
                  have HX8 := Lib.hid (HX7.out.trans hx8)
                  clear hx8
                  go_wp2
                  go_ret
                  exact ⟨rfl, HX8.out⟩
                · have t3 : ((C : Int) == 0) = false := by rw [beq_eq_false_iff_ne]; omega
                  exfalso
                  omega
              · have t1 : ((q : Int) == 0) = false := by rw [beq_eq_false_iff_ne]; omega
                have t2 : (0 : Int) < (q : Int) := by omega
                obtain ⟨p, hp⟩ : ∃ p, p + 1 = q := ⟨q - 1, by omega⟩
                have hpm : p < m := by omega
                obtain ⟨⟨a', cap', e, -, -, h3, h4⟩, -⟩ := HI6.out
                simp only [Value.slice.injEq] at e
                obtain ⟨ea, -, ec⟩ := e
                obtain ⟨ig, io, ei⟩ := h3 (by rw [ends_len, HMM.out]; omega)
                have cE := h4 ig io ei p (.int .i64 ((eN l (p + 1) : Nat) : Int)) (by rw [List.getElem?_map, ends_get l (by rw [HMM.out]; exact hpm)]; rfl)
                have ei2 := ea.trans ei
                first
                  | subst ei2
                  | (simp only [Option.some.injEq, Addr.mk.injEq, and_true] at ei2
                     obtain ⟨rfl, rfl⟩ := ei2)
                obtain ⟨V, hV⟩ : ∃ V, eN l q = V := ⟨_, rfl⟩
                rw [hp, hV] at cE
                have s1 : IntKind.i64.wrap ((q : Int) - 1) = (p : Int) := by rw [IntKind.wrap_i64]; omega
                have s2 : (0 : Int) ≤ (p : Int) := by omega
                have s3 : (p : Int) < (m : Int) := by omega
                by_cases hVC : V = C
                · have t3 : ((V : Int) == (C : Int)) = true := by rw [beq_iff_eq]; omega
                  clear hCe hG2 hGn hq0 hp h3 h4 ei ea ec hV hVC
                  -- in hand: slots decided; w6; HY : y known; whole decided
                  go_wp2_with fail
                  refine (first4_any _ (HG.out.ext HX6.out) (HNB.out.ext HX6.out)).mono ?_; rintro e w7 ⟨rfl, hx7⟩
                  have HX7 := Lib.hid (HX6.out.trans hx7)
                  have HM7 := Lib.hid (HM6.out.ext hx7)
                  have HA7 := Lib.hid (HA6.out.ext hx7)
                  clear hx7
                  go_wp2_with fail
                  refine (units_same _ _ _ _ HM7.out HA7.out).mono ?_; rintro e w8 ⟨rfl, hx8⟩
                  have HX8 := Lib.hid (HX7.out.trans hx8)
                  clear hx8
                  go_wp2
                  go_ret
                  exact ⟨rfl, HX8.out⟩
                · have t3 : ((V : Int) == (C : Int)) = false := by rw [beq_eq_false_iff_ne]; omega
                  exfalso
                  omega
            | some ga =>
              have hCe : ¬ C = eN l q := fun e => by have := hGn.2 e; cases this
              obtain ⟨ty, qy, rfl⟩ := ErrIs.ne HE6.out
              by_cases hq0 : q = 0
              · have t1 : ((q : Int) == 0) = true := by rw [beq_iff_eq]; omega
                have t2 : ¬ (0 : Int) < (q : Int) := by omega
                have he0 : eN l q = 0 := by rw [hq0]; rfl
                by_cases hC0 : C = 0
                · have t3 : ((C : Int) == 0) = true := by rw [beq_iff_eq]; omega
                  exfalso
                  omega
                · have t3 : ((C : Int) == 0) = false := by rw [beq_eq_false_iff_ne]; omega
                  clear hCe hG2 hGn hq0 hC0 he0
                  -- in hand: slots decided; w6; HY : y known; whole decided
                  go_wp2_with fail
                  refine (first4_any _ (HG.out.ext HX6.out) (HNB.out.ext HX6.out)).mono ?_; rintro e w7 ⟨rfl, hx7⟩
                  have HX7 := Lib.hid (HX6.out.trans hx7)
                  have HM7 := Lib.hid (HM6.out.ext hx7)
                  have HA7 := Lib.hid (HA6.out.ext hx7)
                  clear hx7
                  go_wp2_with fail
                  refine (units_same _ _ _ _ HM7.out HA7.out).mono ?_; rintro e w8 ⟨rfl, hx8⟩
                  have HX8 := Lib.hid (HX7.out.trans hx8)
                  clear hx8
                  go_wp2
                  go_ret
                  exact ⟨rfl, HX8.out⟩
              · have t1 : ((q : Int) == 0) = false := by rw [beq_eq_false_iff_ne]; omega
                have t2 : (0 : Int) < (q : Int) := by omega
                obtain ⟨p, hp⟩ : ∃ p, p + 1 = q := ⟨q - 1, by omega⟩
                have hpm : p < m := by omega
                obtain ⟨⟨a', cap', e, -, -, h3, h4⟩, -⟩ := HI6.out
                simp only [Value.slice.injEq] at e
                obtain ⟨ea, -, ec⟩ := e
                obtain ⟨ig, io, ei⟩ := h3 (by rw [ends_len, HMM.out]; omega)
                have cE := h4 ig io ei p (.int .i64 ((eN l (p + 1) : Nat) : Int)) (by rw [List.getElem?_map, ends_get l (by rw [HMM.out]; exact hpm)]; rfl)
                have ei2 := ea.trans ei
                first
                  | subst ei2
                  | (simp only [Option.some.injEq, Addr.mk.injEq, and_true] at ei2
                     obtain ⟨rfl, rfl⟩ := ei2)
                obtain ⟨V, hV⟩ : ∃ V, eN l q = V := ⟨_, rfl⟩
                rw [hp, hV] at cE
                have s1 : IntKind.i64.wrap ((q : Int) - 1) = (p : Int) := by rw [IntKind.wrap_i64]; omega
                have s2 : (0 : Int) ≤ (p : Int) := by omega
                have s3 : (p : Int) < (m : Int) := by omega
                by_cases hVC : V = C
                · have t3 : ((V : Int) == (C : Int)) = true := by rw [beq_iff_eq]; omega
                  exfalso
                  omega
                · have t3 : ((V : Int) == (C : Int)) = false := by rw [beq_eq_false_iff_ne]; omega
                  clear hCe hG2 hGn hq0 hp h3 h4 ei ea ec hV hVC
                  -- in hand: slots decided; w6; HY : y known; whole decided
                  go_wp2_with fail
                  refine (first4_any _ (HG.out.ext HX6.out) (HNB.out.ext HX6.out)).mono ?_; rintro e w7 ⟨rfl, hx7⟩
                  have HX7 := Lib.hid (HX6.out.trans hx7)
                  have HM7 := Lib.hid (HM6.out.ext hx7)
                  have HA7 := Lib.hid (HA6.out.ext hx7)
                  clear hx7
                  go_wp2_with fail
                  refine (units_same _ _ _ _ HM7.out HA7.out).mono ?_; rintro e w8 ⟨rfl, hx8⟩
                  have HX8 := Lib.hid (HX7.out.trans hx8)
                  clear hx8
                  go_wp2
                  go_ret
                  exact ⟨rfl, HX8.out⟩
        · have x2 : ¬ (q : Int) < (m : Int) := by omega
          have hstop : q = l.length ∨ C < eN l (q + 1) := .inl (by rw [HMM.out]; omega)
          obtain ⟨G, hG1, hG2⟩ := sp_cut HOK.out (n := q) (c := C) (by rw [HMM.out]; exact hq) HQ.out hstop (by rw [HTT.out]; exact hCT)
          have USc : Hid (∀ w', NbIs w' → Bys w' (.slice oa C oc) ((outM l).take C) → Calls Tryd.prog 24 #[.slice oa C oc] w' (SpPost w' (G, (lay 0 l).take q))) := fun w' h k => by
            have := split_any ((outM l).take C) _ w' h k (by rw [List.length_take, HTT.out]; omega)
            rw [hG1] at this
            exact this
          have HOC := Lib.hid (HO5.out.upto hCT)
          have xC : (C : Int) ≤ (oc : Int) := by omega
          have xC0 : (0 : Int) ≤ (C : Int) := by omega
          have xq : (q : Int) ≤ (uc : Int) := by omega
          have xq0 : (0 : Int) ≤ (q : Int) := by omega
          clear hG1
          go_wp2_with fail
          refine (USc.out _ (HNB.out.ext HX5.out) HOC.out).mono ?_; rintro e w6 ⟨mv, y, S2, rfl, ho6, hs6, he6, hx6⟩
          have HM6 : Hid (Uns w6 mv ((lay 0 l).take q)) := Uns.of_own ho6 (by show ((lay 0 l).take q).length ≤ _; rw [List.length_take]; omega) hs6
          have HA6 := Lib.hid ((HA5.out.upto hq).ext hx6)
          have HE6 : Hid (ErrIs w6 G y) := he6
          have HX6 := Lib.hid (HX5.out.trans hx6)
          have HI6 := Lib.hid (HI5.out.ext hx6)
          clear ho6 hs6 he6 hx6 HOC USc HO5 HA5 HI5 US
          -- in hand: whether C is where the first q end (hCe); the tests
          have hGn := hG2
          cases G with
          | none =>
            have hCe : C = eN l q := hGn.1 rfl
            obtain rfl : y = .nilIface := HE6.out
            by_cases hq0 : q = 0
            · have t1 : ((q : Int) == 0) = true := by rw [beq_iff_eq]; omega
              have t2 : ¬ (0 : Int) < (q : Int) := by omega
              have he0 : eN l q = 0 := by rw [hq0]; rfl
              by_cases hC0 : C = 0
              · have t3 : ((C : Int) == 0) = true := by rw [beq_iff_eq]; omega
                clear hCe hG2 hGn hq0 hC0 he0
                -- in hand: slots decided; w6; HY : y known; whole decided
                go_wp2_with fail
                refine (first4_any _ (HG.out.ext HX6.out) (HNB.out.ext HX6.out)).mono ?_; rintro e w7 ⟨rfl, hx7⟩
                have HX7 := Lib.hid (HX6.out.trans hx7)
                have HM7 := Lib.hid (HM6.out.ext hx7)
                have HA7 := Lib.hid (HA6.out.ext hx7)
                clear hx7
                go_wp2_with fail
                refine (units_same _ _ _ _ HM7.out HA7.out).mono ?_; rintro e w8 ⟨rfl, hx8⟩
                have HX8 := Lib.hid (HX7.out.trans hx8)
                clear hx8
                go_wp2
                go_ret
                exact ⟨rfl, HX8.out⟩
              · have t3 : ((C : Int) == 0) = false := by rw [beq_eq_false_iff_ne]; omega
                exfalso
                omega
            · have t1 : ((q : Int) == 0) = false := by rw [beq_eq_false_iff_ne]; omega
              have t2 : (0 : Int) < (q : Int) := by omega
              obtain ⟨p, hp⟩ : ∃ p, p + 1 = q := ⟨q - 1, by omega⟩
              have hpm : p < m := by omega
              obtain ⟨⟨a', cap', e, -, -, h3, h4⟩, -⟩ := HI6.out
              simp only [Value.slice.injEq] at e
              obtain ⟨ea, -, ec⟩ := e
              obtain ⟨ig, io, ei⟩ := h3 (by rw [ends_len, HMM.out]; omega)
              have cE := h4 ig io ei p (.int .i64 ((eN l (p + 1) : Nat) : Int)) (by rw [List.getElem?_map, ends_get l (by rw [HMM.out]; exact hpm)]; rfl)
              have ei2 := ea.trans ei
              first
                | subst ei2
                | (simp only [Option.some.injEq, Addr.mk.injEq, and_true] at ei2
                   obtain ⟨rfl, rfl⟩ := ei2)
              obtain ⟨V, hV⟩ : ∃ V, eN l q = V := ⟨_, rfl⟩
              rw [hp, hV] at cE
              have s1 : IntKind.i64.wrap ((q : Int) - 1) = (p : Int) := by rw [IntKind.wrap_i64]; omega
              have s2 : (0 : Int) ≤ (p : Int) := by omega
              have s3 : (p : Int) < (m : Int) := by omega
              by_cases hVC : V = C
              · have t3 : ((V : Int) == (C : Int)) = true := by rw [beq_iff_eq]; omega
                clear hCe hG2 hGn hq0 hp h3 h4 ei ea ec hV hVC
                -- in hand: slots decided; w6; HY : y known; whole decided
                go_wp2_with fail
                refine (first4_any _ (HG.out.ext HX6.out) (HNB.out.ext HX6.out)).mono ?_; rintro e w7 ⟨rfl, hx7⟩
                have HX7 := Lib.hid (HX6.out.trans hx7)
                have HM7 := Lib.hid (HM6.out.ext hx7)
                have HA7 := Lib.hid (HA6.out.ext hx7)
                clear hx7
                go_wp2_with fail
                refine (units_same _ _ _ _ HM7.out HA7.out).mono ?_; rintro e w8 ⟨rfl, hx8⟩
                have HX8 := Lib.hid (HX7.out.trans hx8)
                clear hx8
                go_wp2
                go_ret
                exact ⟨rfl, HX8.out⟩
              · have t3 : ((V : Int) == (C : Int)) = false := by rw [beq_eq_false_iff_ne]; omega
                exfalso
                omega
          | some ga =>
            have hCe : ¬ C = eN l q := fun e => by have := hGn.2 e; cases this
            obtain ⟨ty, qy, rfl⟩ := ErrIs.ne HE6.out
            by_cases hq0 : q = 0
            · have t1 : ((q : Int) == 0) = true := by rw [beq_iff_eq]; omega
              have t2 : ¬ (0 : Int) < (q : Int) := by omega
              have he0 : eN l q = 0 := by rw [hq0]; rfl
              by_cases hC0 : C = 0
              · have t3 : ((C : Int) == 0) = true := by rw [beq_iff_eq]; omega
                exfalso
                omega
              · have t3 : ((C : Int) == 0) = false := by rw [beq_eq_false_iff_ne]; omega
                clear hCe hG2 hGn hq0 hC0 he0
                -- in hand: slots decided; w6; HY : y known; whole decided
                go_wp2_with fail
                refine (first4_any _ (HG.out.ext HX6.out) (HNB.out.ext HX6.out)).mono ?_; rintro e w7 ⟨rfl, hx7⟩
                have HX7 := Lib.hid (HX6.out.trans hx7)
                have HM7 := Lib.hid (HM6.out.ext hx7)
                have HA7 := Lib.hid (HA6.out.ext hx7)
                clear hx7
                go_wp2_with fail
                refine (units_same _ _ _ _ HM7.out HA7.out).mono ?_; rintro e w8 ⟨rfl, hx8⟩
                have HX8 := Lib.hid (HX7.out.trans hx8)
                clear hx8
                go_wp2
                go_ret
                exact ⟨rfl, HX8.out⟩
            · have t1 : ((q : Int) == 0) = false := by rw [beq_eq_false_iff_ne]; omega
              have t2 : (0 : Int) < (q : Int) := by omega
              obtain ⟨p, hp⟩ : ∃ p, p + 1 = q := ⟨q - 1, by omega⟩
              have hpm : p < m := by omega
              obtain ⟨⟨a', cap', e, -, -, h3, h4⟩, -⟩ := HI6.out
              simp only [Value.slice.injEq] at e
              obtain ⟨ea, -, ec⟩ := e
              obtain ⟨ig, io, ei⟩ := h3 (by rw [ends_len, HMM.out]; omega)
              have cE := h4 ig io ei p (.int .i64 ((eN l (p + 1) : Nat) : Int)) (by rw [List.getElem?_map, ends_get l (by rw [HMM.out]; exact hpm)]; rfl)
              have ei2 := ea.trans ei
              first
                | subst ei2
                | (simp only [Option.some.injEq, Addr.mk.injEq, and_true] at ei2
                   obtain ⟨rfl, rfl⟩ := ei2)
              obtain ⟨V, hV⟩ : ∃ V, eN l q = V := ⟨_, rfl⟩
              rw [hp, hV] at cE
              have s1 : IntKind.i64.wrap ((q : Int) - 1) = (p : Int) := by rw [IntKind.wrap_i64]; omega
              have s2 : (0 : Int) ≤ (p : Int) := by omega
              have s3 : (p : Int) < (m : Int) := by omega
              by_cases hVC : V = C
              · have t3 : ((V : Int) == (C : Int)) = true := by rw [beq_iff_eq]; omega
                exfalso
                omega
              · have t3 : ((V : Int) == (C : Int)) = false := by rw [beq_eq_false_iff_ne]; omega
                clear hCe hG2 hGn hq0 hp h3 h4 ei ea ec hV hVC
                -- in hand: slots decided; w6; HY : y known; whole decided
                go_wp2_with fail
                refine (first4_any _ (HG.out.ext HX6.out) (HNB.out.ext HX6.out)).mono ?_; rintro e w7 ⟨rfl, hx7⟩
                have HX7 := Lib.hid (HX6.out.trans hx7)
                have HM7 := Lib.hid (HM6.out.ext hx7)
                have HA7 := Lib.hid (HA6.out.ext hx7)
                clear hx7
                go_wp2_with fail
                refine (units_same _ _ _ _ HM7.out HA7.out).mono ?_; rintro e w8 ⟨rfl, hx8⟩
                have HX8 := Lib.hid (HX7.out.trans hx8)
                clear hx8
                go_wp2
                go_ret
                exact ⟨rfl, HX8.out⟩
    · obtain ⟨c0, rfl⟩ : ∃ c0 : Nat, cut = (c0 : Int) := ⟨cut.toNat, by omega⟩
      go_enter Tryd.func7, Tryd.ntmps7
      go_wp2_with fail
      refine (first4_any _ HG.out HNB.out).mono ?_; rintro e w1 ⟨rfl, hx1⟩
      have HX1 := Lib.hid hx1
      clear hx1
      go_wp2_with fail
      refine (UF.out _ _ (HL.out.ext HX1.out)).mono ?_; rintro e w2 ⟨rfl, rfl⟩
      rw [hf]
      go_wp2_with fail
      refine (UMd.out _ (HNB.out.ext HX1.out) (HK.out.ext HX1.out) (HL.out.ext HX1.out)).mono ?_; rintro e w3 ⟨l, ov, ev, av, rfl, hok, ⟨hob, hlb⟩, hov, hev, hav, hx3⟩
      obtain ⟨T, hT⟩ : ∃ T, (outM l).length = T := ⟨_, rfl⟩
      obtain ⟨m, hm⟩ : ∃ m, l.length = m := ⟨_, rfl⟩
      obtain ⟨oa, oc, rfl⟩ := hov.form
      obtain ⟨ia, ic, rfl⟩ := hev.form
      obtain ⟨ua, uc, rfl, huc, -⟩ := hav.form
      have hoc : T ≤ oc := by have := hov.caps; rw [hT] at this; omega
      rw [ends_len, hm] at hev ⊢
      rw [lay_len, hm] at hav huc ⊢
      rw [hT] at hob hov ⊢
      rw [hm] at hlb
      have HOK := Lib.hid hok
      have HTT := Lib.hid hT
      have HMM := Lib.hid hm
      have HX3 := Lib.hid (HX1.out.trans hx3)
      have HO3 := Lib.hid hov
      have HI3 := Lib.hid hev
      have HA3 := Lib.hid hav
      have US : Hid (∀ v w, NbIs w → Bys w v (outM l) → Calls Tryd.prog 24 #[v] w (SpPost w (none, lay 0 l))) := fun v w h k => by
        have := split_any (outM l) v w h k (by rw [HTT.out]; omega)
        rw [sp_whole HOK.out] at this
        exact this
      clear hok hT hm hov hev hav hx3
      go_wp2_with fail
      refine (US.out _ _ (HNB.out.ext HX3.out) HO3.out).mono ?_; rintro e w4 ⟨lv, x, S, rfl, ho4, hs4, he4, hx4⟩
      obtain rfl : x = .nilIface := he4
      have HU4 : Hid (Uns w4 lv (lay 0 l)) := Uns.of_own ho4 (by show (lay 0 l).length ≤ _; rw [lay_len, HMM.out]; omega) hs4
      have HX4 := Lib.hid (HX3.out.trans hx4)
      have HO4 := Lib.hid (HO3.out.ext hx4)
      have HI4 := Lib.hid (HI3.out.ext hx4)
      have HA4 := Lib.hid (HA3.out.ext hx4)
      clear ho4 hs4 hx4 HO3 HI3 HA3
      go_wp2_with fail
      refine (units_same _ _ _ _ HU4.out HA4.out).mono ?_; rintro e w5 ⟨rfl, hx5⟩
      have HX5 := Lib.hid (HX4.out.trans hx5)
      have HO5 := Lib.hid (HO4.out.ext hx5)
      have HI5 := Lib.hid (HI4.out.ext hx5)
      have HA5 := Lib.hid (HA4.out.ext hx5)
      clear hx5 HU4 HO4 HI4 HA4
      obtain ⟨C, hC⟩ : ∃ C, c0 % (T + 1) = C := ⟨_, rfl⟩
      have hCT : C ≤ T := by have := Nat.mod_lt c0 (show 0 < T + 1 by omega); omega
      have y1 : IntKind.i64.wrap ((T : Int) + 1) = (T : Int) + 1 := by rw [IntKind.wrap_i64]; omega
      have y2 : Int.tmod (c0 : Int) ((T : Int) + 1) = (C : Int) := by
        rw [← hC, show ((T : Int) + 1) = ((T + 1 : Nat) : Int) by omega, Int.ofNat_tmod]
      have y3 : ((T : Int) + 1) ≠ 0 := by omega
      have y4 : IntKind.i64.wrap (C : Int) = (C : Int) := by rw [IntKind.wrap_i64]; omega
      clear hC
      go_wp2_with fail
      go_loop [12] (fun iv => ∃ q : Nat, q ≤ m ∧ iv = .int .i64 (q : Int) ∧ Hid (eN l q ≤ C)) (fun iv => m - (intOf iv).toNat)
      case atStart => exact ⟨0, Nat.zero_le _, rfl, Nat.zero_le _⟩
      case round =>
        obtain ⟨q, hq, rfl, HQ⟩ := hrel
        by_cases hqm : q < m
        · obtain ⟨⟨a', cap', e, -, -, h3, h4⟩, -⟩ := HI5.out
          simp only [Value.slice.injEq] at e
          obtain ⟨ea, -, ec⟩ := e
          obtain ⟨ig, io, ei⟩ := h3 (by rw [ends_len, HMM.out]; omega)
          have cE := h4 ig io ei q (.int .i64 ((eN l (q + 1) : Nat) : Int)) (by rw [List.getElem?_map, ends_get l (by rw [HMM.out]; exact hqm)]; rfl)
          have ei2 : ia = some ⟨ig, io, none⟩ := ea.trans ei
          subst ei2
          obtain ⟨V, hV⟩ : ∃ V, eN l (q + 1) = V := ⟨_, rfl⟩
          rw [hV] at cE
          have HV := Lib.hid hV
          have x1 : (0 : Int) ≤ (q : Int) := by omega
          have x2 : (q : Int) < (m : Int) := by omega
          clear h3 h4 ei ea ec hV
          by_cases hVC : V ≤ C
          · have t0 : (V : Int) ≤ (C : Int) := by omega
            go_wp2
            go_roundw
            case rel => exact ⟨q + 1, by omega, by go_num, by show eN l (q + 1) ≤ C; rw [HV.out]; exact hVC⟩
            case measure => simp [intOf]; omega
          · have t0 : ¬ (V : Int) ≤ (C : Int) := by omega
            have hstop : q = l.length ∨ C < eN l (q + 1) := .inr (by rw [HV.out]; omega)
            obtain ⟨G, hG1, hG2⟩ := sp_cut HOK.out (n := q) (c := C) (by rw [HMM.out]; exact hq) HQ.out hstop (by rw [HTT.out]; exact hCT)
            have USc : Hid (∀ w', NbIs w' → Bys w' (.slice oa C oc) ((outM l).take C) → Calls Tryd.prog 24 #[.slice oa C oc] w' (SpPost w' (G, (lay 0 l).take q))) := fun w' h k => by
              have := split_any ((outM l).take C) _ w' h k (by rw [List.length_take, HTT.out]; omega)
              rw [hG1] at this
              exact this
            have HOC := Lib.hid (HO5.out.upto hCT)
            have xC : (C : Int) ≤ (oc : Int) := by omega
            have xC0 : (0 : Int) ≤ (C : Int) := by omega
            have xq : (q : Int) ≤ (uc : Int) := by omega
            have xq0 : (0 : Int) ≤ (q : Int) := by omega
            clear hG1
            go_wp2_with fail
            refine (USc.out _ (HNB.out.ext HX5.out) HOC.out).mono ?_; rintro e w6 ⟨mv, y, S2, rfl, ho6, hs6, he6, hx6⟩
            have HM6 : Hid (Uns w6 mv ((lay 0 l).take q)) := Uns.of_own ho6 (by show ((lay 0 l).take q).length ≤ _; rw [List.length_take]; omega) hs6
            have HA6 := Lib.hid ((HA5.out.upto hq).ext hx6)
            have HE6 : Hid (ErrIs w6 G y) := he6
            have HX6 := Lib.hid (HX5.out.trans hx6)
            have HI6 := Lib.hid (HI5.out.ext hx6)
            clear ho6 hs6 he6 hx6 HOC USc HO5 HA5 HI5 US
            -- in hand: whether C is where the first q end (hCe); the tests
            have hGn := hG2
            cases G with
            | none =>
              have hCe : C = eN l q := hGn.1 rfl
              obtain rfl : y = .nilIface := HE6.out
              by_cases hq0 : q = 0
              · have t1 : ((q : Int) == 0) = true := by rw [beq_iff_eq]; omega
                have t2 : ¬ (0 : Int) < (q : Int) := by omega
                have he0 : eN l q = 0 := by rw [hq0]; rfl
                by_cases hC0 : C = 0
                · have t3 : ((C : Int) == 0) = true := by rw [beq_iff_eq]; omega
                  clear hCe hG2 hGn hq0 hC0 he0
                  -- in hand: slots decided; w6; HY : y known; whole decided
                  go_wp2_with fail
                  refine (first4_any _ (HG.out.ext HX6.out) (HNB.out.ext HX6.out)).mono ?_; rintro e w7 ⟨rfl, hx7⟩
                  have HX7 := Lib.hid (HX6.out.trans hx7)
                  have HM7 := Lib.hid (HM6.out.ext hx7)
                  have HA7 := Lib.hid (HA6.out.ext hx7)
                  clear hx7
                  go_wp2_with fail
                  refine (units_same _ _ _ _ HM7.out HA7.out).mono ?_; rintro e w8 ⟨rfl, hx8⟩
                  have HX8 := Lib.hid (HX7.out.trans hx8)
                  clear hx8
                  go_wp2
                  go_ret
                  exact ⟨rfl, HX8.out⟩
                · have t3 : ((C : Int) == 0) = false := by rw [beq_eq_false_iff_ne]; omega
                  exfalso
                  omega
              · have t1 : ((q : Int) == 0) = false := by rw [beq_eq_false_iff_ne]; omega
                have t2 : (0 : Int) < (q : Int) := by omega
                obtain ⟨p, hp⟩ : ∃ p, p + 1 = q := ⟨q - 1, by omega⟩
                have hpm : p < m := by omega
                obtain ⟨⟨a', cap', e, -, -, h3, h4⟩, -⟩ := HI6.out
                simp only [Value.slice.injEq] at e
                obtain ⟨ea, -, ec⟩ := e
                obtain ⟨ig, io, ei⟩ := h3 (by rw [ends_len, HMM.out]; omega)
                have cE := h4 ig io ei p (.int .i64 ((eN l (p + 1) : Nat) : Int)) (by rw [List.getElem?_map, ends_get l (by rw [HMM.out]; exact hpm)]; rfl)
                have ei2 := ea.trans ei
                first
                  | subst ei2
                  | (simp only [Option.some.injEq, Addr.mk.injEq, and_true] at ei2
                     obtain ⟨rfl, rfl⟩ := ei2)
                obtain ⟨V, hV⟩ : ∃ V, eN l q = V := ⟨_, rfl⟩
                rw [hp, hV] at cE
                have s1 : IntKind.i64.wrap ((q : Int) - 1) = (p : Int) := by rw [IntKind.wrap_i64]; omega
                have s2 : (0 : Int) ≤ (p : Int) := by omega
                have s3 : (p : Int) < (m : Int) := by omega
                by_cases hVC : V = C
                · have t3 : ((V : Int) == (C : Int)) = true := by rw [beq_iff_eq]; omega
                  clear hCe hG2 hGn hq0 hp h3 h4 ei ea ec hV hVC
                  -- in hand: slots decided; w6; HY : y known; whole decided
                  go_wp2_with fail
                  refine (first4_any _ (HG.out.ext HX6.out) (HNB.out.ext HX6.out)).mono ?_; rintro e w7 ⟨rfl, hx7⟩
                  have HX7 := Lib.hid (HX6.out.trans hx7)
                  have HM7 := Lib.hid (HM6.out.ext hx7)
                  have HA7 := Lib.hid (HA6.out.ext hx7)
                  clear hx7
                  go_wp2_with fail
                  refine (units_same _ _ _ _ HM7.out HA7.out).mono ?_; rintro e w8 ⟨rfl, hx8⟩
                  have HX8 := Lib.hid (HX7.out.trans hx8)
                  clear hx8
                  go_wp2
                  go_ret
                  exact ⟨rfl, HX8.out⟩
                · have t3 : ((V : Int) == (C : Int)) = false := by rw [beq_eq_false_iff_ne]; omega
                  exfalso
                  omega
            | some ga =>
              have hCe : ¬ C = eN l q := fun e => by have := hGn.2 e; cases this
              obtain ⟨ty, qy, rfl⟩ := ErrIs.ne HE6.out
              by_cases hq0 : q = 0
              · have t1 : ((q : Int) == 0) = true := by rw [beq_iff_eq]; omega
                have t2 : ¬ (0 : Int) < (q : Int) := by omega
                have he0 : eN l q = 0 := by rw [hq0]; rfl
                by_cases hC0 : C = 0
                · have t3 : ((C : Int) == 0) = true := by rw [beq_iff_eq]; omega
                  exfalso
                  omega
                · have t3 : ((C : Int) == 0) = false := by rw [beq_eq_false_iff_ne]; omega
                  clear hCe hG2 hGn hq0 hC0 he0
                  -- in hand: slots decided; w6; HY : y known; whole decided
                  go_wp2_with fail
                  refine (first4_any _ (HG.out.ext HX6.out) (HNB.out.ext HX6.out)).mono ?_; rintro e w7 ⟨rfl, hx7⟩
                  have HX7 := Lib.hid (HX6.out.trans hx7)
                  have HM7 := Lib.hid (HM6.out.ext hx7)
                  have HA7 := Lib.hid (HA6.out.ext hx7)
                  clear hx7
                  go_wp2_with fail
                  refine (units_same _ _ _ _ HM7.out HA7.out).mono ?_; rintro e w8 ⟨rfl, hx8⟩
                  have HX8 := Lib.hid (HX7.out.trans hx8)
                  clear hx8
                  go_wp2
                  go_ret
                  exact ⟨rfl, HX8.out⟩
              · have t1 : ((q : Int) == 0) = false := by rw [beq_eq_false_iff_ne]; omega
                have t2 : (0 : Int) < (q : Int) := by omega
                obtain ⟨p, hp⟩ : ∃ p, p + 1 = q := ⟨q - 1, by omega⟩
                have hpm : p < m := by omega
                obtain ⟨⟨a', cap', e, -, -, h3, h4⟩, -⟩ := HI6.out
                simp only [Value.slice.injEq] at e
                obtain ⟨ea, -, ec⟩ := e
                obtain ⟨ig, io, ei⟩ := h3 (by rw [ends_len, HMM.out]; omega)
                have cE := h4 ig io ei p (.int .i64 ((eN l (p + 1) : Nat) : Int)) (by rw [List.getElem?_map, ends_get l (by rw [HMM.out]; exact hpm)]; rfl)
                have ei2 := ea.trans ei
                first
                  | subst ei2
                  | (simp only [Option.some.injEq, Addr.mk.injEq, and_true] at ei2
                     obtain ⟨rfl, rfl⟩ := ei2)
                obtain ⟨V, hV⟩ : ∃ V, eN l q = V := ⟨_, rfl⟩
                rw [hp, hV] at cE
                have s1 : IntKind.i64.wrap ((q : Int) - 1) = (p : Int) := by rw [IntKind.wrap_i64]; omega
                have s2 : (0 : Int) ≤ (p : Int) := by omega
                have s3 : (p : Int) < (m : Int) := by omega
                by_cases hVC : V = C
                · have t3 : ((V : Int) == (C : Int)) = true := by rw [beq_iff_eq]; omega
                  exfalso
                  omega
                · have t3 : ((V : Int) == (C : Int)) = false := by rw [beq_eq_false_iff_ne]; omega
                  clear hCe hG2 hGn hq0 hp h3 h4 ei ea ec hV hVC
                  -- in hand: slots decided; w6; HY : y known; whole decided
                  go_wp2_with fail
                  refine (first4_any _ (HG.out.ext HX6.out) (HNB.out.ext HX6.out)).mono ?_; rintro e w7 ⟨rfl, hx7⟩
                  have HX7 := Lib.hid (HX6.out.trans hx7)
                  have HM7 := Lib.hid (HM6.out.ext hx7)
                  have HA7 := Lib.hid (HA6.out.ext hx7)
                  clear hx7
                  go_wp2_with fail
                  refine (units_same _ _ _ _ HM7.out HA7.out).mono ?_; rintro e w8 ⟨rfl, hx8⟩
                  have HX8 := Lib.hid (HX7.out.trans hx8)
                  clear hx8
                  go_wp2
                  go_ret
                  exact ⟨rfl, HX8.out⟩
        · have x2 : ¬ (q : Int) < (m : Int) := by omega
          have hstop : q = l.length ∨ C < eN l (q + 1) := .inl (by rw [HMM.out]; omega)
          obtain ⟨G, hG1, hG2⟩ := sp_cut HOK.out (n := q) (c := C) (by rw [HMM.out]; exact hq) HQ.out hstop (by rw [HTT.out]; exact hCT)
          have USc : Hid (∀ w', NbIs w' → Bys w' (.slice oa C oc) ((outM l).take C) → Calls Tryd.prog 24 #[.slice oa C oc] w' (SpPost w' (G, (lay 0 l).take q))) := fun w' h k => by
            have := split_any ((outM l).take C) _ w' h k (by rw [List.length_take, HTT.out]; omega)
            rw [hG1] at this
            exact this
          have HOC := Lib.hid (HO5.out.upto hCT)
          have xC : (C : Int) ≤ (oc : Int) := by omega
          have xC0 : (0 : Int) ≤ (C : Int) := by omega
          have xq : (q : Int) ≤ (uc : Int) := by omega
          have xq0 : (0 : Int) ≤ (q : Int) := by omega
          clear hG1
          go_wp2_with fail
          refine (USc.out _ (HNB.out.ext HX5.out) HOC.out).mono ?_; rintro e w6 ⟨mv, y, S2, rfl, ho6, hs6, he6, hx6⟩
          have HM6 : Hid (Uns w6 mv ((lay 0 l).take q)) := Uns.of_own ho6 (by show ((lay 0 l).take q).length ≤ _; rw [List.length_take]; omega) hs6
          have HA6 := Lib.hid ((HA5.out.upto hq).ext hx6)
          have HE6 : Hid (ErrIs w6 G y) := he6
          have HX6 := Lib.hid (HX5.out.trans hx6)
          have HI6 := Lib.hid (HI5.out.ext hx6)
          clear ho6 hs6 he6 hx6 HOC USc HO5 HA5 HI5 US
          -- in hand: whether C is where the first q end (hCe); the tests
          have hGn := hG2
          cases G with
          | none =>
            have hCe : C = eN l q := hGn.1 rfl
            obtain rfl : y = .nilIface := HE6.out
            by_cases hq0 : q = 0
            · have t1 : ((q : Int) == 0) = true := by rw [beq_iff_eq]; omega
              have t2 : ¬ (0 : Int) < (q : Int) := by omega
              have he0 : eN l q = 0 := by rw [hq0]; rfl
              by_cases hC0 : C = 0
              · have t3 : ((C : Int) == 0) = true := by rw [beq_iff_eq]; omega
                clear hCe hG2 hGn hq0 hC0 he0
                -- in hand: slots decided; w6; HY : y known; whole decided
                go_wp2_with fail
                refine (first4_any _ (HG.out.ext HX6.out) (HNB.out.ext HX6.out)).mono ?_; rintro e w7 ⟨rfl, hx7⟩
                have HX7 := Lib.hid (HX6.out.trans hx7)
                have HM7 := Lib.hid (HM6.out.ext hx7)
                have HA7 := Lib.hid (HA6.out.ext hx7)
                clear hx7
                go_wp2_with fail
                refine (units_same _ _ _ _ HM7.out HA7.out).mono ?_; rintro e w8 ⟨rfl, hx8⟩
                have HX8 := Lib.hid (HX7.out.trans hx8)
                clear hx8
                go_wp2
                go_ret
                exact ⟨rfl, HX8.out⟩
              · have t3 : ((C : Int) == 0) = false := by rw [beq_eq_false_iff_ne]; omega
                exfalso
                omega
            · have t1 : ((q : Int) == 0) = false := by rw [beq_eq_false_iff_ne]; omega
              have t2 : (0 : Int) < (q : Int) := by omega
              obtain ⟨p, hp⟩ : ∃ p, p + 1 = q := ⟨q - 1, by omega⟩
              have hpm : p < m := by omega
              obtain ⟨⟨a', cap', e, -, -, h3, h4⟩, -⟩ := HI6.out
              simp only [Value.slice.injEq] at e
              obtain ⟨ea, -, ec⟩ := e
              obtain ⟨ig, io, ei⟩ := h3 (by rw [ends_len, HMM.out]; omega)
              have cE := h4 ig io ei p (.int .i64 ((eN l (p + 1) : Nat) : Int)) (by rw [List.getElem?_map, ends_get l (by rw [HMM.out]; exact hpm)]; rfl)
              have ei2 := ea.trans ei
              first
                | subst ei2
                | (simp only [Option.some.injEq, Addr.mk.injEq, and_true] at ei2
                   obtain ⟨rfl, rfl⟩ := ei2)
              obtain ⟨V, hV⟩ : ∃ V, eN l q = V := ⟨_, rfl⟩
              rw [hp, hV] at cE
              have s1 : IntKind.i64.wrap ((q : Int) - 1) = (p : Int) := by rw [IntKind.wrap_i64]; omega
              have s2 : (0 : Int) ≤ (p : Int) := by omega
              have s3 : (p : Int) < (m : Int) := by omega
              by_cases hVC : V = C
              · have t3 : ((V : Int) == (C : Int)) = true := by rw [beq_iff_eq]; omega
                clear hCe hG2 hGn hq0 hp h3 h4 ei ea ec hV hVC
                -- in hand: slots decided; w6; HY : y known; whole decided
                go_wp2_with fail
                refine (first4_any _ (HG.out.ext HX6.out) (HNB.out.ext HX6.out)).mono ?_; rintro e w7 ⟨rfl, hx7⟩
                have HX7 := Lib.hid (HX6.out.trans hx7)
                have HM7 := Lib.hid (HM6.out.ext hx7)
                have HA7 := Lib.hid (HA6.out.ext hx7)
                clear hx7
                go_wp2_with fail
                refine (units_same _ _ _ _ HM7.out HA7.out).mono ?_; rintro e w8 ⟨rfl, hx8⟩
                have HX8 := Lib.hid (HX7.out.trans hx8)
                clear hx8
                go_wp2
                go_ret
                exact ⟨rfl, HX8.out⟩
              · have t3 : ((V : Int) == (C : Int)) = false := by rw [beq_eq_false_iff_ne]; omega
                exfalso
                omega
          | some ga =>
            have hCe : ¬ C = eN l q := fun e => by have := hGn.2 e; cases this
            obtain ⟨ty, qy, rfl⟩ := ErrIs.ne HE6.out
            by_cases hq0 : q = 0
            · have t1 : ((q : Int) == 0) = true := by rw [beq_iff_eq]; omega
              have t2 : ¬ (0 : Int) < (q : Int) := by omega
              have he0 : eN l q = 0 := by rw [hq0]; rfl
              by_cases hC0 : C = 0
              · have t3 : ((C : Int) == 0) = true := by rw [beq_iff_eq]; omega
                exfalso
                omega
              · have t3 : ((C : Int) == 0) = false := by rw [beq_eq_false_iff_ne]; omega
                clear hCe hG2 hGn hq0 hC0 he0
                -- in hand: slots decided; w6; HY : y known; whole decided
                go_wp2_with fail
                refine (first4_any _ (HG.out.ext HX6.out) (HNB.out.ext HX6.out)).mono ?_; rintro e w7 ⟨rfl, hx7⟩
                have HX7 := Lib.hid (HX6.out.trans hx7)
                have HM7 := Lib.hid (HM6.out.ext hx7)
                have HA7 := Lib.hid (HA6.out.ext hx7)
                clear hx7
                go_wp2_with fail
                refine (units_same _ _ _ _ HM7.out HA7.out).mono ?_; rintro e w8 ⟨rfl, hx8⟩
                have HX8 := Lib.hid (HX7.out.trans hx8)
                clear hx8
                go_wp2
                go_ret
                exact ⟨rfl, HX8.out⟩
            · have t1 : ((q : Int) == 0) = false := by rw [beq_eq_false_iff_ne]; omega
              have t2 : (0 : Int) < (q : Int) := by omega
              obtain ⟨p, hp⟩ : ∃ p, p + 1 = q := ⟨q - 1, by omega⟩
              have hpm : p < m := by omega
              obtain ⟨⟨a', cap', e, -, -, h3, h4⟩, -⟩ := HI6.out
              simp only [Value.slice.injEq] at e
              obtain ⟨ea, -, ec⟩ := e
              obtain ⟨ig, io, ei⟩ := h3 (by rw [ends_len, HMM.out]; omega)
              have cE := h4 ig io ei p (.int .i64 ((eN l (p + 1) : Nat) : Int)) (by rw [List.getElem?_map, ends_get l (by rw [HMM.out]; exact hpm)]; rfl)
              have ei2 := ea.trans ei
              first
                | subst ei2
                | (simp only [Option.some.injEq, Addr.mk.injEq, and_true] at ei2
                   obtain ⟨rfl, rfl⟩ := ei2)
              obtain ⟨V, hV⟩ : ∃ V, eN l q = V := ⟨_, rfl⟩
              rw [hp, hV] at cE
              have s1 : IntKind.i64.wrap ((q : Int) - 1) = (p : Int) := by rw [IntKind.wrap_i64]; omega
              have s2 : (0 : Int) ≤ (p : Int) := by omega
              have s3 : (p : Int) < (m : Int) := by omega
              by_cases hVC : V = C
              · have t3 : ((V : Int) == (C : Int)) = true := by rw [beq_iff_eq]; omega
                exfalso
                omega
              · have t3 : ((V : Int) == (C : Int)) = false := by rw [beq_eq_false_iff_ne]; omega
                clear hCe hG2 hGn hq0 hp h3 h4 ei ea ec hV hVC
                -- in hand: slots decided; w6; HY : y known; whole decided
                go_wp2_with fail
                refine (first4_any _ (HG.out.ext HX6.out) (HNB.out.ext HX6.out)).mono ?_; rintro e w7 ⟨rfl, hx7⟩
                have HX7 := Lib.hid (HX6.out.trans hx7)
                have HM7 := Lib.hid (HM6.out.ext hx7)
                have HA7 := Lib.hid (HA6.out.ext hx7)
                clear hx7
                go_wp2_with fail
                refine (units_same _ _ _ _ HM7.out HA7.out).mono ?_; rintro e w8 ⟨rfl, hx8⟩
                have HX8 := Lib.hid (HX7.out.trans hx8)
                clear hx8
                go_wp2
                go_ret
                exact ⟨rfl, HX8.out⟩
end Go.Proofs.YtkjllhphpkmaiaaDoor
