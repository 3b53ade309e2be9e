/- gop.May. -/
import Derived.Test.YtlaedbglclmheaaGreatDoorGp1
namespace Go.Proofs.YtlaedbglclmheaaGreatDoor
set_option linter.unusedVariables false
set_option linter.unusedSimpArgs false
open Go.RowKit Go.Extern.Stop Go.Stop Go.Extern

theorem gmay_false {n f c : Int} {L : List Cd} (h : grpB n f c = false ∨ (L.length : Int) ≠ c ∨ cdsB 0 L = false) : gmayB n f c L = false := by
  unfold gmayB
  rcases h with h | h | h
  · rw [h]; rfl
  · rw [decide_eq_false h]; simp
  · rw [h]; simp
theorem gmay_true {n f c : Int} {L : List Cd} (h1 : grpB n f c = true) (h2 : (L.length : Int) = c) : gmayB n f c L = cdsB 0 L := by
  unfold gmayB
  rw [h1, decide_eq_true h2]
  rfl
set_option maxRecDepth 20000 in
set_option maxHeartbeats 4000000 in
theorem gmay_any (n f c : Int) (L : List Cd) (v : Value) (w : World) (h : Cds w v L) (hs : Hid (∀ (q : Nat) (c : Cd), L[q]? = some c → c.2.length ≤ 1000000)) :
    Calls Tryz.prog 16 #[.agg #[.int .i64 n, .int .i64 f, .int .i64 c, v]] w fun e w' => e = .returned (.bool (gmayB n f c L)) ∧ Ext w w' := by
  obtain ⟨a, cap, rfl⟩ := h.form
  obtain ⟨m, hm⟩ : ∃ m, m = L.length := ⟨_, rfl⟩
  have HM := Lib.hid hm
  rw [← hm] at h ⊢
  have AG := Lib.hid h.had
  have HC := Lib.hid h
  have X1 := (Ext.refl w).alloc (.cells #[.int .i64 n, .int .i64 f, .int .i64 c, .slice a m cap] 26)
  have B1 := BoxIs.new w #[.int .i64 n, .int .i64 f, .int .i64 c, .slice a m cap] 26
  have HX1 := Lib.hid X1
  have HB1 := Lib.hid B1
  clear hm h X1 B1
  cases hg : grpB n f c with
  | false =>
    have HR : Hid (gmayB n f c L = false) := gmay_false (.inl hg)
    go_enter Tryz.func16, Tryz.ntmps16
    go_wp2_with fail
    refine (grp_any n f c _).mono ?_; rintro e w1 ⟨rfl, hx1⟩
    rw [hg]
    have E1 := HX1.out.trans hx1
    clear hx1
    go_wp2
    go_ret
    exact ⟨by rw [HR.out]; rfl, E1⟩
  | true =>
    by_cases hl : (m : Int) = c
    · subst hl
      have hm16 : m ≤ 16 := by have := (grp_iff.1 hg).2.2; omega
      have HR : Hid (gmayB n f (m : Int) L = cdsB 0 (L.drop 0)) := gmay_true hg (by rw [← HM.out])
      go_enter Tryz.func16, Tryz.ntmps16
      go_wp2_with fail
      refine (grp_any n f (m : Int) _).mono ?_; rintro e w1 ⟨rfl, hx1⟩
      rw [hg]
      have B2 := HB1.out.ext hx1
      have E1 := Lib.hid (HX1.out.trans hx1)
      have b1 := B2.cell (i := 1) (v := .int .i64 f) rfl
      have b2 := B2.cell (i := 2) (v := .int .i64 (m : Int)) rfl
      have b3 := B2.cell (i := 3) (v := .slice a m cap) rfl
      clear hx1 B2
      go_wp2
      go_loopw [25] (fun iv wr => ∃ k : Nat, k ≤ m ∧ iv = .int .i64 k ∧ Hid (gmayB n f (m : Int) L = cdsB k (L.drop k)) ∧ Hid (Ext w wr)) (fun iv _ => m - (intOf iv).toNat)
      case atStart => exact ⟨0, Nat.zero_le _, rfl, HR, E1⟩
      case round =>
        clear b1 b2 b3 E1 HR
        obtain ⟨k, hk, rfl, HR, HE⟩ := hrel
        by_cases hlt : k < m
        · obtain ⟨cd, hc⟩ : ∃ cd, L[k]? = some cd := ⟨_, List.getElem?_eq_getElem (by rw [← HM.out]; exact hlt)⟩
          obtain ⟨g, off, rfl⟩ := AG.out (by omega)
          obtain ⟨ca, cn, cc, k0, k1, k2, k3⟩ := (HC.out.ext HE.out).at hc
          have hcl := hs.out k cd hc
          have hdr : L.drop k = cd :: L.drop (k + 1) := by
            obtain ⟨hlt, he⟩ := List.getElem?_eq_some_iff.1 hc
            rw [List.drop_eq_getElem_cons hlt, he]
          rw [hdr] at HR
          have HB := Lib.hid (show Bys _ _ _ from ⟨k2, k3, by omega⟩)
          obtain ⟨fk, fbs⟩ := cd
          dsimp only at k0 k1 hcl HB
          clear k2 k3 hc hdr
          have X2 := (Ext.refl wr).alloc (.cells #[.int .i64 fk, .slice ca cn cc] 61)
          have BC := BoxIs.new wr #[.int .i64 fk, .slice ca cn cc] 61
          have c0 := BC.cell (i := 0) (v := .int .i64 fk) rfl
          have c1 := BC.cell (i := 1) (v := .slice ca cn cc) rfl
          have HBC := Lib.hid BC
          have HB2 := Lib.hid (HB.out.ext X2)
          have HE2 := Lib.hid (HE.out.trans X2)
          clear BC X2 HB HE
          go_wp2_with fail
          refine (read_any fk fbs _ _ HB2.out hcl).mono ?_; rintro e w4 ⟨u, x, rfl, hu, hx, hx4⟩
          obtain ⟨ua, uc, rfl⟩ := hu.form
          have d0 := ((HBC.out.ext hx4).ext ((Ext.refl w4).alloc (.cells #[.int .i64 (rdV fk fbs).1, .int .i64 (rdV fk fbs).2.1, .slice ua (rdV fk fbs).2.2.length uc] 108))).cell (i := 0) (v := .int .i64 fk) rfl
          have HE4 := Lib.hid ((HE2.out.trans hx4).trans ((Ext.refl w4).alloc (.cells #[.int .i64 (rdV fk fbs).1, .int .i64 (rdV fk fbs).2.1, .slice ua (rdV fk fbs).2.2.length uc] 108)))
          clear hu hx4 HB2 HBC HE2 c0 c1
          by_cases hrd : rdC fk fbs = 0
          · have hf : rdF fk fbs = none := by unfold rdF; rw [if_pos hrd]
            rw [hf] at hx
            obtain rfl : x = .nilIface := hx
            by_cases hk0 : k = 0
            · subst hk0
              cases hb : begB fk with
              | true =>
                have HR2 : Hid (gmayB n f (m : Int) L = cdsB (0 + 1) (L.drop (0 + 1))) := by show _ = _; rw [HR.out]; exact cds_good hrd (fun _ => hb)
                clear HR hf hrd
                go_wp2_with fail
                refine (beg_any fk _).mono ?_; rintro e w6 ⟨rfl, rfl⟩
                rw [hb]
                clear hb d0
                go_wp2
                go_roundw
                case rel => exact ⟨1, by omega, by go_num, HR2, HE4⟩
                case measure => simp [intOf]; omega
              | false =>
                have HR2 : Hid (gmayB n f (m : Int) L = false) := by show _ = _; rw [HR.out]; exact cds_bad (.inr ⟨rfl, hb⟩)
                clear HR hf hrd
                go_wp2_with fail
                refine (beg_any fk _).mono ?_; rintro e w6 ⟨rfl, rfl⟩
                rw [hb]
                clear hb d0
                go_wp2
                go_ret
                exact ⟨by rw [HR2.out]; rfl, HE4.out⟩
            · have HR2 : Hid (gmayB n f (m : Int) L = cdsB (k + 1) (L.drop (k + 1))) := by show _ = _; rw [HR.out]; exact cds_good hrd (fun e => absurd e hk0)
              have k9 : ((k : Int) == 0) = false := by rw [beq_eq_false_iff_ne]; omega
              clear HR hf hrd hk0
              go_wp2
              go_roundw
              case rel => exact ⟨k + 1, by omega, by go_num, HR2, HE4⟩
              case measure => simp [intOf]; omega
          · have hf : rdF fk fbs = some ([], rdC fk fbs) := by unfold rdF; rw [if_neg hrd]
            rw [hf] at hx
            obtain ⟨xt, xv, rfl⟩ := ErrIs.ne hx
            have HR2 : Hid (gmayB n f (m : Int) L = false) := by show _ = _; rw [HR.out]; exact cds_bad (.inl hrd)
            clear HR hx hf hrd d0
            go_wp2
            go_ret
            exact ⟨by rw [HR2.out]; rfl, HE4.out⟩
        · obtain rfl : k = m := by omega
          have HR2 : Hid (gmayB n f (k : Int) L = true) := by show _ = _; rw [HR.out, List.drop_eq_nil_of_le (by rw [← HM.out]; exact Nat.le_refl _)]; rfl
          clear HR
          go_wp2
          go_ret
          exact ⟨by rw [HR2.out]; rfl, HE.out⟩
    · have HR : Hid (gmayB n f c L = false) := gmay_false (.inr (.inl (by rw [← HM.out]; exact hl)))
      have t1 : ((m : Int) != c) = true := by rw [bne_iff_ne]; exact hl
      go_enter Tryz.func16, Tryz.ntmps16
      go_wp2_with fail
      refine (grp_any n f c _).mono ?_; rintro e w1 ⟨rfl, hx1⟩
      rw [hg]
      have B2 := HB1.out.ext hx1
      have E1 := HX1.out.trans hx1
      have b2 := B2.cell (i := 2) (v := .int .i64 c) rfl
      have b3 := B2.cell (i := 3) (v := .slice a m cap) rfl
      clear hx1 B2 hl
      go_wp2
      go_ret
      exact ⟨by rw [HR.out]; rfl, E1⟩
end Go.Proofs.YtlaedbglclmheaaGreatDoor
