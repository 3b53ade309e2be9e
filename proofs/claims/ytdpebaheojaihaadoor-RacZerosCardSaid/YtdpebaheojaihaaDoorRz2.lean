/- kinlaw12.RacZeros: the walk. -/
import Derived.Test.YtdpebaheojaihaaDoorRz
namespace Go.Proofs.YtdpebaheojaihaaDoor
set_option linter.unusedVariables false
set_option linter.unusedSimpArgs false
open Go.RowKit Go.Extern.Stop Go.Stop Go.Extern

set_option maxHeartbeats 8000000 in
set_option maxRecDepth 20000 in
theorem zeros_law (L : List Ot) (v : Value) (w : World) (hg : EtIs w) (hL : Ots w v L) : Calls Tryd.prog 8 #[v] w fun e w' => e = .returned (.bool true) ∧ Ext w w' := by
  have HG := Lib.hid hg
  have HOT := Lib.hid hL
  have hm := hL.small
  obtain ⟨la, lc, rfl⟩ := hL.form
  obtain ⟨n, hn⟩ : ∃ n, L.length = n := ⟨_, rfl⟩
  have HNL := Lib.hid hn
  rw [hn] at hm
  have HOT2 : Hid (Ots w (.slice la n lc) L) := by show Ots _ _ _; rw [← hn]; exact hL
  rw [hn]
  unfold maxLen at hm
  clear hg hL hn HOT
  go_enter Tryd.func8, Tryd.ntmps8
  go_wp2_with fail
  refine (first12_any _ HG.out).mono ?_; rintro e w0 ⟨rfl, hx0⟩
  go_wp2_with fail
  refine (newen_any _).mono ?_; rintro e w1 ⟨b, rfl, hb, hbx, hx1⟩
  have HX1 := Lib.hid (hx0.trans hx1)
  have hw0 := hx0.size
  have HBX := Lib.hid hbx
  clear hx0 hx1 hbx
  go_wp2_with fail
  refine (newdc_any [] _ _ (Bys.nil _)).mono ?_; rintro e w2 ⟨d, rfl, hd, hD2, hx2⟩
  have hbd : b < w1.heap.size := HBX.out.lt
  have hdB : d < w2.heap.size := by obtain ⟨_, _, h, _⟩ := hD2; exact h.lt
  have hA2 : EcAt w2 b w2.heap.size newE := EcAt.new (HBX.out.ext hx2) (by have := hx2.size; omega) (Nat.le_refl _)
  have HX2 := Lib.hid (HX1.out.trans hx2)
  have hF : ∀ g, ¬ (g < w1.heap.size ∨ w2.heap.size ≤ g) → g < w2.heap.size ∧ g ≠ b := fun g h => by omega
  have hbB : w.heap.size ≤ b := by omega
  have hwd : w.heap.size ≤ d := by omega
  have hwB : w.heap.size ≤ w2.heap.size := HX2.out.size
  have hdb : d ≠ b := by omega
  have hbd2 : b ≠ d := by omega
  obtain ⟨B, hB⟩ : ∃ B, w2.heap.size = B := ⟨_, rfl⟩
  rw [hB] at hD2 hdB hA2 hF hwB
  obtain ⟨F, hFF⟩ : ∃ F : Nat → Prop, (fun g => g < w1.heap.size ∨ B ≤ g) = F := ⟨_, rfl⟩
  have hF2 : ∀ g, ¬ F g → g < B ∧ g ≠ b := by rw [← hFF]; exact hF
  rw [hFF] at hD2
  have HFF := Lib.hid hF2
  have HD2 := Lib.hid hD2
  have HA2 := Lib.hid hA2
  have HZ0 : Hid (zI newE (newD []) ∧ okE (4 * 0) newE ∧ okD (4 + 3 * 0) (newD []) ∧ 16777216 ≤ newE.wid) := ⟨zI_new, newE_ok, (newD_ok (bs := []) (by simp)).1, by decide⟩
  clear hA2 hD2 hF hF2 hFF hx2 HBX HX1 hB hbd hb hd hw0
  go_wp2_with fail
  go_loopw [5] (fun iv wr => ∃ (i : Nat) (s : Ec) (t : Dc), (i ≤ n ∧ i ≤ 4000) ∧ iv = .int .i64 (i : Int) ∧ Hid (zI s t ∧ okE (4 * i) s ∧ okD (4 + 3 * i) t ∧ 16777216 ≤ s.wid) ∧ Hid (EcAt wr b B s) ∧ Hid (DcAt F wr d [] t) ∧ Hid (Ext w wr)) (fun iv _ => n - (intOf iv).toNat)
  case atStart => exact ⟨0, newE, newD [], ⟨Nat.zero_le _, Nat.zero_le _⟩, rfl, HZ0.out, HA2.out, HD2.out, HX2.out⟩
  case round =>
    clear HZ0 HA2 HD2 HX2
    obtain ⟨i, s, t, ⟨hi, hi4⟩, rfl, HZ, HA, HD, HX⟩ := hrel
    by_cases hlt : i < n
    · by_cases hl4 : i < 4000
      · obtain ⟨⟨p, up⟩, hU⟩ : ∃ o, L[i]? = some o := ⟨_, List.getElem?_eq_getElem (by rw [HNL.out]; exact hlt)⟩
        obtain ⟨g, off, rfl, hq⟩ := HOT2.out.had (by rw [HNL.out]; omega)
        have HQ := Lib.hid (hq i _ hU).1
        have c0 := HX.out.cell HQ.out
        have c0 : wr.cell? ⟨g, off + i * 2, none⟩ = some (.int .i64 p) := c0
        obtain ⟨z1, z2, z3, z4⟩ := HZ.out
        have zo := zI_op p z1 z4
        have zw : 16777216 ≤ t.wid := by rw [← z1.2.2.2.2.1]; exact z4
        have HZW := Lib.hid zw
        obtain ⟨s2, hs2⟩ : ∃ s2, nxO s (p, false) = s2 := ⟨_, rfl⟩
        have hk2 := nxO_ok (o := (p, false)) z2 z4
        have UC := Lib.hid (codes_any b B (4 * i) p false s wr HA.out z2 (by omega) z4)
        rw [hs2] at UC zo hk2
        have x1 : (0 : Int) ≤ (i : Int) := by omega
        have x2 : (i : Int) < (n : Int) := by omega
        have x3 : (i : Int) < 4000 := by omega
        have hN2 : 4 * (i + 1) ≤ 1000000 := by omega
        have hN3 : 4 + 3 * (i + 1) ≤ 900000 := by omega
        have hND : 4 + 3 * i ≤ 900000 := by omega
        have HK2 : Hid (okE (4 * (i + 1)) s2 ∧ 16777216 ≤ s2.wid) := ⟨by have := hk2.1; rwa [show 4 * i + 4 = 4 * (i + 1) by omega] at this, hk2.2⟩
        have HZ3 := Lib.hid z3
        clear hq hU hs2 z1 z2 z3 z4 zw hk2
        go_wp2_with fail
        refine (UC.out).mono ?_; rintro e w4 ⟨rfl, hA4, hk4⟩
        have HA4 := Lib.hid hA4
        have HD4 := Lib.hid (HD.out.wkp hk4 hdb hdB HFF.out)
        have HX4 := Lib.hid (WKp.out HX.out hk4 hbB hwB)
        have c4 : w4.cell? ⟨g, off + i * 2, none⟩ = some (.int .i64 p) := HX4.out.cell HQ.out
        clear hA4 hk4 c0 HA HD HX
        by_cases hp : p = 0
        · have t1 : (p == 0) = true := by rw [beq_iff_eq]; exact hp
          rw [if_pos hp] at zo
          obtain ⟨t2, ht2⟩ : ∃ t2, parD [] t (t.wid / 2) = t2 := ⟨_, rfl⟩
          have hk3 := (flaD_ok (bs := []) (by simp) HZ3.out HZW.out).1
          rw [ht2] at zo hk3
          have HZ2 : Hid (zI s2 t2 ∧ okE (4 * (i + 1)) s2 ∧ okD (4 + 3 * (i + 1)) t2 ∧ 16777216 ≤ s2.wid) := ⟨zo.1, HK2.out.1, by rwa [show 4 + 3 * i + 3 = 4 + 3 * (i + 1) by omega] at hk3, HK2.out.2⟩
          have HUP := Lib.hid zo.2.1
          have UF := Lib.hid (dflat_any F d (4 + 3 * i) [] t w4 HD4.out HZ3.out hND HZW.out)
          rw [ht2, HUP.out] at UF
          clear zo hk3 ht2 hp
          go_wp2_with fail
          refine (UF.out).mono ?_; rintro e w6 ⟨rfl, hD6, hk6⟩
          have HD6 := Lib.hid hD6
          have HA6 := Lib.hid (HA4.out.kp hk6 hbd2 hdB)
          have HX6 := Lib.hid (Kp.out HX4.out hk6 hwd)
          clear hD6 hk6 HD4 HA4 HX4 c4
          -- in hand: w6; HA6 : EcAt w6 b B s2, HD6 : DcAt F w6 d [] t2, HX6; HZ2 : the invariant at i + 1; the bit false
          go_wp2_with fail
          refine (enlen_any b B _ s2 w6 HA6.out HZ2.out.2.1 hN2).mono ?_; rintro e w7 ⟨rfl, hx7⟩
          have HA7 := Lib.hid (HA6.out.ext hx7)
          have HD7 := Lib.hid (HD6.out.ext hx7)
          have HX7 := Lib.hid (HX6.out.trans hx7)
          clear hx7 HA6 HD6 HX6
          go_wp2_with fail
          refine (dover_any F d _ [] t2 w7 HD7.out HZ2.out.2.2.1 hN3 (by simp)).mono ?_; rintro e w8 ⟨rfl, hx8⟩
          have HA8 := Lib.hid (HA7.out.ext hx8)
          have HD8 := Lib.hid (HD7.out.ext hx8)
          have HX8 := Lib.hid (HX7.out.trans hx8)
          clear hx8 HA7 HD7 HX7
          have hLO : lenE s2 = ovrD [] t2 := HZ2.out.1.2.2.2.2.2.1
          rw [← hLO]
          obtain ⟨L2, hL2⟩ : ∃ L2, lenE s2 = L2 := ⟨_, rfl⟩
          rw [hL2]
          clear hLO hL2
          go_wp2
          go_roundw
          case rel => exact ⟨i + 1, s2, t2, ⟨by omega, by omega⟩, by go_num, HZ2.out, HA8.out, HD8.out, HX8.out⟩
          case measure => simp [intOf]; omega
        · have t1 : (p == 0) = false := by rw [beq_eq_false_iff_ne]; exact hp
          rw [if_neg hp] at zo
          obtain ⟨t2, ht2⟩ : ∃ t2, codD [] t p = t2 := ⟨_, rfl⟩
          have hk3 := (codD_ok (bs := []) (p := p) (by simp) HZ3.out HZW.out).1
          rw [ht2] at zo hk3
          have HZ2 : Hid (zI s2 t2 ∧ okE (4 * (i + 1)) s2 ∧ okD (4 + 3 * (i + 1)) t2 ∧ 16777216 ≤ s2.wid) := ⟨zo.1, HK2.out.1, by rwa [show 4 + 3 * i + 3 = 4 + 3 * (i + 1) by omega] at hk3, HK2.out.2⟩
          have HUP := Lib.hid zo.2.2
          have UF := Lib.hid (dcode_any F d (4 + 3 * i) p [] t w4 HD4.out HZ3.out hND HZW.out)
          rw [ht2, HUP.out] at UF
          clear zo hk3 ht2 hp
          go_wp2_with fail
          refine (UF.out).mono ?_; rintro e w6 ⟨x, rfl, -, hD6, hk6⟩
          have HD6 := Lib.hid hD6
          have HA6 := Lib.hid (HA4.out.kp hk6 hbd2 hdB)
          have HX6 := Lib.hid (Kp.out HX4.out hk6 hwd)
          clear hD6 hk6 HD4 HA4 HX4 c4
          -- in hand: w6; HA6 : EcAt w6 b B s2, HD6 : DcAt F w6 d [] t2, HX6; HZ2 : the invariant at i + 1; the bit false
          go_wp2_with fail
          refine (enlen_any b B _ s2 w6 HA6.out HZ2.out.2.1 hN2).mono ?_; rintro e w7 ⟨rfl, hx7⟩
          have HA7 := Lib.hid (HA6.out.ext hx7)
          have HD7 := Lib.hid (HD6.out.ext hx7)
          have HX7 := Lib.hid (HX6.out.trans hx7)
          clear hx7 HA6 HD6 HX6
          go_wp2_with fail
          refine (dover_any F d _ [] t2 w7 HD7.out HZ2.out.2.2.1 hN3 (by simp)).mono ?_; rintro e w8 ⟨rfl, hx8⟩
          have HA8 := Lib.hid (HA7.out.ext hx8)
          have HD8 := Lib.hid (HD7.out.ext hx8)
          have HX8 := Lib.hid (HX7.out.trans hx8)
          clear hx8 HA7 HD7 HX7
          have hLO : lenE s2 = ovrD [] t2 := HZ2.out.1.2.2.2.2.2.1
          rw [← hLO]
          obtain ⟨L2, hL2⟩ : ∃ L2, lenE s2 = L2 := ⟨_, rfl⟩
          rw [hL2]
          clear hLO hL2
          go_wp2
          go_roundw
          case rel => exact ⟨i + 1, s2, t2, ⟨by omega, by omega⟩, by go_num, HZ2.out, HA8.out, HD8.out, HX8.out⟩
          case measure => simp [intOf]; omega
      · have x3 : ¬ (i : Int) < 4000 := by omega
        have x2 : (i : Int) < (n : Int) := by omega
        have hN5 : 4 * i ≤ 900000 := by omega
        go_wp2_with fail
        refine (first12_any _ (HG.out.ext HX.out)).mono ?_; rintro e w6 ⟨rfl, hx6⟩
        go_wp2_with fail
        refine (enend_any b B _ s w6 (HA.out.ext hx6) HZ.out.2.1 hN5).mono ?_; rintro e w7 ⟨g7, k7, c7, rfl, hl7, -, hx7⟩
        rw [zI_all HZ.out.1] at hl7
        have t9 : ((k7 : Int) == 0) = true := by rw [beq_iff_eq]; have : k7 = 0 := hl7.symm; omega
        have HX7 := Lib.hid ((HX.out.trans hx6).trans hx7)
        clear hl7 hx6 hx7
        go_wp2
        go_ret
        exact ⟨rfl, HX7.out⟩
    · have x2 : ¬ (i : Int) < (n : Int) := by omega
      have hN5 : 4 * i ≤ 900000 := by omega
      go_wp2_with fail
      refine (first12_any _ (HG.out.ext HX.out)).mono ?_; rintro e w6 ⟨rfl, hx6⟩
      go_wp2_with fail
      refine (enend_any b B _ s w6 (HA.out.ext hx6) HZ.out.2.1 hN5).mono ?_; rintro e w7 ⟨g7, k7, c7, rfl, hl7, -, hx7⟩
      rw [zI_all HZ.out.1] at hl7
      have t9 : ((k7 : Int) == 0) = true := by rw [beq_iff_eq]; have : k7 = 0 := hl7.symm; omega
      have HX7 := Lib.hid ((HX.out.trans hx6).trans hx7)
      clear hl7 hx6 hx7
      go_wp2
      go_ret
      exact ⟨rfl, HX7.out⟩
end Go.Proofs.YtdpebaheojaihaaDoor
