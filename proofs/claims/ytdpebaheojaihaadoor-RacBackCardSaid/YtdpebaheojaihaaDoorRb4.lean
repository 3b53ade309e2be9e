/- kinlaw12.RacBack: the walk. -/
import Derived.Test.YtdpebaheojaihaaDoorRb3
namespace Go.Proofs.YtdpebaheojaihaaDoor
set_option linter.unusedVariables false
set_option linter.unusedSimpArgs false
open Go.RowKit Go.Extern.Stop Go.Stop Go.Extern

theorem ok_app {D : List Ot} {o : Ot} (h : ∀ x ∈ D, okO x = true) (k : okO o = true) : ∀ x ∈ D ++ [o], okO x = true := fun x hx => by
  rcases List.mem_append.1 hx with hx | hx
  · exact h x hx
  · rw [List.mem_singleton.1 hx]; exact k
/-- what the bytes of all of them are -/
theorem bs_len (D : List Ot) : (bsE D).length ≤ lenE (runE D) ∧ lenE (runE D) ≤ 4 * D.length + 5 := by
  refine ⟨?_, ?_⟩
  · rw [← allE_len]
    exact trim_le _
  · have := (run_ok D).1.1
    unfold lenE
    split <;> omega
set_option maxHeartbeats 8000000 in
set_option maxRecDepth 20000 in
theorem back_law (L : List Ot) (v : Value) (w : World) (hg : EtIs w) (hL : Ots w v L) : Calls Tryd.prog 5 #[v] w fun e w' => e = .returned (.bool true) ∧ Ext w w' := by
  have HG := Lib.hid hg
  have hm := hL.small
  have HOT := Lib.hid hL
  obtain ⟨la, lc, rfl⟩ := hL.form
  obtain ⟨m, hm'⟩ : ∃ m, m = L.length := ⟨_, rfl⟩
  rw [← hm'] at HOT hm ⊢
  have HM := Lib.hid hm'
  unfold maxLen at hm
  clear hg hL hm'
  go_enter Tryd.func5, Tryd.ntmps5
  go_wp2_with fail
  refine (first12_any _ HG.out).mono ?_; rintro e w0 ⟨rfl, hx0⟩
  go_wp2_with fail
  refine (newen_any _).mono ?_; rintro e w1 ⟨b, rfl, hb, hbx, hx1⟩
  have HX1 := Lib.hid (hx0.trans hx1)
  have hwb : w.heap.size ≤ b := by have := hx0.size; omega
  have hbB : b < w1.heap.size := hbx.lt
  have hA1 : EcAt w1 b w1.heap.size newE := EcAt.new hbx hbB (Nat.le_refl _)
  have hwB : w.heap.size ≤ w1.heap.size := HX1.out.size
  obtain ⟨B, hB⟩ : ∃ B, w1.heap.size = B := ⟨_, rfl⟩
  rw [hB] at hA1 hwB hbB
  have HA1 := Lib.hid hA1
  have HBS : Hid (∀ (wr : World) {s : Ec}, EcAt wr b B s → B ≤ wr.heap.size) := fun wr s h => by obtain ⟨_, _, _, _, h4⟩ := h; exact h4
  clear hx0 hx1 hb hbx hA1 hB
  go_wp2_with fail
  go_loopw [4, 5] (fun ov iv wr => ∃ (i k : Nat) (D : List Ot), ((i ≤ m ∧ i ≤ 4000) ∧ k ≤ i) ∧ iv = .int .i64 (i : Int) ∧ Hid ((∀ o ∈ D, okO o = true) ∧ D.length = k) ∧ Hid (wr.ownsRow B 29 2 ov k (otcs D)) ∧ Hid (EcAt wr b B (runE D)) ∧ Hid (Ext w wr)) (fun _ iv _ => 4000 - (intOf iv).toNat)
  case atStart => exact ⟨0, 0, [], ⟨⟨Nat.zero_le _, Nat.zero_le _⟩, Nat.le_refl _⟩, rfl, ⟨fun _ h => (by cases h), rfl⟩, World.ownsRow_nil _ _ _ _, HA1.out, HX1.out⟩
  case round =>
    clear HA1 HX1
    obtain ⟨i, k, D, ⟨⟨hi, hi4⟩, hk⟩, rfl, HD, HOW, HEC, HE⟩ := hrel
    obtain ⟨oa, ocp, rfl⟩ := ot_own_slice HOW.out
    by_cases hlt : i < m
    · by_cases hl4 : i < 4000
      · obtain ⟨⟨p, up⟩, hU⟩ : ∃ o, L[i]? = some o := ⟨_, List.getElem?_eq_getElem (by rw [← HM.out]; exact hlt)⟩
        obtain ⟨g, off, rfl, hq⟩ := HOT.out.had (by have := HM.out; omega)
        have HOP := Lib.hid (hq i _ hU)
        obtain ⟨c0, c1⟩ := HOP.out.ext HE.out
        have c0 : wr.cell? ⟨g, off + i * 2, none⟩ = some (.int .i64 p) := c0
        have c1 : wr.cell? ⟨g, off + i * 2 + 1, none⟩ = some (.bool up) := c1
        have x1 : (0 : Int) ≤ (i : Int) := by omega
        have x2 : (i : Int) < (m : Int) := by omega
        have x3 : (i : Int) < 4000 := by omega
        have hDk := HD.out.2
        obtain ⟨r1, r2, -⟩ := run_ok D
        have UC := Lib.hid (codes_any b B _ p up (runE D) wr HEC.out r1 (by omega) r2)
        clear hq hU r1 r2 hDk
        by_cases hok : okO (p, up) = true
        · have HOK := Lib.hid hok
          have hS : nxO (runE D) (p, up) = runE (D ++ [(p, up)]) := (run_snoc D (p, up)).symm
          rw [hok, hS] at UC
          clear hok hS
          go_wp2_with fail
          refine (UC.out).mono ?_; rintro e wc ⟨rfl, hA4, hk4⟩
          have HWC := Lib.hid hA4
          have HOC := Lib.hid (ot_own_wkp HOW.out hk4 hbB)
          have HEX := Lib.hid (WKp.out HE.out hk4 hwb hwB)
          have hBC := HEX.out.size
          obtain ⟨q0, q1⟩ := HOP.out.ext HEX.out
          have q0 : wc.cell? ⟨g, off + i * 2, none⟩ = some (.int .i64 p) := q0
          have q1 : wc.cell? ⟨g, off + i * 2 + 1, none⟩ = some (.bool up) := q1
          have hBs := HBS.out wc HWC.out
          clear hA4 hk4 c0 c1 HOW HEC HE
          go_wp2_with (at_builtin; refine push_ot rfl _ _ 22 rfl Tryd.underlying22 _ k _ (p, up) rfl HOC.out (by show Value.slice (some ⟨wc.heap.size, 0, none⟩) 1 1 = _; simp) hBs (by omega) ?_; intro v8 w8 h1 h2; have HO8 := Lib.hid h1; have HW8 := Lib.hid (HWC.out.grown HOC.out h2); have HE8 := Lib.hid (HEX.out.of_below (Below.grown (Below.refl _ _) h2 (Nat.le_trans hwB hBs) (fun k hk => Nat.le_trans hwB (HOC.out.lt k hk).1)) (Nat.le_refl _)); clear h1 h2)
          go_roundw
          case rel =>
            refine ⟨i + 1, k + 1, D ++ [(p, up)], ⟨⟨by omega, by omega⟩, by omega⟩, by go_num, ⟨ok_app HD.out.1 HOK.out, by have := HD.out.2; simp [this]⟩, ?_, HW8.out, HE8.out⟩
            show World.ownsRow _ _ _ _ _ _ _
            rw [otcs_app]; exact HO8.out
          case measure => simp [intOf]; omega
        · have hok : okO (p, up) = false := by simpa using hok
          rw [hok, nxO_no hok] at UC
          clear hok
          go_wp2_with fail
          refine (UC.out).mono ?_; rintro e wc ⟨rfl, hA4, hk4⟩
          have HWC := Lib.hid hA4
          have HOC := Lib.hid (ot_own_wkp HOW.out hk4 hbB)
          have HEX := Lib.hid (WKp.out HE.out hk4 hwb hwB)
          clear hA4 hk4 c0 c1 HOW HEC HE
          go_wp2
          go_roundw
          case rel => exact ⟨i + 1, k, D, ⟨⟨by omega, by omega⟩, by omega⟩, by go_num, HD.out, HOC.out, HWC.out, HEX.out⟩
          case measure => simp [intOf]; omega
      · have x3 : ¬ (i : Int) < 4000 := by omega
        have x2 : (i : Int) < (m : Int) := by omega
        obtain ⟨uv, hbx, hrow⟩ := id HEC.out
        obtain ⟨ua, uc, rfl⟩ := hrow.form
        have hDk := HD.out.2
        have UE := Lib.hid (enend_any b B _ (runE D) wr HEC.out (run_ok D).1 (by omega))
        have hbwr : b < wr.heap.size := hbx.lt
        have HBX0 := Lib.hid hbx
        clear hbx hrow
        go_wp2_with fail
        refine (UE.out).mono ?_; rintro e w3 ⟨g3, n8, cp3, rfl, hn8, ho3, hx3⟩
        have HY3 := Lib.hid (Bys_n (bs := bsE D) ho3 hn8 (bsE_lt D) (by have := bs_len D; have : (bsE D).length = n8 := hn8; omega))
        have HN8 : Hid ((bsE D).length = n8) := hn8
        clear hn8 ho3
        go_wp2_with fail
        refine (newdc_any (bsE D) _ _ HY3.out).mono ?_; rintro e w4 ⟨d, rfl, hd4, r4, hx4⟩
        have hx34 := hx3.trans hx4
        have hdr : wr.heap.size ≤ d := Nat.le_trans hx3.size hd4
        have HD4 := Lib.hid (r4.mono (E := fun _ => False) (fun g h => h.elim))
        have HON := Lib.hid (OnAt.of HOW.out HD.out.2 hx34 hdr)
        have hbd : b ≠ d := by omega
        have HBX := Lib.hid (HBX0.out.ext hx34)
        have HE4 := Lib.hid (HE.out.trans hx34)
        have hwd : w.heap.size ≤ d := Nat.le_trans HE.out.size hdr
        have HK0 : Hid (bkI (bsE D) (runE (D.take 0)) (newD (bsE D)) ∧ okD (4 + 3 * 0) (newD (bsE D)) ∧ 16777216 ≤ (newD (bsE D)).wid) := ⟨bk_new HD.out.1, (newD_ok (bsE_lt D)).1, by rw [(newD_ok (bsE_lt D)).2.1]; decide⟩
        clear hx3 hx4 hx34 hd4 r4 hbwr hdr HEC HOW HE HY3 HBX0 UE
        go_wp2_with fail
        go_loopw [8] (fun iv wr => ∃ (j : Nat) (t : Dc), j ≤ k ∧ iv = .int .i64 (j : Int) ∧ Hid (bkI (bsE D) (runE (D.take j)) t ∧ okD (4 + 3 * j) t ∧ 16777216 ≤ t.wid) ∧ Hid (DcAt (fun _ => False) wr d (bsE D) t) ∧ Hid (OnAt wr d oa D) ∧ Hid (EcBox wr b (.slice ua (runE D).done.length uc) (runE D).held (runE D).run (runE D).low (runE D).wid) ∧ Hid (Ext w wr)) (fun iv _ => k - (intOf iv).toNat)
        case atStart => exact ⟨0, newD (bsE D), Nat.zero_le _, rfl, HK0.out, HD4.out, HON.out, HBX.out, HE4.out⟩
        case round =>
          clear HK0 HD4 HON HBX HE4
          obtain ⟨j, t, hj, rfl, HK, HDC, HON, HBX, HE⟩ := hrel
          by_cases hjk : j < k
          · obtain ⟨g2, hg2, hgc, hq2⟩ := HON.out (by omega)
            subst hg2
            obtain ⟨⟨p, up⟩, ho⟩ : ∃ o, D[j]? = some o := ⟨_, List.getElem?_eq_getElem (by omega)⟩
            obtain ⟨c0, c1⟩ := hq2 j _ ho
            have c0 : wr.cell? ⟨g2, j * 2, none⟩ = some (.int .i64 p) := c0
            have c1 : wr.cell? ⟨g2, j * 2 + 1, none⟩ = some (.bool up) := c1
            have HC1 := Lib.hid c1
            obtain ⟨z1, z2, z3⟩ := HK.out
            have zo := bk_op HD.out.1 ho z1
            have x4 : (0 : Int) ≤ (j : Int) := by omega
            have x5 : (j : Int) < (k : Int) := by omega
            have hN0 : 4 + 3 * j ≤ 900000 := by omega
            have he3 : 4 + 3 * j + 3 = 4 + 3 * (j + 1) := by omega
            by_cases hp : p = 0
            · have t1 : (p == 0) = true := by rw [beq_iff_eq]; exact hp
              obtain ⟨y1, y2⟩ := zo.1 hp
              have y2 : upD t (t.wid / 2) = up := y2
              have kd := flaD_ok (bsE_lt D) z2 z3
              have UF := Lib.hid (dflat_any (fun _ => False) d _ (bsE D) t wr HDC.out z2 hN0 z3)
              obtain ⟨t2, ht2⟩ : ∃ t2, parD (bsE D) t (t.wid / 2) = t2 := ⟨_, rfl⟩
              rw [ht2] at y1 kd
              rw [ht2, y2] at UF
              rw [he3] at kd
              have HK2 : Hid (bkI (bsE D) (runE (D.take (j + 1))) t2 ∧ okD (4 + 3 * (j + 1)) t2 ∧ 16777216 ≤ t2.wid) := ⟨y1, kd.1, kd.2⟩
              clear zo y1 y2 kd ht2 z1 z2 z3 hq2 ho hp c1
              go_wp2_with fail
              refine (UF.out).mono ?_; rintro e w6 ⟨rfl, hD6, hk6⟩
              have HD6 := Lib.hid hD6
              have c6 := hk6.cell HC1.out hgc
              have HK6 := Lib.hid hk6
              clear hD6 hk6
              go_wp2
              go_roundw
              case rel => exact ⟨j + 1, t2, by omega, by go_num, HK2.out, HD6.out, HON.out.kp HK6.out, HBX.out.kp HK6.out hbd, Kp.out HE.out HK6.out hwd⟩
              case measure => simp [intOf]; omega
            · have t1 : (p == 0) = false := by rw [beq_eq_false_iff_ne]; exact hp
              obtain ⟨yc, y1, y2⟩ := zo.2 hp
              have yc : chance p = true := yc
              have y2 : codU t p = up := y2
              have kd := codD_ok (p := p) (bsE_lt D) z2 z3
              have UF := Lib.hid (dcode_any (fun _ => False) d _ p (bsE D) t wr HDC.out z2 hN0 z3)
              have y1 : bkI (bsE D) (runE (D.take (j + 1))) (codD (bsE D) t p) := y1
              obtain ⟨t2, ht2⟩ : ∃ t2, codD (bsE D) t p = t2 := ⟨_, rfl⟩
              rw [ht2] at y1 kd
              rw [ht2, y2] at UF
              rw [he3] at kd
              have HK2 : Hid (bkI (bsE D) (runE (D.take (j + 1))) t2 ∧ okD (4 + 3 * (j + 1)) t2 ∧ 16777216 ≤ t2.wid) := ⟨y1, kd.1, kd.2⟩
              have HYC := Lib.hid yc
              clear zo y1 y2 kd ht2 z1 z2 z3 hq2 ho hp c1 yc
              go_wp2_with fail
              refine (UF.out).mono ?_; rintro e w6 ⟨x6, rfl, hx6, hD6, hk6⟩
              rw [HYC.out] at hx6
              obtain rfl : x6 = .nilIface := hx6
              have HD6 := Lib.hid hD6
              have c6 := hk6.cell HC1.out hgc
              have HK6 := Lib.hid hk6
              clear hD6 hk6
              go_wp2
              go_roundw
              case rel => exact ⟨j + 1, t2, by omega, by go_num, HK2.out, HD6.out, HON.out.kp HK6.out, HBX.out.kp HK6.out hbd, Kp.out HE.out HK6.out hwd⟩
              case measure => simp [intOf]; omega
          · obtain rfl : j = k := by omega
            have x5 : ¬ (j : Int) < (j : Int) := by omega
            have hpos : t.pos = lenE (runE D) := by
              have := HK.out.1.1
              rwa [List.take_of_length_le (by omega)] at this
            have hle := bs_len D
            obtain ⟨E, hE⟩ : ∃ E, lenE (runE D) = E := ⟨_, rfl⟩
            obtain ⟨V, hV⟩ : ∃ V, ovrD (bsE D) t = V := ⟨_, rfl⟩
            have hV2 : V = E - n8 := by rw [← hV, ← hE, ← HN8.out]; show t.pos - _ = _; rw [hpos]
            have UO := Lib.hid (fun w' (h : DcAt (fun _ => False) w' d (bsE D) t) => dover_any (fun _ => False) d _ (bsE D) t w' h HK.out.2.1 (by omega) (by omega))
            have UL := Lib.hid (fun w' h => enlen_box b _ _ uc ua (runE D) w' h rfl (run_ok D).1 (by omega))
            rw [hV] at UO
            rw [hE] at UL hle
            rw [HN8.out] at hle
            have e1 : IntKind.i64.wrap ((E : Int) - (n8 : Int)) = (V : Int) := by rw [IntKind.wrap_i64]; omega
            have e2 : (n8 : Int) ≤ (E : Int) := by omega
            clear hE hV hV2 hpos
            go_wp2_with fail
            refine (first12_any _ (HG.out.ext HE.out)).mono ?_; rintro e w5 ⟨rfl, hx5⟩
            have HD5 := Lib.hid (HDC.out.ext hx5)
            have HB5 := Lib.hid (HBX.out.ext hx5)
            have HE5 := Lib.hid (HE.out.trans hx5)
            clear hx5
            go_wp2_with fail
            refine (UO.out _ HD5.out).mono ?_; rintro e w6 ⟨rfl, hx6⟩
            have HB6 := Lib.hid (HB5.out.ext hx6)
            have HE6 := Lib.hid (HE5.out.trans hx6)
            clear hx6
            go_wp2_with fail
            refine (UL.out _ HB6.out).mono ?_; rintro e w7 ⟨rfl, hx7⟩
            have HB7 := Lib.hid (HB6.out.ext hx7)
            have HE7 := Lib.hid (HE6.out.trans hx7)
            clear hx7
            go_wp2_with fail
            refine (UL.out _ HB7.out).mono ?_; rintro e w8 ⟨rfl, hx8⟩
            go_wp2
            go_ret
            exact ⟨rfl, HE7.out.trans hx8⟩
    · have x2 : ¬ (i : Int) < (m : Int) := by omega
      obtain ⟨uv, hbx, hrow⟩ := id HEC.out
      obtain ⟨ua, uc, rfl⟩ := hrow.form
      have hDk := HD.out.2
      have UE := Lib.hid (enend_any b B _ (runE D) wr HEC.out (run_ok D).1 (by omega))
      have hbwr : b < wr.heap.size := hbx.lt
      have HBX0 := Lib.hid hbx
      clear hbx hrow
      go_wp2_with fail
      refine (UE.out).mono ?_; rintro e w3 ⟨g3, n8, cp3, rfl, hn8, ho3, hx3⟩
      have HY3 := Lib.hid (Bys_n (bs := bsE D) ho3 hn8 (bsE_lt D) (by have := bs_len D; have : (bsE D).length = n8 := hn8; omega))
      have HN8 : Hid ((bsE D).length = n8) := hn8
      clear hn8 ho3
      go_wp2_with fail
      refine (newdc_any (bsE D) _ _ HY3.out).mono ?_; rintro e w4 ⟨d, rfl, hd4, r4, hx4⟩
      have hx34 := hx3.trans hx4
      have hdr : wr.heap.size ≤ d := Nat.le_trans hx3.size hd4
      have HD4 := Lib.hid (r4.mono (E := fun _ => False) (fun g h => h.elim))
      have HON := Lib.hid (OnAt.of HOW.out HD.out.2 hx34 hdr)
      have hbd : b ≠ d := by omega
      have HBX := Lib.hid (HBX0.out.ext hx34)
      have HE4 := Lib.hid (HE.out.trans hx34)
      have hwd : w.heap.size ≤ d := Nat.le_trans HE.out.size hdr
      have HK0 : Hid (bkI (bsE D) (runE (D.take 0)) (newD (bsE D)) ∧ okD (4 + 3 * 0) (newD (bsE D)) ∧ 16777216 ≤ (newD (bsE D)).wid) := ⟨bk_new HD.out.1, (newD_ok (bsE_lt D)).1, by rw [(newD_ok (bsE_lt D)).2.1]; decide⟩
      clear hx3 hx4 hx34 hd4 r4 hbwr hdr HEC HOW HE HY3 HBX0 UE
      go_wp2_with fail
      go_loopw [8] (fun iv wr => ∃ (j : Nat) (t : Dc), j ≤ k ∧ iv = .int .i64 (j : Int) ∧ Hid (bkI (bsE D) (runE (D.take j)) t ∧ okD (4 + 3 * j) t ∧ 16777216 ≤ t.wid) ∧ Hid (DcAt (fun _ => False) wr d (bsE D) t) ∧ Hid (OnAt wr d oa D) ∧ Hid (EcBox wr b (.slice ua (runE D).done.length uc) (runE D).held (runE D).run (runE D).low (runE D).wid) ∧ Hid (Ext w wr)) (fun iv _ => k - (intOf iv).toNat)
      case atStart => exact ⟨0, newD (bsE D), Nat.zero_le _, rfl, HK0.out, HD4.out, HON.out, HBX.out, HE4.out⟩
      case round =>
        clear HK0 HD4 HON HBX HE4
        obtain ⟨j, t, hj, rfl, HK, HDC, HON, HBX, HE⟩ := hrel
        by_cases hjk : j < k
        · obtain ⟨g2, hg2, hgc, hq2⟩ := HON.out (by omega)
          subst hg2
          obtain ⟨⟨p, up⟩, ho⟩ : ∃ o, D[j]? = some o := ⟨_, List.getElem?_eq_getElem (by omega)⟩
          obtain ⟨c0, c1⟩ := hq2 j _ ho
          have c0 : wr.cell? ⟨g2, j * 2, none⟩ = some (.int .i64 p) := c0
          have c1 : wr.cell? ⟨g2, j * 2 + 1, none⟩ = some (.bool up) := c1
          have HC1 := Lib.hid c1
          obtain ⟨z1, z2, z3⟩ := HK.out
          have zo := bk_op HD.out.1 ho z1
          have x4 : (0 : Int) ≤ (j : Int) := by omega
          have x5 : (j : Int) < (k : Int) := by omega
          have hN0 : 4 + 3 * j ≤ 900000 := by omega
          have he3 : 4 + 3 * j + 3 = 4 + 3 * (j + 1) := by omega
          by_cases hp : p = 0
          · have t1 : (p == 0) = true := by rw [beq_iff_eq]; exact hp
            obtain ⟨y1, y2⟩ := zo.1 hp
            have y2 : upD t (t.wid / 2) = up := y2
            have kd := flaD_ok (bsE_lt D) z2 z3
            have UF := Lib.hid (dflat_any (fun _ => False) d _ (bsE D) t wr HDC.out z2 hN0 z3)
            obtain ⟨t2, ht2⟩ : ∃ t2, parD (bsE D) t (t.wid / 2) = t2 := ⟨_, rfl⟩
            rw [ht2] at y1 kd
            rw [ht2, y2] at UF
            rw [he3] at kd
            have HK2 : Hid (bkI (bsE D) (runE (D.take (j + 1))) t2 ∧ okD (4 + 3 * (j + 1)) t2 ∧ 16777216 ≤ t2.wid) := ⟨y1, kd.1, kd.2⟩
            clear zo y1 y2 kd ht2 z1 z2 z3 hq2 ho hp c1
            go_wp2_with fail
            refine (UF.out).mono ?_; rintro e w6 ⟨rfl, hD6, hk6⟩
            have HD6 := Lib.hid hD6
            have c6 := hk6.cell HC1.out hgc
            have HK6 := Lib.hid hk6
            clear hD6 hk6
            go_wp2
            go_roundw
            case rel => exact ⟨j + 1, t2, by omega, by go_num, HK2.out, HD6.out, HON.out.kp HK6.out, HBX.out.kp HK6.out hbd, Kp.out HE.out HK6.out hwd⟩
            case measure => simp [intOf]; omega
          · have t1 : (p == 0) = false := by rw [beq_eq_false_iff_ne]; exact hp
            obtain ⟨yc, y1, y2⟩ := zo.2 hp
            have yc : chance p = true := yc
            have y2 : codU t p = up := y2
            have kd := codD_ok (p := p) (bsE_lt D) z2 z3
            have UF := Lib.hid (dcode_any (fun _ => False) d _ p (bsE D) t wr HDC.out z2 hN0 z3)
            have y1 : bkI (bsE D) (runE (D.take (j + 1))) (codD (bsE D) t p) := y1
            obtain ⟨t2, ht2⟩ : ∃ t2, codD (bsE D) t p = t2 := ⟨_, rfl⟩
            rw [ht2] at y1 kd
            rw [ht2, y2] at UF
            rw [he3] at kd
            have HK2 : Hid (bkI (bsE D) (runE (D.take (j + 1))) t2 ∧ okD (4 + 3 * (j + 1)) t2 ∧ 16777216 ≤ t2.wid) := ⟨y1, kd.1, kd.2⟩
            have HYC := Lib.hid yc
            clear zo y1 y2 kd ht2 z1 z2 z3 hq2 ho hp c1 yc
            go_wp2_with fail
            refine (UF.out).mono ?_; rintro e w6 ⟨x6, rfl, hx6, hD6, hk6⟩
            rw [HYC.out] at hx6
            obtain rfl : x6 = .nilIface := hx6
            have HD6 := Lib.hid hD6
            have c6 := hk6.cell HC1.out hgc
            have HK6 := Lib.hid hk6
            clear hD6 hk6
            go_wp2
            go_roundw
            case rel => exact ⟨j + 1, t2, by omega, by go_num, HK2.out, HD6.out, HON.out.kp HK6.out, HBX.out.kp HK6.out hbd, Kp.out HE.out HK6.out hwd⟩
            case measure => simp [intOf]; omega
        · obtain rfl : j = k := by omega
          have x5 : ¬ (j : Int) < (j : Int) := by omega
          have hpos : t.pos = lenE (runE D) := by
            have := HK.out.1.1
            rwa [List.take_of_length_le (by omega)] at this
          have hle := bs_len D
          obtain ⟨E, hE⟩ : ∃ E, lenE (runE D) = E := ⟨_, rfl⟩
          obtain ⟨V, hV⟩ : ∃ V, ovrD (bsE D) t = V := ⟨_, rfl⟩
          have hV2 : V = E - n8 := by rw [← hV, ← hE, ← HN8.out]; show t.pos - _ = _; rw [hpos]
          have UO := Lib.hid (fun w' (h : DcAt (fun _ => False) w' d (bsE D) t) => dover_any (fun _ => False) d _ (bsE D) t w' h HK.out.2.1 (by omega) (by omega))
          have UL := Lib.hid (fun w' h => enlen_box b _ _ uc ua (runE D) w' h rfl (run_ok D).1 (by omega))
          rw [hV] at UO
          rw [hE] at UL hle
          rw [HN8.out] at hle
          have e1 : IntKind.i64.wrap ((E : Int) - (n8 : Int)) = (V : Int) := by rw [IntKind.wrap_i64]; omega
          have e2 : (n8 : Int) ≤ (E : Int) := by omega
          clear hE hV hV2 hpos
          go_wp2_with fail
          refine (first12_any _ (HG.out.ext HE.out)).mono ?_; rintro e w5 ⟨rfl, hx5⟩
          have HD5 := Lib.hid (HDC.out.ext hx5)
          have HB5 := Lib.hid (HBX.out.ext hx5)
          have HE5 := Lib.hid (HE.out.trans hx5)
          clear hx5
          go_wp2_with fail
          refine (UO.out _ HD5.out).mono ?_; rintro e w6 ⟨rfl, hx6⟩
          have HB6 := Lib.hid (HB5.out.ext hx6)
          have HE6 := Lib.hid (HE5.out.trans hx6)
          clear hx6
          go_wp2_with fail
          refine (UL.out _ HB6.out).mono ?_; rintro e w7 ⟨rfl, hx7⟩
          have HB7 := Lib.hid (HB6.out.ext hx7)
          have HE7 := Lib.hid (HE6.out.trans hx7)
          clear hx7
          go_wp2_with fail
          refine (UL.out _ HB7.out).mono ?_; rintro e w8 ⟨rfl, hx8⟩
          go_wp2
          go_ret
          exact ⟨rfl, HE7.out.trans hx8⟩
end Go.Proofs.YtdpebaheojaihaaDoor
