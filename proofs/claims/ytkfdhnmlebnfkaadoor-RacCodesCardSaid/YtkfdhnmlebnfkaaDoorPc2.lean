/- kinlaw12.RacCodes: the walk. -/
import Derived.Test.YtkfdhnmlebnfkaaDoorZe
import Derived.Deep.RegionLaw
import Derived.Deep.CutRange
namespace Go.Proofs.YtkfdhnmlebnfkaaDoor
set_option linter.unusedVariables false
set_option linter.unusedSimpArgs false
open Go.RowKit Go.Extern.Stop Go.Stop Go.Extern

theorem own_zero {w : World} {base : Nat} {e : TypeId} {size n : Nat} {v : Value} {xs : List Value} (h : w.ownsRow base e size v n xs) : w.ownsRow 0 e size v n xs := by
  obtain ⟨h1, h2⟩ := h
  refine ⟨h1, ?_⟩
  rcases h2 with h2 | ⟨g, cap, cur, rfl, hg, hh, r⟩
  · exact .inl h2
  · exact .inr ⟨g, cap, cur, rfl, Nat.zero_le _, hh, r⟩
set_option maxHeartbeats 8000000 in
set_option maxRecDepth 20000 in
theorem codes_law (L : List Ot) (v : Value) (w : World) (hg : EtIs w) (hL : Ots w v L) : Calls Tryd.prog 3 #[v] w fun e w' => e = .returned (.bool true) ∧ Ext w w' := by
  have HG := Lib.hid hg
  have hm := hL.small
  obtain ⟨la, lc, rfl⟩ := hL.form
  obtain ⟨m, hm'⟩ : ∃ m, L.length = m := ⟨_, rfl⟩
  have HNL := Lib.hid hm'
  have HOT : Hid (Ots w (.slice la m lc) L) := by show Ots _ _ _; rw [← hm']; exact hL
  rw [hm'] at hm ⊢
  unfold maxLen at hm
  clear hg hL hm'
  go_enter Tryd.func3, Tryd.ntmps3
  go_wp2_with fail
  refine (first12_any _ HG.out).mono ?_; rintro e w1 ⟨rfl, hx1⟩
  go_wp2_with fail
  refine (newen_any _).mono ?_; rintro e w2 ⟨b, rfl, hb, hbx, hx2⟩
  have hb2 : b < w2.heap.size := hbx.lt
  go_wp2_with fail
  refine (newxe_any _).mono ?_; rintro e w3 ⟨x, gx, cx, rfl, hx, hgx, hxx, hox, hx3⟩
  have hg1 := (hox.lt gx rfl).1
  have hw1 : w.heap.size ≤ w1.heap.size := hx1.size
  have hw2 : w1.heap.size ≤ w2.heap.size := hx2.size
  have HB3 := Lib.hid (Bo2.new (B := w.heap.size) (hbx.ext hx3) hxx (own_zero hox) (by omega) (by omega) (by omega) (by omega) (by omega) hgx)
  have HE3 := Lib.hid ((hx1.trans hx2).trans hx3)
  have HJ0 : Hid (alX (4 * 0) newE newX ∧ 16777216 ≤ newE.wid) := ⟨al_new, by decide⟩
  clear hbx hx1 hx2 hx3 hxx hox hgx hb hb2 hx hg1 hw1 hw2
  go_wp2_with fail
  go_loopw [5] (fun iv wr => ∃ (i : Nat) (s : Ec) (q : Xe), (i ≤ m ∧ i ≤ 4000) ∧ iv = .int .i64 (i : Int) ∧ Hid (alX (4 * i) s q ∧ 16777216 ≤ s.wid) ∧ Hid (Bo2 w.heap.size wr b x s q) ∧ Hid (Ext w wr)) (fun iv _ => m - (intOf iv).toNat)
  case atStart => exact ⟨0, newE, newX, ⟨Nat.zero_le _, Nat.zero_le _⟩, rfl, HJ0.out, HB3.out, HE3.out⟩
  case round =>
    clear HJ0 HB3 HE3
    obtain ⟨i, s, q, ⟨hi, hi4⟩, rfl, HJ, HB, HE⟩ := hrel
    by_cases hlt : i < m
    · by_cases hl4 : i < 4000
      · obtain ⟨⟨p, up⟩, hU⟩ : ∃ o, L[i]? = some o := ⟨_, List.getElem?_eq_getElem (by rw [HNL.out]; exact hlt)⟩
        obtain ⟨g, off, rfl, hq⟩ := HOT.out.had (by rw [HNL.out]; omega)
        have HQ := Lib.hid (hq i _ hU)
        obtain ⟨q0, q1⟩ := HQ.out
        have c0 := HE.out.cell q0
        have c1 := HE.out.cell q1
        obtain ⟨z1, z2⟩ := HJ.out
        have zr : 16777216 ≤ q.rr := by rw [z1.2.2]; exact z2
        have zo := al_ok z1
        have x1 : (0 : Int) ≤ (i : Int) := by omega
        have x2 : (i : Int) < (m : Int) := by omega
        have x3 : (i : Int) < 4000 := by omega
        have hN0 : 4 * i ≤ 900000 := by omega
        have hN5 : 4 * i + 5 ≤ 900000 := by omega
        have hN4 : 4 * (i + 1) ≤ 900000 := by omega
        have hN9 : 4 * (i + 1) + 5 ≤ 900000 := by omega
        by_cases hp : p = 0
        · have t1 : (p == 0) = true := by rw [beq_iff_eq]; exact hp
          have za := al_flat z1 z2 up
          have zw := (flaE_ok (up := up) z1.1.1 z2).2
          obtain ⟨s2, hs2⟩ : ∃ s2, parE s (s.wid / 2) up = s2 := ⟨_, rfl⟩
          obtain ⟨q2, hq2⟩ : ∃ q2, parX' q (q.rr / 2) up = q2 := ⟨_, rfl⟩
          rw [hs2, hq2] at za
          rw [hs2] at zw
          have HJ2 : Hid (alX (4 * (i + 1)) s2 q2 ∧ 16777216 ≤ s2.wid) := ⟨za, zw⟩
          have UF := Lib.hid (bo_flat w.heap.size _ b x up s q wr HB.out HE.out.size z1.1.1 hN0 z2)
          have UG := Lib.hid (fun w' s' (h : Bo2 w.heap.size w' b x s' q) hs => bo_xflat w.heap.size _ b x up s' q w' h hs zo hN5 zr)
          rw [hs2] at UF
          rw [hq2] at UG
          clear za zw hs2 hq2 z1 z2 zr zo hq hU hp
          go_wp2_with fail
          refine (UF.out).mono ?_; rintro e w6 ⟨rfl, hb6, hk6⟩
          have HB6 := Lib.hid hb6
          have HE6 := Lib.hid (Kb.out HE.out hk6 (Nat.le_refl _))
          have c1' := HE6.out.cell q1
          clear hb6 hk6 HB HE c0 c1
          go_wp2_with fail
          refine (UG.out _ _ HB6.out HE6.out.size).mono ?_; rintro e w7 ⟨rfl, hb7, hk7⟩
          have HBz := Lib.hid hb7
          have HEz := Lib.hid (Kb.out HE6.out hk7 (Nat.le_refl _))
          clear hb7 hk7 HB6 HE6 c1' UF UG HJ q0 q1
          -- in hand: wz: HBz : Bo2 w.heap.size wz b x s2 q2, HEz : Ext w wz; HJ2 : alX (4 * (i + 1)) s2 q2, wide
          have HA2 := Lib.hid (al_nu HJ2.out.1)
          have HO2 := Lib.hid (al_ok HJ2.out.1)
          obtain ⟨n, hn⟩ : ∃ n, q2.bs.length = n := ⟨_, rfl⟩
          have hn2 : lenE s2 = n := by rw [← HA2.out.1]; exact hn
          obtain ⟨r, hr⟩ : ∃ r, i % 97 = r := ⟨_, rfl⟩
          have s7 : Int.tmod (i : Int) 97 = (r : Int) := by rw [← hr, show (97 : Int) = ((97 : Nat) : Int) from rfl, Int.ofNat_tmod]
          have HR97 := Lib.hid hr
          clear hr
          go_wp2_with fail
          refine (bo_len _ _ b x s2 q2 _ HBz.out HEz.out.size HJ2.out.1.1.1 hN4).mono ?_; rintro e w7 ⟨rfl, hx7⟩
          rw [hn2]
          have HB7 := Lib.hid (HBz.out.ext hx7)
          have HE7 := Lib.hid (HEz.out.trans hx7)
          clear hx7 HBz HEz
          go_wp2_with fail
          refine (bo_xlen _ _ b x s2 q2 _ HB7.out HE7.out.size HO2.out hN9).mono ?_; rintro e w8 ⟨rfl, hx8⟩
          rw [hn]
          have HB8 := Lib.hid (HB7.out.ext hx8)
          have HE8 := Lib.hid (HE7.out.trans hx8)
          clear hx8 HB7 HE7 hn hn2
          by_cases hr0 : r = 0
          · have t7 : ((r : Int) == 0) = true := by rw [beq_iff_eq]; omega
            go_wp2_with fail
            refine (bo_end _ _ b x s2 q2 _ HB8.out HE8.out.size HJ2.out.1.1.1 hN4).mono ?_; rintro e w9 ⟨g9, k9, c9, rfl, hl9, ho9, hx9⟩
            have hy9 := Bys_n ho9 hl9 (fun y hy => all_lt HJ2.out.1.1.1 y (trim_mem _ y hy)) (by have := trim_le (allE s2); rw [allE_len] at this; have := HA2.out.1; have := HO2.out.1; omega)
            have HY9 := Lib.hid hy9
            have HB9 := Lib.hid (HB8.out.ext hx9)
            have HE9 := Lib.hid (HE8.out.trans hx9)
            clear hx9 ho9 hl9 hy9 HB8 HE8
            go_wp2_with fail
            refine (bo_xend _ _ b x s2 q2 _ HB9.out HE9.out.size HO2.out hN9).mono ?_; rintro e wa ⟨ua, rfl, hya, -, hxa⟩
            rw [HJ2.out.1.2.1] at hya
            have HYa := Lib.hid hya
            have HYb := Lib.hid (HY9.out.ext hxa)
            have HBa := Lib.hid (HB9.out.ext hxa)
            have HEa := Lib.hid (HE9.out.trans hxa)
            clear hxa hya HB9 HE9 HY9
            go_wp2_with fail
            refine (bytes_same _ _ _ _ HYb.out HYa.out).mono ?_; rintro e wb ⟨rfl, rfl⟩
            go_wp2
            go_roundw
            case rel => exact ⟨i + 1, s2, q2, ⟨by omega, by omega⟩, by go_num, HJ2.out, HBa.out, HEa.out⟩
            case measure => simp [intOf]; omega
          · have t7 : ((r : Int) == 0) = false := by rw [beq_eq_false_iff_ne]; omega
            go_wp2
            go_roundw
            case rel => exact ⟨i + 1, s2, q2, ⟨by omega, by omega⟩, by go_num, HJ2.out, HB8.out, HE8.out⟩
            case measure => simp [intOf]; omega
        · have t1 : (p == 0) = false := by rw [beq_eq_false_iff_ne]; exact hp
          have za := al_code z1 z2 p up
          have zw := (codE_ok (p := p) (up := up) z1.1.1 z2).2
          obtain ⟨s2, hs2⟩ : ∃ s2, codE s p up = s2 := ⟨_, rfl⟩
          obtain ⟨q2, hq2⟩ : ∃ q2, codX' q p up = q2 := ⟨_, rfl⟩
          rw [hs2, hq2] at za
          rw [hs2] at zw
          have HJ2 : Hid (alX (4 * (i + 1)) s2 q2 ∧ 16777216 ≤ s2.wid) := ⟨za, zw⟩
          have UW := Lib.hid (fun w' q' (h : Bo2 w.heap.size w' b x s q') hs => bo_code w.heap.size _ b x p up s q' w' h hs z1.1.1 hN0 z2)
          have UX := Lib.hid (fun w' s' (h : Bo2 w.heap.size w' b x s' q) hs => bo_xcode w.heap.size _ b x p up s' q w' h hs zo hN5 zr)
          rw [hs2] at UW
          rw [hq2] at UX
          have HBD := Lib.hid (HB.out.ext (Ext.refl wr).drew)
          have HED := Lib.hid HE.out.drew
          have HSD := Lib.hid HED.out.size
          have d0 := HED.out.cell q0
          have d1 := HED.out.cell q1
          clear za zw hs2 hq2 z1 z2 zr zo hq hU hp
          go_wp2_with fail
          go_cut [69] from 44 to 69 (fun s69 wx => s69 = .bool false ∧ Hid (Bo2 w.heap.size wx b x s2 q2) ∧ Hid (Ext w wx))
          case first =>
            go_region_law (first
              | (go_simp; go_at_call 17; (first
                  | ((with_reducible refine (UW.out _ _ HBD.out HSD.out).mono ?_); rintro e w5 ⟨y5, rfl, he5, p5, k5⟩; have HB5 := Lib.hid p5; have HE5 := Lib.hid (Kb.out HED.out k5 (Nat.le_refl _)); have HS5 := Lib.hid HE5.out.size; have HY5 := Lib.hid he5; have d0 := HE5.out.cell q0; have d1 := HE5.out.cell q1; clear p5 k5 he5)
                  | (refine (UW.out _ _ HB5.out HS5.out).mono ?_; rintro e w6 ⟨y5, rfl, he5, p5, k5⟩; have HB6 := Lib.hid p5; have HE6 := Lib.hid (Kb.out HE5.out k5 (Nat.le_refl _)); have HY5 := Lib.hid he5; clear p5 k5 he5)))
              | (go_simp; go_at_call 18; (first
                  | ((with_reducible refine (UX.out _ _ HBD.out HSD.out).mono ?_); rintro e w5 ⟨rfl, p5, k5⟩; have HB5 := Lib.hid p5; have HE5 := Lib.hid (Kb.out HED.out k5 (Nat.le_refl _)); have HS5 := Lib.hid HE5.out.size; have d0 := HE5.out.cell q0; have d1 := HE5.out.cell q1; clear p5 k5)
                  | (refine (UX.out _ _ HB5.out HS5.out).mono ?_; rintro e w6 ⟨rfl, p5, k5⟩; have HB6 := Lib.hid p5; have HE6 := Lib.hid (Kb.out HE5.out k5 (Nat.le_refl _)); clear p5 k5)))
              | (go_simp; go_at_call 16; refine (same_fall _ _ _ _ _ (HG.out.ext HE6.out) (HY5.out _) (rerr_chance p _)).mono ?_; rintro e w7 ⟨rfl, hx7⟩; have HB7 := Lib.hid (HB6.out.ext hx7); have HE7 := Lib.hid (HE6.out.trans hx7)))
            all_goals go_wp2_with fail
            all_goals go_meet
            all_goals exact ⟨rfl, HB7.out, HE7.out⟩
          case rest =>
            obtain ⟨wz, hwz⟩ : ∃ wz, wz = wc := ⟨_, rfl⟩
            subst hwz
            obtain ⟨rfl, HBz, HEz⟩ := hcut
            clear HB HE HBD HED HSD d0 d1 c0 c1 UW UX HJ q0 q1
            -- in hand: wz: HBz : Bo2 w.heap.size wz b x s2 q2, HEz : Ext w wz; HJ2 : alX (4 * (i + 1)) s2 q2, wide
            have HA2 := Lib.hid (al_nu HJ2.out.1)
            have HO2 := Lib.hid (al_ok HJ2.out.1)
            obtain ⟨n, hn⟩ : ∃ n, q2.bs.length = n := ⟨_, rfl⟩
            have hn2 : lenE s2 = n := by rw [← HA2.out.1]; exact hn
            obtain ⟨r, hr⟩ : ∃ r, i % 97 = r := ⟨_, rfl⟩
            have s7 : Int.tmod (i : Int) 97 = (r : Int) := by rw [← hr, show (97 : Int) = ((97 : Nat) : Int) from rfl, Int.ofNat_tmod]
            have HR97 := Lib.hid hr
            clear hr
            go_wp2_with fail
            refine (bo_len _ _ b x s2 q2 _ HBz.out HEz.out.size HJ2.out.1.1.1 hN4).mono ?_; rintro e w7 ⟨rfl, hx7⟩
            rw [hn2]
            have HB7 := Lib.hid (HBz.out.ext hx7)
            have HE7 := Lib.hid (HEz.out.trans hx7)
            clear hx7 HBz HEz
            go_wp2_with fail
            refine (bo_xlen _ _ b x s2 q2 _ HB7.out HE7.out.size HO2.out hN9).mono ?_; rintro e w8 ⟨rfl, hx8⟩
            rw [hn]
            have HB8 := Lib.hid (HB7.out.ext hx8)
            have HE8 := Lib.hid (HE7.out.trans hx8)
            clear hx8 HB7 HE7 hn hn2
            by_cases hr0 : r = 0
            · have t7 : ((r : Int) == 0) = true := by rw [beq_iff_eq]; omega
              go_wp2_with fail
              refine (bo_end _ _ b x s2 q2 _ HB8.out HE8.out.size HJ2.out.1.1.1 hN4).mono ?_; rintro e w9 ⟨g9, k9, c9, rfl, hl9, ho9, hx9⟩
              have hy9 := Bys_n ho9 hl9 (fun y hy => all_lt HJ2.out.1.1.1 y (trim_mem _ y hy)) (by have := trim_le (allE s2); rw [allE_len] at this; have := HA2.out.1; have := HO2.out.1; omega)
              have HY9 := Lib.hid hy9
              have HB9 := Lib.hid (HB8.out.ext hx9)
              have HE9 := Lib.hid (HE8.out.trans hx9)
              clear hx9 ho9 hl9 hy9 HB8 HE8
              go_wp2_with fail
              refine (bo_xend _ _ b x s2 q2 _ HB9.out HE9.out.size HO2.out hN9).mono ?_; rintro e wa ⟨ua, rfl, hya, -, hxa⟩
              rw [HJ2.out.1.2.1] at hya
              have HYa := Lib.hid hya
              have HYb := Lib.hid (HY9.out.ext hxa)
              have HBa := Lib.hid (HB9.out.ext hxa)
              have HEa := Lib.hid (HE9.out.trans hxa)
              clear hxa hya HB9 HE9 HY9
              go_wp2_with fail
              refine (bytes_same _ _ _ _ HYb.out HYa.out).mono ?_; rintro e wb ⟨rfl, rfl⟩
              go_wp2
              go_roundw
              case rel => exact ⟨i + 1, s2, q2, ⟨by omega, by omega⟩, by go_num, HJ2.out, HBa.out, HEa.out⟩
              case measure => simp [intOf]; omega
            · have t7 : ((r : Int) == 0) = false := by rw [beq_eq_false_iff_ne]; omega
              go_wp2
              go_roundw
              case rel => exact ⟨i + 1, s2, q2, ⟨by omega, by omega⟩, by go_num, HJ2.out, HB8.out, HE8.out⟩
              case measure => simp [intOf]; omega
      · have x3 : ¬ (i : Int) < 4000 := by omega
        have x2 : (i : Int) < (m : Int) := by omega
        -- in hand: wr: HB : Bo2 .. wr b x s q, HE : Ext w wr, HJ : alX (4 * i) s q
        have HA2 := Lib.hid (al_nu HJ.out.1)
        have HO2 := Lib.hid (al_ok HJ.out.1)
        have hN4 : 4 * i ≤ 900000 := by omega
        have hN9 : 4 * i + 5 ≤ 900000 := by omega
        have HLT := Lib.hid (fun (y : Nat) (hy : y ∈ trimE (allE s)) => all_lt HJ.out.1.1.1 y (trim_mem _ y hy))
        have hL9 : (trimE (allE s)).length ≤ 900000 := by have := trim_le (allE s); rw [allE_len] at this; have := HA2.out.1; have := HO2.out.1; omega
        go_wp2_with fail
        refine (bo_end _ _ b x s q _ HB.out HE.out.size HJ.out.1.1.1 hN4).mono ?_; rintro e w5 ⟨g5, k5, c5, rfl, hl5, ho5, hx5⟩
        have HCS := Lib.hid (CsN.of ho5 hl5)
        have HB5 := Lib.hid (HB.out.ext hx5)
        have HE5 := Lib.hid (HE.out.trans hx5)
        have hwr : w.heap.size ≤ wr.heap.size := HE.out.size
        have hlb : ∀ g, wr.heap.size ≤ g → w.heap.size ≤ g := fun g h => Nat.le_trans hwr h
        have HBF : Hid (∀ v', Ext wr v' → Bo2 w.heap.size v' b x s q) := fun v' h => HB.out.ext h
        have HX5 := Lib.hid hx5
        clear hx5 ho5 HB HE
        have hk5 : k5 ≤ 900000 := by rw [← hl5]; exact hL9
        have HWR := Lib.hid hlb
        clear hl5 hlb hwr HB5
        go_wp2_with fail
        go_loopw [7] (fun iv wi => ∃ j : Nat, j ≤ k5 ∧ iv = .int .i64 (j : Int) ∧ Hid (CsN wi wr.heap.size w5.heap.size (some ⟨g5, 0, none⟩) k5) ∧ Hid (Ext w wi) ∧ Hid (Ext wr wi)) (fun iv _ => k5 - (intOf iv).toNat)
        case atStart => exact ⟨0, Nat.zero_le _, rfl, HCS.out, HE5.out, HX5.out⟩
        case round =>
          clear HCS HE5 HX5
          obtain ⟨j, hj, rfl, HC, HE, HX⟩ := hrel
          by_cases hlt : j < k5
          · obtain ⟨g, e9, ⟨hg1, hg2⟩, hcell⟩ := HC.out (by omega)
            simp only [Option.some.injEq, Addr.mk.injEq, and_true] at e9
            subst e9
            obtain ⟨⟨y0, cx⟩, fx⟩ := hcell j hlt
            obtain ⟨y, hy, ey⟩ := xor_b (y0 : Int)
            have x1 : (0 : Int) ≤ (j : Int) := by omega
            have x2 : (j : Int) < (k5 : Int) := by omega
            have hgw := HWR.out g5 hg1
            clear hcell
            go_wp2
            go_roundw
            case rel => exact ⟨j + 1, by omega, by go_num, HC.out.set, HE.out.setCell (p := ⟨g5, j, none⟩) hgw _, HX.out.setCell (p := ⟨g5, j, none⟩) hg1 _⟩
            case measure => simp [intOf]; omega
          · have x2 : ¬ (j : Int) < (k5 : Int) := by omega
            clear HC
            go_wp2_with fail
            refine (first12_any _ (HG.out.ext HE.out)).mono ?_; rintro e w6 ⟨rfl, hx6⟩
            have HB6 := Lib.hid (HBF.out _ (HX.out.trans hx6))
            have HE6 := Lib.hid (HE.out.trans hx6)
            clear hx6 HE HX
            go_wp2_with fail
            refine (bo_end _ _ b x s q _ HB6.out HE6.out.size HJ.out.1.1.1 hN4).mono ?_; rintro e w9 ⟨g9, k9, c9, rfl, hl9, ho9, hx9⟩
            have hy9 := Bys_n ho9 hl9 HLT.out (by omega)
            have HY9 := Lib.hid hy9
            have HB9 := Lib.hid (HB6.out.ext hx9)
            have HE9 := Lib.hid (HE6.out.trans hx9)
            clear hx9 ho9 hl9 hy9 HB6 HE6
            go_wp2_with fail
            refine (bo_xend _ _ b x s q _ HB9.out HE9.out.size HO2.out hN9).mono ?_; rintro e wa ⟨ua, rfl, hya, -, hxa⟩
            rw [HJ.out.1.2.1] at hya
            have HYa := Lib.hid hya
            have HYb := Lib.hid (HY9.out.ext hxa)
            have HEa := Lib.hid (HE9.out.trans hxa)
            clear hxa hya HB9 HE9 HY9
            go_wp2_with fail
            refine (bytes_same _ _ _ _ HYb.out HYa.out).mono ?_; rintro e wb ⟨rfl, rfl⟩
            go_wp2
            go_ret
            exact ⟨rfl, HEa.out⟩
    · have x2 : ¬ (i : Int) < (m : Int) := by omega
      -- in hand: wr: HB : Bo2 .. wr b x s q, HE : Ext w wr, HJ : alX (4 * i) s q
      have HA2 := Lib.hid (al_nu HJ.out.1)
      have HO2 := Lib.hid (al_ok HJ.out.1)
      have hN4 : 4 * i ≤ 900000 := by omega
      have hN9 : 4 * i + 5 ≤ 900000 := by omega
      have HLT := Lib.hid (fun (y : Nat) (hy : y ∈ trimE (allE s)) => all_lt HJ.out.1.1.1 y (trim_mem _ y hy))
      have hL9 : (trimE (allE s)).length ≤ 900000 := by have := trim_le (allE s); rw [allE_len] at this; have := HA2.out.1; have := HO2.out.1; omega
      go_wp2_with fail
      refine (bo_end _ _ b x s q _ HB.out HE.out.size HJ.out.1.1.1 hN4).mono ?_; rintro e w5 ⟨g5, k5, c5, rfl, hl5, ho5, hx5⟩
      have HCS := Lib.hid (CsN.of ho5 hl5)
      have HB5 := Lib.hid (HB.out.ext hx5)
      have HE5 := Lib.hid (HE.out.trans hx5)
      have hwr : w.heap.size ≤ wr.heap.size := HE.out.size
      have hlb : ∀ g, wr.heap.size ≤ g → w.heap.size ≤ g := fun g h => Nat.le_trans hwr h
      have HBF : Hid (∀ v', Ext wr v' → Bo2 w.heap.size v' b x s q) := fun v' h => HB.out.ext h
      have HX5 := Lib.hid hx5
      clear hx5 ho5 HB HE
      have hk5 : k5 ≤ 900000 := by rw [← hl5]; exact hL9
      have HWR := Lib.hid hlb
      clear hl5 hlb hwr HB5
      go_wp2_with fail
      go_loopw [7] (fun iv wi => ∃ j : Nat, j ≤ k5 ∧ iv = .int .i64 (j : Int) ∧ Hid (CsN wi wr.heap.size w5.heap.size (some ⟨g5, 0, none⟩) k5) ∧ Hid (Ext w wi) ∧ Hid (Ext wr wi)) (fun iv _ => k5 - (intOf iv).toNat)
      case atStart => exact ⟨0, Nat.zero_le _, rfl, HCS.out, HE5.out, HX5.out⟩
      case round =>
        clear HCS HE5 HX5
        obtain ⟨j, hj, rfl, HC, HE, HX⟩ := hrel
        by_cases hlt : j < k5
        · obtain ⟨g, e9, ⟨hg1, hg2⟩, hcell⟩ := HC.out (by omega)
          simp only [Option.some.injEq, Addr.mk.injEq, and_true] at e9
          subst e9
          obtain ⟨⟨y0, cx⟩, fx⟩ := hcell j hlt
          obtain ⟨y, hy, ey⟩ := xor_b (y0 : Int)
          have x1 : (0 : Int) ≤ (j : Int) := by omega
          have x2 : (j : Int) < (k5 : Int) := by omega
          have hgw := HWR.out g5 hg1
          clear hcell
          go_wp2
          go_roundw
          case rel => exact ⟨j + 1, by omega, by go_num, HC.out.set, HE.out.setCell (p := ⟨g5, j, none⟩) hgw _, HX.out.setCell (p := ⟨g5, j, none⟩) hg1 _⟩
          case measure => simp [intOf]; omega
        · have x2 : ¬ (j : Int) < (k5 : Int) := by omega
          clear HC
          go_wp2_with fail
          refine (first12_any _ (HG.out.ext HE.out)).mono ?_; rintro e w6 ⟨rfl, hx6⟩
          have HB6 := Lib.hid (HBF.out _ (HX.out.trans hx6))
          have HE6 := Lib.hid (HE.out.trans hx6)
          clear hx6 HE HX
          go_wp2_with fail
          refine (bo_end _ _ b x s q _ HB6.out HE6.out.size HJ.out.1.1.1 hN4).mono ?_; rintro e w9 ⟨g9, k9, c9, rfl, hl9, ho9, hx9⟩
          have hy9 := Bys_n ho9 hl9 HLT.out (by omega)
          have HY9 := Lib.hid hy9
          have HB9 := Lib.hid (HB6.out.ext hx9)
          have HE9 := Lib.hid (HE6.out.trans hx9)
          clear hx9 ho9 hl9 hy9 HB6 HE6
          go_wp2_with fail
          refine (bo_xend _ _ b x s q _ HB9.out HE9.out.size HO2.out hN9).mono ?_; rintro e wa ⟨ua, rfl, hya, -, hxa⟩
          rw [HJ.out.1.2.1] at hya
          have HYa := Lib.hid hya
          have HYb := Lib.hid (HY9.out.ext hxa)
          have HEa := Lib.hid (HE9.out.trans hxa)
          clear hxa hya HB9 HE9 HY9
          go_wp2_with fail
          refine (bytes_same _ _ _ _ HYb.out HYa.out).mono ?_; rintro e wb ⟨rfl, rfl⟩
          go_wp2
          go_ret
          exact ⟨rfl, HEa.out⟩
end Go.Proofs.YtkfdhnmlebnfkaaDoor
