/- Contracts of this seat: We. -/
import Derived.Test.YtmhbmegmlpenkaaDoorZe
import Derived.BigRegion
import Derived.BigQuiet
import Derived.Deep.QuietTactic
import Derived.Deep.RegionHeld3
import Derived.Deep.RegionWith
/- kinref.Frame; kinlaw17.StatsLeast: the walk. -/
namespace Go.Proofs.YtmhbmegmlpenkaaDoor
set_option linter.unusedVariables false
set_option linter.unusedSimpArgs false
open Go.RowKit Go.Extern.Stop Go.Stop Go.Extern

def frEq (W H : Int) (xs : List Int) (W' H' : Int) (ys : List Int) : Bool := decide (W = W') && (decide (H = H') && decide (xs = ys))
set_option maxRecDepth 20000 in
theorem frame_any (W H W' H' : Int) (xs ys : List Int) (a b : Option Addr) (n m ca cb : Nat) (w : World) (ha : Ints w (.slice a n ca) xs) (hb : Ints w (.slice b m cb) ys) :
    Calls Tryd.prog 23 #[.agg #[.int .i64 W, .int .i64 H, .slice a n ca], .agg #[.int .i64 W', .int .i64 H', .slice b m cb]] w fun e w' => e = .returned (.bool (frEq W H xs W' H' ys)) ∧ Ext w w' := by
  by_cases h3 : W = W'
  · by_cases h4 : H = H'
    · have HR : Hid (frEq W H xs W' H' ys = decide (xs = ys)) := by show _ = _; unfold frEq; simp [h3, h4]
      have b3 : (W == W') = true := by simpa using h3
      have b4 : (H == H') = true := by simpa using h4
      clear h3 h4
      go_enter Tryd.func23, Tryd.ntmps23
      go_wp2_with fail
      refine (ints_same xs ys _ _ _ (ha.ext (by repeat (first | exact Ext.refl _ | assumption | refine Ext.alloc ?_ _ | refine Ext.drew ?_ | refine Ext.drewN ?_ _ | refine Ext.setCell ?_ (by first | exact Nat.le_refl _ | (simp; done) | omega) _ | refine Ext.trans ?_ (by assumption)))) (hb.ext (by repeat (first | exact Ext.refl _ | assumption | refine Ext.alloc ?_ _ | refine Ext.drew ?_ | refine Ext.drewN ?_ _ | refine Ext.setCell ?_ (by first | exact Nat.le_refl _ | (simp; done) | omega) _ | refine Ext.trans ?_ (by assumption))))).mono ?_; rintro e w1 ⟨rfl, hx1⟩
      rw [← HR.out]
      cases hd : frEq W H xs W' H' ys with
      | true =>
        go_wp2
        go_ret
        exact ⟨by rw [hd]; rfl, (by repeat (first | exact Ext.refl _ | assumption | refine Ext.alloc ?_ _ | refine Ext.drew ?_ | refine Ext.drewN ?_ _ | refine Ext.setCell ?_ (by first | exact Nat.le_refl _ | (simp; done) | omega) _ | refine Ext.trans ?_ (by assumption)))⟩
      | false =>
        go_wp2
        go_ret
        exact ⟨by rw [hd]; rfl, (by repeat (first | exact Ext.refl _ | assumption | refine Ext.alloc ?_ _ | refine Ext.drew ?_ | refine Ext.drewN ?_ _ | refine Ext.setCell ?_ (by first | exact Nat.le_refl _ | (simp; done) | omega) _ | refine Ext.trans ?_ (by assumption)))⟩
    · have HR : Hid (frEq W H xs W' H' ys = false) := by show _ = _; unfold frEq; simp [h4]
      have b3 : (W == W') = true := by simpa using h3
      have b4 : (H == H') = false := by simpa using h4
      clear h3 h4
      go_enter Tryd.func23, Tryd.ntmps23
      go_wp2
      go_ret
      exact ⟨by rw [HR.out]; rfl, (by repeat (first | exact Ext.refl _ | assumption | refine Ext.alloc ?_ _ | refine Ext.drew ?_ | refine Ext.drewN ?_ _ | refine Ext.setCell ?_ (by first | exact Nat.le_refl _ | (simp; done) | omega) _ | refine Ext.trans ?_ (by assumption)))⟩
  · have HR : Hid (frEq W H xs W' H' ys = false) := by show _ = _; unfold frEq; simp [h3]
    have b3 : (W == W') = false := by simpa using h3
    clear h3
    go_enter Tryd.func23, Tryd.ntmps23
    go_wp2
    go_ret
    exact ⟨by rw [HR.out]; rfl, (by repeat (first | exact Ext.refl _ | assumption | refine Ext.alloc ?_ _ | refine Ext.drew ?_ | refine Ext.drewN ?_ _ | refine Ext.setCell ?_ (by first | exact Nat.le_refl _ | (simp; done) | omega) _ | refine Ext.trans ?_ (by assumption)))⟩
theorem frEq_eq {f p : Fr} (h : frEq f.1 f.2.1 f.2.2 p.1 p.2.1 p.2.2 = true) : f = p := by
  unfold frEq at h
  simp only [Bool.and_eq_true, decide_eq_true_eq] at h
  obtain ⟨f0, f1, f2⟩ := f
  obtain ⟨p0, p1, p2⟩ := p
  obtain ⟨rfl, rfl, rfl⟩ := h
  rfl
set_option maxHeartbeats 16000000 in
set_option maxRecDepth 20000 in
theorem lea_main (L : List Fr) (gp n : Nat) (a : Option Addr) (cap : Nat) (w : World) (hg : EtIs w) (h : Fms w (.slice a n cap) L) (hp : pixB L = true) (hgp : 1 ≤ gp ∧ gp ≤ 16) (hn : 1 ≤ n ∧ n ≤ 40) (hsm : Hid (∀ (q : Nat) (f : Fr), L[q]? = some f → f.2.2.length ≤ 1000000)) :
    Calls Tryd.prog 13 #[.slice a n cap, .int .i64 (gp : Int)] w fun e w' => e = .returned (.bool true) ∧ Ext w w' := by
  obtain ⟨i0, hi, hz0, hz1, hz2⟩ := info_parts infoGrp
  have hnl := h.len
  obtain ⟨g0, off, rfl⟩ := h.had (by omega)
  have HF := Lib.hid h
  have HN := Lib.hid hnl
  obtain ⟨hg1, hg2⟩ := hgp
  obtain ⟨hn1, hn2⟩ := hn
  have k1 : ¬ (gp : Int) < 1 := by omega
  have k2 : ¬ (16 : Int) < (gp : Int) := by omega
  have k3 : ((n : Int) == 0) = false := by simp; omega
  have r2 := mn2
  clear h hnl
  go_enter Tryd.func13, Tryd.ntmps13
  go_wp2_with fail
  refine (first17_any _ (hg.ext (by repeat (first | exact Ext.refl _ | assumption | refine Ext.alloc ?_ _ | refine Ext.drew ?_ | refine Ext.drewN ?_ _ | refine Ext.setCell ?_ (by first | exact Nat.le_refl _ | (simp; done) | omega) _ | refine Ext.trans ?_ (by assumption))))).mono ?_; rintro e w1 ⟨rfl, hx1⟩
  go_wp2_with fail
  refine (pix_all L _ _ (HF.out.ext (by repeat (first | exact Ext.refl _ | assumption | refine Ext.alloc ?_ _ | refine Ext.drew ?_ | refine Ext.drewN ?_ _ | refine Ext.setCell ?_ (by first | exact Nat.le_refl _ | (simp; done) | omega) _ | refine Ext.trans ?_ (by assumption))))).mono ?_; rintro e w2 ⟨rfl, hx2⟩
  have E2 := hx1.trans hx2
  clear hx1 hx2
  rw [hp]
  go_wp2_with fail
  go_loopw [5, 6] (fun gv iv wr => ∃ (k i : Nat), Hid (k ≤ chN n gp ∧ i = k * gp) ∧ i ≤ n + 16 ∧ iv = .int .i64 (i : Int) ∧ Hid (wr.ownsRow w.heap.size 69 2 gv k (gcells (chG n gp k))) ∧ Ext w wr) (fun _ iv _ => n + 16 - (intOf iv).toNat)
  case atStart => exact ⟨0, 0, ⟨Nat.zero_le _, by simp⟩, by omega, rfl, World.ownsRow_nil _ _ _ _, E2⟩
  case round =>
    clear E2
    obtain ⟨k, i, HK, hi2, rfl, HO, hE⟩ := hrel
    by_cases hlt : i < n
    · have hk2 : k < chN n gp := (chN_lt hg1).2 (by rw [← HK.out.2]; exact hlt)
      have hk40 : k < 1000 := by
        have := HK.out.2
        have : k * 1 ≤ k * gp := Nat.mul_le_mul_left k hg1
        omega
      obtain ⟨c, hc⟩ : ∃ c, c = min gp (n - i) := ⟨_, rfl⟩
      have e1 : IntKind.i64.wrap ((n : Int) - (i : Int)) = (n : Int) - (i : Int) := by rw [IntKind.wrap_i64]; omega
      have e2 : min (gp : Int) ((n : Int) - (i : Int)) = (c : Int) := by omega
      have e3 : IntKind.i64.wrap ((i : Int) + (gp : Int)) = (i : Int) + (gp : Int) := by rw [IntKind.wrap_i64]; omega
      have HS : Hid (gcells (chG n gp (k + 1)) = gcells (chG n gp k) ++ [.int .i64 (i : Int), .int .i64 (c : Int)]) := by
        show _ = _
        rw [chG_succ, gcells_snoc, ← HK.out.2, ← hc]
      have HK2 : Hid (k + 1 ≤ chN n gp ∧ i + gp = (k + 1) * gp) := ⟨hk2, by rw [Nat.succ_mul, ← HK.out.2]⟩
      have A6 : Ext wr (wr.alloc (.cells #[.int .i64 (i : Int), .int .i64 (c : Int)] 69)) := (Ext.refl wr).alloc _
      have HLR : Hid (Row (wr.alloc (.cells #[.int .i64 (i : Int), .int .i64 (c : Int)] 69)) (.slice (some ⟨wr.heap.size, 0, none⟩) 1 1) 1 [.int .i64 (i : Int), .int .i64 (c : Int)]) := row_group wr (i : Int) (c : Int)
      have HO6 := Lib.hid (own_ext HO.out A6)
      have E6 := hE.trans A6
      have hS6 := E6.size
      clear A6 hc hk2 HO hE
      go_wp2_with (at_builtin; refine append_row rfl _ _ 60 rfl 69 i0 _ 2 16 Tryd.underlying60 hi hz0 hz1 hz2 rfl (by decide) _ k _ rfl HO6.out (.slice (some ⟨wr.heap.size, 0, none⟩) 1 1) 1 [.int .i64 (i : Int), .int .i64 (c : Int)] rfl HLR.out rfl (by intro x hx; simp only [List.mem_cons, List.not_mem_nil, or_false] at hx; rcases hx with rfl | rfl <;> rfl) hS6 (by unfold maxLen; omega) (by omega) ?_; intro v' w8 h1 h2 _; have HOW : Hid (w8.ownsRow w.heap.size 69 2 v' (k + 1) (gcells (chG n gp (k + 1)))) := (by show World.ownsRow _ _ _ _ _ _ _; rw [HS.out]; exact h1); have E8 : Ext w w8 := E6.of_below h2 (Nat.le_refl _); clear h1 h2)
      go_roundw
      case rel => exact ⟨k + 1, i + gp, HK2.out, by omega, by go_num, HOW.out, E8⟩
      case measure => simp [intOf]; omega
    · have hk2 : k = chN n gp := by
        have h1 := HK.out.1
        have h2 : ¬ k < chN n gp := fun h => hlt (by rw [HK.out.2]; exact (chN_lt hg1).1 h)
        omega
      obtain ⟨G, hG⟩ : ∃ G, G = chG n gp (chN n gp) := ⟨_, rfl⟩
      have hgl : G.length = k := by rw [hG, chG_len, hk2]
      have HRG : Hid (Row wr u5 G.length (gcells G)) := by
        have := Row.of_owns HO.out
        rw [hgl, hG, ← hk2]
        exact this
      have hgs : G.length ≤ 1000000 := by
        have h1 := HK.out.2
        have h2 : k * 1 ≤ k * gp := Nat.mul_le_mul_left k hg1
        omega
      have W1 := Lib.hid (fun v u w (k1 : Fms w v L) (k2 : Row w u G.length (gcells G)) => weights_any L G v u w k1 k2 hsm (by rw [← HN.out]; omega) hgs)
      have HGG := Lib.hid hG
      clear hG hgl hgs hk2 HO
      have hlt' : ¬ (i : Int) < (n : Int) := by omega
      clear hlt
      go_wp2_with fail
      refine (W1.out _ _ _ (HF.out.ext hE) HRG.out).mono ?_; rintro e w5 ⟨u5', x5, rfl, hx5, hr5, he5⟩
      have E5 := hE.trans hx5
      cases hw : wtAns L G with
      | some f =>
        rw [wtL_some hw] at hr5
        rw [hw] at he5
        obtain ⟨t5, y5, rfl⟩ := he5.ne
        obtain ⟨ra, rc, rfl⟩ := hr5.form
        clear hr5 he5 hw hx5 hE
        go_wp2_with fail
        refine (first17_any _ (hg.ext E5)).mono ?_; rintro e w9 ⟨rfl, hx9⟩
        go_wp2
        go_ret
        exact ⟨rfl, E5.trans hx9⟩
      | none =>
        rw [(wtL_none hw).1, ← HN.out] at hr5
        rw [hw] at he5
        obtain rfl : x5 = .nilIface := he5
        obtain ⟨g5, o5, c5, rfl, -, -⟩ := hr5.addr (by rw [rowL_length]; exact hn1)
        rw [rowL_length] at hr5 ⊢
        have HL := Lib.hid (fun i hi => least_at L gp i hg1 hi (by rw [← HN.out, ← HGG.out]; exact hw))
        rw [← HN.out, ← HGG.out] at HL
        have HR5 := Lib.hid hr5
        clear hr5 hw hx5 hE
        go_wp2_with fail
        go_loopw [9] (fun iv wz => ∃ j : Nat, j ≤ n ∧ iv = .int .i64 (j : Int) ∧ Ext w5 wz) (fun iv _ => n - (intOf iv).toNat)
        case atStart => exact ⟨0, Nat.zero_le _, rfl, Ext.refl _⟩
        case round =>
          obtain ⟨j, hj, rfl, hE⟩ := hrel
          by_cases hjn : j < n
          · obtain ⟨l1, l2, l3, l4, l5⟩ := HL.out j hjn
            have cw := hE.cell (HR5.out.at (rowL_get (f := fun k => wtV L (begB G k) k) hjn))
            obtain ⟨f, hf⟩ : ∃ f, L[j]? = some f := ⟨_, List.getElem?_eq_getElem (by rw [← HN.out]; exact hjn)⟩
            obtain ⟨p, hp'⟩ : ∃ p, L[j - 1]? = some p := ⟨_, List.getElem?_eq_getElem (by rw [← HN.out]; omega)⟩
            have hfd : frD L j = f := by unfold frD; rw [List.getD, hf]; rfl
            have hpd : frD L (j - 1) = p := by unfold frD; rw [List.getD, hp']; rfl
            rw [hfd] at l2 l3 l4 l5
            rw [hpd] at l5
            have EZ := E5.trans hE
            obtain ⟨fa, fn, fc, p0, p1, p2, p3⟩ := (HF.out.at hf).ext EZ
            obtain ⟨pa, pn, pc, q0, q1, q2, q3⟩ := (HF.out.at hp').ext EZ
            have HI : Hid (Ints wr (.slice fa fn fc) f.2.2) := ⟨p3, Nat.le_trans (hsm.out _ _ hf) (by decide)⟩
            have HP : Hid (Ints wr (.slice pa pn pc) p.2.2) := ⟨q3, Nat.le_trans (hsm.out _ _ hp') (by decide)⟩
            have U := Lib.hid (by have := inner_any f.1 f.2.1 f.2.2 fa fn fc wr HI.out; rwa [l4] at this)
            have b0 := inV_in f.1 f.2.1 f.2.2
            have t4 : (0 : Int) ≤ (j : Int) ∧ (j : Int) < (n : Int) := by omega
            obtain ⟨x, hx⟩ : ∃ x, x = wtV L (begB G j) j := ⟨_, rfl⟩
            rw [← hx] at l1 l2 l3 l5 cw
            have L5 := Lib.hid l5
            clear hx l4 l5 hf hp' hfd hpd p3 q3
            revert U l2 l3 b0
            generalize inV f.1 f.2.1 f.2.2 = s
            intro U b0 l3 l2
            have j1 : IntKind.i64.wrap (2 * s) = 2 * s := by rw [IntKind.wrap_i64]; omega
            have j2 : IntKind.i64.wrap (64 + 2 * s) = 64 + 2 * s := by rw [IntKind.wrap_i64]; omega
            obtain ⟨r, hr⟩ : ∃ r, r = j % gp := ⟨_, rfl⟩
            have hrl : r < gp := by rw [hr]; exact Nat.mod_lt _ (by omega)
            have m1 : Int.tmod (j : Int) (gp : Int) = (r : Int) := by rw [hr]; exact Int.ofNat_tmod j gp
            have m2 : (j : Int) % (gp : Int) = (r : Int) := by rw [hr]; exact Int.natCast_emod j gp
            have m3 : IntKind.i64.wrap (r : Int) = (r : Int) := by rw [IntKind.wrap_i64]; omega
            have m4 : ¬ gp = 0 := by omega
            have d1 : ¬ x < 64 := by omega
            have d2 : ¬ 64 + 2 * s < x := by omega
            have hrj : 0 < r → 1 ≤ j := fun h => by
              rcases Nat.eq_zero_or_pos j with h0 | h0
              · rw [h0, Nat.zero_mod] at hr; omega
              · exact h0
            rw [← hr] at l3
            have L6 : Hid (0 < r → f = p → x = 64) := by rw [hr]; exact L5.out
            clear hr l2 l1 L5
            rcases Nat.eq_zero_or_pos r with hr0 | hr1
            · have hx0 : (x != 64 + 2 * s) = false := by simpa using l3 hr0
              have m5 : ((r : Int) == 0) = true := by simp; omega
              have m6 : decide ((0 : Int) < (r : Int)) = false := decide_eq_false (by omega)
              have m7 : decide (0 < r) = false := decide_eq_false (by omega)
              have m8 : ¬ 0 < r := by omega
              clear l3 hr0 hrj L6 q0 q1 q2
              go_wp2_with fail
              refine (U.out).mono ?_; rintro e w6 ⟨x6, rfl, hx6, he6⟩
              obtain rfl : x6 = .nilIface := he6
              have cw6 := hx6.cell cw
              have E6 := hE.trans hx6
              clear cw p0 p1 p2 hE EZ U
              go_wp2_with fail
              go_quiet (fail)
              go_wp2
              go_roundw
              case rel => exact ⟨j + 1, by omega, by go_num, E6.drewN _⟩
              case measure => simp [intOf]; omega
            · have hj1 := hrj hr1
              have m5 : ((r : Int) == 0) = false := by simp; omega
              have m6 : decide ((0 : Int) < (r : Int)) = true := decide_eq_true (by omega)
              have m7 : decide (0 < r) = true := decide_eq_true hr1
              obtain ⟨P, hP⟩ : ∃ P, P = j - 1 := ⟨_, rfl⟩
              have t2 : IntKind.i64.wrap ((j : Int) - 1) = (P : Int) := by rw [IntKind.wrap_i64]; omega
              have t3 : (0 : Int) ≤ (P : Int) ∧ (P : Int) < (n : Int) := by omega
              rw [← hP] at q0 q1 q2
              clear l3 hrj hP
              go_wp2_with fail
              refine (U.out).mono ?_; rintro e w6 ⟨x6, rfl, hx6, he6⟩
              obtain rfl : x6 = .nilIface := he6
              have cw6 := hx6.cell cw
              have P0 := hx6.cell p0
              have P1 := hx6.cell p1
              have P2 := hx6.cell p2
              have Q0 := hx6.cell q0
              have Q1 := hx6.cell q1
              have Q2 := hx6.cell q2
              have HI6 := Lib.hid (HI.out.ext hx6)
              have HP6 := Lib.hid (HP.out.ext hx6)
              have E6 := hE.trans hx6
              obtain ⟨bo, hbo⟩ : ∃ bo, bo = frEq f.1 f.2.1 f.2.2 p.1 p.2.1 p.2.2 := ⟨_, rfl⟩
              have FA := Lib.hid (fun w h k => by have := frame_any f.1 f.2.1 p.1 p.2.1 f.2.2 p.2.2 fa pa fn pn fc pc w h k; rwa [← hbo] at this)
              have hx64 : bo = true → x = 64 := fun h => L6.out hr1 (frEq_eq (by rw [← hbo]; exact h))
              clear cw p0 p1 p2 q0 q1 q2 hE EZ U hbo L6 HI HP hx6
              go_wp2_with fail
              cases bo with
              | true =>
                have hx1 : (x != 64) = false := by simpa using hx64 rfl
                clear hx64
                go_region_held3 (fun w' => w'.cell? ⟨g0, off + j * 3, none⟩ = some (.int .i64 f.1) ∧ w'.cell? ⟨g0, off + j * 3 + 1, none⟩ = some (.int .i64 f.2.1) ∧ w'.cell? ⟨g0, off + j * 3 + 2, none⟩ = some (.slice fa fn fc) ∧ w'.cell? ⟨g0, off + P * 3, none⟩ = some (.int .i64 p.1) ∧ w'.cell? ⟨g0, off + P * 3 + 1, none⟩ = some (.int .i64 p.2.1) ∧ w'.cell? ⟨g0, off + P * 3 + 2, none⟩ = some (.slice pa pn pc) ∧ w'.cell? ⟨g5, o5 + j, none⟩ = some (.int .i64 x) ∧ Ext w6 w')
                  (first | assumption | (exact ⟨P0, P1, P2, Q0, Q1, Q2, cw6, Ext.refl _⟩) | (exact ⟨P0, P1, P2, Q0, Q1, Q2, cw6, (Ext.refl _).drew⟩) | (go_split_ands; exact ⟨hx.cell (by assumption), hx.cell (by assumption), hx.cell (by assumption), hx.cell (by assumption), hx.cell (by assumption), hx.cell (by assumption), hx.cell (by assumption), Ext.trans (by assumption) hx⟩))
                  ((go_at_call 23; obtain ⟨_, _, _, _, _, _, _, hE1⟩ : _ ∧ _ ∧ _ ∧ _ ∧ _ ∧ _ ∧ _ ∧ Ext w6 _ := (by assumption); refine (FA.out _ (HI6.out.ext hE1) (HP6.out.ext hE1)).mono ?_; rintro e w' ⟨rfl, hx⟩))
                obtain ⟨_, _, _, _, _, _, _, hE1⟩ : _ ∧ _ ∧ _ ∧ _ ∧ _ ∧ _ ∧ _ ∧ Ext w6 _ := by assumption
                go_wp2
                go_roundw
                case rel => exact ⟨j + 1, by omega, by go_num, E6.trans hE1⟩
                case measure => simp [intOf]; omega
              | false =>
                clear hx64
                refine wp_region_held_drew (S := fun w' => w'.cell? ⟨g0, off + j * 3, none⟩ = some (.int .i64 f.1) ∧ w'.cell? ⟨g0, off + j * 3 + 1, none⟩ = some (.int .i64 f.2.1) ∧ w'.cell? ⟨g0, off + j * 3 + 2, none⟩ = some (.slice fa fn fc) ∧ w'.cell? ⟨g0, off + P * 3, none⟩ = some (.int .i64 p.1) ∧ w'.cell? ⟨g0, off + P * 3 + 1, none⟩ = some (.int .i64 p.2.1) ∧ w'.cell? ⟨g0, off + P * 3 + 2, none⟩ = some (.slice pa pn pc) ∧ Ext w6 w') (by kernel_rfl) ⟨P0, P1, P2, Q0, Q1, Q2, (Ext.refl _).drew⟩ (fun hHeld => ?_)
                refine wpAnyH_take (i := 0) (oi := { dst := some 123, op := Op.move (Operand.tmp 9), type := 3, pos := "law.go:80", after := #[], guard := none }) (v := ?_) rfl (by kernel_rfl) (by kernel_rfl) (by kernel_rfl) (fun _ _ _ h => h) (Or.inl ⟨by rfl, ?_⟩) (by assumption) ?_
                case refine_2 => (intro w hSw; (try dsimp only at hSw); go_simp; (try with_reducible rfl))
                try simp only [Act.put, List.setIfInBounds_toArray, List.set_cons_zero, List.set_cons_succ]
                refine wpAnyH_take (i := 1) (oi := { dst := some 124, op := Op.move (Operand.tmp 1), type := 3, pos := "law.go:80", after := #[], guard := none }) (v := ?_) rfl (by kernel_rfl) (by kernel_rfl) (by kernel_rfl) (fun _ _ _ h => h) (Or.inl ⟨by rfl, ?_⟩) (by assumption) ?_
                case refine_2 => (intro w hSw; (try dsimp only at hSw); go_simp; (try with_reducible rfl))
                try simp only [Act.put, List.setIfInBounds_toArray, List.set_cons_zero, List.set_cons_succ]
                refine wpAnyH_take (i := 2) (oi := { dst := some 125, op := Op.binOp BinOp.rem 3 (Operand.tmp 123) (Operand.tmp 124) 3, type := 3, pos := "law.go:80", after := #[{ on := 0, ground := Ground.data }, { on := 1, ground := Ground.data }], guard := none }) (v := ?_) rfl (by kernel_rfl) (by kernel_rfl) (by kernel_rfl) (fun _ _ _ h => h) (Or.inl ⟨by rfl, ?_⟩) (by assumption) ?_
                case refine_2 => (intro w hSw; (try dsimp only at hSw); go_simp; (try with_reducible rfl))
                try simp only [Act.put, List.setIfInBounds_toArray, List.set_cons_zero, List.set_cons_succ]
                refine wpAnyH_take (i := 3) (oi := { dst := some 126, op := Op.binOp BinOp.gtr 3 (Operand.tmp 125) (Operand.const (Value.int IntKind.i64 0)) 3, type := 4, pos := "law.go:80", after := #[{ on := 2, ground := Ground.data }], guard := none }) (v := ?_) rfl (by kernel_rfl) (by kernel_rfl) (by kernel_rfl) (fun _ _ _ h => h) (Or.inl ⟨by rfl, ?_⟩) (by assumption) ?_
                case refine_2 => (intro w hSw; (try dsimp only at hSw); go_simp; (try with_reducible rfl))
                try simp only [Act.put, List.setIfInBounds_toArray, List.set_cons_zero, List.set_cons_succ]
                refine wpAnyH_take (i := 4) (oi := { dst := some 127, op := Op.move (Operand.tmp 126), type := 4, pos := "law.go:80", after := #[{ on := 3, ground := Ground.data }], guard := none }) (v := ?_) rfl (by kernel_rfl) (by kernel_rfl) (by kernel_rfl) (fun _ _ _ h => h) (Or.inl ⟨by rfl, ?_⟩) (by assumption) ?_
                case refine_2 => (intro w hSw; (try dsimp only at hSw); go_simp; (try with_reducible rfl))
                try simp only [Act.put, List.setIfInBounds_toArray, List.set_cons_zero, List.set_cons_succ]
                refine wpAnyH_take (i := 5) (oi := { dst := some 128, op := Op.move (Operand.tmp 0), type := 57, pos := "law.go:80", after := #[{ on := 4, ground := Ground.guard }], guard := some (4, true) }) (v := ?_) rfl (by kernel_rfl) (by kernel_rfl) (by kernel_rfl) (fun _ _ _ h => h) (Or.inl ⟨by rfl, ?_⟩) (by assumption) ?_
                case refine_2 => (intro w hSw; (try dsimp only at hSw); go_simp; (try with_reducible rfl))
                try simp only [Act.put, List.setIfInBounds_toArray, List.set_cons_zero, List.set_cons_succ]
                refine wpAnyH_take (i := 6) (oi := { dst := some 129, op := Op.move (Operand.tmp 9), type := 3, pos := "law.go:80", after := #[{ on := 4, ground := Ground.guard }], guard := some (4, true) }) (v := ?_) rfl (by kernel_rfl) (by kernel_rfl) (by kernel_rfl) (fun _ _ _ h => h) (Or.inl ⟨by rfl, ?_⟩) (by assumption) ?_
                case refine_2 => (intro w hSw; (try dsimp only at hSw); go_simp; (try with_reducible rfl))
                try simp only [Act.put, List.setIfInBounds_toArray, List.set_cons_zero, List.set_cons_succ]
                refine wpAnyH_take (i := 7) (oi := { dst := some 130, op := Op.indexAddr 57 (Operand.tmp 128) (Operand.tmp 129), type := 0, pos := "law.go:80", after := #[{ on := 5, ground := Ground.data }, { on := 6, ground := Ground.data }, { on := 4, ground := Ground.guard }], guard := some (4, true) }) (v := ?_) rfl (by kernel_rfl) (by kernel_rfl) (by kernel_rfl) (fun _ _ _ h => h) (Or.inl ⟨by rfl, ?_⟩) (by assumption) ?_
                case refine_2 => (intro w hSw; (try dsimp only at hSw); go_simp; (try with_reducible rfl))
                try simp only [Act.put, List.setIfInBounds_toArray, List.set_cons_zero, List.set_cons_succ]
                refine wpAnyH_take (i := 8) (oi := { dst := some 131, op := Op.load 24 (Operand.tmp 130), type := 24, pos := "law.go:80", after := #[{ on := 7, ground := Ground.data }, { on := 4, ground := Ground.guard }], guard := some (4, true) }) (v := ?_) rfl (by kernel_rfl) (by kernel_rfl) (by kernel_rfl) (fun _ _ _ h => h) (Or.inl ⟨by rfl, ?_⟩) (by assumption) ?_
                case refine_2 => (intro w hSw; (try dsimp only at hSw); go_simp; (try with_reducible rfl))
                try simp only [Act.put, List.setIfInBounds_toArray, List.set_cons_zero, List.set_cons_succ]
                refine wpAnyH_take (i := 9) (oi := { dst := some 132, op := Op.move (Operand.tmp 0), type := 57, pos := "law.go:80", after := #[{ on := 4, ground := Ground.guard }], guard := some (4, true) }) (v := ?_) rfl (by kernel_rfl) (by kernel_rfl) (by kernel_rfl) (fun _ _ _ h => h) (Or.inl ⟨by rfl, ?_⟩) (by assumption) ?_
                case refine_2 => (intro w hSw; (try dsimp only at hSw); go_simp; (try with_reducible rfl))
                try simp only [Act.put, List.setIfInBounds_toArray, List.set_cons_zero, List.set_cons_succ]
                refine wpAnyH_take (i := 10) (oi := { dst := some 133, op := Op.move (Operand.tmp 9), type := 3, pos := "law.go:80", after := #[{ on := 4, ground := Ground.guard }], guard := some (4, true) }) (v := ?_) rfl (by kernel_rfl) (by kernel_rfl) (by kernel_rfl) (fun _ _ _ h => h) (Or.inl ⟨by rfl, ?_⟩) (by assumption) ?_
                case refine_2 => (intro w hSw; (try dsimp only at hSw); go_simp; (try with_reducible rfl))
                try simp only [Act.put, List.setIfInBounds_toArray, List.set_cons_zero, List.set_cons_succ]
                refine wpAnyH_take (i := 11) (oi := { dst := some 134, op := Op.binOp BinOp.sub 3 (Operand.tmp 133) (Operand.const (Value.int IntKind.i64 1)) 3, type := 3, pos := "law.go:80", after := #[{ on := 10, ground := Ground.data }, { on := 4, ground := Ground.guard }], guard := some (4, true) }) (v := ?_) rfl (by kernel_rfl) (by kernel_rfl) (by kernel_rfl) (fun _ _ _ h => h) (Or.inl ⟨by rfl, ?_⟩) (by assumption) ?_
                case refine_2 => (intro w hSw; (try dsimp only at hSw); go_simp; (try with_reducible rfl))
                try simp only [Act.put, List.setIfInBounds_toArray, List.set_cons_zero, List.set_cons_succ]
                refine wpAnyH_take (i := 12) (oi := { dst := some 135, op := Op.indexAddr 57 (Operand.tmp 132) (Operand.tmp 134), type := 0, pos := "law.go:80", after := #[{ on := 9, ground := Ground.data }, { on := 11, ground := Ground.data }, { on := 4, ground := Ground.guard }], guard := some (4, true) }) (v := ?_) rfl (by kernel_rfl) (by kernel_rfl) (by kernel_rfl) (fun _ _ _ h => h) (Or.inl ⟨by rfl, ?_⟩) (by assumption) ?_
                case refine_2 => (intro w hSw; (try dsimp only at hSw); go_simp; (try with_reducible rfl))
                try simp only [Act.put, List.setIfInBounds_toArray, List.set_cons_zero, List.set_cons_succ]
                refine wpAnyH_take (i := 13) (oi := { dst := some 136, op := Op.load 24 (Operand.tmp 135), type := 24, pos := "law.go:80", after := #[{ on := 12, ground := Ground.data }, { on := 4, ground := Ground.guard }], guard := some (4, true) }) (v := ?_) rfl (by kernel_rfl) (by kernel_rfl) (by kernel_rfl) (fun _ _ _ h => h) (Or.inl ⟨by rfl, ?_⟩) (by assumption) ?_
                case refine_2 => (intro w hSw; (try dsimp only at hSw); go_simp; (try with_reducible rfl))
                try simp only [Act.put, List.setIfInBounds_toArray, List.set_cons_zero, List.set_cons_succ]
                refine wpAnyH_ready (rs := [14]) (by kernel_rfl) (by simp) ?_
                refine AllReadyH.cons (o := { dst := some 137, op := Op.call { callee := Callee.value (Operand.func 23), args := #[Operand.tmp 131, Operand.tmp 136], argTypes := #[24, 24] }, type := 4, pos := "law.go:80", after := #[{ on := 8, ground := Ground.data }, { on := 13, ground := Ground.data }, { on := 4, ground := Ground.chain }, { on := 4, ground := Ground.guard }], guard := some (4, true) }) rfl (fun K hK => ?_) AllReadyH.nil
                go_simp
                go_at_call 23
                obtain ⟨_, _, _, _, _, _, hE1⟩ := hHeld
                refine (FA.out _ (HI6.out.ext hE1) (HP6.out.ext hE1)).mono ?_; rintro e w7 ⟨rfl, hx⟩
                refine hK.out _ _ ⟨hx.cell (by assumption), hx.cell (by assumption), hx.cell (by assumption), hx.cell (by assumption), hx.cell (by assumption), hx.cell (by assumption), hE1.trans hx⟩ (fun hHeld => ?_)
                clear hK K
                try simp only [Act.put, List.setIfInBounds_toArray, List.set_cons_zero, List.set_cons_succ]
                refine wpAnyH_take (i := 15) (oi := { dst := some 138, op := Op.pick (Operand.tmp 127) (Operand.tmp 137) (Operand.const (Value.bool false)), type := 4, pos := "law.go:80", after := #[{ on := 4, ground := Ground.data }, { on := 14, ground := Ground.data }], guard := none }) (v := ?_) rfl (by kernel_rfl) (by kernel_rfl) (by kernel_rfl) (fun _ _ _ h => h) (Or.inl ⟨by rfl, ?_⟩) (by assumption) ?_
                case refine_2 => (intro w hSw; (try dsimp only at hSw); go_simp; (try with_reducible rfl))
                try simp only [Act.put, List.setIfInBounds_toArray, List.set_cons_zero, List.set_cons_succ]
                refine wpAnyH_take (i := 16) (oi := { dst := some 139, op := Op.move (Operand.tmp 138), type := 4, pos := "law.go:80", after := #[{ on := 15, ground := Ground.data }, { on := 14, ground := Ground.chain }], guard := none }) (v := ?_) rfl (by kernel_rfl) (by kernel_rfl) (by kernel_rfl) (fun _ _ _ h => h) (Or.inl ⟨by rfl, ?_⟩) (by assumption) ?_
                case refine_2 => (intro w hSw; (try dsimp only at hSw); go_simp; (try with_reducible rfl))
                try simp only [Act.put, List.setIfInBounds_toArray, List.set_cons_zero, List.set_cons_succ]
                refine wpAnyH_take (i := 17) (oi := { dst := some 140, op := Op.move (Operand.tmp 7), type := 22, pos := "law.go:80", after := #[{ on := 16, ground := Ground.guard }], guard := some (16, true) }) (v := undef) rfl (by kernel_rfl) (by kernel_rfl) (by kernel_rfl) (fun _ _ _ h => h) (Or.inr ⟨by rfl, rfl⟩) (by assumption) ?_
                try simp only [Act.put, List.setIfInBounds_toArray, List.set_cons_zero, List.set_cons_succ]
                refine wpAnyH_take (i := 18) (oi := { dst := some 141, op := Op.move (Operand.tmp 9), type := 3, pos := "law.go:80", after := #[{ on := 16, ground := Ground.guard }], guard := some (16, true) }) (v := undef) rfl (by kernel_rfl) (by kernel_rfl) (by kernel_rfl) (fun _ _ _ h => h) (Or.inr ⟨by rfl, rfl⟩) (by assumption) ?_
                try simp only [Act.put, List.setIfInBounds_toArray, List.set_cons_zero, List.set_cons_succ]
                refine wpAnyH_take (i := 19) (oi := { dst := some 142, op := Op.indexAddr 22 (Operand.tmp 140) (Operand.tmp 141), type := 0, pos := "law.go:80", after := #[{ on := 17, ground := Ground.data }, { on := 18, ground := Ground.data }, { on := 16, ground := Ground.guard }], guard := some (16, true) }) (v := undef) rfl (by kernel_rfl) (by kernel_rfl) (by kernel_rfl) (fun _ _ _ h => h) (Or.inr ⟨by rfl, rfl⟩) (by assumption) ?_
                try simp only [Act.put, List.setIfInBounds_toArray, List.set_cons_zero, List.set_cons_succ]
                refine wpAnyH_take (i := 20) (oi := { dst := some 143, op := Op.load 3 (Operand.tmp 142), type := 3, pos := "law.go:80", after := #[{ on := 19, ground := Ground.data }, { on := 16, ground := Ground.guard }], guard := some (16, true) }) (v := undef) rfl (by kernel_rfl) (by kernel_rfl) (by kernel_rfl) (fun _ _ _ h => h) (Or.inr ⟨by rfl, rfl⟩) (by assumption) ?_
                try simp only [Act.put, List.setIfInBounds_toArray, List.set_cons_zero, List.set_cons_succ]
                refine wpAnyH_take (i := 21) (oi := { dst := some 144, op := Op.binOp BinOp.neq 3 (Operand.tmp 143) (Operand.const (Value.int IntKind.i64 64)) 3, type := 4, pos := "law.go:80", after := #[{ on := 20, ground := Ground.data }, { on := 16, ground := Ground.guard }], guard := some (16, true) }) (v := undef) rfl (by kernel_rfl) (by kernel_rfl) (by kernel_rfl) (fun _ _ _ h => h) (Or.inr ⟨by rfl, rfl⟩) (by assumption) ?_
                try simp only [Act.put, List.setIfInBounds_toArray, List.set_cons_zero, List.set_cons_succ]
                refine wpAnyH_take (i := 22) (oi := { dst := some 145, op := Op.pick (Operand.tmp 139) (Operand.tmp 144) (Operand.const (Value.bool false)), type := 4, pos := "law.go:80", after := #[{ on := 16, ground := Ground.data }, { on := 21, ground := Ground.data }], guard := none }) (v := ?_) rfl (by kernel_rfl) (by kernel_rfl) (by kernel_rfl) (fun _ _ _ h => h) (Or.inl ⟨by rfl, ?_⟩) (by assumption) ?_
                case refine_2 => (intro w hSw; (try dsimp only at hSw); go_simp; (try with_reducible rfl))
                try simp only [Act.put, List.setIfInBounds_toArray, List.set_cons_zero, List.set_cons_succ]
                refine wpAnyH_done (by kernel_rfl) ?_ _
                obtain ⟨_, _, _, _, _, _, hE2⟩ := hHeld
                go_wp2
                go_roundw
                case rel => exact ⟨j + 1, by omega, by go_num, E6.trans hE2⟩
                case measure => simp [intOf]; omega
          · have hjn' : ¬ (j : Int) < (n : Int) := by omega
            have EZ := E5.trans hE
            clear hjn
            go_wp2_with fail
            refine (first17_any _ (hg.ext EZ)).mono ?_; rintro e w9 ⟨rfl, hx9⟩
            go_wp2
            go_ret
            exact ⟨rfl, EZ.trans hx9⟩
set_option maxHeartbeats 4000000 in
set_option maxRecDepth 20000 in
theorem lea_law (L : List Fr) (gop : Int) (v : Value) (w : World) (hg : EtIs w) (h : Fms w v L) :
    Calls Tryd.prog 13 #[v, .int .i64 gop] w fun e w' => e = .returned (.bool true) ∧ Ext w w' := by
  obtain ⟨a, cap, rfl⟩ := h.form
  have HF := Lib.hid h
  cases hp : pixB L with
  | false =>
    clear h
    go_enter Tryd.func13, Tryd.ntmps13
    go_wp2_with fail
    refine (first17_any _ (hg.ext (by repeat (first | exact Ext.refl _ | assumption | refine Ext.alloc ?_ _ | refine Ext.drew ?_ | refine Ext.drewN ?_ _ | refine Ext.setCell ?_ (by first | exact Nat.le_refl _ | (simp; done) | omega) _ | refine Ext.trans ?_ (by assumption))))).mono ?_; rintro e w1 ⟨rfl, hx1⟩
    go_wp2_with fail
    refine (pix_all L _ _ (HF.out.ext (by repeat (first | exact Ext.refl _ | assumption | refine Ext.alloc ?_ _ | refine Ext.drew ?_ | refine Ext.drewN ?_ _ | refine Ext.setCell ?_ (by first | exact Nat.le_refl _ | (simp; done) | omega) _ | refine Ext.trans ?_ (by assumption))))).mono ?_; rintro e w2 ⟨rfl, hx2⟩
    have E2 := hx1.trans hx2
    clear hx1 hx2
    rw [hp]
    go_wp2_with fail
    refine (first17_any _ (hg.ext E2)).mono ?_; rintro e w9 ⟨rfl, hx9⟩
    go_wp2
    go_ret
    exact ⟨rfl, E2.trans hx9⟩
  | true =>
    by_cases g1 : gop < 1
    · clear h
      go_enter Tryd.func13, Tryd.ntmps13
      go_wp2_with fail
      refine (first17_any _ (hg.ext (by repeat (first | exact Ext.refl _ | assumption | refine Ext.alloc ?_ _ | refine Ext.drew ?_ | refine Ext.drewN ?_ _ | refine Ext.setCell ?_ (by first | exact Nat.le_refl _ | (simp; done) | omega) _ | refine Ext.trans ?_ (by assumption))))).mono ?_; rintro e w1 ⟨rfl, hx1⟩
      go_wp2_with fail
      refine (pix_all L _ _ (HF.out.ext (by repeat (first | exact Ext.refl _ | assumption | refine Ext.alloc ?_ _ | refine Ext.drew ?_ | refine Ext.drewN ?_ _ | refine Ext.setCell ?_ (by first | exact Nat.le_refl _ | (simp; done) | omega) _ | refine Ext.trans ?_ (by assumption))))).mono ?_; rintro e w2 ⟨rfl, hx2⟩
      have E2 := hx1.trans hx2
      clear hx1 hx2
      rw [hp]
      go_wp2_with fail
      refine (first17_any _ (hg.ext E2)).mono ?_; rintro e w9 ⟨rfl, hx9⟩
      go_wp2
      go_ret
      exact ⟨rfl, E2.trans hx9⟩
    · by_cases g2 : 16 < gop
      · clear h
        go_enter Tryd.func13, Tryd.ntmps13
        go_wp2_with fail
        refine (first17_any _ (hg.ext (by repeat (first | exact Ext.refl _ | assumption | refine Ext.alloc ?_ _ | refine Ext.drew ?_ | refine Ext.drewN ?_ _ | refine Ext.setCell ?_ (by first | exact Nat.le_refl _ | (simp; done) | omega) _ | refine Ext.trans ?_ (by assumption))))).mono ?_; rintro e w1 ⟨rfl, hx1⟩
        go_wp2_with fail
        refine (pix_all L _ _ (HF.out.ext (by repeat (first | exact Ext.refl _ | assumption | refine Ext.alloc ?_ _ | refine Ext.drew ?_ | refine Ext.drewN ?_ _ | refine Ext.setCell ?_ (by first | exact Nat.le_refl _ | (simp; done) | omega) _ | refine Ext.trans ?_ (by assumption))))).mono ?_; rintro e w2 ⟨rfl, hx2⟩
        have E2 := hx1.trans hx2
        clear hx1 hx2
        rw [hp]
        go_wp2_with fail
        refine (first17_any _ (hg.ext E2)).mono ?_; rintro e w9 ⟨rfl, hx9⟩
        go_wp2
        go_ret
        exact ⟨rfl, E2.trans hx9⟩
      · obtain ⟨n, hn⟩ : ∃ n, n = L.length := ⟨_, rfl⟩
        rw [← hn] at HF h ⊢
        have hl := pixB_len hp
        rw [← hn] at hl
        clear hn
        by_cases n0 : n = 0
        · have n1 : ((n : Int) == 0) = true := by simp; omega
          clear h n0
          go_enter Tryd.func13, Tryd.ntmps13
          go_wp2_with fail
          refine (first17_any _ (hg.ext (by repeat (first | exact Ext.refl _ | assumption | refine Ext.alloc ?_ _ | refine Ext.drew ?_ | refine Ext.drewN ?_ _ | refine Ext.setCell ?_ (by first | exact Nat.le_refl _ | (simp; done) | omega) _ | refine Ext.trans ?_ (by assumption))))).mono ?_; rintro e w1 ⟨rfl, hx1⟩
          go_wp2_with fail
          refine (pix_all L _ _ (HF.out.ext (by repeat (first | exact Ext.refl _ | assumption | refine Ext.alloc ?_ _ | refine Ext.drew ?_ | refine Ext.drewN ?_ _ | refine Ext.setCell ?_ (by first | exact Nat.le_refl _ | (simp; done) | omega) _ | refine Ext.trans ?_ (by assumption))))).mono ?_; rintro e w2 ⟨rfl, hx2⟩
          have E2 := hx1.trans hx2
          clear hx1 hx2
          rw [hp]
          go_wp2_with fail
          refine (first17_any _ (hg.ext E2)).mono ?_; rintro e w9 ⟨rfl, hx9⟩
          go_wp2
          go_ret
          exact ⟨rfl, E2.trans hx9⟩
        · obtain ⟨gp, hgp⟩ : ∃ gp : Nat, gop = (gp : Int) := ⟨gop.toNat, by omega⟩
          subst hgp
          exact lea_main L gp n a cap w hg h hp (by omega) (by omega) (pix_small hp)
end Go.Proofs.YtmhbmegmlpenkaaDoor
