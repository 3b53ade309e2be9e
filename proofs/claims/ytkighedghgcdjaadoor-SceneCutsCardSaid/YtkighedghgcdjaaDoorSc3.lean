/- kinlaw16.Pix of any list; kinlaw16.SceneCuts: the walk. -/
import Derived.Test.YtkighedghgcdjaaDoorScM
import Derived.BigRegion
import Derived.Deep.RegionHeld3
namespace Go.Proofs.YtkighedghgcdjaaDoor
set_option linter.unusedVariables false
set_option linter.unusedSimpArgs false
open Go.RowKit Go.Extern.Stop Go.Stop Go.Extern

set_option maxRecDepth 20000 in
set_option maxHeartbeats 2000000 in
theorem pix_all (L : List Fr) (v : Value) (w : World) (h : Fms w v L) :
    Calls Tryd.prog 42 #[v] w fun e w' => e = .returned (.bool (pixB L)) ∧ Ext w w' := by
  obtain ⟨a, cap, rfl⟩ := h.form
  obtain ⟨n, hn⟩ : ∃ n, n = L.length := ⟨_, rfl⟩
  have HN := Lib.hid hn
  rw [← hn] at h ⊢
  have AG := Lib.hid h.had
  clear hn
  have r2 := mn2
  go_enter Tryd.func42, Tryd.ntmps42
  go_wp2
  go_loopw [3, 4] (fun sv iv wr => ∃ k : Nat, k ≤ n ∧ k ≤ 40 ∧ iv = .int .i64 k ∧ sv = .int .i64 (pixN L k) ∧ Ext w wr) (fun _ iv _ => n - (intOf iv).toNat)
  case atStart => exact ⟨0, Nat.zero_le _, by omega, rfl, rfl, Ext.refl _⟩
  case round =>
    obtain ⟨k, hk, hk2, rfl, rfl, hE⟩ := hrel
    have b0 := pixN_bound L k
    by_cases hlt : k < n
    · by_cases h40 : k < 40
      · obtain ⟨g, off, rfl⟩ := AG.out (by omega)
        obtain ⟨f, hf⟩ : ∃ f, L[k]? = some f := ⟨_, List.getElem?_eq_getElem (by rw [← HN.out]; exact hlt)⟩
        obtain ⟨ra, rn, rc, c0, c1, c2, c3⟩ := (h.at hf).ext hE
        obtain ⟨ra', rc', e⟩ := c3.form
        simp only [Value.slice.injEq] at e
        obtain ⟨rfl, rfl, rfl⟩ := e
        have HS : Hid (pixN L (k + 1) = pixN L k + min ((f.2.2.length : Nat) : Int) 20001) := by show pixN L k + _ = _; rw [List.getD, hf]; rfl
        have bl : (0 : Int) ≤ (f.2.2.length : Int) := by omega
        clear c3 hf
        revert HS b0 c2 bl
        generalize pixN L k = s
        generalize f.2.2.length = m
        intro b0 c2 HS bl
        have e1 : IntKind.i64.wrap (s + min (m : Int) 20001) = s + min (m : Int) 20001 := by rw [IntKind.wrap_i64]; omega
        go_wp2
        go_roundw
        case rel => exact ⟨k + 1, by omega, by omega, by go_num, by rw [HS.out], hE⟩
        case measure => simp [intOf]; omega
      · have h41 : ¬ n ≤ 40 := by omega
        have HR : Hid (pixB L = false) := by show _ = _; unfold pixB; rw [← HN.out]; simp [h41]
        have k1 : (40 : Int) < (n : Int) := by omega
        clear h41 b0
        go_wp2
        go_ret
        exact ⟨by rw [HR.out]; rfl, hE⟩
    · have h41 : n ≤ 40 := by omega
      have HR : Hid (pixB L = decide (pixN L k ≤ 20000)) := by show _ = _; unfold pixB; rw [← HN.out, show min n 40 = k by omega]; simp [h41]
      have k1 : (n : Int) ≤ 40 := by omega
      revert HR b0
      generalize pixN L k = s
      intro b0 HR
      clear h41
      by_cases hs : s ≤ 20000
      · have t1 : decide (s ≤ 20000) = true := decide_eq_true hs
        go_wp2
        go_ret
        exact ⟨by rw [HR.out, t1]; rfl, hE⟩
      · have t1 : decide (s ≤ 20000) = false := decide_eq_false hs
        go_wp2
        go_ret
        exact ⟨by rw [HR.out, t1]; rfl, hE⟩
theorem pix_small {L : List Fr} (h : pixB L = true) : ∀ (q : Nat) (f : Fr), L[q]? = some f → f.2.2.length ≤ 1000000 := fun q f hq => by
  unfold pixB at h
  simp only [Bool.and_eq_true, decide_eq_true_eq] at h
  obtain ⟨h1, h2⟩ := h
  rw [show min L.length 40 = L.length by omega] at h2
  obtain ⟨hlt, -⟩ := List.getElem?_eq_some_iff.1 hq
  have mono : ∀ d, pixN L (q + 1) ≤ pixN L (q + 1 + d) := fun d => by
    induction d with
    | zero => exact Int.le_refl _
    | succ d ih =>
      have e : pixN L (q + 1 + (d + 1)) = pixN L (q + 1 + d) + min (((L.getD (q + 1 + d) (0, 0, [])).2.2.length : Nat) : Int) 20001 := rfl
      omega
  have m1 := mono (L.length - (q + 1))
  rw [show q + 1 + (L.length - (q + 1)) = L.length by omega] at m1
  have m2 : pixN L (q + 1) = pixN L q + min ((f.2.2.length : Nat) : Int) 20001 := by show pixN L q + _ = _; rw [List.getD, hq]; rfl
  have m3 := pixN_bound L q
  omega
set_option maxHeartbeats 2000000 in
set_option maxRecDepth 20000 in
theorem cuts_long (L : List Fr) (cut more : Int) (a : Option Addr) (n cap : Nat) (w : World) (hg : EtIs w) (h : Fms w (.slice a n cap) L) (hp : pixB L = false ∨ pixB L = true ∧ 16 < n) :
    Calls Tryd.prog 14 #[.slice a n cap, .int .i64 cut, .int .i64 more] w fun e w' => e = .returned (.bool true) ∧ Ext w w' := by
  rcases hp with hp | ⟨hp, hn⟩
  · go_enter Tryd.func14, Tryd.ntmps14
    go_wp2_with fail
    refine (first16_any _ (hg.ext (by repeat (first | exact Ext.refl _ | assumption | refine Ext.alloc ?_ _ | refine Ext.drew ?_ | refine Ext.drewN ?_ _ | refine Ext.setCell ?_ (by first | exact Nat.le_refl _ | (simp; done) | omega) _ | refine Ext.trans ?_ (by assumption))))).mono ?_; rintro e w1 ⟨rfl, hx1⟩
    go_wp2_with fail
    refine (pix_all L _ _ (h.ext (by repeat (first | exact Ext.refl _ | assumption | refine Ext.alloc ?_ _ | refine Ext.drew ?_ | refine Ext.drewN ?_ _ | refine Ext.setCell ?_ (by first | exact Nat.le_refl _ | (simp; done) | omega) _ | refine Ext.trans ?_ (by assumption))))).mono ?_; rintro e w2 ⟨rfl, hx2⟩
    have E2 := hx1.trans hx2
    clear hx1 hx2
    rw [hp]
    go_wp2_with fail
    refine (first16_any _ (hg.ext E2)).mono ?_; rintro e w9 ⟨rfl, hx9⟩
    go_wp2
    go_ret
    exact ⟨rfl, E2.trans hx9⟩
  · go_enter Tryd.func14, Tryd.ntmps14
    go_wp2_with fail
    refine (first16_any _ (hg.ext (by repeat (first | exact Ext.refl _ | assumption | refine Ext.alloc ?_ _ | refine Ext.drew ?_ | refine Ext.drewN ?_ _ | refine Ext.setCell ?_ (by first | exact Nat.le_refl _ | (simp; done) | omega) _ | refine Ext.trans ?_ (by assumption))))).mono ?_; rintro e w1 ⟨rfl, hx1⟩
    go_wp2_with fail
    refine (pix_all L _ _ (h.ext (by repeat (first | exact Ext.refl _ | assumption | refine Ext.alloc ?_ _ | refine Ext.drew ?_ | refine Ext.drewN ?_ _ | refine Ext.setCell ?_ (by first | exact Nat.le_refl _ | (simp; done) | omega) _ | refine Ext.trans ?_ (by assumption))))).mono ?_; rintro e w2 ⟨rfl, hx2⟩
    have E2 := hx1.trans hx2
    clear hx1 hx2
    rw [hp]
    go_wp2_with fail
    refine (first16_any _ (hg.ext E2)).mono ?_; rintro e w9 ⟨rfl, hx9⟩
    go_wp2
    go_ret
    exact ⟨rfl, E2.trans hx9⟩
set_option maxHeartbeats 2000000 in
set_option maxRecDepth 20000 in
theorem cuts_no (L : List Fr) (cut more : Int) (G : List (Int × Int)) (f : List (ByteArray × Int) × Int) (a : Option Addr) (n cap : Nat) (w : World) (hg : EtIs w) (h : Fms w (.slice a n cap) L) (hpb : pixB L = true) (hn : ¬ 16 < n)
    (c1 : Hid (∀ v w, Fms w v L → Calls Tryd.prog 46 #[v, .int .i64 cut, .int .i64 16] w (GPost w G (some f)))) :
    Calls Tryd.prog 14 #[.slice a n cap, .int .i64 cut, .int .i64 more] w fun e w' => e = .returned (.bool true) ∧ Ext w w' := by
  go_enter Tryd.func14, Tryd.ntmps14
  go_wp2_with fail
  refine (first16_any _ (hg.ext (by repeat (first | exact Ext.refl _ | assumption | refine Ext.alloc ?_ _ | refine Ext.drew ?_ | refine Ext.drewN ?_ _ | refine Ext.setCell ?_ (by first | exact Nat.le_refl _ | (simp; done) | omega) _ | refine Ext.trans ?_ (by assumption))))).mono ?_; rintro e w1 ⟨rfl, hx1⟩
  go_wp2_with fail
  refine (pix_all L _ _ (h.ext (by repeat (first | exact Ext.refl _ | assumption | refine Ext.alloc ?_ _ | refine Ext.drew ?_ | refine Ext.drewN ?_ _ | refine Ext.setCell ?_ (by first | exact Nat.le_refl _ | (simp; done) | omega) _ | refine Ext.trans ?_ (by assumption))))).mono ?_; rintro e w2 ⟨rfl, hx2⟩
  have E2 := hx1.trans hx2
  clear hx1 hx2
  rw [hpb]
  go_wp2_with fail
  refine (c1.out _ _ (h.ext E2)).mono ?_; rintro e w3 ⟨u3, x3, rfl, hx3, hr3, he3⟩
  have E3 := E2.trans hx3
  obtain ⟨t3, y3, rfl⟩ := he3.ne
  go_wp2_with fail
  refine (first16_any _ (hg.ext E3)).mono ?_; rintro e w9 ⟨rfl, hx9⟩
  go_wp2
  go_ret
  exact ⟨rfl, E3.trans hx9⟩
set_option maxHeartbeats 8000000 in
set_option maxRecDepth 20000 in
theorem cuts_ok (L : List Fr) (cut more : Int) (G G2 : List (Int × Int)) (f2 : Fall) (a : Option Addr) (n cap : Nat) (w : World) (hg : EtIs w) (h : Fms w (.slice a n cap) L) (hpb : pixB L = true) (hn : 1 ≤ n ∧ n ≤ 16) (gn : Nat) (hgn : Hid (G.length = gn)) (hg0 : 1 ≤ gn ∧ gn ≤ 17)
    (hsm : Hid (∀ (q : Nat) (f : Fr), L[q]? = some f → f.2.2.length ≤ 1000000))
    (c1 : Hid (∀ v w, Fms w v L → Calls Tryd.prog 46 #[v, .int .i64 cut, .int .i64 16] w (GPost w G none)))
    (c2 : Hid (∀ v w, Fms w v L → Calls Tryd.prog 46 #[v, .int .i64 more, .int .i64 16] w (GPost w G2 f2)))
    (k1 : Hid (∀ i : Nat, i < n → ansAt L i = none))
    (k2 : Hid (∀ i : Nat, i < n → ∃ (k : Nat) (F C : Int), ofV i G 0 = k ∧ G[k]? = some (F, C) ∧ (F == (i : Int)) = ((i : Int) == 0 || decide (cut < unlAt L i))))
    (k3 : Hid (∀ (q : Nat) (p : Int × Int), G[q]? = some p → small p))
    (k4 : Hid (f2 = none → ¬ more < cut → G2.length ≤ gn)) :
    Calls Tryd.prog 14 #[.slice a n cap, .int .i64 cut, .int .i64 more] w fun e w' => e = .returned (.bool true) ∧ Ext w w' := by
  obtain ⟨n1, n2⟩ := hn
  obtain ⟨gn1, gn2⟩ := hg0
  have HN := Lib.hid h.len
  have r1 := mx2
  go_enter Tryd.func14, Tryd.ntmps14
  go_wp2_with fail
  refine (first16_any _ (hg.ext (by repeat (first | exact Ext.refl _ | assumption | refine Ext.alloc ?_ _ | refine Ext.drew ?_ | refine Ext.drewN ?_ _ | refine Ext.setCell ?_ (by first | exact Nat.le_refl _ | (simp; done) | omega) _ | refine Ext.trans ?_ (by assumption))))).mono ?_; rintro e w1 ⟨rfl, hx1⟩
  go_wp2_with fail
  refine (pix_all L _ _ (h.ext (by repeat (first | exact Ext.refl _ | assumption | refine Ext.alloc ?_ _ | refine Ext.drew ?_ | refine Ext.drewN ?_ _ | refine Ext.setCell ?_ (by first | exact Nat.le_refl _ | (simp; done) | omega) _ | refine Ext.trans ?_ (by assumption))))).mono ?_; rintro e w2 ⟨rfl, hx2⟩
  have E2 := hx1.trans hx2
  clear hx1 hx2
  rw [hpb]
  go_wp2_with fail
  refine (c1.out _ _ (h.ext E2)).mono ?_; rintro e w3 ⟨u3, x3, rfl, hx3, hr3, he3⟩
  have E3 := E2.trans hx3
  obtain rfl : x3 = .nilIface := he3
  obtain ⟨g, o, gcap, rfl, hcs⟩ := row_opened hr3 (by rw [hgn.out]; omega)
  have HR3 := Lib.hid hr3
  have HCS := Lib.hid hcs
  rw [hgn.out] at HR3
  rw [hgn.out]
  obtain ⟨g0, off, rfl⟩ := h.had (by omega)
  have HF := Lib.hid (h.ext E3)
  clear hr3 hcs hx3 c1
  go_wp2_with fail
  go_loopw [9] (fun iv wr => ∃ i : Nat, i ≤ n ∧ iv = .int .i64 i ∧ Ext w3 wr) (fun iv _ => n - (intOf iv).toNat)
  case atStart => exact ⟨0, Nat.zero_le _, rfl, Ext.refl _⟩
  case round =>
    obtain ⟨k, hk, rfl, hE⟩ := hrel
    by_cases hlt : k < n
    · obtain ⟨f, hf⟩ : ∃ f, L[k]? = some f := ⟨_, List.getElem?_eq_getElem (by rw [← HN.out]; exact hlt)⟩
      obtain ⟨p, hp⟩ : ∃ p, L[k - 1]? = some p := ⟨_, List.getElem?_eq_getElem (by rw [← HN.out]; omega)⟩
      have hfd : frD L k = f := by unfold frD; rw [List.getD, hf]; rfl
      have hpd : frD L (k - 1) = p := by unfold frD; rw [List.getD, hp]; rfl
      have HAN : Hid (frAns p.1 p.2.1 p.2.2 f.1 f.2.1 f.2.2 = none) := by
        have := k1.out k hlt
        unfold ansAt at this
        rwa [hfd, hpd] at this
      have HUN : Hid (unlAt L k = unlV p.1 p.2.1 p.2.2 f.1 f.2.1 f.2.2) := by show _ = _; unfold unlAt; rw [hfd, hpd]
      obtain ⟨kk, F, C, z1, z2, z3⟩ := k2.out k hlt
      have hkg : kk < gn := by rw [← hgn.out]; exact (List.getElem?_eq_some_iff.1 z2).1
      have HZ1 := Lib.hid z1
      have HCF := Lib.hid (HCS.out _ _ (gcells_get G kk (F, C) z2).1)
      rw [HUN.out] at z3
      obtain ⟨fa, fn, fc, p0, p1, p2, p3⟩ := (HF.out.at hf).ext hE
      obtain ⟨pa, pn, pc, q0, q1, q2, q3⟩ := (HF.out.at hp).ext hE
      have HC4 : Hid (Ints wr (.slice fa fn fc) f.2.2) := ⟨p3, Nat.le_trans (hsm.out _ _ hf) (by decide)⟩
      have HP4 : Hid (Ints wr (.slice pa pn pc) p.2.2) := ⟨q3, Nat.le_trans (hsm.out _ _ hp) (by decide)⟩
      have U := Lib.hid (fun w h k => by have := unlike_any p.1 p.2.1 f.1 f.2.1 p.2.2 f.2.2 pa fa pn fn pc fc w h k; rwa [HAN.out] at this)
      clear hf hp hfd hpd p3 q3 z1 z2 HAN HUN
      revert U z3
      generalize unlV p.1 p.2.1 p.2.2 f.1 f.2.1 f.2.2 = u0
      intro z3 U
      obtain ⟨P, hP⟩ : ∃ P, P = k - 1 := ⟨_, rfl⟩
      have t1 : max ((k : Int) - 1) 0 = (P : Int) := by omega
      have t2 : IntKind.i64.wrap ((k : Int) - 1) = (k : Int) - 1 := by rw [IntKind.wrap_i64]; omega
      have t3 : (0 : Int) ≤ (P : Int) ∧ (P : Int) < (n : Int) := by omega
      have t4 : (0 : Int) ≤ (k : Int) ∧ (k : Int) < (n : Int) := by omega
      rw [← hP] at q0 q1 q2
      clear hP
      go_wp2_with fail
      go_region_held3 (fun w' => w'.cell? ⟨g0, off + k * 3, none⟩ = some (.int .i64 f.1) ∧ w'.cell? ⟨g0, off + k * 3 + 1, none⟩ = some (.int .i64 f.2.1) ∧ w'.cell? ⟨g0, off + k * 3 + 2, none⟩ = some (.slice fa fn fc) ∧ w'.cell? ⟨g0, off + P * 3, none⟩ = some (.int .i64 p.1) ∧ w'.cell? ⟨g0, off + P * 3 + 1, none⟩ = some (.int .i64 p.2.1) ∧ w'.cell? ⟨g0, off + P * 3 + 2, none⟩ = some (.slice pa pn pc) ∧ Ext wr w')
        (first | assumption | (exact ⟨p0, p1, p2, q0, q1, q2, Ext.refl _⟩) | (exact ⟨p0, p1, p2, q0, q1, q2, (Ext.refl _).drew⟩) | (go_split_ands; exact ⟨hx.cell (by assumption), hx.cell (by assumption), hx.cell (by assumption), hx.cell (by assumption), hx.cell (by assumption), hx.cell (by assumption), Ext.trans (by assumption) hx⟩))
        ((go_at_call 43; obtain ⟨_, _, _, _, _, _, hE1⟩ : _ ∧ _ ∧ _ ∧ _ ∧ _ ∧ _ ∧ Ext wr _ := (by assumption); refine (U.out _ (HP4.out.ext hE1) (HC4.out.ext hE1)).mono ?_; rintro e w' ⟨x5, rfl, hx, hex⟩))
      obtain ⟨_, _, _, _, _, _, hE1⟩ : _ ∧ _ ∧ _ ∧ _ ∧ _ ∧ _ ∧ Ext wr _ := by assumption
      obtain rfl : x5 = .nilIface := hex
      have E5 := hE.trans hE1
      clear p0 p1 p2 q0 q1 q2 HC4 HP4 U hE hE1
      go_wp2_with fail
      refine (of_any G (k : Int) _ _ (by rw [hgn.out]; exact HR3.out.ext E5) (by rw [hgn.out]; omega) (by omega) k3).mono ?_; rintro e w6 ⟨rfl, hx6⟩
      rw [HZ1.out]
      have E6 := E5.trans hx6
      have cF := E6.cell HCF.out
      change w6.cell? ⟨g, o + kk * 2, none⟩ = some (.int .i64 F) at cF
      have i1 : (0 : Int) ≤ (kk : Int) ∧ (kk : Int) < (gn : Int) := by omega
      have i2 : ¬ (gn : Int) ≤ (kk : Int) := by omega
      have i3 : ¬ (kk : Int) < 0 := by omega
      clear E5 hx6 HZ1 HCF t1 t2 t3 t4
      by_cases hk0 : k = 0
      · have j1 : ((k : Int) == 0) = true := by simp; omega
        rw [j1] at z3
        have j2 : (F == (k : Int)) = true := by simpa using z3
        clear z3 hk0
        go_wp2
        go_roundw
        case rel => exact ⟨k + 1, by omega, by go_num, E6⟩
        case measure => simp [intOf]; omega
      · have j1 : ((k : Int) == 0) = false := by simp; omega
        rw [j1] at z3
        by_cases hcu : cut < u0
        · have j2 : (F == (k : Int)) = true := by simpa [hcu] using z3
          clear z3
          go_wp2
          go_roundw
          case rel => exact ⟨k + 1, by omega, by go_num, E6⟩
          case measure => simp [intOf]; omega
        · have j2 : (F == (k : Int)) = false := by simpa [hcu] using z3
          clear z3
          go_wp2
          go_roundw
          case rel => exact ⟨k + 1, by omega, by go_num, E6⟩
          case measure => simp [intOf]; omega
    · have hkn : ¬ (k : Int) < (n : Int) := by omega
      clear hlt
      go_wp2_with fail
      refine (c2.out _ _ (HF.out.ext hE)).mono ?_; rintro e w6 ⟨u6, x6, rfl, hx6, hr6, he6⟩
      obtain ⟨a6, k6, rfl⟩ := hr6.form
      have E6 := (E3.trans hE).trans hx6
      cases f2 with
      | some f2 =>
        obtain ⟨t6, y6, rfl⟩ := he6.ne
        clear k4
        go_wp2_with fail
        refine (first16_any _ (hg.ext E6)).mono ?_; rintro e w9 ⟨rfl, hx9⟩
        go_wp2
        go_ret
        exact ⟨rfl, E6.trans hx9⟩
      | none =>
        obtain rfl : x6 = .nilIface := he6
        by_cases hmc : more < cut
        · clear k4
          go_wp2_with fail
          refine (first16_any _ (hg.ext E6)).mono ?_; rintro e w9 ⟨rfl, hx9⟩
          go_wp2
          go_ret
          exact ⟨rfl, E6.trans hx9⟩
        · have hle := k4.out rfl (by omega)
          revert hle
          generalize G2.length = m2
          intro hle
          have hle2 : (m2 : Int) ≤ (gn : Int) := by omega
          clear k4 hr6
          go_wp2_with fail
          refine (first16_any _ (hg.ext E6)).mono ?_; rintro e w9 ⟨rfl, hx9⟩
          go_wp2
          go_ret
          exact ⟨rfl, E6.trans hx9⟩
theorem cuts_law (L : List Fr) (cut more : Int) (v : Value) (w : World) (hg : EtIs w) (h : Fms w v L) :
    Calls Tryd.prog 14 #[v, .int .i64 cut, .int .i64 more] w fun e w' => e = .returned (.bool true) ∧ Ext w w' := by
  obtain ⟨a, cap, rfl⟩ := h.form
  obtain ⟨n, hn⟩ : ∃ n, n = L.length := ⟨_, rfl⟩
  rw [← hn] at h ⊢
  cases hp : pixB L with
  | false => exact cuts_long L cut more a n cap w hg h (Or.inl hp)
  | true =>
    by_cases h16 : 16 < n
    · exact cuts_long L cut more a n cap w hg h (Or.inr ⟨hp, h16⟩)
    · have hsm := pix_small hp
      have d1 := fun v w (k : Fms w v L) => groups_any L cut 16 v w k hsm
      have d2 := fun v w (k : Fms w v L) => groups_any L more 16 v w k hsm
      cases hf : grpAns L cut 16 with
      | some f =>
        rw [hf] at d1
        exact cuts_no L cut more _ f a n cap w hg h hp h16 d1
      | none =>
        have hv : ∀ c, grpAns L c 16 = none → 0 ≤ c ∧ 1 ≤ n ∧ n ≤ 16 ∧ grpF L n = none ∧ grpV L c 16 = grpL L c 16 n := fun c hc => by
          have hv : grpV L c 16 = grpL L c 16 n := by unfold grpV; rw [hc, hn]
          unfold grpAns range form at hc
          split at hc
          · cases hc
          · split at hc
            · cases hc
            · rw [← hn] at hc
              exact ⟨by omega, by omega, by omega, hc, hv⟩
        obtain ⟨v1, v2, v3, v4, v5⟩ := hv cut hf
        rw [hf, v5] at d1
        have hb := grpS_bound L cut 16 n
        have hlen : ∀ c, (grpL L c 16 n).length = (grpS L c 16 n).1.length + 1 := fun c => by unfold grpL; rw [List.length_append]; rfl
        exact cuts_ok L cut more (grpL L cut 16 n) _ _ a n cap w hg h hp ⟨v2, v3⟩ _ rfl (by rw [hlen]; omega) hsm d1 d2 (fun i hi => grpF_none v4 hi) (fun i hi => cuts_at L cut v1 n ⟨v2, v3⟩ i hi) (grp_small L cut v1 n ⟨v2, v3⟩)
          (fun h1 h2 => by
            obtain ⟨-, -, -, -, e5⟩ := hv more h1
            rw [e5, hlen, hlen]
            have := grp_len L (show cut ≤ more by omega) n v3
            omega)
end Go.Proofs.YtkighedghgcdjaaDoor
