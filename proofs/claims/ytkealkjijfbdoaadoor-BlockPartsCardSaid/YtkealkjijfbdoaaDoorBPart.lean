/- kinref.Lists; kinlaw7.BlockParts: the walk. -/
import Derived.Test.YtkealkjijfbdoaaDoorR7w
import Derived.Test.YtkealkjijfbdoaaDoorB7
namespace Go.Proofs.YtkealkjijfbdoaaDoor
set_option linter.unusedVariables false
set_option linter.unusedSimpArgs false
open Go.RowKit Go.Extern.Stop Go.Stop Go.Extern

set_option maxRecDepth 20000 in
set_option maxHeartbeats 1000000 in
theorem lists_self (L : List (List Int)) (v u : Value) (w : World) (ha : Mat w v L) (hb : Mat w u L) (hN : L.length ≤ 1000000) (hR : ∀ (q : Nat) (row : List Int), L[q]? = some row → row.length ≤ 1000000) :
    Calls Tryd.prog 50 #[v, u] w fun e w' => e = .returned (.bool true) ∧ Ext w w' := by
  obtain ⟨a, cap, rfl⟩ := ha.form
  obtain ⟨b, cap', rfl⟩ := hb.form
  obtain ⟨n, hn⟩ : ∃ n, n = L.length := ⟨_, rfl⟩
  rw [← hn] at ha hb hN ⊢
  have HN := Lib.hid hn
  have HRR := Lib.hid hR
  have AG := Lib.hid ha.had
  have BG := Lib.hid hb.had
  clear hn hR
  go_enter Tryd.func50, Tryd.ntmps50
  go_wp2
  go_loopw [5] (fun iv wr => ∃ k : Nat, k ≤ n ∧ iv = .int .i64 k ∧ Ext w wr) (fun iv _ => n - (intOf iv).toNat)
  case atStart => exact ⟨0, Nat.zero_le _, rfl, Ext.refl _⟩
  case round =>
    obtain ⟨k, hk, rfl, hE⟩ := hrel
    by_cases hlt : k < n
    · obtain ⟨row, hrow⟩ : ∃ row, L[k]? = some row := ⟨_, List.getElem?_eq_getElem (by rw [← HN.out]; exact hlt)⟩
      obtain ⟨g, off, rfl⟩ := AG.out (by omega)
      obtain ⟨g', off', rfl⟩ := BG.out (by omega)
      obtain ⟨ra, rn, rc, p1, p2⟩ := (ha.ext hE).at hrow (HRR.out k row hrow)
      obtain ⟨sa, sn, sc, q1, q2⟩ := (hb.ext hE).at hrow (HRR.out k row hrow)
      have k0 : (0 : Int) ≤ (k : Int) := by omega
      have k1 : (k : Int) < n := by omega
      clear hrow
      go_wp2
      go_region_held3 (fun w' => w'.cell? ⟨g, off + k, none⟩ = some (.slice ra rn rc) ∧ w'.cell? ⟨g', off' + k, none⟩ = some (.slice sa sn sc) ∧ Ext wr w')
        (first | assumption | (exact ⟨p1, q1, Ext.refl _⟩) | (exact ⟨p1, q1, (Ext.refl _).drew⟩) | (go_split_ands; exact ⟨hx.cell (by assumption), hx.cell (by assumption), Ext.trans (by assumption) hx⟩))
        ((go_at_call 35; obtain ⟨_, _, hE1⟩ : _ ∧ _ ∧ Ext wr _ := (by assumption); refine (ints_same row row _ _ _ (p2.ext hE1) (q2.ext hE1)).mono ?_; rintro e w' ⟨rfl, hx⟩; rw [decide_eq_true rfl]))
      have hE9 : Ext w w' := hE.trans (hE1.trans hx)
      go_wp2
      go_roundw
      case rel => exact ⟨k + 1, by omega, by go_num, hE9⟩
      case measure => simp [intOf]; omega
    · go_wp2
      go_ret
      exact ⟨rfl, hE⟩

set_option maxHeartbeats 2000000 in
set_option maxRecDepth 20000 in
theorem parts_long (a b : Option Addr) (n m ca cb : Nat) (w : World) (hg : EtIs w) (hl : 5000 < n ∨ ¬ 5000 < n ∧ 100 < m) :
    Calls Tryd.prog 10 #[.slice a n ca, .slice b m cb] w fun e w' => e = .returned (.bool true) ∧ Ext w w' := by
  rcases hl with h1 | ⟨h1, h2⟩
  all_goals
    go_enter Tryd.func10, Tryd.ntmps10
    go_wp2_with fail
    refine (first7_any _ hg).mono ?_; rintro e w1 ⟨rfl, hx1⟩
    go_wp2_with fail
    refine (first7_any _ (hg.ext (by repeat (first | exact Ext.refl _ | assumption | refine Ext.alloc ?_ _ | refine Ext.drew ?_ | refine Ext.drewN ?_ _ | refine Ext.setCell ?_ (by first | exact Nat.le_refl _ | (simp; done) | omega) _ | refine Ext.trans ?_ (by assumption))))).mono ?_; rintro e w2 ⟨rfl, hx2⟩
    go_wp2
    go_ret
    exact ⟨rfl, (by repeat (first | exact Ext.refl _ | assumption | refine Ext.alloc ?_ _ | refine Ext.drew ?_ | refine Ext.drewN ?_ _ | refine Ext.setCell ?_ (by first | exact Nat.le_refl _ | (simp; done) | omega) _ | refine Ext.trans ?_ (by assumption)))⟩
set_option maxHeartbeats 8000000 in
set_option maxRecDepth 20000 in
theorem parts_walk (xs S : List Int) (L Q : List (List Int)) (f g : Fall) (z : Bool) (a b : Option Addr) (n m ca cb : Nat) (w : World) (hg : EtIs w) (ha : Ints w (.slice a n ca) xs) (hb : Mat w (.slice b m cb) L) (h1 : ¬ 5000 < n) (h2 : ¬ 100 < m) (hQ : Hid (Q.length ≤ 1000000)) (hQR : Hid (∀ (q : Nat) (row : List Int), Q[q]? = some row → row.length ≤ 1000000))
    (q1 : Hid (∀ v W, Ints W v xs → Calls Tryd.prog 46 #[v] W (MPost W Q f)))
    (q2 : Hid (∀ v W, Ints W v xs → Calls Tryd.prog 47 #[v] W (RMPost W Q f)))
    (s1 : Hid (∀ v W, Mat W v L → Calls Tryd.prog 48 #[v] W (ZPost W S g)))
    (s2 : Hid (∀ v W, Mat W v L → Calls Tryd.prog 49 #[v] W (RZPost W S g)))
    (z1 : Hid (∀ v W, Ints W v xs → Calls Tryd.prog 51 #[v] W fun e w' => e = .returned (.bool z) ∧ W = w'))
    (z2 : Hid (∀ v W, Ints W v xs → Calls Tryd.prog 52 #[v] W fun e w' => e = .returned (.bool z) ∧ Ext W w')) :
    Calls Tryd.prog 10 #[.slice a n ca, .slice b m cb] w fun e w' => e = .returned (.bool true) ∧ Ext w w' := by
  have BG := Lib.hid hb.had
  have HM := Lib.hid hb.len
  go_enter Tryd.func10, Tryd.ntmps10
  go_wp2_with fail
  refine (first7_any _ hg).mono ?_; rintro e w1 ⟨rfl, hx1⟩
  go_wp2
  go_loopw [5] (fun iv wr => ∃ k : Nat, k ≤ m ∧ iv = .int .i64 k ∧ Ext w wr) (fun iv _ => m - (intOf iv).toNat)
  case atStart => exact ⟨0, Nat.zero_le _, rfl, hx1⟩
  case round =>
    obtain ⟨k, hk, rfl, hE⟩ := hrel
    by_cases hlt : k < m
    · obtain ⟨row, hrow⟩ : ∃ row, L[k]? = some row := ⟨_, List.getElem?_eq_getElem (by rw [← HM.out]; exact hlt)⟩
      obtain ⟨g', off', rfl⟩ := BG.out (by omega)
      obtain ⟨sa, sc, c1, -⟩ := (hb.ext hE).row hrow
      obtain ⟨sn, hsn⟩ : ∃ sn, sn = row.length := ⟨_, rfl⟩
      rw [← hsn] at c1
      clear hsn
      have k0 : (0 : Int) ≤ (k : Int) := by omega
      have k1 : (k : Int) < m := by omega
      clear hrow
      by_cases hs : 5000 < sn
      · go_wp2_with fail
        refine (first7_any _ (hg.ext hE)).mono ?_; rintro e w2 ⟨rfl, hx2⟩
        go_wp2
        go_ret
        exact ⟨rfl, hE.trans hx2⟩
      · go_wp2
        go_roundw
        case rel => exact ⟨k + 1, by omega, by go_num, hE⟩
        case measure => simp [intOf]; omega
    · go_wp2_with fail
      refine (q1.out _ _ (ha.ext hE)).mono ?_; rintro e w2 ⟨u2, x2, rfl, hx2, hm2, he2⟩
      go_wp2_with fail
      refine (q2.out _ _ (ha.ext (by repeat (first | exact Ext.refl _ | assumption | refine Ext.alloc ?_ _ | refine Ext.drew ?_ | refine Ext.drewN ?_ _ | refine Ext.setCell ?_ (by first | exact Nat.le_refl _ | (simp; done) | omega) _ | refine Ext.trans ?_ (by assumption))))).mono ?_; rintro e w3 ⟨u3, c3, e3, n3, k3, rfl, hx3, hm3, he3⟩
      go_wp2_with fail
      refine (s1.out _ _ (hb.ext (by repeat (first | exact Ext.refl _ | assumption | refine Ext.alloc ?_ _ | refine Ext.drew ?_ | refine Ext.drewN ?_ _ | refine Ext.setCell ?_ (by first | exact Nat.le_refl _ | (simp; done) | omega) _ | refine Ext.trans ?_ (by assumption))))).mono ?_; rintro e w4 ⟨u4, x4, rfl, hx4, hz4, he4⟩
      go_wp2_with fail
      refine (s2.out _ _ (hb.ext (by repeat (first | exact Ext.refl _ | assumption | refine Ext.alloc ?_ _ | refine Ext.drew ?_ | refine Ext.drewN ?_ _ | refine Ext.setCell ?_ (by first | exact Nat.le_refl _ | (simp; done) | omega) _ | refine Ext.trans ?_ (by assumption))))).mono ?_; rintro e w5 ⟨u5, c5, e5, n5, k5, rfl, hx5, hz5, he5⟩
      go_wp2_with fail
      refine (first7_any _ (hg.ext (by repeat (first | exact Ext.refl _ | assumption | refine Ext.alloc ?_ _ | refine Ext.drew ?_ | refine Ext.drewN ?_ _ | refine Ext.setCell ?_ (by first | exact Nat.le_refl _ | (simp; done) | omega) _ | refine Ext.trans ?_ (by assumption))))).mono ?_; rintro e w6 ⟨rfl, hx6⟩
      go_wp2_with fail
      refine (lists_self Q _ _ _ (hm2.ext (by repeat (first | exact Ext.refl _ | assumption | refine Ext.alloc ?_ _ | refine Ext.drew ?_ | refine Ext.drewN ?_ _ | refine Ext.setCell ?_ (by first | exact Nat.le_refl _ | (simp; done) | omega) _ | refine Ext.trans ?_ (by assumption)))) (hm3.ext (by repeat (first | exact Ext.refl _ | assumption | refine Ext.alloc ?_ _ | refine Ext.drew ?_ | refine Ext.drewN ?_ _ | refine Ext.setCell ?_ (by first | exact Nat.le_refl _ | (simp; done) | omega) _ | refine Ext.trans ?_ (by assumption)))) hQ.out hQR.out).mono ?_; rintro e w7 ⟨rfl, hx7⟩
      obtain ⟨p0, p1⟩ := evar w3 c3 e3 n3 k3 (W := w7) (by repeat (first | exact Ext.refl _ | assumption | refine Ext.alloc ?_ _ | refine Ext.drew ?_ | refine Ext.drewN ?_ _ | refine Ext.setCell ?_ (by first | exact Nat.le_refl _ | (simp; done) | omega) _ | refine Ext.trans ?_ (by assumption)))
      go_wp2_with fail
      refine (same_fall f _ _ _ _ (hg.ext (by repeat (first | exact Ext.refl _ | assumption | refine Ext.alloc ?_ _ | refine Ext.drew ?_ | refine Ext.drewN ?_ _ | refine Ext.setCell ?_ (by first | exact Nat.le_refl _ | (simp; done) | omega) _ | refine Ext.trans ?_ (by assumption)))) (he2.ext (by repeat (first | exact Ext.refl _ | assumption | refine Ext.alloc ?_ _ | refine Ext.drew ?_ | refine Ext.drewN ?_ _ | refine Ext.setCell ?_ (by first | exact Nat.le_refl _ | (simp; done) | omega) _ | refine Ext.trans ?_ (by assumption)))) (he3.ext (by repeat (first | exact Ext.refl _ | assumption | refine Ext.alloc ?_ _ | refine Ext.drew ?_ | refine Ext.drewN ?_ _ | refine Ext.setCell ?_ (by first | exact Nat.le_refl _ | (simp; done) | omega) _ | refine Ext.trans ?_ (by assumption))))).mono ?_; rintro e w8 ⟨rfl, hx8⟩
      clear p0 p1
      go_wp2_with fail
      refine (ints_same S S _ _ _ (hz4.ext (by repeat (first | exact Ext.refl _ | assumption | refine Ext.alloc ?_ _ | refine Ext.drew ?_ | refine Ext.drewN ?_ _ | refine Ext.setCell ?_ (by first | exact Nat.le_refl _ | (simp; done) | omega) _ | refine Ext.trans ?_ (by assumption)))) (hz5.ext (by repeat (first | exact Ext.refl _ | assumption | refine Ext.alloc ?_ _ | refine Ext.drew ?_ | refine Ext.drewN ?_ _ | refine Ext.setCell ?_ (by first | exact Nat.le_refl _ | (simp; done) | omega) _ | refine Ext.trans ?_ (by assumption))))).mono ?_; rintro e w9 ⟨rfl, hx9⟩
      rw [decide_eq_true rfl]
      obtain ⟨p0, p1⟩ := evar w5 c5 e5 n5 k5 (W := w9) (by repeat (first | exact Ext.refl _ | assumption | refine Ext.alloc ?_ _ | refine Ext.drew ?_ | refine Ext.drewN ?_ _ | refine Ext.setCell ?_ (by first | exact Nat.le_refl _ | (simp; done) | omega) _ | refine Ext.trans ?_ (by assumption)))
      go_wp2_with fail
      refine (same_fall g _ _ _ _ (hg.ext (by repeat (first | exact Ext.refl _ | assumption | refine Ext.alloc ?_ _ | refine Ext.drew ?_ | refine Ext.drewN ?_ _ | refine Ext.setCell ?_ (by first | exact Nat.le_refl _ | (simp; done) | omega) _ | refine Ext.trans ?_ (by assumption)))) (he4.ext (by repeat (first | exact Ext.refl _ | assumption | refine Ext.alloc ?_ _ | refine Ext.drew ?_ | refine Ext.drewN ?_ _ | refine Ext.setCell ?_ (by first | exact Nat.le_refl _ | (simp; done) | omega) _ | refine Ext.trans ?_ (by assumption)))) (he5.ext (by repeat (first | exact Ext.refl _ | assumption | refine Ext.alloc ?_ _ | refine Ext.drew ?_ | refine Ext.drewN ?_ _ | refine Ext.setCell ?_ (by first | exact Nat.le_refl _ | (simp; done) | omega) _ | refine Ext.trans ?_ (by assumption))))).mono ?_; rintro e w10 ⟨rfl, hx10⟩
      clear p0 p1
      go_wp2_with fail
      refine (z1.out _ _ (ha.ext (by repeat (first | exact Ext.refl _ | assumption | refine Ext.alloc ?_ _ | refine Ext.drew ?_ | refine Ext.drewN ?_ _ | refine Ext.setCell ?_ (by first | exact Nat.le_refl _ | (simp; done) | omega) _ | refine Ext.trans ?_ (by assumption))))).mono ?_; rintro e w11 ⟨rfl, rfl⟩
      go_wp2_with fail
      refine (z2.out _ _ (ha.ext (by repeat (first | exact Ext.refl _ | assumption | refine Ext.alloc ?_ _ | refine Ext.drew ?_ | refine Ext.drewN ?_ _ | refine Ext.setCell ?_ (by first | exact Nat.le_refl _ | (simp; done) | omega) _ | refine Ext.trans ?_ (by assumption))))).mono ?_; rintro e w12 ⟨rfl, hx12⟩
      go_wp2
      go_ret
      exact ⟨rfl, (by repeat (first | exact Ext.refl _ | assumption | refine Ext.alloc ?_ _ | refine Ext.drew ?_ | refine Ext.drewN ?_ _ | refine Ext.setCell ?_ (by first | exact Nat.le_refl _ | (simp; done) | omega) _ | refine Ext.trans ?_ (by assumption)))⟩
theorem parts_law (xs : List Int) (L : List (List Int)) (va vb : Value) (w : World) (hg : EtIs w) (hr : Row w va xs.length (xs.map (Value.int .i64))) (hb : Mat w vb L) :
    Calls Tryd.prog 10 #[va, vb] w fun e w' => e = .returned (.bool true) ∧ Ext w w' := by
  by_cases hl : 5000 < xs.length ∨ ¬ 5000 < xs.length ∧ 100 < L.length
  · obtain ⟨a, ca, rfl⟩ := hr.form
    obtain ⟨b, cb, rfl⟩ := hb.form
    exact parts_long a b _ _ ca cb w hg hl
  · have ha : Ints w va xs := ⟨hr, by omega⟩
    obtain ⟨a, ca, rfl⟩ := ha.form
    obtain ⟨b, cb, rfl⟩ := hb.form
    exact parts_walk xs _ L _ _ _ _ a b _ _ ca cb w hg ha hb (by omega) (by omega) (by show _ ≤ _; unfold quarV; split <;> simp) (fun q row hq => by
        have : row ∈ quarV xs := List.mem_of_getElem? hq
        unfold quarV at this
        split at this
        · obtain ⟨j, _, rfl⟩ := List.mem_map.1 this
          have := quarL_len xs 64 j
          omega
        · cases this)
      (fun v W h => quarter_any xs v W h) (fun v W h => rquarter_any xs v W h) (fun v W h => whole_any L v W h) (fun v W h => rwhole_any L v W h) (fun v W h => zero_any xs v W h) (fun v W h => rzero_any xs v W h)
end Go.Proofs.YtkealkjijfbdoaaDoor
