/- kinlaw7.BlockSads: the walk. -/
import Derived.Test.YtkealkjijfbdoaaDoorB7
namespace Go.Proofs.YtkealkjijfbdoaaDoor
set_option linter.unusedVariables false
set_option linter.unusedSimpArgs false
open Go.RowKit Go.Extern.Stop Go.Stop Go.Extern

theorem matAns_comm (xs ys : List Int) : matAns xs ys = matAns ys xs := by
  unfold matAns
  by_cases h : xs.length = ys.length
  · rw [if_pos h, if_pos h.symm]
    by_cases k : xs.any farB = true ∨ ys.any farB = true
    · rw [if_pos k, if_pos k.symm]
    · rw [if_neg k, if_neg (fun e => k e.symm)]
  · rw [if_neg h, if_neg (fun e => h e.symm)]
theorem sadV_comm (xs ys : List Int) : sadV xs ys = sadV ys xs := by
  unfold sadV
  rw [matAns_comm]
  cases h : matAns ys xs with
  | none =>
    simp only
    rw [sadF_comm, (matAns_none h).1]
  | some f => rfl
theorem sadV_bound {xs ys : List Int} (hn : xs.length ≤ 5000) : 0 ≤ sadV xs ys ∧ sadV xs ys ≤ 20000000000 := by
  unfold sadV
  cases h : matAns xs ys with
  | none =>
    obtain ⟨h1, h2, h3⟩ := matAns_none h
    have b1 := sadF_bound h2 h3 xs.length
    have b2 := sadF_pos (fun i => xs.getD i 0) (fun i => ys.getD i 0) xs.length
    simp only
    omega
  | some f => simp
theorem getD_eq_of {xs ys : List Int} (hl : xs.length = ys.length) (h : ∀ j, j < xs.length → xs.getD j 0 = ys.getD j 0) : xs = ys := by
  apply eq_of_gets hl
  intro j hj
  rw [get_of_lt hj, get_of_lt (by omega), h j hj]
theorem sadV_zero {xs ys : List Int} (h : matAns xs ys = none) : (sadV xs ys == 0) = decide (xs = ys) := by
  have hl := (matAns_none h).1
  unfold sadV
  rw [h]
  rw [Bool.eq_iff_iff]
  simp only [beq_iff_eq, decide_eq_true_eq]
  rw [sadF_zero]
  constructor
  · intro k; exact getD_eq_of hl k
  · intro k j _; rw [k]
theorem matAns_trans {xs ys zs : List Int} (h : matAns xs ys = none) (k : matAns ys zs = none) : matAns xs zs = none := by
  unfold matAns at *
  split at h
  · split at h
    · cases h
    · split at k
      · split at k
        · cases k
        · rename_i a b c d
          rw [if_pos (a.trans c), if_neg]
          rintro (e | e)
          · exact b (Or.inl e)
          · exact d (Or.inr e)
      · cases k
  · cases h
theorem sadV_tri {xs ys zs : List Int} (h : matAns xs ys = none) (k : matAns ys zs = none) : sadV xs zs ≤ sadV xs ys + sadV ys zs := by
  have e := matAns_trans h k
  unfold sadV
  rw [h, k, e]
  simp only
  rw [← (matAns_none h).1]
  exact sadF_tri _ _ _ _

set_option maxHeartbeats 2000000 in
set_option maxRecDepth 20000 in
theorem sads_long (a b c : Option Addr) (n m k ca cb cc : Nat) (w : World) (hg : EtIs w) (hl : 5000 < n ∨ ¬ 5000 < n ∧ 5000 < m ∨ ¬ 5000 < n ∧ ¬ 5000 < m ∧ 5000 < k) :
    Calls Tryd.prog 13 #[.slice a n ca, .slice b m cb, .slice c k cc] w fun e w' => e = .returned (.bool true) ∧ Ext w w' := by
  rcases hl with h1 | ⟨h1, h2⟩ | ⟨h1, h2, h3⟩
  all_goals
    go_enter Tryd.func13, Tryd.ntmps13
    go_wp2_with fail
    refine (first7_any _ hg).mono ?_; rintro e w1 ⟨rfl, hx1⟩
    go_wp2_with fail
    refine (first7_any _ (hg.ext (by repeat (first | exact Ext.refl _ | assumption | refine Ext.alloc ?_ _ | refine Ext.drew ?_ | refine Ext.drewN ?_ _ | refine Ext.setCell ?_ (by first | exact Nat.le_refl _ | (simp; done) | omega) _ | refine Ext.trans ?_ (by assumption))))).mono ?_; rintro e w2 ⟨rfl, hx2⟩
    go_wp2
    go_ret
    exact ⟨rfl, (by repeat (first | exact Ext.refl _ | assumption | refine Ext.alloc ?_ _ | refine Ext.drew ?_ | refine Ext.drewN ?_ _ | refine Ext.setCell ?_ (by first | exact Nat.le_refl _ | (simp; done) | omega) _ | refine Ext.trans ?_ (by assumption)))⟩

set_option maxHeartbeats 4000000 in
set_option maxRecDepth 20000 in
theorem sads_walk (xs ys zs : List Int) (f g h : Fall) (X Z W0 : Int) (b0 : Bool) (a b c : Option Addr) (n m k ca cb cc : Nat) (w : World) (hg : EtIs w) (ha : Ints w (.slice a n ca) xs) (hb : Ints w (.slice b m cb) ys) (hc : Ints w (.slice c k cc) zs) (h1 : ¬ 5000 < n) (h2 : ¬ 5000 < m) (h3 : ¬ 5000 < k)
    (bX : 0 ≤ X ∧ X ≤ 20000000000) (bZ : 0 ≤ Z ∧ Z ≤ 20000000000)
    (c1 : Hid (∀ v u W, Ints W v xs → Ints W u ys → Calls Tryd.prog 44 #[v, u] W (IPost W X f)))
    (c2 : Hid (∀ v u W, Ints W v ys → Ints W u xs → Calls Tryd.prog 44 #[v, u] W (IPost W X f)))
    (c3 : Hid (∀ v u W, Ints W v ys → Ints W u zs → Calls Tryd.prog 44 #[v, u] W (IPost W Z g)))
    (c4 : Hid (∀ v u W, Ints W v xs → Ints W u zs → Calls Tryd.prog 44 #[v, u] W (IPost W W0 h)))
    (c5 : Hid (∀ v u W, Ints W v xs → Ints W u ys → Calls Tryd.prog 35 #[v, u] W fun e w' => e = .returned (.bool b0) ∧ Ext W w'))
    (k1 : f = none → g = none → h = none ∧ W0 ≤ X + Z ∧ (X == 0) = b0) :
    Calls Tryd.prog 13 #[.slice a n ca, .slice b m cb, .slice c k cc] w fun e w' => e = .returned (.bool true) ∧ Ext w w' := by
  have HX : Hid (0 ≤ X) := bX.1
  cases f with
  | some f =>
    clear k1
    go_enter Tryd.func13, Tryd.ntmps13
    go_wp2_with fail
    refine (first7_any _ hg).mono ?_; rintro e w1 ⟨rfl, hx1⟩
    go_wp2_with fail
    refine (c1.out _ _ _ (ha.ext (by repeat (first | exact Ext.refl _ | assumption | refine Ext.alloc ?_ _ | refine Ext.drew ?_ | refine Ext.drewN ?_ _ | refine Ext.setCell ?_ (by first | exact Nat.le_refl _ | (simp; done) | omega) _ | refine Ext.trans ?_ (by assumption)))) (hb.ext (by repeat (first | exact Ext.refl _ | assumption | refine Ext.alloc ?_ _ | refine Ext.drew ?_ | refine Ext.drewN ?_ _ | refine Ext.setCell ?_ (by first | exact Nat.le_refl _ | (simp; done) | omega) _ | refine Ext.trans ?_ (by assumption))))).mono ?_; rintro e w2 ⟨x2, rfl, hx2, he2⟩
    go_wp2_with fail
    refine (c2.out _ _ _ (hb.ext (by repeat (first | exact Ext.refl _ | assumption | refine Ext.alloc ?_ _ | refine Ext.drew ?_ | refine Ext.drewN ?_ _ | refine Ext.setCell ?_ (by first | exact Nat.le_refl _ | (simp; done) | omega) _ | refine Ext.trans ?_ (by assumption)))) (ha.ext (by repeat (first | exact Ext.refl _ | assumption | refine Ext.alloc ?_ _ | refine Ext.drew ?_ | refine Ext.drewN ?_ _ | refine Ext.setCell ?_ (by first | exact Nat.le_refl _ | (simp; done) | omega) _ | refine Ext.trans ?_ (by assumption))))).mono ?_; rintro e w3 ⟨x3, rfl, hx3, he3⟩
    go_wp2_with fail
    refine (c3.out _ _ _ (hb.ext (by repeat (first | exact Ext.refl _ | assumption | refine Ext.alloc ?_ _ | refine Ext.drew ?_ | refine Ext.drewN ?_ _ | refine Ext.setCell ?_ (by first | exact Nat.le_refl _ | (simp; done) | omega) _ | refine Ext.trans ?_ (by assumption)))) (hc.ext (by repeat (first | exact Ext.refl _ | assumption | refine Ext.alloc ?_ _ | refine Ext.drew ?_ | refine Ext.drewN ?_ _ | refine Ext.setCell ?_ (by first | exact Nat.le_refl _ | (simp; done) | omega) _ | refine Ext.trans ?_ (by assumption))))).mono ?_; rintro e w4 ⟨x4, rfl, hx4, he4⟩
    go_wp2_with fail
    refine (c4.out _ _ _ (ha.ext (by repeat (first | exact Ext.refl _ | assumption | refine Ext.alloc ?_ _ | refine Ext.drew ?_ | refine Ext.drewN ?_ _ | refine Ext.setCell ?_ (by first | exact Nat.le_refl _ | (simp; done) | omega) _ | refine Ext.trans ?_ (by assumption)))) (hc.ext (by repeat (first | exact Ext.refl _ | assumption | refine Ext.alloc ?_ _ | refine Ext.drew ?_ | refine Ext.drewN ?_ _ | refine Ext.setCell ?_ (by first | exact Nat.le_refl _ | (simp; done) | omega) _ | refine Ext.trans ?_ (by assumption))))).mono ?_; rintro e w5 ⟨x5, rfl, hx5, he5⟩
    obtain ⟨t2, y2, rfl⟩ := he2.ne
    obtain ⟨t3, y3, rfl⟩ := he3.ne
    go_wp2_with fail
    go_quiet (fail)
    go_wp2_with fail
    refine (first7_any _ (hg.ext (by repeat (first | exact Ext.refl _ | assumption | refine Ext.alloc ?_ _ | refine Ext.drew ?_ | refine Ext.drewN ?_ _ | refine Ext.setCell ?_ (by first | exact Nat.le_refl _ | (simp; done) | omega) _ | refine Ext.trans ?_ (by assumption))))).mono ?_; rintro e w6 ⟨rfl, hx6⟩
    go_wp2
    go_ret
    exact ⟨rfl, (by repeat (first | exact Ext.refl _ | assumption | refine Ext.alloc ?_ _ | refine Ext.drew ?_ | refine Ext.drewN ?_ _ | refine Ext.setCell ?_ (by first | exact Nat.le_refl _ | (simp; done) | omega) _ | refine Ext.trans ?_ (by assumption)))⟩
  | none =>
    cases g with
    | some g =>
      clear k1
      go_enter Tryd.func13, Tryd.ntmps13
      go_wp2_with fail
      refine (first7_any _ hg).mono ?_; rintro e w1 ⟨rfl, hx1⟩
      go_wp2_with fail
      refine (c1.out _ _ _ (ha.ext (by repeat (first | exact Ext.refl _ | assumption | refine Ext.alloc ?_ _ | refine Ext.drew ?_ | refine Ext.drewN ?_ _ | refine Ext.setCell ?_ (by first | exact Nat.le_refl _ | (simp; done) | omega) _ | refine Ext.trans ?_ (by assumption)))) (hb.ext (by repeat (first | exact Ext.refl _ | assumption | refine Ext.alloc ?_ _ | refine Ext.drew ?_ | refine Ext.drewN ?_ _ | refine Ext.setCell ?_ (by first | exact Nat.le_refl _ | (simp; done) | omega) _ | refine Ext.trans ?_ (by assumption))))).mono ?_; rintro e w2 ⟨x2, rfl, hx2, he2⟩
      go_wp2_with fail
      refine (c2.out _ _ _ (hb.ext (by repeat (first | exact Ext.refl _ | assumption | refine Ext.alloc ?_ _ | refine Ext.drew ?_ | refine Ext.drewN ?_ _ | refine Ext.setCell ?_ (by first | exact Nat.le_refl _ | (simp; done) | omega) _ | refine Ext.trans ?_ (by assumption)))) (ha.ext (by repeat (first | exact Ext.refl _ | assumption | refine Ext.alloc ?_ _ | refine Ext.drew ?_ | refine Ext.drewN ?_ _ | refine Ext.setCell ?_ (by first | exact Nat.le_refl _ | (simp; done) | omega) _ | refine Ext.trans ?_ (by assumption))))).mono ?_; rintro e w3 ⟨x3, rfl, hx3, he3⟩
      go_wp2_with fail
      refine (c3.out _ _ _ (hb.ext (by repeat (first | exact Ext.refl _ | assumption | refine Ext.alloc ?_ _ | refine Ext.drew ?_ | refine Ext.drewN ?_ _ | refine Ext.setCell ?_ (by first | exact Nat.le_refl _ | (simp; done) | omega) _ | refine Ext.trans ?_ (by assumption)))) (hc.ext (by repeat (first | exact Ext.refl _ | assumption | refine Ext.alloc ?_ _ | refine Ext.drew ?_ | refine Ext.drewN ?_ _ | refine Ext.setCell ?_ (by first | exact Nat.le_refl _ | (simp; done) | omega) _ | refine Ext.trans ?_ (by assumption))))).mono ?_; rintro e w4 ⟨x4, rfl, hx4, he4⟩
      go_wp2_with fail
      refine (c4.out _ _ _ (ha.ext (by repeat (first | exact Ext.refl _ | assumption | refine Ext.alloc ?_ _ | refine Ext.drew ?_ | refine Ext.drewN ?_ _ | refine Ext.setCell ?_ (by first | exact Nat.le_refl _ | (simp; done) | omega) _ | refine Ext.trans ?_ (by assumption)))) (hc.ext (by repeat (first | exact Ext.refl _ | assumption | refine Ext.alloc ?_ _ | refine Ext.drew ?_ | refine Ext.drewN ?_ _ | refine Ext.setCell ?_ (by first | exact Nat.le_refl _ | (simp; done) | omega) _ | refine Ext.trans ?_ (by assumption))))).mono ?_; rintro e w5 ⟨x5, rfl, hx5, he5⟩
      obtain rfl : x2 = .nilIface := he2
      obtain rfl : x3 = .nilIface := he3
      obtain ⟨t4, y4, rfl⟩ := he4.ne
      go_wp2_with fail
      go_quiet (fail)
      go_wp2_with fail
      refine (first7_any _ (hg.ext (by repeat (first | exact Ext.refl _ | assumption | refine Ext.alloc ?_ _ | refine Ext.drew ?_ | refine Ext.drewN ?_ _ | refine Ext.setCell ?_ (by first | exact Nat.le_refl _ | (simp; done) | omega) _ | refine Ext.trans ?_ (by assumption))))).mono ?_; rintro e w6 ⟨rfl, hx6⟩
      go_wp2
      go_ret
      exact ⟨rfl, (by repeat (first | exact Ext.refl _ | assumption | refine Ext.alloc ?_ _ | refine Ext.drew ?_ | refine Ext.drewN ?_ _ | refine Ext.setCell ?_ (by first | exact Nat.le_refl _ | (simp; done) | omega) _ | refine Ext.trans ?_ (by assumption)))⟩
    | none =>
      obtain ⟨rfl, hle, h0⟩ := k1 rfl rfl
      clear k1
      go_enter Tryd.func13, Tryd.ntmps13
      go_wp2_with fail
      refine (first7_any _ hg).mono ?_; rintro e w1 ⟨rfl, hx1⟩
      go_wp2_with fail
      refine (c1.out _ _ _ (ha.ext (by repeat (first | exact Ext.refl _ | assumption | refine Ext.alloc ?_ _ | refine Ext.drew ?_ | refine Ext.drewN ?_ _ | refine Ext.setCell ?_ (by first | exact Nat.le_refl _ | (simp; done) | omega) _ | refine Ext.trans ?_ (by assumption)))) (hb.ext (by repeat (first | exact Ext.refl _ | assumption | refine Ext.alloc ?_ _ | refine Ext.drew ?_ | refine Ext.drewN ?_ _ | refine Ext.setCell ?_ (by first | exact Nat.le_refl _ | (simp; done) | omega) _ | refine Ext.trans ?_ (by assumption))))).mono ?_; rintro e w2 ⟨x2, rfl, hx2, he2⟩
      go_wp2_with fail
      refine (c2.out _ _ _ (hb.ext (by repeat (first | exact Ext.refl _ | assumption | refine Ext.alloc ?_ _ | refine Ext.drew ?_ | refine Ext.drewN ?_ _ | refine Ext.setCell ?_ (by first | exact Nat.le_refl _ | (simp; done) | omega) _ | refine Ext.trans ?_ (by assumption)))) (ha.ext (by repeat (first | exact Ext.refl _ | assumption | refine Ext.alloc ?_ _ | refine Ext.drew ?_ | refine Ext.drewN ?_ _ | refine Ext.setCell ?_ (by first | exact Nat.le_refl _ | (simp; done) | omega) _ | refine Ext.trans ?_ (by assumption))))).mono ?_; rintro e w3 ⟨x3, rfl, hx3, he3⟩
      go_wp2_with fail
      refine (c3.out _ _ _ (hb.ext (by repeat (first | exact Ext.refl _ | assumption | refine Ext.alloc ?_ _ | refine Ext.drew ?_ | refine Ext.drewN ?_ _ | refine Ext.setCell ?_ (by first | exact Nat.le_refl _ | (simp; done) | omega) _ | refine Ext.trans ?_ (by assumption)))) (hc.ext (by repeat (first | exact Ext.refl _ | assumption | refine Ext.alloc ?_ _ | refine Ext.drew ?_ | refine Ext.drewN ?_ _ | refine Ext.setCell ?_ (by first | exact Nat.le_refl _ | (simp; done) | omega) _ | refine Ext.trans ?_ (by assumption))))).mono ?_; rintro e w4 ⟨x4, rfl, hx4, he4⟩
      go_wp2_with fail
      refine (c4.out _ _ _ (ha.ext (by repeat (first | exact Ext.refl _ | assumption | refine Ext.alloc ?_ _ | refine Ext.drew ?_ | refine Ext.drewN ?_ _ | refine Ext.setCell ?_ (by first | exact Nat.le_refl _ | (simp; done) | omega) _ | refine Ext.trans ?_ (by assumption)))) (hc.ext (by repeat (first | exact Ext.refl _ | assumption | refine Ext.alloc ?_ _ | refine Ext.drew ?_ | refine Ext.drewN ?_ _ | refine Ext.setCell ?_ (by first | exact Nat.le_refl _ | (simp; done) | omega) _ | refine Ext.trans ?_ (by assumption))))).mono ?_; rintro e w5 ⟨x5, rfl, hx5, he5⟩
      obtain rfl : x2 = .nilIface := he2
      obtain rfl : x3 = .nilIface := he3
      obtain rfl : x4 = .nilIface := he4
      obtain rfl : x5 = .nilIface := he5
      go_wp2_with fail
      go_quiet (fail)
      go_wp2_with fail
      refine (first7_any _ (hg.ext (by repeat (first | exact Ext.refl _ | assumption | refine Ext.alloc ?_ _ | refine Ext.drew ?_ | refine Ext.drewN ?_ _ | refine Ext.setCell ?_ (by first | exact Nat.le_refl _ | (simp; done) | omega) _ | refine Ext.trans ?_ (by assumption))))).mono ?_; rintro e w6 ⟨rfl, hx6⟩
      go_wp2_with fail
      refine (c5.out _ _ _ (ha.ext (by repeat (first | exact Ext.refl _ | assumption | refine Ext.alloc ?_ _ | refine Ext.drew ?_ | refine Ext.drewN ?_ _ | refine Ext.setCell ?_ (by first | exact Nat.le_refl _ | (simp; done) | omega) _ | refine Ext.trans ?_ (by assumption)))) (hb.ext (by repeat (first | exact Ext.refl _ | assumption | refine Ext.alloc ?_ _ | refine Ext.drew ?_ | refine Ext.drewN ?_ _ | refine Ext.setCell ?_ (by first | exact Nat.le_refl _ | (simp; done) | omega) _ | refine Ext.trans ?_ (by assumption))))).mono ?_; rintro e w7 ⟨rfl, hx7⟩
      go_wp2
      go_ret
      exact ⟨rfl, (by repeat (first | exact Ext.refl _ | assumption | refine Ext.alloc ?_ _ | refine Ext.drew ?_ | refine Ext.drewN ?_ _ | refine Ext.setCell ?_ (by first | exact Nat.le_refl _ | (simp; done) | omega) _ | refine Ext.trans ?_ (by assumption)))⟩
theorem sads_law (xs ys zs : List Int) (va vb vc : Value) (w : World) (hg : EtIs w) (hr : Row w va xs.length (xs.map (Value.int .i64))) (hs : Row w vb ys.length (ys.map (Value.int .i64))) (ht : Row w vc zs.length (zs.map (Value.int .i64))) :
    Calls Tryd.prog 13 #[va, vb, vc] w fun e w' => e = .returned (.bool true) ∧ Ext w w' := by
  by_cases hl : 5000 < xs.length ∨ ¬ 5000 < xs.length ∧ 5000 < ys.length ∨ ¬ 5000 < xs.length ∧ ¬ 5000 < ys.length ∧ 5000 < zs.length
  · obtain ⟨a, ca, rfl⟩ := hr.form
    obtain ⟨b, cb, rfl⟩ := hs.form
    obtain ⟨c, cc, rfl⟩ := ht.form
    exact sads_long a b c _ _ _ ca cb cc w hg hl
  · have h1 : ¬ 5000 < xs.length := by omega
    have h2 : ¬ 5000 < ys.length := by omega
    have h3 : ¬ 5000 < zs.length := by omega
    have ha : Ints w va xs := ⟨hr, by omega⟩
    have hb : Ints w vb ys := ⟨hs, by omega⟩
    have hc : Ints w vc zs := ⟨ht, by omega⟩
    obtain ⟨a, ca, rfl⟩ := ha.form
    obtain ⟨b, cb, rfl⟩ := hb.form
    obtain ⟨c, cc, rfl⟩ := hc.form
    refine sads_walk xs ys zs (matAns xs ys) (matAns ys zs) (matAns xs zs) (sadV xs ys) (sadV ys zs) (sadV xs zs) (decide (xs = ys)) a b c _ _ _ ca cb cc w hg ha hb hc h1 h2 h3 (sadV_bound (by omega)) (sadV_bound (by omega))
      (fun v u W h k => sad_any xs ys v u W h k (by omega)) (fun v u W h k => by rw [matAns_comm xs ys, sadV_comm xs ys]; exact sad_any ys xs v u W h k (by omega)) (fun v u W h k => sad_any ys zs v u W h k (by omega)) (fun v u W h k => sad_any xs zs v u W h k (by omega)) (fun v u W h k => ints_same xs ys v u W h k)
      (fun h k => ⟨matAns_trans h k, sadV_tri h k, sadV_zero h⟩)
end Go.Proofs.YtkealkjijfbdoaaDoor
