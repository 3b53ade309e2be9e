/- kinlaw7.BlockBack: the walk. -/
import Derived.Test.YtkealkjijfbdoaaDoorBSads
import Derived.Test.YtkealkjijfbdoaaDoorWhl
namespace Go.Proofs.YtkealkjijfbdoaaDoor
set_option linter.unusedVariables false
set_option linter.unusedSimpArgs false
open Go.RowKit Go.Extern.Stop Go.Stop Go.Extern

theorem quarV_whole {zs : List Int} (h : zs.length = 64) : wholeV (quarV zs) = zs ∧ wholeA (quarV zs) = none := by
  have e : quarV zs = (List.range 4).map (quarL zs 64) := by unfold quarV; rw [if_pos h]
  have hq : ∀ q, q < 4 → (quarV zs)[q]? = some (quarL zs 64 q) := fun q hq => by rw [e]; simp [hq]
  have hd : wholeD (quarV zs) = true := by
    unfold wholeD
    rw [e]
    simp only [Bool.and_eq_true, decide_eq_true_eq, List.all_eq_true]
    refine ⟨by simp, fun r hr => ?_⟩
    obtain ⟨q, hq, rfl⟩ := List.mem_map.1 hr
    unfold quarL
    rw [List.length_map]
    exact qIdx_full q (List.mem_range.1 hq)
  unfold wholeV wholeA
  rw [if_pos hd, if_pos hd]
  refine ⟨?_, rfl⟩
  apply eq_of_gets (by rw [rowL_length, h])
  intro j hj
  rw [rowL_length] at hj
  rw [rowL_get hj, get_of_lt (by omega)]
  have h1 := qOf_landed j hj
  have hb := qIdx_back j hj
  congr 1
  unfold wholeF
  have e1 : (quarV zs).getD (qOf j) [] = quarL zs 64 (qOf j) := by simp [List.getD, hq _ h1.2.1]
  rw [e1]
  unfold quarL
  simp [List.getD, hb]
theorem clip_id {x : Int} (h : 0 ≤ x ∧ x ≤ 255) : clipI x = x := by unfold clipI; omega
theorem twoV_len {f : Int → Int → Int} {xs ys : List Int} (h : matAns xs ys = none) : (twoV f xs ys).length = xs.length := by unfold twoV; rw [h]; simp only; rw [rowL_length]
theorem twoV_at {f : Int → Int → Int} {xs ys : List Int} (h : matAns xs ys = none) {j : Nat} (hj : j < xs.length) : (twoV f xs ys).getD j 0 = f (xs.getD j 0) (ys.getD j 0) := by
  unfold twoV; rw [h]; simp only
  exact getD_of_get (rowL_get hj)
theorem addsub {xs ys : List Int} (h : matAns xs ys = none) (hw : within 0 255 xs) (k : matAns ys (twoV subF xs ys) = none) : twoV addF ys (twoV subF xs ys) = xs := by
  have hl := (matAns_none h).1
  apply getD_eq_of (by rw [twoV_len k, hl])
  intro j hj
  rw [twoV_len k] at hj
  rw [twoV_at k hj, twoV_at h (by omega)]
  unfold addF subF
  rw [show ys.getD j 0 + (xs.getD j 0 - ys.getD j 0) = xs.getD j 0 by omega]
  exact clip_id (hw.at (get_of_lt (by omega)))
theorem far_no {zs : List Int} (h : ∀ x ∈ zs, -1048576 ≤ x ∧ x ≤ 1048576) : zs.any farB = false := by
  rw [Bool.eq_false_iff]
  intro ht
  obtain ⟨x, hx, hp⟩ := List.any_eq_true.1 ht
  have := h x hx
  unfold farB at hp
  simp at hp
  omega
theorem matAns_ok {xs ys : List Int} (hl : xs.length = ys.length) (h : ∀ x ∈ xs, -1048576 ≤ x ∧ x ≤ 1048576) (k : ∀ x ∈ ys, -1048576 ≤ x ∧ x ≤ 1048576) : matAns xs ys = none := by
  unfold matAns
  rw [if_pos hl, if_neg]
  rw [far_no h, far_no k]
  decide
theorem addsub_err {xs ys : List Int} {f : List (ByteArray × Int) × Int} (h : matAns xs ys = none) (hw : within 0 255 xs) (k : matAns ys (twoV subF xs ys) = some f) : ¬ within 0 255 ys := by
  intro hy
  have hl := (matAns_none h).1
  rw [matAns_ok (by rw [twoV_len h, hl]) (fun x hx => by have := hy x hx; omega) (fun x hx => ?_)] at k
  · cases k
  · obtain ⟨j, hj, rfl⟩ := List.mem_iff_getElem.1 hx
    rw [twoV_len h] at hj
    have e : (twoV subF xs ys)[j]? = some (subF (xs.getD j 0) (ys.getD j 0)) := by rw [get_of_lt (by rw [twoV_len h]; exact hj), twoV_at h hj]
    rw [List.getElem?_eq_getElem (by rw [twoV_len h]; exact hj)] at e
    rw [Option.some.inj e]
    have a1 := hw.at (get_of_lt hj)
    have a2 := hy.at (get_of_lt (by omega : j < ys.length))
    unfold subF
    omega
theorem subself {xs : List Int} (h : matAns xs xs = none) : (!(twoV subF xs xs).any nzB) = true := by
  rw [any_no (fun j x hj hx => ?_)]
  · rfl
  · rw [twoV_len h] at hj
    have := getD_of_get hx
    rw [twoV_at h hj] at this
    unfold subF at this
    unfold nzB
    simp
    omega
theorem self_none {xs ys : List Int} (h : matAns xs ys = none) : matAns xs xs = none := matAns_trans h (by rw [matAns_comm]; exact h)

set_option maxHeartbeats 2000000 in
set_option maxRecDepth 20000 in
theorem back_long (a b : Option Addr) (n m ca cb : Nat) (w : World) (hg : EtIs w) (hl : 5000 < n ∨ ¬ 5000 < n ∧ 5000 < m) :
    Calls Tryd.prog 12 #[.slice a n ca, .slice b m cb] w fun e w' => e = .returned (.bool true) ∧ Ext w w' := by
  rcases hl with h1 | ⟨h1, h2⟩
  all_goals
    go_enter Tryd.func12, Tryd.ntmps12
    go_wp2_with fail
    refine (first7_any _ hg).mono ?_; rintro e w1 ⟨rfl, hx1⟩
    go_wp2_with fail
    refine (first7_any _ (hg.ext (by repeat (first | exact Ext.refl _ | assumption | refine Ext.alloc ?_ _ | refine Ext.drew ?_ | refine Ext.drewN ?_ _ | refine Ext.setCell ?_ (by first | exact Nat.le_refl _ | (simp; done) | omega) _ | refine Ext.trans ?_ (by assumption))))).mono ?_; rintro e w2 ⟨rfl, hx2⟩
    go_wp2
    go_ret
    exact ⟨rfl, (by repeat (first | exact Ext.refl _ | assumption | refine Ext.alloc ?_ _ | refine Ext.drew ?_ | refine Ext.drewN ?_ _ | refine Ext.setCell ?_ (by first | exact Nat.le_refl _ | (simp; done) | omega) _ | refine Ext.trans ?_ (by assumption)))⟩
set_option maxHeartbeats 4000000 in
set_option maxRecDepth 20000 in
theorem back_walk1 (xs ys : List Int) (QL : List (List Int)) (f1 f2 : Fall) (qf : List (ByteArray × Int) × Int) (wa : Bool) (S A Z : List Int) (a b : Option Addr) (n m ca cb : Nat) (w : World) (hg : EtIs w) (ha : Ints w (.slice a 64 ca) xs) (hb : Ints w (.slice b m cb) ys) (h1 : ¬ 5000 < n) (h2 : ¬ 5000 < m) (hn : ((n : Int) == 64) = false)
    (cq : Hid (∀ v W, Ints W v xs → Calls Tryd.prog 46 #[v] W (MPost W QL (none))))
    (cw : Hid ((none : Fall) = none → ∀ v W, Mat W v QL → Calls Tryd.prog 48 #[v] W (ZPost W xs none)))
    (cs : Hid (∀ v u W, Ints W v xs → Ints W u ys → Calls Tryd.prog 40 #[v, u] W (ZPost W S f1)))
    (ci : Hid (∀ v W, Ints W v xs → Calls Tryd.prog 55 #[v, .int .i64 0, .int .i64 255] W fun e w' => e = .returned (.bool wa) ∧ Ext W w'))
    (ca2 : Hid (∀ v u W, Ints W v ys → Ints W u S → Calls Tryd.prog 42 #[v, u] W (ZPost W A f2)))
    (cs2 : Hid (∀ v u W, Ints W v xs → Ints W u xs → f1 = none → Calls Tryd.prog 40 #[v, u] W (ZPost W Z none)))
    (cz : Hid (∀ v W, Ints W v Z → f1 = none → Calls Tryd.prog 51 #[v] W fun e w' => e = .returned (.bool true) ∧ W = w'))
    (k1 : f1 = none → wa = true → f2 ≠ none → ¬ within 0 255 ys) (k2 : f1 = none → wa = true → f2 = none → xs = A) :
    Calls Tryd.prog 12 #[.slice a 64 ca, .slice b m cb] w fun e w' => e = .returned (.bool true) ∧ Ext w w' := by
  cases f1 with
  | some f1 =>
    clear k1 k2 cs2 cz
    have CW := Lib.hid (cw.out rfl)
    clear hn cw
    go_enter Tryd.func12, Tryd.ntmps12
    go_wp2_with fail
    refine (first7_any _ hg).mono ?_; rintro e w1 ⟨rfl, hx1⟩
    go_wp2_with fail
    refine (cq.out _ _ (ha.ext (by repeat (first | exact Ext.refl _ | assumption | refine Ext.alloc ?_ _ | refine Ext.drew ?_ | refine Ext.drewN ?_ _ | refine Ext.setCell ?_ (by first | exact Nat.le_refl _ | (simp; done) | omega) _ | refine Ext.trans ?_ (by assumption))))).mono ?_; rintro e w2 ⟨u2, x2, rfl, hx2, hm2, he2⟩
    obtain rfl : x2 = .nilIface := he2
    obtain ⟨a2, c2, rfl⟩ := hm2.form
    go_wp2_with fail
    refine (CW.out _ _ (hm2.ext (by repeat (first | exact Ext.refl _ | assumption | refine Ext.alloc ?_ _ | refine Ext.drew ?_ | refine Ext.drewN ?_ _ | refine Ext.setCell ?_ (by first | exact Nat.le_refl _ | (simp; done) | omega) _ | refine Ext.trans ?_ (by assumption))))).mono ?_; rintro e w3 ⟨u3, x3, rfl, hx3, hz3, he3⟩
    obtain rfl : x3 = .nilIface := he3
    go_wp2_with fail
    refine (ints_same xs xs _ _ _ (hz3.ext (by repeat (first | exact Ext.refl _ | assumption | refine Ext.alloc ?_ _ | refine Ext.drew ?_ | refine Ext.drewN ?_ _ | refine Ext.setCell ?_ (by first | exact Nat.le_refl _ | (simp; done) | omega) _ | refine Ext.trans ?_ (by assumption)))) (ha.ext (by repeat (first | exact Ext.refl _ | assumption | refine Ext.alloc ?_ _ | refine Ext.drew ?_ | refine Ext.drewN ?_ _ | refine Ext.setCell ?_ (by first | exact Nat.le_refl _ | (simp; done) | omega) _ | refine Ext.trans ?_ (by assumption))))).mono ?_; rintro e w4 ⟨rfl, hx4⟩
    rw [decide_eq_true rfl]
    go_wp2_with fail
    refine (cs.out _ _ _ (ha.ext (by repeat (first | exact Ext.refl _ | assumption | refine Ext.alloc ?_ _ | refine Ext.drew ?_ | refine Ext.drewN ?_ _ | refine Ext.setCell ?_ (by first | exact Nat.le_refl _ | (simp; done) | omega) _ | refine Ext.trans ?_ (by assumption)))) (hb.ext (by repeat (first | exact Ext.refl _ | assumption | refine Ext.alloc ?_ _ | refine Ext.drew ?_ | refine Ext.drewN ?_ _ | refine Ext.setCell ?_ (by first | exact Nat.le_refl _ | (simp; done) | omega) _ | refine Ext.trans ?_ (by assumption))))).mono ?_; rintro e w5 ⟨u5, x5, rfl, hx5, hz5, he5⟩
    obtain ⟨t5, y5, rfl⟩ := he5.ne
    go_wp2_with fail
    refine (first7_any _ (hg.ext (by repeat (first | exact Ext.refl _ | assumption | refine Ext.alloc ?_ _ | refine Ext.drew ?_ | refine Ext.drewN ?_ _ | refine Ext.setCell ?_ (by first | exact Nat.le_refl _ | (simp; done) | omega) _ | refine Ext.trans ?_ (by assumption))))).mono ?_; rintro e w6 ⟨rfl, hx6⟩
    go_wp2
    go_ret
    exact ⟨rfl, (by repeat (first | exact Ext.refl _ | assumption | refine Ext.alloc ?_ _ | refine Ext.drew ?_ | refine Ext.drewN ?_ _ | refine Ext.setCell ?_ (by first | exact Nat.le_refl _ | (simp; done) | omega) _ | refine Ext.trans ?_ (by assumption)))⟩
  | none =>
    cases wa with
    | false =>
      clear k1 k2 cs2 cz
      have CW := Lib.hid (cw.out rfl)
      clear hn cw
      go_enter Tryd.func12, Tryd.ntmps12
      go_wp2_with fail
      refine (first7_any _ hg).mono ?_; rintro e w1 ⟨rfl, hx1⟩
      go_wp2_with fail
      refine (cq.out _ _ (ha.ext (by repeat (first | exact Ext.refl _ | assumption | refine Ext.alloc ?_ _ | refine Ext.drew ?_ | refine Ext.drewN ?_ _ | refine Ext.setCell ?_ (by first | exact Nat.le_refl _ | (simp; done) | omega) _ | refine Ext.trans ?_ (by assumption))))).mono ?_; rintro e w2 ⟨u2, x2, rfl, hx2, hm2, he2⟩
      obtain rfl : x2 = .nilIface := he2
      obtain ⟨a2, c2, rfl⟩ := hm2.form
      go_wp2_with fail
      refine (CW.out _ _ (hm2.ext (by repeat (first | exact Ext.refl _ | assumption | refine Ext.alloc ?_ _ | refine Ext.drew ?_ | refine Ext.drewN ?_ _ | refine Ext.setCell ?_ (by first | exact Nat.le_refl _ | (simp; done) | omega) _ | refine Ext.trans ?_ (by assumption))))).mono ?_; rintro e w3 ⟨u3, x3, rfl, hx3, hz3, he3⟩
      obtain rfl : x3 = .nilIface := he3
      go_wp2_with fail
      refine (ints_same xs xs _ _ _ (hz3.ext (by repeat (first | exact Ext.refl _ | assumption | refine Ext.alloc ?_ _ | refine Ext.drew ?_ | refine Ext.drewN ?_ _ | refine Ext.setCell ?_ (by first | exact Nat.le_refl _ | (simp; done) | omega) _ | refine Ext.trans ?_ (by assumption)))) (ha.ext (by repeat (first | exact Ext.refl _ | assumption | refine Ext.alloc ?_ _ | refine Ext.drew ?_ | refine Ext.drewN ?_ _ | refine Ext.setCell ?_ (by first | exact Nat.le_refl _ | (simp; done) | omega) _ | refine Ext.trans ?_ (by assumption))))).mono ?_; rintro e w4 ⟨rfl, hx4⟩
      rw [decide_eq_true rfl]
      go_wp2_with fail
      refine (cs.out _ _ _ (ha.ext (by repeat (first | exact Ext.refl _ | assumption | refine Ext.alloc ?_ _ | refine Ext.drew ?_ | refine Ext.drewN ?_ _ | refine Ext.setCell ?_ (by first | exact Nat.le_refl _ | (simp; done) | omega) _ | refine Ext.trans ?_ (by assumption)))) (hb.ext (by repeat (first | exact Ext.refl _ | assumption | refine Ext.alloc ?_ _ | refine Ext.drew ?_ | refine Ext.drewN ?_ _ | refine Ext.setCell ?_ (by first | exact Nat.le_refl _ | (simp; done) | omega) _ | refine Ext.trans ?_ (by assumption))))).mono ?_; rintro e w5 ⟨u5, x5, rfl, hx5, hz5, he5⟩
      obtain rfl : x5 = .nilIface := he5
      go_wp2_with fail
      refine (ci.out _ _ (ha.ext (by repeat (first | exact Ext.refl _ | assumption | refine Ext.alloc ?_ _ | refine Ext.drew ?_ | refine Ext.drewN ?_ _ | refine Ext.setCell ?_ (by first | exact Nat.le_refl _ | (simp; done) | omega) _ | refine Ext.trans ?_ (by assumption))))).mono ?_; rintro e w6 ⟨rfl, hx6⟩
      go_wp2_with fail
      refine (first7_any _ (hg.ext (by repeat (first | exact Ext.refl _ | assumption | refine Ext.alloc ?_ _ | refine Ext.drew ?_ | refine Ext.drewN ?_ _ | refine Ext.setCell ?_ (by first | exact Nat.le_refl _ | (simp; done) | omega) _ | refine Ext.trans ?_ (by assumption))))).mono ?_; rintro e w7 ⟨rfl, hx7⟩
      go_wp2
      go_ret
      exact ⟨rfl, (by repeat (first | exact Ext.refl _ | assumption | refine Ext.alloc ?_ _ | refine Ext.drew ?_ | refine Ext.drewN ?_ _ | refine Ext.setCell ?_ (by first | exact Nat.le_refl _ | (simp; done) | omega) _ | refine Ext.trans ?_ (by assumption)))⟩
    | true =>
      cases f2 with
      | some f2 =>
        have HWB := Lib.hid (k1 rfl rfl (by simp))
        clear k1 k2 cs2 cz
        have CW := Lib.hid (cw.out rfl)
        clear hn cw
        go_enter Tryd.func12, Tryd.ntmps12
        go_wp2_with fail
        refine (first7_any _ hg).mono ?_; rintro e w1 ⟨rfl, hx1⟩
        go_wp2_with fail
        refine (cq.out _ _ (ha.ext (by repeat (first | exact Ext.refl _ | assumption | refine Ext.alloc ?_ _ | refine Ext.drew ?_ | refine Ext.drewN ?_ _ | refine Ext.setCell ?_ (by first | exact Nat.le_refl _ | (simp; done) | omega) _ | refine Ext.trans ?_ (by assumption))))).mono ?_; rintro e w2 ⟨u2, x2, rfl, hx2, hm2, he2⟩
        obtain rfl : x2 = .nilIface := he2
        obtain ⟨a2, c2, rfl⟩ := hm2.form
        go_wp2_with fail
        refine (CW.out _ _ (hm2.ext (by repeat (first | exact Ext.refl _ | assumption | refine Ext.alloc ?_ _ | refine Ext.drew ?_ | refine Ext.drewN ?_ _ | refine Ext.setCell ?_ (by first | exact Nat.le_refl _ | (simp; done) | omega) _ | refine Ext.trans ?_ (by assumption))))).mono ?_; rintro e w3 ⟨u3, x3, rfl, hx3, hz3, he3⟩
        obtain rfl : x3 = .nilIface := he3
        go_wp2_with fail
        refine (ints_same xs xs _ _ _ (hz3.ext (by repeat (first | exact Ext.refl _ | assumption | refine Ext.alloc ?_ _ | refine Ext.drew ?_ | refine Ext.drewN ?_ _ | refine Ext.setCell ?_ (by first | exact Nat.le_refl _ | (simp; done) | omega) _ | refine Ext.trans ?_ (by assumption)))) (ha.ext (by repeat (first | exact Ext.refl _ | assumption | refine Ext.alloc ?_ _ | refine Ext.drew ?_ | refine Ext.drewN ?_ _ | refine Ext.setCell ?_ (by first | exact Nat.le_refl _ | (simp; done) | omega) _ | refine Ext.trans ?_ (by assumption))))).mono ?_; rintro e w4 ⟨rfl, hx4⟩
        rw [decide_eq_true rfl]
        go_wp2_with fail
        refine (cs.out _ _ _ (ha.ext (by repeat (first | exact Ext.refl _ | assumption | refine Ext.alloc ?_ _ | refine Ext.drew ?_ | refine Ext.drewN ?_ _ | refine Ext.setCell ?_ (by first | exact Nat.le_refl _ | (simp; done) | omega) _ | refine Ext.trans ?_ (by assumption)))) (hb.ext (by repeat (first | exact Ext.refl _ | assumption | refine Ext.alloc ?_ _ | refine Ext.drew ?_ | refine Ext.drewN ?_ _ | refine Ext.setCell ?_ (by first | exact Nat.le_refl _ | (simp; done) | omega) _ | refine Ext.trans ?_ (by assumption))))).mono ?_; rintro e w5 ⟨u5, x5, rfl, hx5, hz5, he5⟩
        obtain rfl : x5 = .nilIface := he5
        go_wp2_with fail
        refine (ci.out _ _ (ha.ext (by repeat (first | exact Ext.refl _ | assumption | refine Ext.alloc ?_ _ | refine Ext.drew ?_ | refine Ext.drewN ?_ _ | refine Ext.setCell ?_ (by first | exact Nat.le_refl _ | (simp; done) | omega) _ | refine Ext.trans ?_ (by assumption))))).mono ?_; rintro e w6 ⟨rfl, hx6⟩
        go_wp2_with fail
        refine (ca2.out _ _ _ (hb.ext (by repeat (first | exact Ext.refl _ | assumption | refine Ext.alloc ?_ _ | refine Ext.drew ?_ | refine Ext.drewN ?_ _ | refine Ext.setCell ?_ (by first | exact Nat.le_refl _ | (simp; done) | omega) _ | refine Ext.trans ?_ (by assumption)))) (hz5.ext (by repeat (first | exact Ext.refl _ | assumption | refine Ext.alloc ?_ _ | refine Ext.drew ?_ | refine Ext.drewN ?_ _ | refine Ext.setCell ?_ (by first | exact Nat.le_refl _ | (simp; done) | omega) _ | refine Ext.trans ?_ (by assumption))))).mono ?_; rintro e w7 ⟨u7, x7, rfl, hx7, hz7, he7⟩
        obtain ⟨t7, y7, rfl⟩ := he7.ne
        go_wp2_with fail
        refine (first7_any _ (hg.ext (by repeat (first | exact Ext.refl _ | assumption | refine Ext.alloc ?_ _ | refine Ext.drew ?_ | refine Ext.drewN ?_ _ | refine Ext.setCell ?_ (by first | exact Nat.le_refl _ | (simp; done) | omega) _ | refine Ext.trans ?_ (by assumption))))).mono ?_; rintro e w8 ⟨rfl, hx8⟩
        go_wp2_with fail
        refine (within_any ys 0 255 _ _ (hb.ext (by repeat (first | exact Ext.refl _ | assumption | refine Ext.alloc ?_ _ | refine Ext.drew ?_ | refine Ext.drewN ?_ _ | refine Ext.setCell ?_ (by first | exact Nat.le_refl _ | (simp; done) | omega) _ | refine Ext.trans ?_ (by assumption))))).mono ?_; rintro e w9 ⟨rfl, hx9⟩
        rw [decide_eq_false HWB.out]
        go_wp2
        go_ret
        exact ⟨rfl, (by repeat (first | exact Ext.refl _ | assumption | refine Ext.alloc ?_ _ | refine Ext.drew ?_ | refine Ext.drewN ?_ _ | refine Ext.setCell ?_ (by first | exact Nat.le_refl _ | (simp; done) | omega) _ | refine Ext.trans ?_ (by assumption)))⟩
      | none =>
        obtain rfl := k2 rfl rfl rfl
        have CS2 := Lib.hid (fun v u W h k => cs2.out v u W h k rfl)
        have CZ := Lib.hid (fun v W h => cz.out v W h rfl)
        clear k1 k2 cs2 cz
        have CW := Lib.hid (cw.out rfl)
        clear hn cw
        go_enter Tryd.func12, Tryd.ntmps12
        go_wp2_with fail
        refine (first7_any _ hg).mono ?_; rintro e w1 ⟨rfl, hx1⟩
        go_wp2_with fail
        refine (cq.out _ _ (ha.ext (by repeat (first | exact Ext.refl _ | assumption | refine Ext.alloc ?_ _ | refine Ext.drew ?_ | refine Ext.drewN ?_ _ | refine Ext.setCell ?_ (by first | exact Nat.le_refl _ | (simp; done) | omega) _ | refine Ext.trans ?_ (by assumption))))).mono ?_; rintro e w2 ⟨u2, x2, rfl, hx2, hm2, he2⟩
        obtain rfl : x2 = .nilIface := he2
        obtain ⟨a2, c2, rfl⟩ := hm2.form
        go_wp2_with fail
        refine (CW.out _ _ (hm2.ext (by repeat (first | exact Ext.refl _ | assumption | refine Ext.alloc ?_ _ | refine Ext.drew ?_ | refine Ext.drewN ?_ _ | refine Ext.setCell ?_ (by first | exact Nat.le_refl _ | (simp; done) | omega) _ | refine Ext.trans ?_ (by assumption))))).mono ?_; rintro e w3 ⟨u3, x3, rfl, hx3, hz3, he3⟩
        obtain rfl : x3 = .nilIface := he3
        go_wp2_with fail
        refine (ints_same xs xs _ _ _ (hz3.ext (by repeat (first | exact Ext.refl _ | assumption | refine Ext.alloc ?_ _ | refine Ext.drew ?_ | refine Ext.drewN ?_ _ | refine Ext.setCell ?_ (by first | exact Nat.le_refl _ | (simp; done) | omega) _ | refine Ext.trans ?_ (by assumption)))) (ha.ext (by repeat (first | exact Ext.refl _ | assumption | refine Ext.alloc ?_ _ | refine Ext.drew ?_ | refine Ext.drewN ?_ _ | refine Ext.setCell ?_ (by first | exact Nat.le_refl _ | (simp; done) | omega) _ | refine Ext.trans ?_ (by assumption))))).mono ?_; rintro e w4 ⟨rfl, hx4⟩
        rw [decide_eq_true rfl]
        go_wp2_with fail
        refine (cs.out _ _ _ (ha.ext (by repeat (first | exact Ext.refl _ | assumption | refine Ext.alloc ?_ _ | refine Ext.drew ?_ | refine Ext.drewN ?_ _ | refine Ext.setCell ?_ (by first | exact Nat.le_refl _ | (simp; done) | omega) _ | refine Ext.trans ?_ (by assumption)))) (hb.ext (by repeat (first | exact Ext.refl _ | assumption | refine Ext.alloc ?_ _ | refine Ext.drew ?_ | refine Ext.drewN ?_ _ | refine Ext.setCell ?_ (by first | exact Nat.le_refl _ | (simp; done) | omega) _ | refine Ext.trans ?_ (by assumption))))).mono ?_; rintro e w5 ⟨u5, x5, rfl, hx5, hz5, he5⟩
        obtain rfl : x5 = .nilIface := he5
        go_wp2_with fail
        refine (ci.out _ _ (ha.ext (by repeat (first | exact Ext.refl _ | assumption | refine Ext.alloc ?_ _ | refine Ext.drew ?_ | refine Ext.drewN ?_ _ | refine Ext.setCell ?_ (by first | exact Nat.le_refl _ | (simp; done) | omega) _ | refine Ext.trans ?_ (by assumption))))).mono ?_; rintro e w6 ⟨rfl, hx6⟩
        go_wp2_with fail
        refine (ca2.out _ _ _ (hb.ext (by repeat (first | exact Ext.refl _ | assumption | refine Ext.alloc ?_ _ | refine Ext.drew ?_ | refine Ext.drewN ?_ _ | refine Ext.setCell ?_ (by first | exact Nat.le_refl _ | (simp; done) | omega) _ | refine Ext.trans ?_ (by assumption)))) (hz5.ext (by repeat (first | exact Ext.refl _ | assumption | refine Ext.alloc ?_ _ | refine Ext.drew ?_ | refine Ext.drewN ?_ _ | refine Ext.setCell ?_ (by first | exact Nat.le_refl _ | (simp; done) | omega) _ | refine Ext.trans ?_ (by assumption))))).mono ?_; rintro e w7 ⟨u7, x7, rfl, hx7, hz7, he7⟩
        obtain rfl : x7 = .nilIface := he7
        go_wp2_with fail
        refine (CS2.out _ _ _ (ha.ext (by repeat (first | exact Ext.refl _ | assumption | refine Ext.alloc ?_ _ | refine Ext.drew ?_ | refine Ext.drewN ?_ _ | refine Ext.setCell ?_ (by first | exact Nat.le_refl _ | (simp; done) | omega) _ | refine Ext.trans ?_ (by assumption)))) (ha.ext (by repeat (first | exact Ext.refl _ | assumption | refine Ext.alloc ?_ _ | refine Ext.drew ?_ | refine Ext.drewN ?_ _ | refine Ext.setCell ?_ (by first | exact Nat.le_refl _ | (simp; done) | omega) _ | refine Ext.trans ?_ (by assumption))))).mono ?_; rintro e w8 ⟨u8, x8, rfl, hx8, hz8, he8⟩
        obtain rfl : x8 = .nilIface := he8
        go_wp2_with fail
        refine (first7_any _ (hg.ext (by repeat (first | exact Ext.refl _ | assumption | refine Ext.alloc ?_ _ | refine Ext.drew ?_ | refine Ext.drewN ?_ _ | refine Ext.setCell ?_ (by first | exact Nat.le_refl _ | (simp; done) | omega) _ | refine Ext.trans ?_ (by assumption))))).mono ?_; rintro e w9 ⟨rfl, hx9⟩
        go_wp2_with fail
        refine (ints_same xs xs _ _ _ (hz7.ext (by repeat (first | exact Ext.refl _ | assumption | refine Ext.alloc ?_ _ | refine Ext.drew ?_ | refine Ext.drewN ?_ _ | refine Ext.setCell ?_ (by first | exact Nat.le_refl _ | (simp; done) | omega) _ | refine Ext.trans ?_ (by assumption)))) (ha.ext (by repeat (first | exact Ext.refl _ | assumption | refine Ext.alloc ?_ _ | refine Ext.drew ?_ | refine Ext.drewN ?_ _ | refine Ext.setCell ?_ (by first | exact Nat.le_refl _ | (simp; done) | omega) _ | refine Ext.trans ?_ (by assumption))))).mono ?_; rintro e w10 ⟨rfl, hx10⟩
        rw [decide_eq_true rfl]
        go_wp2_with fail
        refine (CZ.out _ _ (hz8.ext (by repeat (first | exact Ext.refl _ | assumption | refine Ext.alloc ?_ _ | refine Ext.drew ?_ | refine Ext.drewN ?_ _ | refine Ext.setCell ?_ (by first | exact Nat.le_refl _ | (simp; done) | omega) _ | refine Ext.trans ?_ (by assumption))))).mono ?_; rintro e w11 ⟨rfl, rfl⟩
        go_wp2
        go_ret
        exact ⟨rfl, (by repeat (first | exact Ext.refl _ | assumption | refine Ext.alloc ?_ _ | refine Ext.drew ?_ | refine Ext.drewN ?_ _ | refine Ext.setCell ?_ (by first | exact Nat.le_refl _ | (simp; done) | omega) _ | refine Ext.trans ?_ (by assumption)))⟩
set_option maxHeartbeats 4000000 in
set_option maxRecDepth 20000 in
theorem back_walk2 (xs ys : List Int) (QL : List (List Int)) (f1 f2 : Fall) (qf : List (ByteArray × Int) × Int) (wa : Bool) (S A Z : List Int) (a b : Option Addr) (n m ca cb : Nat) (w : World) (hg : EtIs w) (ha : Ints w (.slice a n ca) xs) (hb : Ints w (.slice b m cb) ys) (h1 : ¬ 5000 < n) (h2 : ¬ 5000 < m) (hn : ((n : Int) == 64) = false)
    (cq : Hid (∀ v W, Ints W v xs → Calls Tryd.prog 46 #[v] W (MPost W QL (some qf))))
    (cw : Hid ((some qf : Fall) = none → ∀ v W, Mat W v QL → Calls Tryd.prog 48 #[v] W (ZPost W xs none)))
    (cs : Hid (∀ v u W, Ints W v xs → Ints W u ys → Calls Tryd.prog 40 #[v, u] W (ZPost W S f1)))
    (ci : Hid (∀ v W, Ints W v xs → Calls Tryd.prog 55 #[v, .int .i64 0, .int .i64 255] W fun e w' => e = .returned (.bool wa) ∧ Ext W w'))
    (ca2 : Hid (∀ v u W, Ints W v ys → Ints W u S → Calls Tryd.prog 42 #[v, u] W (ZPost W A f2)))
    (cs2 : Hid (∀ v u W, Ints W v xs → Ints W u xs → f1 = none → Calls Tryd.prog 40 #[v, u] W (ZPost W Z none)))
    (cz : Hid (∀ v W, Ints W v Z → f1 = none → Calls Tryd.prog 51 #[v] W fun e w' => e = .returned (.bool true) ∧ W = w'))
    (k1 : f1 = none → wa = true → f2 ≠ none → ¬ within 0 255 ys) (k2 : f1 = none → wa = true → f2 = none → xs = A) :
    Calls Tryd.prog 12 #[.slice a n ca, .slice b m cb] w fun e w' => e = .returned (.bool true) ∧ Ext w w' := by
  cases f1 with
  | some f1 =>
    clear k1 k2 cs2 cz
    go_enter Tryd.func12, Tryd.ntmps12
    go_wp2_with fail
    refine (first7_any _ hg).mono ?_; rintro e w1 ⟨rfl, hx1⟩
    go_wp2_with fail
    refine (cq.out _ _ (ha.ext (by repeat (first | exact Ext.refl _ | assumption | refine Ext.alloc ?_ _ | refine Ext.drew ?_ | refine Ext.drewN ?_ _ | refine Ext.setCell ?_ (by first | exact Nat.le_refl _ | (simp; done) | omega) _ | refine Ext.trans ?_ (by assumption))))).mono ?_; rintro e w2 ⟨u2, x2, rfl, hx2, hm2, he2⟩
    obtain ⟨t2, y2, rfl⟩ := he2.ne
    go_wp2_with fail
    refine (cs.out _ _ _ (ha.ext (by repeat (first | exact Ext.refl _ | assumption | refine Ext.alloc ?_ _ | refine Ext.drew ?_ | refine Ext.drewN ?_ _ | refine Ext.setCell ?_ (by first | exact Nat.le_refl _ | (simp; done) | omega) _ | refine Ext.trans ?_ (by assumption)))) (hb.ext (by repeat (first | exact Ext.refl _ | assumption | refine Ext.alloc ?_ _ | refine Ext.drew ?_ | refine Ext.drewN ?_ _ | refine Ext.setCell ?_ (by first | exact Nat.le_refl _ | (simp; done) | omega) _ | refine Ext.trans ?_ (by assumption))))).mono ?_; rintro e w5 ⟨u5, x5, rfl, hx5, hz5, he5⟩
    obtain ⟨t5, y5, rfl⟩ := he5.ne
    go_wp2_with fail
    refine (first7_any _ (hg.ext (by repeat (first | exact Ext.refl _ | assumption | refine Ext.alloc ?_ _ | refine Ext.drew ?_ | refine Ext.drewN ?_ _ | refine Ext.setCell ?_ (by first | exact Nat.le_refl _ | (simp; done) | omega) _ | refine Ext.trans ?_ (by assumption))))).mono ?_; rintro e w6 ⟨rfl, hx6⟩
    go_wp2
    go_ret
    exact ⟨rfl, (by repeat (first | exact Ext.refl _ | assumption | refine Ext.alloc ?_ _ | refine Ext.drew ?_ | refine Ext.drewN ?_ _ | refine Ext.setCell ?_ (by first | exact Nat.le_refl _ | (simp; done) | omega) _ | refine Ext.trans ?_ (by assumption)))⟩
  | none =>
    cases wa with
    | false =>
      clear k1 k2 cs2 cz
      go_enter Tryd.func12, Tryd.ntmps12
      go_wp2_with fail
      refine (first7_any _ hg).mono ?_; rintro e w1 ⟨rfl, hx1⟩
      go_wp2_with fail
      refine (cq.out _ _ (ha.ext (by repeat (first | exact Ext.refl _ | assumption | refine Ext.alloc ?_ _ | refine Ext.drew ?_ | refine Ext.drewN ?_ _ | refine Ext.setCell ?_ (by first | exact Nat.le_refl _ | (simp; done) | omega) _ | refine Ext.trans ?_ (by assumption))))).mono ?_; rintro e w2 ⟨u2, x2, rfl, hx2, hm2, he2⟩
      obtain ⟨t2, y2, rfl⟩ := he2.ne
      go_wp2_with fail
      refine (cs.out _ _ _ (ha.ext (by repeat (first | exact Ext.refl _ | assumption | refine Ext.alloc ?_ _ | refine Ext.drew ?_ | refine Ext.drewN ?_ _ | refine Ext.setCell ?_ (by first | exact Nat.le_refl _ | (simp; done) | omega) _ | refine Ext.trans ?_ (by assumption)))) (hb.ext (by repeat (first | exact Ext.refl _ | assumption | refine Ext.alloc ?_ _ | refine Ext.drew ?_ | refine Ext.drewN ?_ _ | refine Ext.setCell ?_ (by first | exact Nat.le_refl _ | (simp; done) | omega) _ | refine Ext.trans ?_ (by assumption))))).mono ?_; rintro e w5 ⟨u5, x5, rfl, hx5, hz5, he5⟩
      obtain rfl : x5 = .nilIface := he5
      go_wp2_with fail
      refine (ci.out _ _ (ha.ext (by repeat (first | exact Ext.refl _ | assumption | refine Ext.alloc ?_ _ | refine Ext.drew ?_ | refine Ext.drewN ?_ _ | refine Ext.setCell ?_ (by first | exact Nat.le_refl _ | (simp; done) | omega) _ | refine Ext.trans ?_ (by assumption))))).mono ?_; rintro e w6 ⟨rfl, hx6⟩
      go_wp2_with fail
      refine (first7_any _ (hg.ext (by repeat (first | exact Ext.refl _ | assumption | refine Ext.alloc ?_ _ | refine Ext.drew ?_ | refine Ext.drewN ?_ _ | refine Ext.setCell ?_ (by first | exact Nat.le_refl _ | (simp; done) | omega) _ | refine Ext.trans ?_ (by assumption))))).mono ?_; rintro e w7 ⟨rfl, hx7⟩
      go_wp2
      go_ret
      exact ⟨rfl, (by repeat (first | exact Ext.refl _ | assumption | refine Ext.alloc ?_ _ | refine Ext.drew ?_ | refine Ext.drewN ?_ _ | refine Ext.setCell ?_ (by first | exact Nat.le_refl _ | (simp; done) | omega) _ | refine Ext.trans ?_ (by assumption)))⟩
    | true =>
      cases f2 with
      | some f2 =>
        have HWB := Lib.hid (k1 rfl rfl (by simp))
        clear k1 k2 cs2 cz
        go_enter Tryd.func12, Tryd.ntmps12
        go_wp2_with fail
        refine (first7_any _ hg).mono ?_; rintro e w1 ⟨rfl, hx1⟩
        go_wp2_with fail
        refine (cq.out _ _ (ha.ext (by repeat (first | exact Ext.refl _ | assumption | refine Ext.alloc ?_ _ | refine Ext.drew ?_ | refine Ext.drewN ?_ _ | refine Ext.setCell ?_ (by first | exact Nat.le_refl _ | (simp; done) | omega) _ | refine Ext.trans ?_ (by assumption))))).mono ?_; rintro e w2 ⟨u2, x2, rfl, hx2, hm2, he2⟩
        obtain ⟨t2, y2, rfl⟩ := he2.ne
        go_wp2_with fail
        refine (cs.out _ _ _ (ha.ext (by repeat (first | exact Ext.refl _ | assumption | refine Ext.alloc ?_ _ | refine Ext.drew ?_ | refine Ext.drewN ?_ _ | refine Ext.setCell ?_ (by first | exact Nat.le_refl _ | (simp; done) | omega) _ | refine Ext.trans ?_ (by assumption)))) (hb.ext (by repeat (first | exact Ext.refl _ | assumption | refine Ext.alloc ?_ _ | refine Ext.drew ?_ | refine Ext.drewN ?_ _ | refine Ext.setCell ?_ (by first | exact Nat.le_refl _ | (simp; done) | omega) _ | refine Ext.trans ?_ (by assumption))))).mono ?_; rintro e w5 ⟨u5, x5, rfl, hx5, hz5, he5⟩
        obtain rfl : x5 = .nilIface := he5
        go_wp2_with fail
        refine (ci.out _ _ (ha.ext (by repeat (first | exact Ext.refl _ | assumption | refine Ext.alloc ?_ _ | refine Ext.drew ?_ | refine Ext.drewN ?_ _ | refine Ext.setCell ?_ (by first | exact Nat.le_refl _ | (simp; done) | omega) _ | refine Ext.trans ?_ (by assumption))))).mono ?_; rintro e w6 ⟨rfl, hx6⟩
        go_wp2_with fail
        refine (ca2.out _ _ _ (hb.ext (by repeat (first | exact Ext.refl _ | assumption | refine Ext.alloc ?_ _ | refine Ext.drew ?_ | refine Ext.drewN ?_ _ | refine Ext.setCell ?_ (by first | exact Nat.le_refl _ | (simp; done) | omega) _ | refine Ext.trans ?_ (by assumption)))) (hz5.ext (by repeat (first | exact Ext.refl _ | assumption | refine Ext.alloc ?_ _ | refine Ext.drew ?_ | refine Ext.drewN ?_ _ | refine Ext.setCell ?_ (by first | exact Nat.le_refl _ | (simp; done) | omega) _ | refine Ext.trans ?_ (by assumption))))).mono ?_; rintro e w7 ⟨u7, x7, rfl, hx7, hz7, he7⟩
        obtain ⟨t7, y7, rfl⟩ := he7.ne
        go_wp2_with fail
        refine (first7_any _ (hg.ext (by repeat (first | exact Ext.refl _ | assumption | refine Ext.alloc ?_ _ | refine Ext.drew ?_ | refine Ext.drewN ?_ _ | refine Ext.setCell ?_ (by first | exact Nat.le_refl _ | (simp; done) | omega) _ | refine Ext.trans ?_ (by assumption))))).mono ?_; rintro e w8 ⟨rfl, hx8⟩
        go_wp2_with fail
        refine (within_any ys 0 255 _ _ (hb.ext (by repeat (first | exact Ext.refl _ | assumption | refine Ext.alloc ?_ _ | refine Ext.drew ?_ | refine Ext.drewN ?_ _ | refine Ext.setCell ?_ (by first | exact Nat.le_refl _ | (simp; done) | omega) _ | refine Ext.trans ?_ (by assumption))))).mono ?_; rintro e w9 ⟨rfl, hx9⟩
        rw [decide_eq_false HWB.out]
        go_wp2
        go_ret
        exact ⟨rfl, (by repeat (first | exact Ext.refl _ | assumption | refine Ext.alloc ?_ _ | refine Ext.drew ?_ | refine Ext.drewN ?_ _ | refine Ext.setCell ?_ (by first | exact Nat.le_refl _ | (simp; done) | omega) _ | refine Ext.trans ?_ (by assumption)))⟩
      | none =>
        obtain rfl := k2 rfl rfl rfl
        have CS2 := Lib.hid (fun v u W h k => cs2.out v u W h k rfl)
        have CZ := Lib.hid (fun v W h => cz.out v W h rfl)
        clear k1 k2 cs2 cz
        go_enter Tryd.func12, Tryd.ntmps12
        go_wp2_with fail
        refine (first7_any _ hg).mono ?_; rintro e w1 ⟨rfl, hx1⟩
        go_wp2_with fail
        refine (cq.out _ _ (ha.ext (by repeat (first | exact Ext.refl _ | assumption | refine Ext.alloc ?_ _ | refine Ext.drew ?_ | refine Ext.drewN ?_ _ | refine Ext.setCell ?_ (by first | exact Nat.le_refl _ | (simp; done) | omega) _ | refine Ext.trans ?_ (by assumption))))).mono ?_; rintro e w2 ⟨u2, x2, rfl, hx2, hm2, he2⟩
        obtain ⟨t2, y2, rfl⟩ := he2.ne
        go_wp2_with fail
        refine (cs.out _ _ _ (ha.ext (by repeat (first | exact Ext.refl _ | assumption | refine Ext.alloc ?_ _ | refine Ext.drew ?_ | refine Ext.drewN ?_ _ | refine Ext.setCell ?_ (by first | exact Nat.le_refl _ | (simp; done) | omega) _ | refine Ext.trans ?_ (by assumption)))) (hb.ext (by repeat (first | exact Ext.refl _ | assumption | refine Ext.alloc ?_ _ | refine Ext.drew ?_ | refine Ext.drewN ?_ _ | refine Ext.setCell ?_ (by first | exact Nat.le_refl _ | (simp; done) | omega) _ | refine Ext.trans ?_ (by assumption))))).mono ?_; rintro e w5 ⟨u5, x5, rfl, hx5, hz5, he5⟩
        obtain rfl : x5 = .nilIface := he5
        go_wp2_with fail
        refine (ci.out _ _ (ha.ext (by repeat (first | exact Ext.refl _ | assumption | refine Ext.alloc ?_ _ | refine Ext.drew ?_ | refine Ext.drewN ?_ _ | refine Ext.setCell ?_ (by first | exact Nat.le_refl _ | (simp; done) | omega) _ | refine Ext.trans ?_ (by assumption))))).mono ?_; rintro e w6 ⟨rfl, hx6⟩
        go_wp2_with fail
        refine (ca2.out _ _ _ (hb.ext (by repeat (first | exact Ext.refl _ | assumption | refine Ext.alloc ?_ _ | refine Ext.drew ?_ | refine Ext.drewN ?_ _ | refine Ext.setCell ?_ (by first | exact Nat.le_refl _ | (simp; done) | omega) _ | refine Ext.trans ?_ (by assumption)))) (hz5.ext (by repeat (first | exact Ext.refl _ | assumption | refine Ext.alloc ?_ _ | refine Ext.drew ?_ | refine Ext.drewN ?_ _ | refine Ext.setCell ?_ (by first | exact Nat.le_refl _ | (simp; done) | omega) _ | refine Ext.trans ?_ (by assumption))))).mono ?_; rintro e w7 ⟨u7, x7, rfl, hx7, hz7, he7⟩
        obtain rfl : x7 = .nilIface := he7
        go_wp2_with fail
        refine (CS2.out _ _ _ (ha.ext (by repeat (first | exact Ext.refl _ | assumption | refine Ext.alloc ?_ _ | refine Ext.drew ?_ | refine Ext.drewN ?_ _ | refine Ext.setCell ?_ (by first | exact Nat.le_refl _ | (simp; done) | omega) _ | refine Ext.trans ?_ (by assumption)))) (ha.ext (by repeat (first | exact Ext.refl _ | assumption | refine Ext.alloc ?_ _ | refine Ext.drew ?_ | refine Ext.drewN ?_ _ | refine Ext.setCell ?_ (by first | exact Nat.le_refl _ | (simp; done) | omega) _ | refine Ext.trans ?_ (by assumption))))).mono ?_; rintro e w8 ⟨u8, x8, rfl, hx8, hz8, he8⟩
        obtain rfl : x8 = .nilIface := he8
        go_wp2_with fail
        refine (first7_any _ (hg.ext (by repeat (first | exact Ext.refl _ | assumption | refine Ext.alloc ?_ _ | refine Ext.drew ?_ | refine Ext.drewN ?_ _ | refine Ext.setCell ?_ (by first | exact Nat.le_refl _ | (simp; done) | omega) _ | refine Ext.trans ?_ (by assumption))))).mono ?_; rintro e w9 ⟨rfl, hx9⟩
        go_wp2_with fail
        refine (ints_same xs xs _ _ _ (hz7.ext (by repeat (first | exact Ext.refl _ | assumption | refine Ext.alloc ?_ _ | refine Ext.drew ?_ | refine Ext.drewN ?_ _ | refine Ext.setCell ?_ (by first | exact Nat.le_refl _ | (simp; done) | omega) _ | refine Ext.trans ?_ (by assumption)))) (ha.ext (by repeat (first | exact Ext.refl _ | assumption | refine Ext.alloc ?_ _ | refine Ext.drew ?_ | refine Ext.drewN ?_ _ | refine Ext.setCell ?_ (by first | exact Nat.le_refl _ | (simp; done) | omega) _ | refine Ext.trans ?_ (by assumption))))).mono ?_; rintro e w10 ⟨rfl, hx10⟩
        rw [decide_eq_true rfl]
        go_wp2_with fail
        refine (CZ.out _ _ (hz8.ext (by repeat (first | exact Ext.refl _ | assumption | refine Ext.alloc ?_ _ | refine Ext.drew ?_ | refine Ext.drewN ?_ _ | refine Ext.setCell ?_ (by first | exact Nat.le_refl _ | (simp; done) | omega) _ | refine Ext.trans ?_ (by assumption))))).mono ?_; rintro e w11 ⟨rfl, rfl⟩
        go_wp2
        go_ret
        exact ⟨rfl, (by repeat (first | exact Ext.refl _ | assumption | refine Ext.alloc ?_ _ | refine Ext.drew ?_ | refine Ext.drewN ?_ _ | refine Ext.setCell ?_ (by first | exact Nat.le_refl _ | (simp; done) | omega) _ | refine Ext.trans ?_ (by assumption)))⟩
theorem back_law (xs ys : List Int) (va vb : Value) (w : World) (hg : EtIs w) (hr : Row w va xs.length (xs.map (Value.int .i64))) (hs : Row w vb ys.length (ys.map (Value.int .i64))) :
    Calls Tryd.prog 12 #[va, vb] w fun e w' => e = .returned (.bool true) ∧ Ext w w' := by
  by_cases hl : 5000 < xs.length ∨ ¬ 5000 < xs.length ∧ 5000 < ys.length
  · obtain ⟨a, ca, rfl⟩ := hr.form
    obtain ⟨b, cb, rfl⟩ := hs.form
    exact back_long a b _ _ ca cb w hg hl
  · have h1 : ¬ 5000 < xs.length := by omega
    have h2 : ¬ 5000 < ys.length := by omega
    have ha : Ints w va xs := ⟨hr, by omega⟩
    have hb : Ints w vb ys := ⟨hs, by omega⟩
    obtain ⟨a, ca, rfl⟩ := ha.form
    obtain ⟨b, cb, rfl⟩ := hb.form
    have c2 := fun v u W (h : Ints W v xs) (k : Ints W u ys) => subF_any xs ys v u W h k (by omega)
    have c3 := fun v W (h : Ints W v xs) => within_any xs 0 255 v W h
    have c4 : ∀ v u W, Ints W v ys → Ints W u (twoV subF xs ys) → Calls Tryd.prog 42 #[v, u] W (ZPost W (twoV addF ys (twoV subF xs ys)) (matAns ys (twoV subF xs ys))) := fun v u W h k => addF_any ys _ v u W h k (by omega)
    have c5 : ∀ v u W, Ints W v xs → Ints W u xs → matAns xs ys = none → Calls Tryd.prog 40 #[v, u] W (ZPost W (twoV subF xs xs) none) := fun v u W h k e => by
      have := subF_any xs xs v u W h k (by omega)
      rw [self_none e] at this
      exact this
    have c6 : ∀ v W, Ints W v (twoV subF xs xs) → matAns xs ys = none → Calls Tryd.prog 51 #[v] W fun e w' => e = .returned (.bool true) ∧ W = w' := fun v W h e => by
      have := zero_any _ v W h
      rw [subself (self_none e)] at this
      exact this
    have d1 : matAns xs ys = none → decide (within 0 255 xs) = true → matAns ys (twoV subF xs ys) ≠ none → ¬ within 0 255 ys := fun e k h => by
      cases hf : matAns ys (twoV subF xs ys) with
      | none => exact absurd hf h
      | some f => exact addsub_err e (of_decide_eq_true k) hf
    have d2 : matAns xs ys = none → decide (within 0 255 xs) = true → matAns ys (twoV subF xs ys) = none → xs = twoV addF ys (twoV subF xs ys) := fun e k h => (addsub e (of_decide_eq_true k) h).symm
    by_cases hn : xs.length = 64
    · have c0 := fun v W (h : Ints W v xs) => quarter_any xs v W h
      have c1 := fun v W (h : Mat W v (quarV xs)) => whole_any (quarV xs) v W h
      have e0 : quarF xs = none := by unfold quarF; rw [if_pos hn]
      rw [e0] at c0
      rw [(quarV_whole hn).1, (quarV_whole hn).2] at c1
      rw [hn] at ha ⊢
      exact back_walk1 xs ys _ _ _ ([], 0) _ _ _ _ a b 63 _ ca cb w hg ha hb (by decide) h2 (by decide) c0 (fun _ => c1) c2 c3 c4 c5 c6 d1 d2
    · have c0 := fun v W (h : Ints W v xs) => quarter_any xs v W h
      have e0 : quarF xs = some ([], 14) := by unfold quarF; rw [if_neg hn]; rfl
      rw [e0] at c0
      exact back_walk2 xs ys (quarV xs) _ _ ([], 14) _ _ _ _ a b xs.length _ ca cb w hg ha hb h1 h2 (by simp; omega) c0 (fun h => by cases h) c2 c3 c4 c5 c6 d1 d2
end Go.Proofs.YtkealkjijfbdoaaDoor
