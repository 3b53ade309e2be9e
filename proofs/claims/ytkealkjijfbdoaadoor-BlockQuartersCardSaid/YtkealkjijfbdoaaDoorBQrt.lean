/- kinlaw7.BlockQuarters: the walk. -/
import Derived.Test.YtkealkjijfbdoaaDoorBBack
import Derived.StillTailTactics
import Derived.Deep.RegionHeld3
namespace Go.Proofs.YtkealkjijfbdoaaDoor
set_option linter.unusedVariables false
set_option linter.unusedSimpArgs false
open Go.RowKit Go.Extern.Stop Go.Stop Go.Extern

/-- how unlike two rows are at these places -/
def sadL (f g : Nat → Int) : List Nat → Int
  | [] => 0
  | i :: l => sadL f g l + max (f i - g i) (g i - f i)
theorem sadL_append (f g : Nat → Int) (l m : List Nat) : sadL f g (l ++ m) = sadL f g l + sadL f g m := by
  induction l with
  | nil => simp [sadL]
  | cons i l ih => simp only [List.cons_append, sadL]; omega
theorem sadF_list (f g : Nat → Int) (l : List Nat) : sadF (fun j => (l.map f).getD j 0) (fun j => (l.map g).getD j 0) l.length = sadL f g l := by
  have key : ∀ k, k ≤ l.length → sadF (fun j => (l.map f).getD j 0) (fun j => (l.map g).getD j 0) k = sadL f g (l.take k) := fun k => by
    induction k with
    | zero => intro _; simp [sadF, sadL]
    | succ k ih =>
      intro hk
      obtain ⟨i, hi⟩ : ∃ i, l[k]? = some i := ⟨_, List.getElem?_eq_getElem (by omega)⟩
      unfold sadF
      rw [ih (by omega), take_of_get hi, sadL_append]
      simp [List.getD, hi, sadL]
  have := key l.length (Nat.le_refl _)
  rwa [List.take_length] at this
theorem sadQ (f g : Nat → Int) (k : Nat) (hk : k ≤ 64) : sadL f g (qIdx 0 k) + sadL f g (qIdx 1 k) + sadL f g (qIdx 2 k) + sadL f g (qIdx 3 k) = sadF f g k := by
  induction k with
  | zero => rfl
  | succ k ih =>
    have := ih (by omega)
    have h4 := (qOf_landed k (by omega)).2.1
    simp only [qIdx_succ]
    unfold sadF
    have e : sadL f g [k] = max (f k - g k) (g k - f k) := by simp [sadL]
    rcases (by omega : qOf k = 0 ∨ qOf k = 1 ∨ qOf k = 2 ∨ qOf k = 3) with h | h | h | h <;> simp only [h, sadL_append, e] <;> simp [sadL] <;> omega
theorem quarL_full (zs : List Int) {q : Nat} (hq : q < 4) : (quarL zs 64 q).length = 16 := by unfold quarL; rw [List.length_map]; exact qIdx_full q hq
theorem quarL_mem {xs : List Int} {q : Nat} {x : Int} (h : x ∈ quarL xs 64 q) : ∃ i, i < 64 ∧ x = xs.getD i 0 := by
  unfold quarL at h
  obtain ⟨i, hi, rfl⟩ := List.mem_map.1 h
  unfold qIdx at hi
  exact ⟨i, List.mem_range.1 (List.mem_filter.1 hi).1, rfl⟩
theorem quar_mat {xs ys : List Int} (h : matAns xs ys = none) {q : Nat} (hq : q < 4) : matAns (quarL xs 64 q) (quarL ys 64 q) = none := by
  obtain ⟨-, h2, h3⟩ := matAns_none h
  refine matAns_ok (by rw [quarL_full _ hq, quarL_full _ hq]) (fun x hx => ?_) (fun x hx => ?_)
  · obtain ⟨i, -, rfl⟩ := quarL_mem hx
    exact h2 i
  · obtain ⟨i, -, rfl⟩ := quarL_mem hx
    exact h3 i
theorem quar_sad {xs ys : List Int} (h : matAns xs ys = none) {q : Nat} (hq : q < 4) : sadV (quarL xs 64 q) (quarL ys 64 q) = sadL (fun i => xs.getD i 0) (fun i => ys.getD i 0) (qIdx q 64) := by
  unfold sadV
  rw [quar_mat h hq]
  simp only
  rw [quarL_full _ hq, ← qIdx_full q hq]
  exact sadF_list _ _ _
theorem quar_sub {xs ys : List Int} (h : matAns xs ys = none) (hn : xs.length = 64) {q : Nat} (hq : q < 4) : twoV subF (quarL xs 64 q) (quarL ys 64 q) = quarL (twoV subF xs ys) 64 q := by
  have hm := quar_mat h hq
  apply getD_eq_of (by rw [twoV_len hm, quarL_full _ hq, quarL_full _ hq])
  intro j hj
  rw [twoV_len hm] at hj
  rw [twoV_at hm hj]
  rw [quarL_full _ hq, ← qIdx_full q hq] at hj
  obtain ⟨i, hi⟩ : ∃ i, (qIdx q 64)[j]? = some i := ⟨_, List.getElem?_eq_getElem hj⟩
  have hlt : i < 64 := by
    have := List.mem_of_getElem? hi
    unfold qIdx at this
    exact List.mem_range.1 (List.mem_filter.1 this).1
  have e : ∀ zs : List Int, (quarL zs 64 q).getD j 0 = zs.getD i 0 := fun zs => by unfold quarL; simp [List.getD, hi]
  rw [e, e, e, twoV_at h (by omega)]
/-- all quarters up to one, together -/
def sadTo (xs ys : List Int) : Nat → Int
  | 0 => 0
  | q + 1 => sadTo xs ys q + sadV (quarL xs 64 q) (quarL ys 64 q)
theorem sadTo_all {xs ys : List Int} (h : matAns xs ys = none) (hn : xs.length = 64) : sadTo xs ys 4 = sadV xs ys := by
  have e : sadV xs ys = sadF (fun i => xs.getD i 0) (fun i => ys.getD i 0) 64 := by unfold sadV; rw [h]; simp only; rw [hn]
  rw [e, ← sadQ _ _ 64 (Nat.le_refl _)]
  simp only [sadTo]
  rw [quar_sad h (by decide), quar_sad h (by decide), quar_sad h (by decide), quar_sad h (by decide)]
  omega
theorem sadTo_bound (xs ys : List Int) (q : Nat) : 0 ≤ sadTo xs ys q ∧ sadTo xs ys q ≤ 20000000000 * q := by
  induction q with
  | zero => simp [sadTo]
  | succ q ih =>
    have := sadV_bound (xs := quarL xs 64 q) (ys := quarL ys 64 q) (by have := quarL_len xs 64 q; omega)
    unfold sadTo
    push_cast
    omega
set_option maxHeartbeats 2000000 in
set_option maxRecDepth 20000 in
theorem quarters_long (a b : Option Addr) (n m ca cb : Nat) (w : World) (hg : EtIs w) (hl : n ≠ 64 ∨ n = 64 ∧ m ≠ 64) :
    Calls Tryd.prog 14 #[.slice a n ca, .slice b m cb] w fun e w' => e = .returned (.bool true) ∧ Ext w w' := by
  rcases hl with h1 | ⟨rfl, h2⟩
  · have b1 : ((n : Int) != 64) = true := by simp; omega
    clear h1
    go_enter Tryd.func14, Tryd.ntmps14
    go_wp2_with fail
    refine (first7_any _ hg).mono ?_; rintro e w1 ⟨rfl, hx1⟩
    go_wp2_with fail
    refine (first7_any _ (hg.ext (by repeat (first | exact Ext.refl _ | assumption | refine Ext.alloc ?_ _ | refine Ext.drew ?_ | refine Ext.drewN ?_ _ | refine Ext.setCell ?_ (by first | exact Nat.le_refl _ | (simp; done) | omega) _ | refine Ext.trans ?_ (by assumption))))).mono ?_; rintro e w2 ⟨rfl, hx2⟩
    go_wp2
    go_ret
    exact ⟨rfl, (by repeat (first | exact Ext.refl _ | assumption | refine Ext.alloc ?_ _ | refine Ext.drew ?_ | refine Ext.drewN ?_ _ | refine Ext.setCell ?_ (by first | exact Nat.le_refl _ | (simp; done) | omega) _ | refine Ext.trans ?_ (by assumption)))⟩
  · have b1 : ((m : Int) != 64) = true := by simp; omega
    clear h2
    go_enter Tryd.func14, Tryd.ntmps14
    go_wp2_with fail
    refine (first7_any _ hg).mono ?_; rintro e w1 ⟨rfl, hx1⟩
    go_wp2_with fail
    refine (first7_any _ (hg.ext (by repeat (first | exact Ext.refl _ | assumption | refine Ext.alloc ?_ _ | refine Ext.drew ?_ | refine Ext.drewN ?_ _ | refine Ext.setCell ?_ (by first | exact Nat.le_refl _ | (simp; done) | omega) _ | refine Ext.trans ?_ (by assumption))))).mono ?_; rintro e w2 ⟨rfl, hx2⟩
    go_wp2
    go_ret
    exact ⟨rfl, (by repeat (first | exact Ext.refl _ | assumption | refine Ext.alloc ?_ _ | refine Ext.drew ?_ | refine Ext.drewN ?_ _ | refine Ext.setCell ?_ (by first | exact Nat.le_refl _ | (simp; done) | omega) _ | refine Ext.trans ?_ (by assumption)))⟩
set_option maxHeartbeats 2000000 in
set_option maxRecDepth 20000 in
theorem quarters_no (xs ys : List Int) (f : List (ByteArray × Int) × Int) (a b : Option Addr) (ca cb : Nat) (w : World) (hg : EtIs w) (ha : Ints w (.slice a 64 ca) xs) (hb : Ints w (.slice b 64 cb) ys)
    (c1 : Hid (∀ v u W, Ints W v xs → Ints W u ys → Calls Tryd.prog 44 #[v, u] W (IPost W (sadV xs ys) (some f))))
    (c2 : Hid (∀ v u W, Ints W v xs → Ints W u ys → Calls Tryd.prog 40 #[v, u] W (ZPost W (twoV subF xs ys) (some f)))) :
    Calls Tryd.prog 14 #[.slice a 64 ca, .slice b 64 cb] w fun e w' => e = .returned (.bool true) ∧ Ext w w' := by
  go_enter Tryd.func14, Tryd.ntmps14
  go_wp2_with fail
  refine (first7_any _ hg).mono ?_; rintro e w1 ⟨rfl, hx1⟩
  go_wp2_with fail
  refine (c1.out _ _ _ (ha.ext (by repeat (first | exact Ext.refl _ | assumption | refine Ext.alloc ?_ _ | refine Ext.drew ?_ | refine Ext.drewN ?_ _ | refine Ext.setCell ?_ (by first | exact Nat.le_refl _ | (simp; done) | omega) _ | refine Ext.trans ?_ (by assumption)))) (hb.ext (by repeat (first | exact Ext.refl _ | assumption | refine Ext.alloc ?_ _ | refine Ext.drew ?_ | refine Ext.drewN ?_ _ | refine Ext.setCell ?_ (by first | exact Nat.le_refl _ | (simp; done) | omega) _ | refine Ext.trans ?_ (by assumption))))).mono ?_; rintro e w2 ⟨x2, rfl, hx2, he2⟩
  go_wp2_with fail
  refine (c2.out _ _ _ (ha.ext (by repeat (first | exact Ext.refl _ | assumption | refine Ext.alloc ?_ _ | refine Ext.drew ?_ | refine Ext.drewN ?_ _ | refine Ext.setCell ?_ (by first | exact Nat.le_refl _ | (simp; done) | omega) _ | refine Ext.trans ?_ (by assumption)))) (hb.ext (by repeat (first | exact Ext.refl _ | assumption | refine Ext.alloc ?_ _ | refine Ext.drew ?_ | refine Ext.drewN ?_ _ | refine Ext.setCell ?_ (by first | exact Nat.le_refl _ | (simp; done) | omega) _ | refine Ext.trans ?_ (by assumption))))).mono ?_; rintro e w3 ⟨u3, x3, rfl, hx3, hz3, he3⟩
  obtain ⟨t2, y2, rfl⟩ := he2.ne
  obtain ⟨t3, y3, rfl⟩ := he3.ne
  go_wp2_with fail
  refine (first7_any _ (hg.ext (by repeat (first | exact Ext.refl _ | assumption | refine Ext.alloc ?_ _ | refine Ext.drew ?_ | refine Ext.drewN ?_ _ | refine Ext.setCell ?_ (by first | exact Nat.le_refl _ | (simp; done) | omega) _ | refine Ext.trans ?_ (by assumption))))).mono ?_; rintro e w4 ⟨rfl, hx4⟩
  go_wp2
  go_ret
  exact ⟨rfl, (by repeat (first | exact Ext.refl _ | assumption | refine Ext.alloc ?_ _ | refine Ext.drew ?_ | refine Ext.drewN ?_ _ | refine Ext.setCell ?_ (by first | exact Nat.le_refl _ | (simp; done) | omega) _ | refine Ext.trans ?_ (by assumption)))⟩

theorem quarV_len {xs : List Int} (h : xs.length = 64) : (quarV xs).length = 4 ∧ ∀ q, q < 4 → (quarV xs)[q]? = some (quarL xs 64 q) := by
  unfold quarV
  rw [if_pos h]
  exact ⟨by simp, fun q hq => by simp [hq]⟩
set_option maxHeartbeats 4000000 in
set_option maxRecDepth 20000 in
theorem quarters_walk (xs ys ds : List Int) (S : Int) (T : Nat → Int) (X Y D : List (List Int)) (a b : Option Addr) (ca cb : Nat) (w : World) (hg : EtIs w) (ha : Ints w (.slice a 64 ca) xs) (hb : Ints w (.slice b 64 cb) ys)
    (c1 : Hid (∀ v u W, Ints W v xs → Ints W u ys → Calls Tryd.prog 44 #[v, u] W (IPost W S none)))
    (c2 : Hid (∀ v u W, Ints W v xs → Ints W u ys → Calls Tryd.prog 40 #[v, u] W (ZPost W ds none)))
    (c3 : Hid (∀ v W, Ints W v xs → Calls Tryd.prog 46 #[v] W (MPost W X none)))
    (c4 : Hid (∀ v W, Ints W v ys → Calls Tryd.prog 46 #[v] W (MPost W Y none)))
    (c5 : Hid (∀ v W, Ints W v ds → Calls Tryd.prog 46 #[v] W (MPost W D none)))
    (l1 : Hid (X.length = 4)) (l2 : Hid (Y.length = 4)) (l3 : Hid (D.length = 4))
    (hT : Hid (T 0 = 0 ∧ T 4 = S)) (hB : Hid (∀ k, k < 4 → ∃ x y d t, X[k]? = some x ∧ Y[k]? = some y ∧ D[k]? = some d ∧ (x.length = 16 ∧ y.length = 16 ∧ d.length = 16) ∧ T (k + 1) = T k + t ∧ (0 ≤ T k ∧ T k ≤ 100000000000) ∧ (0 ≤ t ∧ t ≤ 20000000000) ∧
      (∀ v u W, Ints W v x → Ints W u y → Calls Tryd.prog 44 #[v, u] W (IPost W t none)) ∧ (∀ v u W, Ints W v x → Ints W u y → Calls Tryd.prog 40 #[v, u] W (ZPost W d none)))) :
    Calls Tryd.prog 14 #[.slice a 64 ca, .slice b 64 cb] w fun e w' => e = .returned (.bool true) ∧ Ext w w' := by
  go_enter Tryd.func14, Tryd.ntmps14
  go_wp2_with fail
  refine (first7_any _ hg).mono ?_; rintro e w1 ⟨rfl, hx1⟩
  go_wp2_with fail
  refine (c1.out _ _ _ (ha.ext (by repeat (first | exact Ext.refl _ | assumption | refine Ext.alloc ?_ _ | refine Ext.drew ?_ | refine Ext.drewN ?_ _ | refine Ext.setCell ?_ (by first | exact Nat.le_refl _ | (simp; done) | omega) _ | refine Ext.trans ?_ (by assumption)))) (hb.ext (by repeat (first | exact Ext.refl _ | assumption | refine Ext.alloc ?_ _ | refine Ext.drew ?_ | refine Ext.drewN ?_ _ | refine Ext.setCell ?_ (by first | exact Nat.le_refl _ | (simp; done) | omega) _ | refine Ext.trans ?_ (by assumption))))).mono ?_; rintro e w2 ⟨x2, rfl, hx2, he2⟩
  go_wp2_with fail
  refine (c2.out _ _ _ (ha.ext (by repeat (first | exact Ext.refl _ | assumption | refine Ext.alloc ?_ _ | refine Ext.drew ?_ | refine Ext.drewN ?_ _ | refine Ext.setCell ?_ (by first | exact Nat.le_refl _ | (simp; done) | omega) _ | refine Ext.trans ?_ (by assumption)))) (hb.ext (by repeat (first | exact Ext.refl _ | assumption | refine Ext.alloc ?_ _ | refine Ext.drew ?_ | refine Ext.drewN ?_ _ | refine Ext.setCell ?_ (by first | exact Nat.le_refl _ | (simp; done) | omega) _ | refine Ext.trans ?_ (by assumption))))).mono ?_; rintro e w3 ⟨u3, x3, rfl, hx3, hz3, he3⟩
  obtain rfl : x2 = .nilIface := he2
  obtain rfl : x3 = .nilIface := he3
  go_wp2_with fail
  refine (c3.out _ _ (ha.ext (by repeat (first | exact Ext.refl _ | assumption | refine Ext.alloc ?_ _ | refine Ext.drew ?_ | refine Ext.drewN ?_ _ | refine Ext.setCell ?_ (by first | exact Nat.le_refl _ | (simp; done) | omega) _ | refine Ext.trans ?_ (by assumption))))).mono ?_; rintro e w4 ⟨u4, x4, rfl, hx4, hm4, he4⟩
  go_wp2_with fail
  refine (c4.out _ _ (hb.ext (by repeat (first | exact Ext.refl _ | assumption | refine Ext.alloc ?_ _ | refine Ext.drew ?_ | refine Ext.drewN ?_ _ | refine Ext.setCell ?_ (by first | exact Nat.le_refl _ | (simp; done) | omega) _ | refine Ext.trans ?_ (by assumption))))).mono ?_; rintro e w5 ⟨u5, x5, rfl, hx5, hm5, he5⟩
  go_wp2_with fail
  refine (c5.out _ _ (hz3.ext (by repeat (first | exact Ext.refl _ | assumption | refine Ext.alloc ?_ _ | refine Ext.drew ?_ | refine Ext.drewN ?_ _ | refine Ext.setCell ?_ (by first | exact Nat.le_refl _ | (simp; done) | omega) _ | refine Ext.trans ?_ (by assumption))))).mono ?_; rintro e w6 ⟨u6, x6, rfl, hx6, hm6, he6⟩
  obtain rfl : x4 = .nilIface := he4
  obtain rfl : x5 = .nilIface := he5
  obtain rfl : x6 = .nilIface := he6
  obtain ⟨a4, k4, rfl⟩ := hm4.form
  obtain ⟨a5, k5, rfl⟩ := hm5.form
  obtain ⟨a6, k6, rfl⟩ := hm6.form
  rw [l1.out] at hm4 ⊢
  rw [l2.out] at hm5 ⊢
  rw [l3.out] at hm6 ⊢
  have M4 : Mat w6 (.slice a4 4 k4) X := hm4.ext (by repeat (first | exact Ext.refl _ | assumption | refine Ext.alloc ?_ _ | refine Ext.drew ?_ | refine Ext.drewN ?_ _ | refine Ext.setCell ?_ (by first | exact Nat.le_refl _ | (simp; done) | omega) _ | refine Ext.trans ?_ (by assumption)))
  have M5 : Mat w6 (.slice a5 4 k5) Y := hm5.ext (by repeat (first | exact Ext.refl _ | assumption | refine Ext.alloc ?_ _ | refine Ext.drew ?_ | refine Ext.drewN ?_ _ | refine Ext.setCell ?_ (by first | exact Nat.le_refl _ | (simp; done) | omega) _ | refine Ext.trans ?_ (by assumption)))
  have E6 : Ext w w6 := (by repeat (first | exact Ext.refl _ | assumption | refine Ext.alloc ?_ _ | refine Ext.drew ?_ | refine Ext.drewN ?_ _ | refine Ext.setCell ?_ (by first | exact Nat.le_refl _ | (simp; done) | omega) _ | refine Ext.trans ?_ (by assumption)))
  clear hm4 hm5 hx1 hx2 hx3 hx4 hx5 hx6
  obtain ⟨g4, o4, rfl⟩ := M4.had (by decide)
  obtain ⟨g5, o5, rfl⟩ := M5.had (by decide)
  obtain ⟨g6, o6, rfl⟩ := hm6.had (by decide)
  have T0 : Hid (T 0 = 0) := hT.out.1
  have T4 : Hid (T 4 = S) := hT.out.2
  clear hT
  go_wp2
  go_loopw [15, 16] (fun nv kv wr => ∃ k : Nat, k ≤ 4 ∧ kv = .int .i64 k ∧ nv = .int .i64 (T k) ∧ Ext w6 wr) (fun _ kv _ => 4 - (intOf kv).toNat)
  case atStart => exact ⟨0, by decide, rfl, by rw [T0.out], Ext.refl _⟩
  case round =>
    obtain ⟨k, hk, rfl, rfl, hE⟩ := hrel
    by_cases hlt : k < 4
    · obtain ⟨x, y, d, t, e1, e2, e3, ⟨l4, l5, l6⟩, e4, b1, b2, f1, f2⟩ := hB.out k hlt
      obtain ⟨ra, rn, rc, p1, p2⟩ := (M4.ext hE).at e1 (by omega)
      obtain ⟨sa, sn, sc, q1, q2⟩ := (M5.ext hE).at e2 (by omega)
      obtain ⟨da, dn, dc, d1, d2⟩ := (hm6.ext hE).at e3 (by omega)
      obtain ⟨Tk, hTk⟩ : ∃ Tk, T k = Tk := ⟨_, rfl⟩
      have e5 : Hid (T (k + 1) = Tk + t) := by show _ = _; rw [e4, hTk]
      rw [hTk] at b1 ⊢
      have F1 := Lib.hid f1
      have F2 := Lib.hid f2
      clear e1 e2 e3 e4 f1 f2 hTk l4 l5 l6
      go_wp2_with fail
      go_region_held3 (fun w' => w'.cell? ⟨g4, o4 + k, none⟩ = some (.slice ra rn rc) ∧ w'.cell? ⟨g5, o5 + k, none⟩ = some (.slice sa sn sc) ∧ Ext wr w')
        (first | assumption | (exact ⟨p1, q1, Ext.refl _⟩) | (exact ⟨p1, q1, (Ext.refl _).drew⟩) | (go_split_ands; exact ⟨hx.cell (by assumption), hx.cell (by assumption), Ext.trans (by assumption) hx⟩))
        ((go_at_call 44; obtain ⟨_, _, hE1⟩ : _ ∧ _ ∧ Ext wr _ := (by assumption); refine (F1.out _ _ _ (p2.ext hE1) (q2.ext hE1)).mono ?_; rintro e w' ⟨xe, rfl, hx, he⟩))
      obtain rfl : xe = .nilIface := he
      rename_i held1
      obtain ⟨r1, r2, EA⟩ := held1
      clear p1 q1 hx hE1
      obtain ⟨wA, hwA⟩ : ∃ wA, wA = w' := ⟨_, rfl⟩
      rw [← hwA] at r1 r2 EA ⊢
      clear hwA
      go_wp2_with fail
      go_region_held3 (fun w' => w'.cell? ⟨g4, o4 + k, none⟩ = some (.slice ra rn rc) ∧ w'.cell? ⟨g5, o5 + k, none⟩ = some (.slice sa sn sc) ∧ Ext wr w')
        (first | assumption | (exact ⟨r1, r2, EA⟩) | (exact ⟨r1, r2, EA.drew⟩) | (go_split_ands; exact ⟨hx2.cell (by assumption), hx2.cell (by assumption), Ext.trans (by assumption) hx2⟩))
        ((go_at_call 40; obtain ⟨_, _, hE1⟩ : _ ∧ _ ∧ Ext wr _ := (by assumption); refine (F2.out _ _ _ (p2.ext hE1) (q2.ext hE1)).mono ?_; rintro e w' ⟨ue, xe, rfl, hx2, hz2, he2⟩))
      obtain rfl : xe = .nilIface := he2
      rename_i held2
      obtain ⟨-, -, EB⟩ := held2
      obtain ⟨wB, hwB⟩ : ∃ wB, wB = w' := ⟨_, rfl⟩
      rw [← hwB] at EB hz2 ⊢
      clear hwB r1 r2
      have p3 := EB.cell d1
      have d3 := d2.ext EB
      clear hx2 hE1
      go_wp2_with fail
      refine (ints_same d d _ _ _ hz2 d3).mono ?_; rintro e w9 ⟨rfl, hx9⟩
      rw [decide_eq_true rfl]
      have EC : Ext w6 w9 := hE.trans (EB.trans hx9)
      go_wp2
      go_roundw
      case rel => exact ⟨k + 1, by omega, by go_num, by rw [e5.out], EC⟩
      case measure => simp [intOf]; omega
    · obtain rfl : k = 4 := by omega
      have EC := E6.trans hE
      go_wp2_with fail
      refine (first7_any _ (hg.ext EC)).mono ?_; rintro e w9 ⟨rfl, hx9⟩
      rw [T4.out]
      go_wp2
      go_ret
      exact ⟨rfl, EC.trans hx9⟩
theorem quarters_law (xs ys : List Int) (va vb : Value) (w : World) (hg : EtIs w) (hr : Row w va xs.length (xs.map (Value.int .i64))) (hs : Row w vb ys.length (ys.map (Value.int .i64))) :
    Calls Tryd.prog 14 #[va, vb] w fun e w' => e = .returned (.bool true) ∧ Ext w w' := by
  by_cases hl : xs.length ≠ 64 ∨ xs.length = 64 ∧ ys.length ≠ 64
  · obtain ⟨a, ca, rfl⟩ := hr.form
    obtain ⟨b, cb, rfl⟩ := hs.form
    exact quarters_long a b _ _ ca cb w hg hl
  · have h1 : xs.length = 64 := by omega
    have h2 : ys.length = 64 := by omega
    have ha : Ints w va xs := ⟨hr, by omega⟩
    have hb : Ints w vb ys := ⟨hs, by omega⟩
    obtain ⟨a, ca, rfl⟩ := ha.form
    obtain ⟨b, cb, rfl⟩ := hb.form
    have c1 := fun v u W (h : Ints W v xs) (k : Ints W u ys) => sad_any xs ys v u W h k (by omega)
    have c2 := fun v u W (h : Ints W v xs) (k : Ints W u ys) => subF_any xs ys v u W h k (by omega)
    rw [h1] at ha ⊢
    rw [h2] at hb ⊢
    cases hm : matAns xs ys with
    | some f =>
      rw [hm] at c1 c2
      exact quarters_no xs ys f a b ca cb w hg ha hb c1 c2
    | none =>
      rw [hm] at c1 c2
      have hd : (twoV subF xs ys).length = 64 := by rw [twoV_len hm, h1]
      have q : ∀ zs : List Int, zs.length = 64 → ∀ v W, Ints W v zs → Calls Tryd.prog 46 #[v] W (MPost W (quarV zs) none) := fun zs hz v W h => by
        have := quarter_any zs v W h
        rwa [show quarF zs = none by unfold quarF; rw [if_pos hz]] at this
      refine quarters_walk xs ys (twoV subF xs ys) (sadV xs ys) (sadTo xs ys) (quarV xs) (quarV ys) (quarV (twoV subF xs ys)) a b ca cb w hg ha hb c1 c2 (q xs h1) (q ys h2) (q _ hd) (quarV_len h1).1 (quarV_len h2).1 (quarV_len hd).1 ⟨rfl, sadTo_all hm h1⟩ (fun k hk => ?_)
      refine ⟨quarL xs 64 k, quarL ys 64 k, quarL (twoV subF xs ys) 64 k, sadV (quarL xs 64 k) (quarL ys 64 k), (quarV_len h1).2 k hk, (quarV_len h2).2 k hk, (quarV_len hd).2 k hk, ⟨quarL_full _ hk, quarL_full _ hk, quarL_full _ hk⟩, rfl, by have := sadTo_bound xs ys k; omega, sadV_bound (by rw [quarL_full _ hk]; omega), fun v u W h1 h2 => ?_, fun v u W h3 h4 => ?_⟩
      · have := sad_any (quarL xs 64 k) (quarL ys 64 k) v u W h1 h2 (by rw [quarL_full _ hk]; omega)
        rwa [quar_mat hm hk] at this
      · have := subF_any (quarL xs 64 k) (quarL ys 64 k) v u W h3 h4 (by rw [quarL_full _ hk]; omega)
        rwa [quar_mat hm hk, quar_sub hm h1 hk] at this
end Go.Proofs.YtkealkjijfbdoaaDoor
