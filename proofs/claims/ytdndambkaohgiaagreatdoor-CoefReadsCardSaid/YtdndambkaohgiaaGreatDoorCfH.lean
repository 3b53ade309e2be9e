/- What coef.Code's calls tell where each bit is told as handed: the levels. Plain. -/
import Derived.Test.YtdndambkaohgiaaGreatDoorCfP
namespace Go.Proofs.YtdndambkaohgiaaGreatDoor
set_option linter.unusedVariables false
set_option linter.unusedSimpArgs false
open Go.RowKit Go.Extern.Stop Go.Stop Go.Extern

theorem rz_hand {u : Int} : ∀ (f z : Nat), (2 : Int) ^ z ≤ u → u < (2 : Int) ^ (z + f + 1) → (2 : Int) ^ (rzP u f z).hand ≤ u ∧ u < (2 : Int) ^ ((rzP u f z).hand + 1)
  | 0, z, h1, h2 => ⟨h1, h2⟩
  | f + 1, z, h1, h2 => by
    show (2 : Int) ^ (Pg.hand (if geAt u z = true then _ else _)) ≤ u ∧ u < (2 : Int) ^ ((Pg.hand (if geAt u z = true then _ else _)) + 1)
    unfold geAt
    by_cases h : (2 : Int) ^ (z + 1) ≤ u
    · rw [decide_eq_true h, if_pos rfl]
      exact rz_hand f (z + 1) h (by rw [show z + 1 + f + 1 = z + (f + 1) + 1 by omega]; exact h2)
    · rw [decide_eq_false h, if_neg (by decide)]
      exact ⟨h1, by show u < (2 : Int) ^ (z + 1); omega⟩
theorem rb_hand {u : Int} (hu : 0 ≤ u) : ∀ (k c : Nat), (c : Int) = u / (2 : Int) ^ k → (((rbP u k c).hand : Nat) : Int) = u
  | 0, c, h => by rw [Int.pow_zero, Int.ediv_one] at h; exact h
  | k + 1, c, h => by
    refine rb_hand hu k _ ?_
    have e : u / (2 : Int) ^ (k + 1) = u / (2 : Int) ^ k / 2 := by rw [Int.pow_succ, Int.ediv_ediv_of_nonneg (Int.le_of_lt (two_pos k))]
    rw [e] at h
    unfold bitAt
    generalize u / (2 : Int) ^ k = x at h ⊢
    by_cases hx : x % 2 = 1
    · rw [decide_eq_true hx, if_pos rfl]; omega
    · rw [decide_eq_false hx, if_neg (by decide)]; omega
theorem rst_hand {u : Int} (h1 : 1 ≤ u) (h2 : u < 16384) : (((rstP u).hand : Nat) : Int) = u := by
  unfold rstP
  rw [Pg.hand_bind]
  obtain ⟨k1, k2⟩ := rz_hand (u := u) 13 0 (by simpa using h1) h2
  refine rb_hand (by omega) _ 1 ?_
  generalize (rzP u 13 0).hand = z at k1 k2
  have hp := two_pos z
  rw [Int.pow_succ] at k2
  have a1 : (1 : Int) ≤ u / (2 : Int) ^ z := (Int.le_ediv_iff_mul_le hp).2 (by omega)
  have a2 : u / (2 : Int) ^ z < 2 := (Int.ediv_lt_iff_lt_mul hp).2 (by omega)
  omega
theorem cs_hand {C : Nat} {z : Int} (h2 : z ≤ 16330) : ∀ (f n : Nat), n + f = 14 → (n : Int) ≤ z → (((csP C z f n).hand : Nat) : Int) = z
  | 0, n, hn, h => by
    show (((Pg.bind (rstP (z - 13)) _).hand : Nat) : Int) = z
    rw [Pg.hand_bind]
    have := rst_hand (u := z - 13) (by omega) (by omega)
    show ((13 + (rstP (z - 13)).hand : Nat) : Int) = z
    omega
  | f + 1, n, hn, h => by
    show (((Pg.hand (if decide ((n : Int) < z) = true then _ else _)) : Nat) : Int) = z
    by_cases hz : (n : Int) < z
    · rw [decide_eq_true hz, if_pos rfl]
      exact cs_hand h2 f (n + 1) (by omega) (by omega)
    · rw [decide_eq_false hz, if_neg (by decide)]
      show (n : Int) = z
      omega
theorem lv_hand {C : Nat} {v : Int} (h0 : v ≠ 0) (h : isLv v = true) : (lvP C v).hand = v := by
  unfold isLv at h
  rw [Bool.and_eq_true, decide_eq_true_iff, decide_eq_true_iff] at h
  show (Pg.bind (csP C ((v.natAbs : Int) - 1) 14 0) _).hand = v
  rw [Pg.hand_bind]
  have := cs_hand (C := C) (z := (v.natAbs : Int) - 1) (by omega) 14 0 rfl (by omega)
  generalize (csP C ((v.natAbs : Int) - 1) 14 0).hand = r at this
  show (if decide (v < 0) = true then -((r : Int) + 1) else (r : Int) + 1) = v
  by_cases hv : v < 0
  · rw [decide_eq_true hv, if_pos rfl]; omega
  · rw [decide_eq_false hv, if_neg (by decide)]; omega
theorem lastP_nz (xs : List Int) (od : List Nat) : ∀ (m i : Nat), i ≤ m → xs.getD (od.getD i 0) 0 ≠ 0 → xs.getD (od.getD (lastP xs od m) 0) 0 ≠ 0
  | 0, i, h, k => by rw [show i = 0 by omega] at k; exact k
  | m + 1, i, h, k => by
    unfold lastP
    split
    · assumption
    · rename_i hz
      rw [Decidable.not_not] at hz
      by_cases e : i = m + 1
      · subst e; exact absurd hz k
      · exact lastP_nz xs od m i (by omega) k
theorem lastP_z (xs : List Int) (od : List Nat) : ∀ (m i : Nat), lastP xs od m < i → i ≤ m → xs.getD (od.getD i 0) 0 = 0
  | 0, i, h, k => by have : lastP xs od 0 = 0 := rfl; omega
  | m + 1, i, h, k => by
    unfold lastP at h
    split at h
    · omega
    · rename_i hz
      rw [Decidable.not_not] at hz
      by_cases e : i = m + 1
      · subst e; exact hz
      · exact lastP_z xs od m i h (by omega)
theorem list_ext_getD {xs ys : List Int} (hl : ys.length = xs.length) (h : ∀ j, j < xs.length → ys.getD j 0 = xs.getD j 0) : ys = xs := by
  refine List.ext_getElem hl (fun j h1 h2 => ?_)
  have := h j h2
  rw [List.getD_eq_getElem?_getD, List.getD_eq_getElem?_getD, List.getElem?_eq_getElem h1, List.getElem?_eq_getElem h2] at this
  exact this
theorem set_getD {ys : List Int} {k j : Nat} {v : Int} (hk : k < ys.length) : (ys.set k v).getD j 0 = if j = k then v else ys.getD j 0 := by
  rw [List.getD_eq_getElem?_getD, List.getD_eq_getElem?_getD, List.getElem?_set]
  by_cases e : k = j
  · subst e
    rw [if_pos rfl, if_pos rfl, if_pos hk]
    rfl
  · rw [if_neg e, if_neg (fun h => e h.symm)]
theorem cd_hand {B fin : Nat} {xs : List Int} {od : List Nat} (hx : ∀ x ∈ xs, isLv x = true) (hod : ∀ k ∈ od, k < xs.length) (hnd : od.Nodup) (hcv : ∀ j, j < xs.length → j ∈ od) (hf : fin < od.length)
    (hnz : xs.getD (od.getD fin 0) 0 ≠ 0) (hz : ∀ i, fin < i → i < od.length → xs.getD (od.getD i 0) 0 = 0) :
    ∀ (tl pre : List Nat) (ys : List Int), od = pre ++ tl → pre.length ≤ fin → ys.length = xs.length → (∀ j, j < xs.length → ys.getD j 0 = if j ∈ pre then xs.getD j 0 else 0) → (cdP B xs fin tl pre.length ys).hand = (none, xs)
  | [], pre, ys, ho, hp, hl, hy => by
    rw [List.append_nil] at ho
    subst ho
    omega
  | k :: tl, pre, ys, ho, hp, hl, hy => by
    have hk : od.getD pre.length 0 = k := by rw [List.getD_eq_getElem?_getD, ho, List.getElem?_append_right (Nat.le_refl _), Nat.sub_self]; rfl
    have hkl : k < xs.length := hod k (by rw [ho]; simp)
    have hkp : k ∉ pre := by
      rw [ho, List.nodup_append] at hnd
      intro h
      exact hnd.2.2 k h k (by simp) rfl
    have hkv : isLv (xs.getD k 0) = true := by
      rw [List.getD_eq_getElem?_getD, List.getElem?_eq_getElem hkl]
      exact hx _ (List.getElem_mem hkl)
    have hset : ∀ j, j < xs.length → (ys.set k (xs.getD k 0)).getD j 0 = if j ∈ pre ++ [k] then xs.getD j 0 else 0 := fun j hj => by
      rw [set_getD (by omega)]
      by_cases e : j = k
      · subst e; rw [if_pos rfl, if_pos (by simp)]
      · rw [if_neg e, hy j hj]
        by_cases e2 : j ∈ pre
        · rw [if_pos e2, if_pos (by simp [e2])]
        · rw [if_neg e2, if_neg (by simp [e, e2])]
    have hdone : fin = pre.length → (ys.set k (xs.getD k 0)) = xs := fun he => list_ext_getD (by rw [List.length_set]; exact hl) (fun j hj => by
      rw [hset j hj]
      split
      · rfl
      · rename_i hn
        obtain ⟨i, hi⟩ := List.mem_iff_getElem?.1 (hcv j hj)
        obtain ⟨hil, -⟩ := List.getElem?_eq_some_iff.1 hi
        have hd : od.getD i 0 = j := by rw [List.getD_eq_getElem?_getD, hi]; rfl
        by_cases hlt : fin < i
        · have := hz i hlt hil
          rw [hd] at this
          exact this.symm
        · exfalso
          refine hn ?_
          rw [ho] at hi
          have e2 : pre ++ k :: tl = (pre ++ [k]) ++ tl := by simp
          rw [e2, List.getElem?_append_left (by simp; omega)] at hi
          exact List.mem_of_getElem? hi)
    have hnx : ∀ zs : List Int, zs.length = xs.length → (∀ j, j < xs.length → zs.getD j 0 = if j ∈ pre ++ [k] then xs.getD j 0 else 0) → pre.length ≠ fin → (cdP B xs fin tl (pre.length + 1) zs).hand = (none, xs) := fun zs hzl hzs hne => by
      have := cd_hand (B := B) hx hod hnd hcv hf hnz hz tl (pre ++ [k]) zs (by rw [ho]; simp) (by simp; omega) hzl hzs
      rw [List.length_append, List.length_singleton] at this
      exact this
    unfold cdP
    by_cases ht : tl = []
    · subst ht
      have hfe : fin = pre.length := by
        rw [ho, List.length_append, List.length_singleton] at hf
        omega
      rw [if_pos rfl, Pg.hand_bind, lv_hand (by rw [← hk, ← hfe]; exact hnz) hkv, if_pos hkv]
      show (none, ys.set k (xs.getD k 0)) = _
      rw [hdone hfe]
    · rw [if_neg ht]
      show Pg.hand (if decide (xs.getD k 0 ≠ 0) = true then _ else _) = _
      by_cases h0 : xs.getD k 0 = 0
      · rw [decide_eq_false (by simpa using h0), if_neg (by decide)]
        refine hnx ys hl (fun j hj => ?_) (fun e => hnz (by rw [← e, hk]; exact h0))
        rw [hy j hj]
        by_cases e : j = k
        · subst e; rw [if_neg hkp, if_pos (by simp), h0]
        · by_cases e2 : j ∈ pre
          · rw [if_pos e2, if_pos (by simp [e2])]
          · rw [if_neg e2, if_neg (by simp [e, e2])]
      · rw [decide_eq_true h0, if_pos rfl, Pg.hand_bind, lv_hand h0 hkv, if_pos hkv]
        show Pg.hand (if decide (fin ≤ pre.length) = true then _ else _) = _
        by_cases hfe : fin ≤ pre.length
        · rw [decide_eq_true hfe, if_pos rfl]
          show (none, ys.set k (xs.getD k 0)) = _
          rw [hdone (by omega)]
        · rw [decide_eq_false hfe, if_neg (by decide)]
          exact hnx _ (by rw [List.length_set]; exact hl) hset (by omega)
theorem sqO_all {n : Nat} (h : n = 16 ∨ n = 64) : (sqO n).Nodup ∧ (∀ k ∈ sqO n, k < n) ∧ ∀ j, j < n → j ∈ sqO n := by
  rcases h with rfl | rfl
  · exact ⟨zig_once.1, zig_once.2.2.1, by decide +kernel⟩
  · exact ⟨zig_once.2.1, zig_once.2.2.2, by decide +kernel⟩
theorem lv_of_any {xs : List Int} (h : xs.any noLv = false) : ∀ x ∈ xs, isLv x = true := fun x hx => by
  have := List.any_eq_false.1 h x hx
  unfold noLv at this
  simpa using this
theorem cod_hand {xs : List Int} (hn : xs.length = 16 ∨ xs.length = 64) (h : xs.any noLv = false) : (codP xs).hand = (none, xs) := by
  unfold codP
  rw [if_pos hn, h, if_neg (by decide)]
  show Pg.hand (if xs.any nzB = true then _ else _) = _
  obtain ⟨o1, o2, o3⟩ := sqO_all hn
  cases hz : xs.any nzB
  · rw [if_neg (by decide)]
    show (none, zsL xs.length) = _
    rw [show zsL xs.length = xs from (List.eq_replicate_iff.2 ⟨rfl, fun x hx => by
      have := List.any_eq_false.1 hz x hx
      unfold nzB at this
      simpa using this⟩).symm]
  · rw [if_pos rfl, Pg.hand_bind]
    obtain ⟨x, hx, hxz⟩ := List.any_eq_true.1 hz
    obtain ⟨j, hj⟩ := List.mem_iff_getElem?.1 hx
    obtain ⟨hjl, -⟩ := List.getElem?_eq_some_iff.1 hj
    obtain ⟨i, hi⟩ := List.mem_iff_getElem?.1 (o3 j hjl)
    obtain ⟨hil, -⟩ := List.getElem?_eq_some_iff.1 hi
    have hol := sqO_len hn
    have hnz : xs.getD ((sqO xs.length).getD (lastP xs (sqO xs.length) (xs.length - 1)) 0) 0 ≠ 0 := by
      refine lastP_nz xs (sqO xs.length) (xs.length - 1) i (by omega) ?_
      rw [show (sqO xs.length).getD i 0 = j by rw [List.getD_eq_getElem?_getD, hi]; rfl, show xs.getD j 0 = x by rw [List.getD_eq_getElem?_getD, hj]; rfl]
      unfold nzB at hxz
      simpa using hxz
    have := cd_hand (B := sqB xs.length) (lv_of_any h) o2 o1 o3 (fin := lastP xs (sqO xs.length) (xs.length - 1)) (by have := lastP_le xs (sqO xs.length) (xs.length - 1); omega) hnz (fun q h1 h2 => lastP_z xs (sqO xs.length) (xs.length - 1) q h1 (by omega)) (sqO xs.length) [] (zsL xs.length) rfl (Nat.zero_le _) (by simp [zsL]) (fun q hq => by
      rw [if_neg (by simp)]
      simp [zsL, List.getD_eq_getElem?_getD, List.getElem?_replicate]
      split <;> rfl)
    rw [show (cdP (sqB xs.length) xs (lastP xs (sqO xs.length) (xs.length - 1)) (sqO xs.length) 0 (zsL xs.length)).hand = (none, xs) from this]
    rfl
/-- how the answers may be -/
theorem cd_lens (B : Nat) (xs : List Int) (fin : Nat) {σ : Type} {M : Mc σ} : ∀ (od : List Nat) (i : Nat) (ys : List Int) (s : Ms σ), (∀ y ∈ ys, isLv y = true) → (∀ ys', ((cdP B xs fin od i ys).run M s).1 = (none, ys') → ys'.length = ys.length ∧ ∀ y ∈ ys', isLv y = true) ∧ ∀ q ys', ((cdP B xs fin od i ys).run M s).1 = (some q, ys') → i ≤ q ∧ q < i + od.length
  | [], i, ys, s, h => ⟨fun ys' e => by
      have e : ((none : Option Nat), ys) = (none, ys') := e
      simp only [Prod.mk.injEq, true_and] at e
      subst e
      exact ⟨rfl, h⟩, fun q ys' e => by
      have e : ((none : Option Nat), ys) = (some q, ys') := e
      simp at e⟩
  | k :: tl, i, ys, s, h => by
    have hset : ∀ v, isLv v = true → ∀ y ∈ ys.set k v, isLv y = true := fun v hv y hy => by
      rcases List.mem_or_eq_of_mem_set hy with h1 | h1
      · exact h y h1
      · rw [h1]; exact hv
    have base : ∀ v (s : Ms σ), (∀ ys', ((if isLv v = true then Pg.ret (none, ys.set k v) else Pg.ret (some i, ys)).run M s).1 = (none, ys') → ys'.length = ys.length ∧ ∀ y ∈ ys', isLv y = true) ∧ ∀ q ys', ((if isLv v = true then Pg.ret (none, ys.set k v) else Pg.ret (some i, ys)).run M s).1 = (some q, ys') → i ≤ q ∧ q < i + (k :: tl).length := fun v s => by
      by_cases hv : isLv v = true
      · rw [if_pos hv]
        refine ⟨fun ys' e => ?_, fun q ys' e => ?_⟩
        · have e : ((none : Option Nat), ys.set k v) = (none, ys') := e
          simp only [Prod.mk.injEq, true_and] at e
          subst e
          exact ⟨List.length_set, hset v hv⟩
        · have e : ((none : Option Nat), ys.set k v) = (some q, ys') := e
          simp at e
      · rw [if_neg hv]
        refine ⟨fun ys' e => ?_, fun q ys' e => ?_⟩
        · have e : (some i, ys) = ((none : Option Nat), ys') := e
          simp at e
        · have e : (some i, ys) = (some q, ys') := e
          simp only [Prod.mk.injEq, Option.some.injEq] at e
          rw [← e.1, List.length_cons]
          omega
    unfold cdP
    by_cases ht : tl = []
    · rw [if_pos ht, Pg.run_bind]
      exact base _ _
    · rw [if_neg ht]
      show (∀ ys', ((Pg.run M (if (bitM M s ((B + min i 7 + 1 : Nat) : Int) (decide (xs.getD k 0 ≠ 0))).1 = true then _ else _) _).1 = (none, ys') → _)) ∧ ∀ q ys', ((Pg.run M (if (bitM M s ((B + min i 7 + 1 : Nat) : Int) (decide (xs.getD k 0 ≠ 0))).1 = true then _ else _) _).1 = (some q, ys') → _)
      have next : ∀ (zs : List Int) (s : Ms σ), zs.length = ys.length → (∀ y ∈ zs, isLv y = true) → (∀ ys', ((cdP B xs fin tl (i + 1) zs).run M s).1 = (none, ys') → ys'.length = ys.length ∧ ∀ y ∈ ys', isLv y = true) ∧ ∀ q ys', ((cdP B xs fin tl (i + 1) zs).run M s).1 = (some q, ys') → i ≤ q ∧ q < i + (k :: tl).length := fun zs s hl hv => by
        obtain ⟨a1, a2⟩ := cd_lens B xs fin tl (i + 1) zs s hv
        refine ⟨fun ys' e => ?_, fun q ys' e => ?_⟩
        · obtain ⟨b1, b2⟩ := a1 ys' e
          exact ⟨b1.trans hl, b2⟩
        · have := a2 q ys' e
          rw [List.length_cons]
          omega
      cases (bitM M s ((B + min i 7 + 1 : Nat) : Int) (decide (xs.getD k 0 ≠ 0))).1
      · rw [if_neg (by decide)]
        exact next ys _ rfl h
      · rw [if_pos rfl, Pg.run_bind]
        generalize ((lvP (B + 17) (xs.getD k 0)).run M (bitM M s ((B + min i 7 + 1 : Nat) : Int) (decide (xs.getD k 0 ≠ 0))).2) = r
        obtain ⟨v, s2⟩ := r
        cases hv : isLv v
        · have := base v s2
          rw [if_neg (by rw [hv]; decide)] at this
          exact this
        · show (∀ ys', ((Pg.run M (if (bitM M s2 ((B + min i 7 + 9 : Nat) : Int) (decide (fin ≤ i))).1 = true then _ else _) _).1 = (none, ys') → _)) ∧ ∀ q ys', ((Pg.run M (if (bitM M s2 ((B + min i 7 + 9 : Nat) : Int) (decide (fin ≤ i))).1 = true then _ else _) _).1 = (some q, ys') → _)
          cases (bitM M s2 ((B + min i 7 + 9 : Nat) : Int) (decide (fin ≤ i))).1
          · rw [if_neg (by decide)]
            exact next _ _ List.length_set (hset v hv)
          · rw [if_pos rfl]
            have := base v (bitM M s2 ((B + min i 7 + 9 : Nat) : Int) (decide (fin ≤ i))).2
            rw [if_pos hv] at this
            exact this
/-- what coef.Code may answer to a list that may be: a list that may be, or a place of it -/
theorem cod_ans {σ : Type} {M : Mc σ} {xs : List Int} (s : Ms σ) (hn : xs.length = 16 ∨ xs.length = 64) (h : xs.any noLv = false) : (∃ ys, ((codP xs).run M s).1 = (none, ys) ∧ ys.length = xs.length ∧ ∀ y ∈ ys, isLv y = true) ∨ ∃ q, q < xs.length ∧ ((codP xs).run M s).1 = (some ([(coefS, (q : Int))], 3), []) := by
  unfold codP
  rw [if_pos hn, h, if_neg (by decide)]
  show (∃ ys, (Pg.run M (if (bitM M s ((sqB xs.length : Nat) : Int) (xs.any nzB)).1 = true then _ else _) _).1 = (none, ys) ∧ _) ∨ ∃ q, q < xs.length ∧ (Pg.run M (if (bitM M s ((sqB xs.length : Nat) : Int) (xs.any nzB)).1 = true then _ else _) _).1 = _
  have hz0 : ∀ y ∈ zsL xs.length, isLv y = true := fun y hy => by
    unfold zsL at hy
    rw [(List.mem_replicate.1 hy).2]
    decide
  cases (bitM M s ((sqB xs.length : Nat) : Int) (xs.any nzB)).1
  · rw [if_neg (by decide)]
    exact .inl ⟨zsL xs.length, rfl, by simp [zsL], hz0⟩
  · rw [if_pos rfl, Pg.run_bind]
    obtain ⟨a1, a2⟩ := cd_lens (sqB xs.length) xs (lastP xs (sqO xs.length) (xs.length - 1)) (M := M) (sqO xs.length) 0 (zsL xs.length) (bitM M s ((sqB xs.length : Nat) : Int) (xs.any nzB)).2 hz0
    generalize ((cdP (sqB xs.length) xs (lastP xs (sqO xs.length) (xs.length - 1)) (sqO xs.length) 0 (zsL xs.length)).run M (bitM M s ((sqB xs.length : Nat) : Int) (xs.any nzB)).2) = r at a1 a2
    obtain ⟨⟨o, ys⟩, s2⟩ := r
    cases o with
    | none =>
      obtain ⟨b1, b2⟩ := a1 ys rfl
      exact .inl ⟨ys, rfl, by rw [b1]; simp [zsL], b2⟩
    | some q =>
      have := a2 q ys rfl
      rw [sqO_len hn] at this
      exact .inr ⟨q, by omega, rfl⟩
end Go.Proofs.YtdndambkaohgiaaGreatDoor
