/- Contracts of this seat: Lg0, LgP, Lg1, Lg2, Lg3. -/
import Derived.Test.YtmphochnmdmioaaDoorZe
import Derived.Test.YtmphochnmdmioaaDoorZc
import Derived.Deep.RegionLaw
import Derived.Deep.Heap
import Derived.Lib.SmallJoins
import Derived.Deep.RegionHeld3
/- Records of the journal: plain. -/
namespace Go.Proofs.YtmphochnmdmioaaDoor
set_option linter.unusedVariables false
set_option linter.unusedSimpArgs false
open Go.RowKit Go.Extern.Stop Go.Stop Go.Extern

/-- a record -/
structure Rc where
  k : Int
  s : Int
  n : Int
  l : Int
  c : Int
def zR : Rc := ⟨0, 0, 0, 0, 0⟩
def MayR (r : Rc) : Prop := (r.k = 48 ∧ 0 ≤ r.s ∧ r.s ≤ 4294967295 ∧ 0 ≤ r.n ∧ r.n ≤ 16 ∧ r.l = 0 ∧ r.c = 0) ∨ (r.k = 49 ∧ 0 ≤ r.s ∧ r.s ≤ 4294967295 ∧ 0 ≤ r.n ∧ r.n ≤ 15 ∧ 0 ≤ r.l ∧ r.l ≤ 16777216 ∧ r.c = 0) ∨ (r.k = 50 ∧ r.s = 0 ∧ r.n = 0 ∧ r.l = 0 ∧ 1 ≤ r.c ∧ r.c ≤ 15) ∨ (r.k = 51 ∧ 0 ≤ r.s ∧ r.s ≤ 4294967295 ∧ r.n = 0 ∧ 0 ≤ r.l ∧ r.l ≤ 16777216 ∧ r.c = 0)
instance (r : Rc) : Decidable (MayR r) := by unfold MayR; infer_instance
/-- the data of its unit; how many bytes they are -/
def datR (r : Rc) : List Nat :=
  if r.k = 48 then be4 r.s.toNat ++ [r.n.toNat]
  else if r.k = 49 then r.n.toNat :: (be4 r.l.toNat ++ be4 r.s.toNat)
  else if r.k = 50 then [r.c.toNat]
  else if r.k = 51 then be4 r.l.toNat ++ be4 r.s.toNat
  else []
def lenR (k : Int) : Nat := if k = 48 then 5 else if k = 49 then 9 else if k = 50 then 1 else if k = 51 then 8 else 0
def kndR (k : Int) : Prop := 48 ≤ k ∧ k ≤ 51
instance (k : Int) : Decidable (kndR k) := by unfold kndR; infer_instance
def pkE (r : Rc) : Fall := if ¬ kndR r.k then some ([], 13) else if ¬ MayR r then some ([], 3) else none
def pkR (r : Rc) : List Nat := if MayR r then encB r.k.toNat (datR r) else []
/-- what a unit's data are as a record of a kind -/
def recR (k : Int) (d : List Nat) : Rc :=
  if k = 48 then ⟨k, (v4 (d.getD 0 0) (d.getD 1 0) (d.getD 2 0) (d.getD 3 0) : Nat), (d.getD 4 0 : Nat), 0, 0⟩
  else if k = 49 then ⟨k, (v4 (d.getD 5 0) (d.getD 6 0) (d.getD 7 0) (d.getD 8 0) : Nat), (d.getD 0 0 : Nat), (v4 (d.getD 1 0) (d.getD 2 0) (d.getD 3 0) (d.getD 4 0) : Nat), 0⟩
  else if k = 50 then ⟨k, 0, 0, 0, (d.getD 0 0 : Nat)⟩
  else ⟨k, (v4 (d.getD 4 0) (d.getD 5 0) (d.getD 6 0) (d.getD 7 0) : Nat), 0, (v4 (d.getD 0 0) (d.getD 1 0) (d.getD 2 0) (d.getD 3 0) : Nat), 0⟩
def prR (k : Int) (d : List Nat) : Fall × Rc :=
  if ¬ kndR k then (some ([], 13), zR) else if d.length ≠ lenR k then (some ([], 2), zR) else if ¬ MayR (recR k d) then (some ([], 2), zR) else (none, recR k d)
theorem may_knd {r : Rc} (h : MayR r) : kndR r.k := by unfold MayR at h; unfold kndR; omega
theorem pkE_none {r : Rc} : pkE r = none ↔ MayR r := by
  unfold pkE
  constructor
  · intro h
    split at h
    · cases h
    · split at h
      · cases h
      · exact Decidable.not_not.1 (by assumption)
  · intro h
    rw [if_neg (Decidable.not_not.2 (may_knd h)), if_neg (Decidable.not_not.2 h)]
theorem dat_len {r : Rc} : (datR r).length = lenR r.k := by
  unfold datR lenR
  repeat' split
  all_goals rfl
theorem lenR_le (k : Int) : lenR k ≤ 9 := by
  unfold lenR
  repeat' split
  all_goals omega
theorem v4_be4 {s : Nat} : v4 (s / 16777216) (s / 65536 % 256) (s / 256 % 256) (s % 256) = s := by unfold v4; omega
theorem be4_v4 {a b c e : Nat} (ha : a < 256) (hb : b < 256) (hc : c < 256) (he : e < 256) : be4 (v4 a b c e) = [a, b, c, e] := by
  unfold be4 v4
  have e1 : (((a * 256 + b) * 256 + c) * 256 + e) / 16777216 = a := by omega
  have e2 : (((a * 256 + b) * 256 + c) * 256 + e) / 65536 % 256 = b := by omega
  have e3 : (((a * 256 + b) * 256 + c) * 256 + e) / 256 % 256 = c := by omega
  have e4 : (((a * 256 + b) * 256 + c) * 256 + e) % 256 = e := by omega
  rw [e1, e2, e3, e4]
theorem v4_lt {a b c e : Nat} (ha : a < 256) (hb : b < 256) (hc : c < 256) (he : e < 256) : v4 a b c e < 4294967296 := by unfold v4; omega
theorem dat_lt {r : Rc} (h : MayR r) : ∀ x ∈ datR r, x < 256 := by
  have b4 : ∀ s : Int, 0 ≤ s → s ≤ 4294967295 → ∀ x ∈ be4 s.toNat, x < 256 := fun s h1 h2 => be4_lt (by omega)
  intro x hx
  unfold datR at hx
  rcases h with h | h | h | h
  · rw [if_pos h.1] at hx
    rcases List.mem_append.1 hx with hx | hx
    · exact b4 _ h.2.1 h.2.2.1 x hx
    · obtain rfl := List.mem_singleton.1 hx; omega
  · rw [if_neg (by omega), if_pos h.1] at hx
    rcases List.mem_cons.1 hx with rfl | hx
    · omega
    · rcases List.mem_append.1 hx with hx | hx
      · exact b4 _ h.2.2.2.2.2.1 (by omega) x hx
      · exact b4 _ h.2.1 h.2.2.1 x hx
  · rw [if_neg (by omega), if_neg (by omega), if_pos h.1] at hx
    obtain rfl := List.mem_singleton.1 hx
    omega
  · rw [if_neg (by omega), if_neg (by omega), if_neg (by omega), if_pos h.1] at hx
    rcases List.mem_append.1 hx with hx | hx
    · exact b4 _ h.2.2.2.2.1 (by omega) x hx
    · exact b4 _ h.2.1 h.2.2.1 x hx
/-- what was packed reads as it was -/
theorem rec_dat {r : Rc} (h : MayR r) : recR r.k (datR r) = r := by
  obtain ⟨k, s, n, l, c⟩ := r
  rcases h with h | h | h | h
  · obtain ⟨h0, h1, h2, h3, h4, h5, h6⟩ := h
    simp only at h0 h1 h2 h3 h4 h5 h6
    subst h0 h5 h6
    obtain ⟨s, rfl⟩ := Int.eq_ofNat_of_zero_le h1
    obtain ⟨n, rfl⟩ := Int.eq_ofNat_of_zero_le h3
    show (⟨48, ((v4 (s / 16777216) (s / 65536 % 256) (s / 256 % 256) (s % 256) : Nat) : Int), (n : Int), 0, 0⟩ : Rc) = _
    rw [v4_be4]
  · obtain ⟨h0, h1, h2, h3, h4, h5, h6, h7⟩ := h
    simp only at h0 h1 h2 h3 h4 h5 h6 h7
    subst h0 h7
    obtain ⟨s, rfl⟩ := Int.eq_ofNat_of_zero_le h1
    obtain ⟨n, rfl⟩ := Int.eq_ofNat_of_zero_le h3
    obtain ⟨l, rfl⟩ := Int.eq_ofNat_of_zero_le h5
    show (⟨49, ((v4 (s / 16777216) (s / 65536 % 256) (s / 256 % 256) (s % 256) : Nat) : Int), (n : Int), ((v4 (l / 16777216) (l / 65536 % 256) (l / 256 % 256) (l % 256) : Nat) : Int), 0⟩ : Rc) = _
    rw [v4_be4, v4_be4]
  · obtain ⟨h0, h1, h2, h3, h4, h5⟩ := h
    simp only at h0 h1 h2 h3 h4 h5
    subst h0 h1 h2 h3
    obtain ⟨c, rfl⟩ := Int.eq_ofNat_of_zero_le (a := c) (by omega)
    rfl
  · obtain ⟨h0, h1, h2, h3, h4, h5, h6⟩ := h
    simp only at h0 h1 h2 h3 h4 h5 h6
    subst h0 h3 h6
    obtain ⟨s, rfl⟩ := Int.eq_ofNat_of_zero_le h1
    obtain ⟨l, rfl⟩ := Int.eq_ofNat_of_zero_le h4
    show (⟨51, ((v4 (s / 16777216) (s / 65536 % 256) (s / 256 % 256) (s % 256) : Nat) : Int), 0, ((v4 (l / 16777216) (l / 65536 % 256) (l / 256 % 256) (l % 256) : Nat) : Int), 0⟩ : Rc) = _
    rw [v4_be4, v4_be4]
theorem pr_dat {r : Rc} (h : MayR r) : prR r.k (datR r) = (none, r) := by
  unfold prR
  rw [if_neg (Decidable.not_not.2 (may_knd h)), if_neg (by rw [dat_len]; simp), rec_dat h, if_neg (Decidable.not_not.2 h)]
theorem pr_fine {k : Int} {d : List Nat} (h : (prR k d).1 = none) : kndR k ∧ d.length = lenR k ∧ MayR (recR k d) ∧ prR k d = (none, recR k d) := by
  unfold prR at h ⊢
  split at h
  · cases h
  · rename_i h0
    rw [if_neg h0]
    split at h
    · cases h
    · rename_i h1
      rw [if_neg h1]
      split at h
      · cases h
      · rename_i h2
        rw [if_neg h2]
        exact ⟨Decidable.not_not.1 h0, Decidable.not_not.1 h1, Decidable.not_not.1 h2, rfl⟩
theorem pr_zero {k : Int} {d : List Nat} {f : List (ByteArray × Int) × Int} (h : (prR k d).1 = some f) : prR k d = (some f, zR) ∧ f.1 = [] ∧ f.2 ≠ 0 := by
  unfold prR at h ⊢
  split at h
  · rename_i h0
    rw [if_pos h0]
    obtain rfl := Option.some.inj h
    exact ⟨rfl, rfl, by decide⟩
  · rename_i h0
    rw [if_neg h0]
    split at h
    · rename_i h1
      rw [if_pos h1]
      obtain rfl := Option.some.inj h
      exact ⟨rfl, rfl, by decide⟩
    · rename_i h1
      rw [if_neg h1]
      split at h
      · rename_i h2
        rw [if_pos h2]
        obtain rfl := Option.some.inj h
        exact ⟨rfl, rfl, by decide⟩
      · cases h
theorem rec_k (k : Int) (d : List Nat) : (recR k d).k = k := by
  unfold recR
  repeat' split
  all_goals rfl
theorem list_len {α : Type} {d : List α} {n : Nat} (h : d.length = n + 1) : ∃ x t, d = x :: t ∧ t.length = n := by
  cases d with
  | nil => cases h
  | cons x t => exact ⟨x, t, rfl, by simpa using h⟩
/-- what reads as a record is what is packed -/
theorem dat_rec {k : Int} {d : List Nat} (hk : kndR k) (hl : d.length = lenR k) (hb : ∀ x ∈ d, x < 256) : datR (recR k d) = d := by
  obtain ⟨h1, h2⟩ := hk
  have h : k = 48 ∨ k = 49 ∨ k = 50 ∨ k = 51 := by omega
  rcases h with rfl | rfl | rfl | rfl
  · have hl : d.length = 5 := hl
    obtain ⟨a, b, c, e, f, rfl⟩ : ∃ a b c e f, d = [a, b, c, e, f] := by match d, hl with | [a, b, c, e, f], _ => exact ⟨a, b, c, e, f, rfl⟩
    show be4 (v4 a b c e) ++ [f] = _
    rw [be4_v4 (hb _ (by simp)) (hb _ (by simp)) (hb _ (by simp)) (hb _ (by simp))]
    rfl
  · have hl : d.length = 9 := hl
    obtain ⟨n, a, b, c, e, a', b', c', e', rfl⟩ : ∃ n a b c e a' b' c' e', d = [n, a, b, c, e, a', b', c', e'] := by match d, hl with | [n, a, b, c, e, a', b', c', e'], _ => exact ⟨n, a, b, c, e, a', b', c', e', rfl⟩
    show n :: (be4 (v4 a b c e) ++ be4 (v4 a' b' c' e')) = _
    rw [be4_v4 (hb _ (by simp)) (hb _ (by simp)) (hb _ (by simp)) (hb _ (by simp)), be4_v4 (hb _ (by simp)) (hb _ (by simp)) (hb _ (by simp)) (hb _ (by simp))]
    rfl
  · have hl : d.length = 1 := hl
    obtain ⟨a, rfl⟩ : ∃ a, d = [a] := by match d, hl with | [a], _ => exact ⟨a, rfl⟩
    rfl
  · have hl : d.length = 8 := hl
    obtain ⟨a, b, c, e, a', b', c', e', rfl⟩ : ∃ a b c e a' b' c' e', d = [a, b, c, e, a', b', c', e'] := by match d, hl with | [a, b, c, e, a', b', c', e'], _ => exact ⟨a, b, c, e, a', b', c', e', rfl⟩
    show be4 (v4 a b c e) ++ be4 (v4 a' b' c' e') = _
    rw [be4_v4 (hb _ (by simp)) (hb _ (by simp)) (hb _ (by simp)) (hb _ (by simp)), be4_v4 (hb _ (by simp)) (hb _ (by simp)) (hb _ (by simp)) (hb _ (by simp))]
    rfl
/-- a record as a unit that can be made -/
def umR (r : Rc) : Um := (r.k.toNat, datR r)
theorem okM_um {r : Rc} (h : MayR r) : okM (umR r) := by
  have hk := may_knd h
  unfold kndR at hk
  refine ⟨by show r.k.toNat < 256; omega, fun e => absurd (show r.k.toNat = 0 from e) (by omega), ?_, dat_lt h⟩
  show (datR r).length ≤ 65536
  rw [dat_len]
  have := lenR_le r.k
  omega
theorem pkR_form {r : Rc} (h : MayR r) : pkR r = encB (umR r).1 (umR r).2 := if_pos h
theorem uk_pk {r : Rc} (h : MayR r) : ukF r.k (datR r).length = none ∧ ukV r.k (datR r) = pkR r := by
  have hk := may_knd h
  unfold kndR at hk
  have hl := @dat_len r
  have h9 := lenR_le r.k
  have e : ukF r.k (datR r).length = none := by
    unfold ukF
    rw [if_neg (by omega), if_neg (by omega)]
  refine ⟨e, ?_⟩
  unfold ukV pkR
  rw [e, if_pos h]
theorem rd_pk {r : Rc} (h : MayR r) (q : List Nat) : rdU (pkR r ++ q) = (0, r.k.toNat, datR r, (pkR r).length) := by
  rw [pkR_form h]
  exact rd_one (okM_um h) q
/-- the records from a place on, and the place behind them -/
def scF : Nat → List Nat → Nat → List Rc × Nat
  | 0, _, a => ([], a)
  | f + 1, bs, a =>
    if bs.length ≤ a then ([], a)
    else if (rdU (bs.drop a)).1 = 0 ∧ (prR ((rdU (bs.drop a)).2.1 : Nat) (rdU (bs.drop a)).2.2.1).1 = none then
      ((prR ((rdU (bs.drop a)).2.1 : Nat) (rdU (bs.drop a)).2.2.1).2 :: (scF f bs (a + (rdU (bs.drop a)).2.2.2)).1, (scF f bs (a + (rdU (bs.drop a)).2.2.2)).2)
    else ([], a)
def scR (bs : List Nat) (a : Nat) : List Rc × Nat := scF (bs.length + 1) bs a
theorem scF_fuel (bs : List Nat) : ∀ (f g a : Nat), bs.length - a < f → bs.length - a < g → scF f bs a = scF g bs a
  | 0, _, _, h, _ => absurd h (Nat.not_lt_zero _)
  | _, 0, _, _, h => absurd h (Nat.not_lt_zero _)
  | f + 1, g + 1, a, h, k => by
    unfold scF
    by_cases h0 : bs.length ≤ a
    · rw [if_pos h0, if_pos h0]
    · rw [if_neg h0, if_neg h0]
      by_cases h1 : (rdU (bs.drop a)).1 = 0 ∧ (prR ((rdU (bs.drop a)).2.1 : Nat) (rdU (bs.drop a)).2.2.1).1 = none
      · have := (rdU_fine _ h1.1).1
        rw [if_pos h1, if_pos h1, scF_fuel bs f g (a + (rdU (bs.drop a)).2.2.2) (by omega) (by omega)]
      · rw [if_neg h1, if_neg h1]
theorem sc_done {bs : List Nat} {a : Nat} (h : bs.length ≤ a) : scR bs a = ([], a) := by
  unfold scR scF
  exact if_pos h
theorem sc_none {bs : List Nat} {a : Nat} (hc : ¬ ((rdU (bs.drop a)).1 = 0 ∧ (prR ((rdU (bs.drop a)).2.1 : Nat) (rdU (bs.drop a)).2.2.1).1 = none)) : scR bs a = ([], a) := by
  unfold scR scF
  by_cases h : bs.length ≤ a
  · rw [if_pos h]
  · rw [if_neg h, if_neg hc]
theorem sc_next {bs : List Nat} {a : Nat} (h : a < bs.length) {K : Nat} {D : List Nat} {E : Nat} {r : Rc} (hr : rdU (bs.drop a) = (0, K, D, E)) (hp : prR (K : Int) D = (none, r)) : scR bs a = (r :: (scR bs (a + E)).1, (scR bs (a + E)).2) := by
  have hp0 := (rdU_fine (bs.drop a) (by rw [hr])).1
  rw [hr] at hp0
  have hp' : 0 < E := hp0
  unfold scR
  rw [scF, if_neg (by omega), hr, if_pos ⟨rfl, by rw [hp]⟩, scF_fuel bs bs.length (bs.length + 1) (a + E) (by omega) (by omega)]
  show ((prR (K : Int) D).2 :: _, _) = _
  rw [hp]
/-- one step, as the loops see it -/
theorem sc_step (bs : List Nat) (k : Nat) (h : k < bs.length) : (∃ (K : Nat) (D : List Nat) (E : Nat), nxU bs (k : Int) = (none, K, D, (k : Int), (E : Int) + (k : Int)) ∧ (0 < E ∧ k + E ≤ bs.length ∧ D.length ≤ 65536) ∧ (∀ x ∈ D, x ∈ bs) ∧ ((∃ r, prR (K : Int) D = (none, r) ∧ MayR r ∧ scR bs k = (r :: (scR bs (k + E)).1, (scR bs (k + E)).2)) ∨ (∃ c, prR (K : Int) D = (some ([], c), zR) ∧ c ≠ 0 ∧ scR bs k = ([], k)))) ∨
    (∃ C : Int, C ≠ 0 ∧ nxU bs (k : Int) = (some ([(unS, (k : Int))], C), 0, [], 0, 0) ∧ scR bs k = ([], k)) := by
  have hN : nxU bs (k : Int) = if (rdU (bs.drop k)).1 = 0 then (none, (rdU (bs.drop k)).2.1, (rdU (bs.drop k)).2.2.1, (k : Int), ((rdU (bs.drop k)).2.2.2 : Int) + (k : Int)) else (some ([(unS, (k : Int))], (rdU (bs.drop k)).1), 0, [], 0, 0) := by
    unfold nxU
    rw [if_neg (by omega)]
    rfl
  by_cases hc : (rdU (bs.drop k)).1 = 0
  · left
    obtain ⟨f1, f2, f3⟩ := rdU_fine _ hc
    have f4 := rdU_end (bs.drop k) (by rw [List.length_drop]; omega)
    rw [List.length_drop] at f4
    rw [if_pos hc] at hN
    obtain ⟨⟨C, K, D, E⟩, hR⟩ : ∃ R, rdU (bs.drop k) = R := ⟨_, rfl⟩
    have hno := fun (hp : ¬ (prR ((rdU (bs.drop k)).2.1 : Nat) (rdU (bs.drop k)).2.2.1).1 = none) => sc_none (bs := bs) (a := k) (fun x => hp x.2)
    rw [hR] at hN f1 f2 f3 f4 hc hno
    have hc' : C = 0 := hc
    subst hc'
    have f4' : E ≤ bs.length - k := f4
    refine ⟨K, D, E, hN, ⟨f1, by omega, f2⟩, fun x hx => List.mem_of_mem_drop (f3 x hx), ?_⟩
    cases hp : (prR (K : Int) D).1 with
    | none =>
      obtain ⟨-, -, h3, h4⟩ := pr_fine hp
      exact .inl ⟨_, h4, h3, sc_next h hR h4⟩
    | some f =>
      obtain ⟨h1, h2, h3⟩ := pr_zero hp
      obtain ⟨p, c⟩ := f
      have h2' : p = [] := h2
      subst h2'
      exact .inr ⟨c, h1, h3, hno (fun e => by have e : (prR (K : Int) D).1 = none := e; rw [hp] at e; cases e)⟩
  · right
    rw [if_neg hc] at hN
    exact ⟨_, hc, hN, sc_none (fun x => hc x.1)⟩
def outR (l : List Rc) : List Nat := outM (l.map umR)
theorem outR_app (l m : List Rc) : outR (l ++ m) = outR l ++ outR m := by unfold outR; rw [List.map_append, outM_app]
theorem outR_cons {r : Rc} (l : List Rc) (h : MayR r) : outR (r :: l) = pkR r ++ outR l := by rw [pkR_form h]; rfl
theorem outR_snoc {r : Rc} (l : List Rc) (h : MayR r) : outR (l ++ [r]) = outR l ++ pkR r := by
  rw [outR_app, outR_cons [] h]
  show _ ++ (_ ++ []) = _
  rw [List.append_nil]
theorem pk_pos {r : Rc} (h : MayR r) : 0 < (pkR r).length := by rw [pkR_form h]; exact enc_pos _
theorem pk_len {r : Rc} (h : MayR r) : (pkR r).length = lenR r.k + 8 := by
  have hk := may_knd h
  unfold kndR at hk
  rw [pkR_form h, encB_len, if_neg (by show ¬ r.k.toNat = 0; omega)]
  show (datR r).length + 8 = _
  rw [dat_len]
theorem pk_lt {r : Rc} (h : MayR r) : ∀ x ∈ pkR r, x < 256 := by
  obtain ⟨h1, -, h3, h4⟩ := okM_um h
  rw [pkR_form h]
  exact encB_lt h1 h4 h3
theorem outR_lt {l : List Rc} (h : ∀ r ∈ l, MayR r) : ∀ x ∈ outR l, x < 256 := out_lt (fun u hu => by
  obtain ⟨r, hr, rfl⟩ := List.mem_map.1 hu
  exact okM_um (h r hr))
theorem outR_len {l : List Rc} (h : ∀ r ∈ l, MayR r) : (outR l).length ≤ l.length * 17 := by
  induction l with
  | nil => exact Nat.le_refl _
  | cons r t ih =>
    have hr := h r List.mem_cons_self
    have := ih (fun x hx => h x (List.mem_cons_of_mem _ hx))
    have h9 := lenR_le r.k
    rw [outR_cons t hr, List.length_append, pk_len hr, List.length_cons]
    omega
/-- records that were packed are told, whatever comes behind -/
theorem sc_made : ∀ (l : List Rc) (pre r : List Nat), (∀ x ∈ l, MayR x) → scR (pre ++ outR l ++ r) pre.length = (l ++ (scR (pre ++ outR l ++ r) (pre.length + (outR l).length)).1, (scR (pre ++ outR l ++ r) (pre.length + (outR l).length)).2)
  | [], pre, r, _ => by
    show scR (pre ++ [] ++ r) pre.length = ([] ++ (scR (pre ++ [] ++ r) (pre.length + 0)).1, (scR (pre ++ [] ++ r) (pre.length + 0)).2)
    rw [Nat.add_zero, List.nil_append]
  | u :: t, pre, r, h => by
    have hu := h u List.mem_cons_self
    have e : pre ++ outR (u :: t) ++ r = (pre ++ pkR u) ++ outR t ++ r := by
      rw [outR_cons t hu]
      simp only [List.append_assoc]
    have hd : (pre ++ outR (u :: t) ++ r).drop pre.length = pkR u ++ (outR t ++ r) := by
      rw [e]
      simp only [List.append_assoc]
      exact List.drop_left
    have hlen : (pre ++ pkR u).length = pre.length + (pkR u).length := List.length_append
    have ih := sc_made t (pre ++ pkR u) r (fun v hv => h v (List.mem_cons_of_mem _ hv))
    have hp := pk_pos hu
    have hkk : ((u.k.toNat : Nat) : Int) = u.k := by have := may_knd hu; unfold kndR at this; omega
    rw [sc_next (by rw [e]; simp only [List.length_append]; omega) (by rw [hd]; exact rd_pk hu _) (by rw [hkk]; exact pr_dat hu)]
    rw [← e, hlen] at ih
    rw [ih]
    have e2 : pre.length + (outR (u :: t)).length = pre.length + (pkR u).length + (outR t).length := by
      rw [outR_cons t hu, List.length_append]
      omega
    rw [e2]
    rfl
end Go.Proofs.YtmphochnmdmioaaDoor

/- Records of the journal cut, joined, packed again: plain. -/
namespace Go.Proofs.YtmphochnmdmioaaDoor
set_option linter.unusedVariables false
set_option linter.unusedSimpArgs false
open Go.RowKit Go.Extern.Stop Go.Stop Go.Extern

/-- .. cut anywhere -/
theorem sc_cut {l : List Rc} (h : ∀ u ∈ l, MayR u) {n c : Nat} (hn : n ≤ l.length) (h1 : eN (l.map umR) n ≤ c) (h2 : n = l.length ∨ c < eN (l.map umR) (n + 1)) (h3 : c ≤ (outR l).length) : scR ((outR l).take c) 0 = (l.take n, eN (l.map umR) n) := by
  have hsp : outR l = outR (l.take n) ++ outR (l.drop n) := by rw [← outR_app, List.take_append_drop]
  have hok : ∀ u ∈ l.take n, MayR u := fun u hu => h u (List.mem_of_mem_take hu)
  have heN : eN (l.map umR) n = (outR (l.take n)).length := by unfold eN outR; rw [List.map_take]
  have hcut : (outR l).take c = outR (l.take n) ++ (outR (l.drop n)).take (c - eN (l.map umR) n) := by
    rw [hsp, List.take_append, heN]
    congr 1
    exact List.take_of_length_le (by omega)
  obtain ⟨r, hr⟩ : ∃ r, (outR (l.drop n)).take (c - eN (l.map umR) n) = r := ⟨_, rfl⟩
  have hm := sc_made (l.take n) [] r hok
  rw [List.nil_append, show ([] : List Nat).length = 0 from rfl, Nat.zero_add] at hm
  rw [hcut, hr, hm, heN]
  have key : scR (outR (l.take n) ++ r) (outR (l.take n)).length = ([], (outR (l.take n)).length) := by
    by_cases hc : c = eN (l.map umR) n
    · have hr0 : r = [] := by rw [← hr, hc, Nat.sub_self]; rfl
      rw [hr0, List.append_nil]
      exact sc_done (Nat.le_refl _)
    · have hcn : n < l.length := by
        rcases h2 with h2 | h2
        · exfalso
          have : eN (l.map umR) n = (outR l).length := by rw [heN, h2, List.take_of_length_le (Nat.le_refl _)]
          omega
        · refine Nat.lt_of_not_le fun hle => ?_
          have e1 : eN (l.map umR) (n + 1) = (outR (l.take (n + 1))).length := by unfold eN outR; rw [List.map_take]
          rw [List.take_of_length_le hle] at heN
          rw [List.take_of_length_le (by omega)] at e1
          omega
      obtain ⟨u, hu⟩ : ∃ u, l[n]? = some u := ⟨_, List.getElem?_eq_getElem hcn⟩
      have hd : l.drop n = u :: l.drop (n + 1) := by
        rw [List.drop_eq_getElem_cons hcn]
        congr 1
        exact (List.getElem?_eq_some_iff.1 hu).2
      have hue := h u (List.mem_of_getElem? hu)
      have he1 : eN (l.map umR) (n + 1) = eN (l.map umR) n + (pkR u).length := by
        have e1 : eN (l.map umR) (n + 1) = (outR (l.take (n + 1))).length := by unfold eN outR; rw [List.map_take]
        rw [e1, heN, List.take_add_one, hu]
        show (outR (l.take n ++ [u])).length = _
        rw [outR_snoc _ hue, List.length_append]
      have hc2 : c < eN (l.map umR) (n + 1) := by
        rcases h2 with h2 | h2
        · omega
        · exact h2
      have hr1 : r = (pkR u).take (c - eN (l.map umR) n) := by
        rw [← hr, hd, outR_cons _ hue]
        exact List.take_append_of_le_length (by omega)
      have hdr : (outR (l.take n) ++ r).drop (outR (l.take n)).length = r := List.drop_left
      have hp1 : (rdU r).1 = 1 := by
        rw [hr1, pkR_form hue]
        rw [pkR_form hue] at he1
        exact rd_part (okM_um hue) (by omega) (by omega)
      refine sc_none ?_
      rw [hdr, hp1]
      intro x
      exact absurd x.1 (by decide)
  rw [key, List.append_nil]
theorem sc_shift (a b : List Nat) : ∀ (f i : Nat), b.length - i < f → scR (a ++ b) (a.length + i) = ((scR b i).1, a.length + (scR b i).2)
  | 0, _, h => absurd h (Nat.not_lt_zero _)
  | f + 1, i, h => by
    have hd : (a ++ b).drop (a.length + i) = b.drop i := by rw [List.drop_append, List.drop_eq_nil_of_le (by omega), List.nil_append]; congr 1; omega
    by_cases h0 : i < b.length
    · by_cases hc : (rdU (b.drop i)).1 = 0 ∧ (prR ((rdU (b.drop i)).2.1 : Nat) (rdU (b.drop i)).2.2.1).1 = none
      · have hpos := (rdU_fine _ hc.1).1
        obtain ⟨⟨C, K, D, E⟩, hR⟩ : ∃ R, rdU (b.drop i) = R := ⟨_, rfl⟩
        rw [hR] at hc hpos
        have hc' : C = 0 := hc.1
        subst hc'
        have hpos' : 0 < E := hpos
        have hp := (pr_fine hc.2).2.2.2
        rw [sc_next (bs := a ++ b) (a := a.length + i) (by rw [List.length_append]; omega) (by rw [hd]; exact hR) hp, sc_next h0 hR hp, Nat.add_assoc, sc_shift a b f (i + E) (by omega)]
      · rw [sc_none (bs := a ++ b) (by rw [hd]; exact hc), sc_none hc]
    · rw [sc_done (by rw [List.length_append]; omega), sc_done (by omega)]
theorem sc_join {l : List Rc} (h : ∀ u ∈ l, MayR u) (b : List Nat) : scR (outR l ++ b) 0 = (l ++ (scR b 0).1, (outR l).length + (scR b 0).2) := by
  have hm := sc_made l [] b h
  rw [List.nil_append, show ([] : List Nat).length = 0 from rfl, Nat.zero_add] at hm
  have hs := sc_shift (outR l) b (b.length + 1) 0 (by omega)
  rw [Nat.add_zero] at hs
  rw [hm, hs]
/-- what reads as a unit is what is made -/
theorem enc_rd {c : List Nat} (hb : ∀ x ∈ c, x < 256) {K : Nat} {D : List Nat} {E : Nat} (h : rdU c = (0, K, D, E)) (hk : K ≠ 0) : c.take E = encB K D := by
  unfold rdU at h
  split at h
  · simp only [Prod.mk.injEq] at h
    omega
  · split at h
    · simp at h
    · rename_i h4
      split at h
      · simp at h
      · rename_i h5
        split at h
        · simp at h
        · rename_i h6
          split at h
          · simp at h
          · rename_i h7
            have h7 := Decidable.not_not.1 h7
            simp only [Prod.mk.injEq, true_and] at h
            obtain ⟨hK, hD, hE⟩ := h
            obtain ⟨L, hL⟩ : ∃ L, lnB c = L := ⟨_, rfl⟩
            rw [hL] at hD hE h5 h6 h7
            obtain ⟨c0, t, rfl, ht⟩ : ∃ x t, c = x :: t ∧ t.length = c.length - 1 := by
              cases c with
              | nil => exact absurd (show ([] : List Nat).length < 4 by decide) h4
              | cons x t => exact ⟨x, t, rfl, by simp⟩
            have h4' : 4 ≤ t.length + 1 := by rw [List.length_cons] at h4; omega
            obtain ⟨c1, t1, e1, -⟩ := list_len (d := t) (n := t.length - 1) (by omega)
            subst e1
            rw [List.length_cons] at h4'
            obtain ⟨c2, t2, e2, -⟩ := list_len (d := t1) (n := t1.length - 1) (by omega)
            subst e2
            rw [List.length_cons] at h4'
            obtain ⟨c3, t3, e3, -⟩ := list_len (d := t2) (n := t2.length - 1) (by omega)
            subst e3
            rename List Nat => t
            have l1 := hb c1 (by simp)
            have l2 := hb c2 (by simp)
            have l3 := hb c3 (by simp)
            have hLv : L = (c1 * 256 + c2) * 256 + c3 := hL.symm
            have hlen : L + 8 ≤ t.length + 4 := by simp only [List.length_cons] at h6; omega
            have hDt : D = t.take L := hD.symm
            have hDl : D.length = L := by rw [hDt, List.length_take]; omega
            have hKc : K = c0 := hK.symm
            have hhd : hdB K D = (c0 :: c1 :: c2 :: c3 :: t).take (4 + L) := by
              unfold hdB be3
              rw [hDl, hKc, hDt]
              have e1 : L / 65536 = c1 := by omega
              have e2 : L / 256 % 256 = c2 := by omega
              have e3 : L % 256 = c3 := by omega
              rw [e1, e2, e3, show 4 + L = L + 1 + 1 + 1 + 1 by omega]
              rfl
            have hs : be4 (smB (c0 :: c1 :: c2 :: c3 :: t) (4 + L)) = (t.drop L).take 4 := by
              obtain ⟨u, hu⟩ : ∃ u, t.drop L = u := ⟨_, rfl⟩
              have hul : 4 ≤ u.length := by rw [← hu, List.length_drop]; omega
              have hub : ∀ x ∈ u, x < 256 := fun x hx => hb x (by rw [← hu] at hx; simp [List.mem_of_mem_drop hx])
              have hg : ∀ j, (c0 :: c1 :: c2 :: c3 :: t).getD (4 + L + j) 0 = u.getD j 0 := fun j => by
                simp only [List.getD_eq_getElem?_getD]
                rw [show 4 + L + j = L + j + 1 + 1 + 1 + 1 by omega, List.getElem?_cons_succ, List.getElem?_cons_succ, List.getElem?_cons_succ, List.getElem?_cons_succ, ← hu, List.getElem?_drop]
              have g0 := hg 0
              rw [Nat.add_zero] at g0
              unfold smB
              rw [g0, hg 1, hg 2, hg 3, hu]
              obtain ⟨u0, w1, f0, -⟩ := list_len (d := u) (n := u.length - 1) (by omega)
              subst f0
              rw [List.length_cons] at hul
              obtain ⟨u1, w2, f1, -⟩ := list_len (d := w1) (n := w1.length - 1) (by omega)
              subst f1
              rw [List.length_cons] at hul
              obtain ⟨u2, w3, f2, -⟩ := list_len (d := w2) (n := w2.length - 1) (by omega)
              subst f2
              rw [List.length_cons] at hul
              obtain ⟨u3, w4, f3, -⟩ := list_len (d := w3) (n := w3.length - 1) (by omega)
              subst f3
              exact be4_v4 (hub _ (by simp)) (hub _ (by simp)) (hub _ (by simp)) (hub _ (by simp))
            rw [enc_form K D hk, hhd, ← h7, hs, ← hE]
            have : (c0 :: c1 :: c2 :: c3 :: t).take (4 + L + 4) = (c0 :: c1 :: c2 :: c3 :: t).take (4 + L) ++ ((c0 :: c1 :: c2 :: c3 :: t).drop (4 + L)).take 4 := List.take_add
            rw [show L + 8 = 4 + L + 4 by omega, this]
            congr 2
            rw [show 4 + L = L + 1 + 1 + 1 + 1 by omega]
            rfl
/-- what was scanned, packed again -/
theorem sc_again {bs : List Nat} (hb : ∀ x ∈ bs, x < 256) : ∀ (f i : Nat), bs.length - i < f → i ≤ bs.length → (∀ r ∈ (scR bs i).1, MayR r) ∧ i ≤ (scR bs i).2 ∧ (scR bs i).2 ≤ bs.length ∧ (bs.drop i).take ((scR bs i).2 - i) = outR (scR bs i).1 ∧ scR bs (scR bs i).2 = ([], (scR bs i).2)
  | 0, _, h, _ => absurd h (Nat.not_lt_zero _)
  | f + 1, i, h, hi => by
    by_cases h0 : i < bs.length
    · by_cases hc : (rdU (bs.drop i)).1 = 0 ∧ (prR ((rdU (bs.drop i)).2.1 : Nat) (rdU (bs.drop i)).2.2.1).1 = none
      · obtain ⟨hpos, -, hmem⟩ := rdU_fine _ hc.1
        have hend := rdU_end (bs.drop i) (by rw [List.length_drop]; omega)
        rw [List.length_drop] at hend
        obtain ⟨⟨C, K, D, E⟩, hR⟩ : ∃ R, rdU (bs.drop i) = R := ⟨_, rfl⟩
        rw [hR] at hc hpos hend hmem
        have hc' : C = 0 := hc.1
        subst hc'
        have hpos' : 0 < E := hpos
        have hend' : E ≤ bs.length - i := hend
        obtain ⟨p1, p2, p3, p4⟩ := pr_fine hc.2
        have p1 : kndR (K : Int) := p1
        have p2 : D.length = lenR (K : Int) := p2
        have p3 : MayR (recR (K : Int) D) := p3
        have hK : K ≠ 0 := by unfold kndR at p1; omega
        have hbd : ∀ x ∈ bs.drop i, x < 256 := fun x hx => hb x (List.mem_of_mem_drop hx)
        have he := enc_rd hbd hR hK
        have hpk : pkR (recR (K : Int) D) = encB K D := by
          unfold pkR
          rw [if_pos p3, rec_k, dat_rec p1 p2 (fun x hx => hbd x (hmem x hx))]
          rfl
        obtain ⟨i1, i2, i3, i4, i5⟩ := sc_again hb f (i + E) (by omega) (by omega)
        rw [sc_next h0 hR p4]
        refine ⟨fun r hr => ?_, by show i ≤ (scR bs (i + E)).2; omega, i3, ?_, i5⟩
        · rcases List.mem_cons.1 hr with rfl | hr
          · exact p3
          · exact i1 r hr
        · show (bs.drop i).take ((scR bs (i + E)).2 - i) = outR (_ :: (scR bs (i + E)).1)
          rw [outR_cons _ p3, hpk, ← i4, ← he]
          have e1 : (scR bs (i + E)).2 - i = E + ((scR bs (i + E)).2 - (i + E)) := by omega
          rw [e1, List.take_add, List.drop_drop]
      · rw [sc_none hc]
        refine ⟨fun r hr => (by cases hr), Nat.le_refl _, hi, ?_, sc_none hc⟩
        show (bs.drop i).take (i - i) = []
        rw [Nat.sub_self]
        rfl
    · have hd := sc_done (bs := bs) (a := i) (by omega)
      rw [hd]
      refine ⟨fun r hr => (by cases hr), Nat.le_refl _, hi, ?_, hd⟩
      show (bs.drop i).take (i - i) = []
      rw [Nat.sub_self]
      rfl
/-- where no record begins: no unit, or one that is none -/
theorem sc_stop {bs : List Nat} {k : Nat} (h : scR bs k = ([], k)) : (nxU bs (k : Int)).1 ≠ none ∨ (prR ((nxU bs (k : Int)).2.1 : Nat) (nxU bs (k : Int)).2.2.1).1 ≠ none := by
  by_cases h0 : k < bs.length
  · rcases sc_step bs k h0 with ⟨K, D, E, e1, -, -, ⟨r, -, -, e2⟩ | ⟨c, e2, -, -⟩⟩ | ⟨C, -, e1, -⟩
    · rw [h] at e2
      cases (Prod.mk.inj e2).1
    · right
      rw [e1]
      show (prR (K : Int) D).1 ≠ none
      rw [e2]
      exact fun e => by cases e
    · left
      rw [e1]
      exact fun e => by cases e
  · left
    unfold nxU
    rw [if_pos (.inr (by omega))]
    exact fun e => by cases e
end Go.Proofs.YtmphochnmdmioaaDoor

/- log.May, kinref26.May: contracts over this seat's translation. -/
namespace Go.Proofs.YtmphochnmdmioaaDoor
set_option linter.unusedVariables false
set_option linter.unusedSimpArgs false
open Go.RowKit Go.Extern.Stop Go.Stop Go.Extern

theorem ans_bool {b : Bool} {P : Prop} [Decidable P] (h : b = true ↔ P) : Ending.returned (.bool b) = Ending.returned (.bool (decide P)) := by
  congr 2
  by_cases hp : P
  · rw [decide_eq_true hp]; exact h.2 hp
  · rw [decide_eq_false hp]
    cases b with
    | false => rfl
    | true => exact absurd (h.1 rfl) hp
/-- the five fields as an argument -/
abbrev rcA (r : Rc) : Value := .agg #[.int .i64 r.k, .int .i64 r.s, .int .i64 r.n, .int .i64 r.l, .int .i64 r.c]
set_option maxHeartbeats 4000000 in
set_option maxRecDepth 20000 in
theorem lmay_any (r : Rc) (w : World) : Calls Tryd.prog 15 #[rcA r] w fun e w' => e = .returned (.bool (decide (MayR r))) ∧ Ext w w' := by
  obtain ⟨k, s, n, l, c⟩ := r
  show Calls Tryd.prog 15 #[.agg #[.int .i64 k, .int .i64 s, .int .i64 n, .int .i64 l, .int .i64 c]] w _
  by_cases h1 : k = 48
  · subst h1
    go_enter Tryd.func15, Tryd.ntmps15
    go_wp2
    all_goals go_ret
    all_goals (try simp only [beq_iff_eq, beq_eq_false_iff_ne, ne_eq, decide_eq_true_eq, decide_eq_false_iff_not] at *)
    all_goals exact ⟨ans_bool (by simp only [decide_eq_true_eq, beq_iff_eq, Bool.false_eq_true, MayR, Int.reduceEq, true_and, false_and, false_or, or_false, false_iff, true_iff]; omega), by repeat (first | exact Ext.refl _ | apply Ext.alloc | apply Ext.setCell (ha := by simp))⟩
  by_cases h2 : k = 49
  · subst h2
    go_enter Tryd.func15, Tryd.ntmps15
    go_wp2
    all_goals go_ret
    all_goals (try simp only [beq_iff_eq, beq_eq_false_iff_ne, ne_eq, decide_eq_true_eq, decide_eq_false_iff_not] at *)
    all_goals exact ⟨ans_bool (by simp only [decide_eq_true_eq, beq_iff_eq, Bool.false_eq_true, MayR, Int.reduceEq, true_and, false_and, false_or, or_false, false_iff, true_iff]; omega), by repeat (first | exact Ext.refl _ | apply Ext.alloc | apply Ext.setCell (ha := by simp))⟩
  by_cases h3 : k = 50
  · subst h3
    go_enter Tryd.func15, Tryd.ntmps15
    go_wp2
    all_goals go_ret
    all_goals (try simp only [beq_iff_eq, beq_eq_false_iff_ne, ne_eq, decide_eq_true_eq, decide_eq_false_iff_not] at *)
    all_goals exact ⟨ans_bool (by simp only [decide_eq_true_eq, beq_iff_eq, Bool.false_eq_true, MayR, Int.reduceEq, true_and, false_and, false_or, or_false, false_iff, true_iff]; omega), by repeat (first | exact Ext.refl _ | apply Ext.alloc | apply Ext.setCell (ha := by simp))⟩
  by_cases h4 : k = 51
  · subst h4
    go_enter Tryd.func15, Tryd.ntmps15
    go_wp2
    all_goals go_ret
    all_goals (try simp only [beq_iff_eq, beq_eq_false_iff_ne, ne_eq, decide_eq_true_eq, decide_eq_false_iff_not] at *)
    all_goals exact ⟨ans_bool (by simp only [decide_eq_true_eq, beq_iff_eq, Bool.false_eq_true, MayR, Int.reduceEq, true_and, false_and, false_or, or_false, false_iff, true_iff]; omega), by repeat (first | exact Ext.refl _ | apply Ext.alloc | apply Ext.setCell (ha := by simp))⟩
  have g1 : (k == 48) = false := by simpa using h1
  have g2 : (k == 49) = false := by simpa using h2
  have g3 : (k == 50) = false := by simpa using h3
  have g4 : (k == 51) = false := by simpa using h4
  go_enter Tryd.func15, Tryd.ntmps15
  go_wp2
  all_goals go_ret
  all_goals (try simp only [beq_iff_eq, beq_eq_false_iff_ne, ne_eq, decide_eq_true_eq, decide_eq_false_iff_not] at *)
  all_goals exact ⟨ans_bool (by simp only [decide_eq_true_eq, beq_iff_eq, Bool.false_eq_true, MayR, Int.reduceEq, true_and, false_and, false_or, or_false, false_iff, true_iff]; omega), by repeat (first | exact Ext.refl _ | apply Ext.alloc | apply Ext.setCell (ha := by simp))⟩
set_option maxHeartbeats 4000000 in
set_option maxRecDepth 20000 in
theorem rlmay_any (r : Rc) (w : World) : Calls Tryd.prog 16 #[rcA r] w fun e w' => e = .returned (.bool (decide (MayR r))) ∧ Ext w w' := by
  obtain ⟨k, s, n, l, c⟩ := r
  show Calls Tryd.prog 16 #[.agg #[.int .i64 k, .int .i64 s, .int .i64 n, .int .i64 l, .int .i64 c]] w _
  by_cases h1 : k = 48
  · subst h1
    go_enter Tryd.func16, Tryd.ntmps16
    go_wp2
    all_goals go_ret
    all_goals (try simp only [beq_iff_eq, beq_eq_false_iff_ne, ne_eq, decide_eq_true_eq, decide_eq_false_iff_not] at *)
    all_goals exact ⟨ans_bool (by simp only [decide_eq_true_eq, beq_iff_eq, Bool.false_eq_true, MayR, Int.reduceEq, true_and, false_and, false_or, or_false, false_iff, true_iff]; omega), by repeat (first | exact Ext.refl _ | apply Ext.alloc | apply Ext.setCell (ha := by simp))⟩
  by_cases h2 : k = 49
  · subst h2
    go_enter Tryd.func16, Tryd.ntmps16
    go_wp2
    all_goals go_ret
    all_goals (try simp only [beq_iff_eq, beq_eq_false_iff_ne, ne_eq, decide_eq_true_eq, decide_eq_false_iff_not] at *)
    all_goals exact ⟨ans_bool (by simp only [decide_eq_true_eq, beq_iff_eq, Bool.false_eq_true, MayR, Int.reduceEq, true_and, false_and, false_or, or_false, false_iff, true_iff]; omega), by repeat (first | exact Ext.refl _ | apply Ext.alloc | apply Ext.setCell (ha := by simp))⟩
  by_cases h3 : k = 50
  · subst h3
    go_enter Tryd.func16, Tryd.ntmps16
    go_wp2
    all_goals go_ret
    all_goals (try simp only [beq_iff_eq, beq_eq_false_iff_ne, ne_eq, decide_eq_true_eq, decide_eq_false_iff_not] at *)
    all_goals exact ⟨ans_bool (by simp only [decide_eq_true_eq, beq_iff_eq, Bool.false_eq_true, MayR, Int.reduceEq, true_and, false_and, false_or, or_false, false_iff, true_iff]; omega), by repeat (first | exact Ext.refl _ | apply Ext.alloc | apply Ext.setCell (ha := by simp))⟩
  by_cases h4 : k = 51
  · subst h4
    go_enter Tryd.func16, Tryd.ntmps16
    go_wp2
    all_goals go_ret
    all_goals (try simp only [beq_iff_eq, beq_eq_false_iff_ne, ne_eq, decide_eq_true_eq, decide_eq_false_iff_not] at *)
    all_goals exact ⟨ans_bool (by simp only [decide_eq_true_eq, beq_iff_eq, Bool.false_eq_true, MayR, Int.reduceEq, true_and, false_and, false_or, or_false, false_iff, true_iff]; omega), by repeat (first | exact Ext.refl _ | apply Ext.alloc | apply Ext.setCell (ha := by simp))⟩
  have g1 : (k == 48) = false := by simpa using h1
  have g2 : (k == 49) = false := by simpa using h2
  have g3 : (k == 50) = false := by simpa using h3
  have g4 : (k == 51) = false := by simpa using h4
  go_enter Tryd.func16, Tryd.ntmps16
  go_wp2
  all_goals go_ret
  all_goals (try simp only [beq_iff_eq, beq_eq_false_iff_ne, ne_eq, decide_eq_true_eq, decide_eq_false_iff_not] at *)
  all_goals exact ⟨ans_bool (by simp only [decide_eq_true_eq, beq_iff_eq, Bool.false_eq_true, MayR, Int.reduceEq, true_and, false_and, false_or, or_false, false_iff, true_iff]; omega), by repeat (first | exact Ext.refl _ | apply Ext.alloc | apply Ext.setCell (ha := by simp))⟩
end Go.Proofs.YtmphochnmdmioaaDoor

/- log.appendFour, log.fields: contracts over this seat's translation. -/
namespace Go.Proofs.YtmphochnmdmioaaDoor
set_option linter.unusedVariables false
set_option linter.unusedSimpArgs false
open Go.RowKit Go.Extern.Stop Go.Stop Go.Extern

set_option maxHeartbeats 4000000 in
set_option maxRecDepth 20000 in
theorem four_any (v : Value) (n : Nat) (xs : List Nat) (s base : Nat) (w : World) (ho : w.ownsRow base 5 1 v n (byC xs)) (hb : base ≤ w.heap.size) (hn : n ≤ 1000000) (hs : s ≤ 4294967295) :
    Calls Tryd.prog 43 #[v, .int .i64 (s : Int)] w fun e w' => ∃ g cap, e = .returned (.slice (some ⟨g, 0, none⟩) (n + 4) cap) ∧ w'.ownsRow base 5 1 (.slice (some ⟨g, 0, none⟩) (n + 4) cap) (n + 4) (byC (xs ++ be4 s)) ∧ w.grownBy w' v.ownBlock := by
  have HO := Lib.hid ho
  obtain ⟨s1, g1⟩ : ∃ s1, s / 16777216 = s1 := ⟨_, rfl⟩
  obtain ⟨t2, g2⟩ : ∃ t2, s / 65536 = t2 := ⟨_, rfl⟩
  obtain ⟨s2, g3⟩ : ∃ s2, t2 % 256 = s2 := ⟨_, rfl⟩
  obtain ⟨t3, g4⟩ : ∃ t3, s / 256 = t3 := ⟨_, rfl⟩
  obtain ⟨s3, g5⟩ : ∃ s3, t3 % 256 = s3 := ⟨_, rfl⟩
  obtain ⟨s4, g6⟩ : ∃ s4, s % 256 = s4 := ⟨_, rfl⟩
  have HB4 : Hid (be4 s = [s1, s2, s3, s4]) := by show _ = _; unfold be4; rw [g1, g2, g3, g4, g5, g6]
  have o1 : (s : Int) / 16777216 = (s1 : Int) := by omega
  have o2 : (s : Int) / 65536 = (t2 : Int) := by omega
  have o3 : (s : Int) / 256 = (t3 : Int) := by omega
  have o4 : IntKind.u8.wrap (s1 : Int) = (s1 : Int) := by rw [IntKind.wrap_u8]; omega
  have o5 : IntKind.u8.wrap (t2 : Int) = (s2 : Int) := by rw [IntKind.wrap_u8]; omega
  have o6 : IntKind.u8.wrap (t3 : Int) = (s3 : Int) := by rw [IntKind.wrap_u8]; omega
  have o7 : IntKind.u8.wrap (s : Int) = (s4 : Int) := by rw [IntKind.wrap_u8]; omega
  have o8 : IntKind.i64.wrap (s1 : Int) = (s1 : Int) := by rw [IntKind.wrap_i64]; omega
  have o9 : IntKind.i64.wrap (t2 : Int) = (t2 : Int) := by rw [IntKind.wrap_i64]; omega
  have oA : IntKind.i64.wrap (t3 : Int) = (t3 : Int) := by rw [IntKind.wrap_i64]; omega
  clear g1 g2 g3 g4 g5 g6 ho
  go_enter Tryd.func43, Tryd.ntmps43
  go_wp2_with (at_builtin; refine app_new rfl _ _ 25 rfl Tryd.underlying25 _ n xs [s1, s2, s3, s4] rfl HO.out (by show Value.slice (some ⟨w.heap.size, 0, none⟩) 4 4 = _; simp) (by simp) hb (by simp; omega) ?_; intro g7 cap7 w7 h1 h2; have HO7 := Lib.hid h1; have HE7 := Lib.hid h2; clear h1 h2)
  go_ret
  exact ⟨_, _, rfl, by rw [HB4.out]; exact HO7.out, HE7.out⟩
theorem four_nil (s base : Nat) (w : World) (hb : base ≤ w.heap.size) (hs : s ≤ 4294967295) :
    Calls Tryd.prog 43 #[.slice none 0 0, .int .i64 (s : Int)] w fun e w' => ∃ g cap, e = .returned (.slice (some ⟨g, 0, none⟩) 4 cap) ∧ w'.ownsRow base 5 1 (.slice (some ⟨g, 0, none⟩) 4 cap) 4 (byC (be4 s)) ∧ Ext w w' :=
  (four_any (.slice none 0 0) 0 [] s base w (World.ownsRow_nil _ _ _ _) hb (by decide) hs).mono fun e w' ⟨g, cap, h1, h2, h3⟩ => ⟨g, cap, h1, h2, Below.grown (Ext.refl w) h3 (Nat.le_refl _) (fun k hk => by cases hk)⟩
/-- a row of one byte that was just made -/
theorem one_row (W : World) (x : Nat) : Row (W.alloc (.cells #[.int .u8 (x : Int)] 5)) (.slice (some ⟨W.heap.size, 0, none⟩) 1 1) 1 [.int .u8 (x : Int)] := by
  refine ⟨_, 1, rfl, Nat.le_refl _, by decide, fun _ => ⟨_, _, rfl⟩, fun g off ha j u hu => ?_⟩
  simp only [Option.some.injEq, Addr.mk.injEq, and_true] at ha
  obtain ⟨rfl, rfl⟩ := ha
  cases j with
  | zero => have hu : some (Value.int .u8 (x : Int)) = some u := hu; rw [← hu]; simp
  | succ j => simp at hu
theorem one_cell1 (x : Nat) : ∀ u ∈ [Value.int .u8 (x : Int)], u.oneCell' = true := by intro u hu; rw [List.mem_singleton.1 hu]; rfl
/-- a record's five cells -/
def RcAt (w : World) (b i : Nat) (r : Rc) : Prop := w.cell? ⟨b, i, none⟩ = some (.int .i64 r.k) ∧ w.cell? ⟨b, i + 1, none⟩ = some (.int .i64 r.s) ∧ w.cell? ⟨b, i + 2, none⟩ = some (.int .i64 r.n) ∧ w.cell? ⟨b, i + 3, none⟩ = some (.int .i64 r.l) ∧ w.cell? ⟨b, i + 4, none⟩ = some (.int .i64 r.c)
theorem RcAt.ext {w w' : World} {b i : Nat} {r : Rc} (h : RcAt w b i r) (x : Ext w w') : RcAt w' b i r := ⟨x.cell h.1, x.cell h.2.1, x.cell h.2.2.1, x.cell h.2.2.2.1, x.cell h.2.2.2.2⟩
theorem RcAt.new (w : World) (r : Rc) (t : TypeId) : RcAt (w.alloc (.cells #[.int .i64 r.k, .int .i64 r.s, .int .i64 r.n, .int .i64 r.l, .int .i64 r.c] t)) w.heap.size 0 r := ⟨by simp, by simp, by simp, by simp, by simp⟩
theorem rc_grow {w w' : World} {b i base n sz : Nat} {r : Rc} {v : Value} {xs : List Value} {e : TypeId} (h : RcAt w b i r) (ho : w.ownsRow base e sz v n xs) (g : w.grownBy w' v.ownBlock) (hb : b < base) : RcAt w' b i r := by
  have c : ∀ j u, w.cell? ⟨b, j, none⟩ = some u → w'.cell? ⟨b, j, none⟩ = some u := fun j u hu => (World.cell?_of_block (g.block b (Ext.lt hu) (fun e => by have := (ho.lt b e.symm).1; omega))).trans hu
  exact ⟨c _ _ h.1, c _ _ h.2.1, c _ _ h.2.2.1, c _ _ h.2.2.2.1, c _ _ h.2.2.2.2⟩
def FdPost (w : World) (bs : List Nat) (e : Ending) (w' : World) : Prop := ∃ u, e = .returned u ∧ w'.ownsRow (w.heap.size + 1) 5 1 u bs.length (byC bs) ∧ Ext w w'
set_option maxHeartbeats 4000000 in
set_option maxRecDepth 20000 in
theorem fields51 (s n l c : Nat) (w : World) (hs : s ≤ 4294967295) (hl : l ≤ 4294967295) : Calls Tryd.prog 29 #[.agg #[.int .i64 51, .int .i64 (s : Int), .int .i64 (n : Int), .int .i64 (l : Int), .int .i64 (c : Int)]] w (FdPost w (be4 l ++ be4 s)) := by
  have HR := Lib.hid (RcAt.new w ⟨51, s, n, l, c⟩ 24)
  have HE := Lib.hid ((Ext.refl w).alloc (.cells #[.int .i64 51, .int .i64 (s : Int), .int .i64 (n : Int), .int .i64 (l : Int), .int .i64 (c : Int)] 24))
  obtain ⟨P, hP⟩ : ∃ P : Nat, P = 0 := ⟨0, rfl⟩
  obtain ⟨pre, hpre⟩ : ∃ pre : List Nat, pre = [] := ⟨[], rfl⟩
  have HO : Hid ((w.alloc (.cells #[.int .i64 51, .int .i64 (s : Int), .int .i64 (n : Int), .int .i64 (l : Int), .int .i64 (c : Int)] 24)).ownsRow (w.heap.size + 1) 5 1 (.slice none 0 0) P (byC pre)) := by show World.ownsRow _ _ _ _ _ _ _; rw [hP, hpre]; exact World.ownsRow_nil _ _ _ _
  have HPL : Hid (pre.length = P) := by show _ = _; rw [hP, hpre]; rfl
  have HD : Hid (pre ++ be4 l ++ be4 s = be4 l ++ be4 s) := by show _ = _; rw [hpre]; rfl
  have hP9 : P ≤ 10 := by omega
  clear hP hpre
  go_enter Tryd.func29, Tryd.ntmps29
  go_wp2_with fail
  revert HR HE HO
  generalize hw0 : w.alloc _ = w0
  intro HR HE HO
  have hs0 : w.heap.size + 1 ≤ w0.heap.size := by rw [← hw0]; simp
  clear hw0
  have HLEN : Hid ((pre ++ be4 l ++ be4 s).length = P + 4 + 4) := by show _ = _; rw [List.length_append, List.length_append, HPL.out]; rfl
  obtain ⟨q0, q1, q2, q3, q4⟩ := HR.out
  have U1 := Lib.hid (four_any _ P pre l (w.heap.size + 1) w0.drew HO.out.drew hs0 (by omega) hl)
  go_wp2_with fail
  go_region_law (first
    | (go_simp; go_at_call 43; (with_reducible refine U1.out.mono ?_); rintro e w2 ⟨g2, c2, rfl, h1, h2⟩; have HO2 := Lib.hid h1; have HE2 := Lib.hid (own_grow HO.out.drew h2 HE.out.drew (Nat.le_succ _)); have hs2 := Nat.le_trans hs0 h2.size; obtain ⟨r0, r1, r2, r3, r4⟩ := rc_grow (HR.out.ext (Ext.refl w0).drew) HO.out.drew h2 (Nat.lt_succ_self _); have U2 := Lib.hid (four_any _ (P + 4) (pre ++ be4 l) s (w.heap.size + 1) w2 HO2.out hs2 (by omega) hs); clear h1 h2)
    | (go_simp; go_at_call 43; (with_reducible refine U2.out.mono ?_); rintro e w3 ⟨g3, c3, rfl, h1, h2⟩; have HO3 := Lib.hid h1; have HE3 := Lib.hid (own_grow HO2.out h2 HE2.out (Nat.le_succ _)); clear h1 h2))
  all_goals go_wp2
  all_goals go_ret
  all_goals exact ⟨_, rfl, by rw [← HD.out, HLEN.out]; exact HO3.out, HE3.out⟩
set_option maxHeartbeats 4000000 in
set_option maxRecDepth 20000 in
theorem fields49 (s n l c : Nat) (w : World) (hs : s ≤ 4294967295) (hl : l ≤ 4294967295) (hn : n ≤ 255) : Calls Tryd.prog 29 #[.agg #[.int .i64 49, .int .i64 (s : Int), .int .i64 (n : Int), .int .i64 (l : Int), .int .i64 (c : Int)]] w (FdPost w (n :: (be4 l ++ be4 s))) := by
  have HR1 := Lib.hid (RcAt.new w ⟨49, s, n, l, c⟩ 24)
  have HE1 := Lib.hid ((Ext.refl w).alloc (.cells #[.int .i64 49, .int .i64 (s : Int), .int .i64 (n : Int), .int .i64 (l : Int), .int .i64 (c : Int)] 24))
  have HO1 : Hid ((w.alloc (.cells #[.int .i64 49, .int .i64 (s : Int), .int .i64 (n : Int), .int .i64 (l : Int), .int .i64 (c : Int)] 24)).ownsRow (w.heap.size + 1) 5 1 (.slice none 0 0) 0 (byC [])) := World.ownsRow_nil _ _ _ _
  have m1 : IntKind.u8.wrap (n : Int) = (n : Int) := by rw [IntKind.wrap_u8]; omega
  go_enter Tryd.func29, Tryd.ntmps29
  go_wp2_with (at_builtin; go_loud (refine app_new rfl _ _ 25 rfl Tryd.underlying25 _ 0 [] [n] rfl HO1.out (by show Value.slice (some ⟨_, 0, none⟩) 1 1 = _; simp) (by simp) (by simp) (by simp) ?_; intro g4 cap4 w0 h1 h2; have HE := Lib.hid (own_grow HO1.out h2 HE1.out (Nat.le_succ _)); have HR := Lib.hid (HR1.out.ext (own_grow HO1.out h2 (Ext.refl _) (by simp))); have HSS := Lib.hid (Nat.le_trans (show w.heap.size + 1 ≤ _ by simp) h2.size); have HO4 := Lib.hid h1; clear h1 h2))
  obtain ⟨P, hP⟩ : ∃ P : Nat, P = 1 := ⟨1, rfl⟩
  obtain ⟨pre, hpre⟩ : ∃ pre : List Nat, pre = [n] := ⟨[n], rfl⟩
  have HPL : Hid (pre.length = P) := by show _ = _; rw [hP, hpre]; rfl
  have HD : Hid (pre ++ be4 l ++ be4 s = n :: (be4 l ++ be4 s)) := by show _ = _; rw [hpre]; rfl
  have hP9 : P ≤ 10 := by omega
  have HO : Hid (w0.ownsRow (w.heap.size + 1) 5 1 (.slice (some ⟨g4, 0, none⟩) 1 cap4) P (byC pre)) := by show World.ownsRow _ _ _ _ _ _ _; rw [hP, hpre]; exact HO4.out
  clear hP hpre
  have hs0 := HSS.out
  have HLEN : Hid ((pre ++ be4 l ++ be4 s).length = P + 4 + 4) := by show _ = _; rw [List.length_append, List.length_append, HPL.out]; rfl
  obtain ⟨q0, q1, q2, q3, q4⟩ := HR.out
  have U1 := Lib.hid (four_any _ P pre l (w.heap.size + 1) w0.drew HO.out.drew hs0 (by omega) hl)
  go_wp2_with fail
  go_region_law (first
    | (go_simp; go_at_call 43; (with_reducible refine U1.out.mono ?_); rintro e w2 ⟨g2, c2, rfl, h1, h2⟩; have HO2 := Lib.hid h1; have HE2 := Lib.hid (own_grow HO.out.drew h2 HE.out.drew (Nat.le_succ _)); have hs2 := Nat.le_trans hs0 h2.size; obtain ⟨r0, r1, r2, r3, r4⟩ := rc_grow (HR.out.ext (Ext.refl w0).drew) HO.out.drew h2 (Nat.lt_succ_self _); have U2 := Lib.hid (four_any _ (P + 4) (pre ++ be4 l) s (w.heap.size + 1) w2 HO2.out hs2 (by omega) hs); clear h1 h2)
    | (go_simp; go_at_call 43; (with_reducible refine U2.out.mono ?_); rintro e w3 ⟨g3, c3, rfl, h1, h2⟩; have HO3 := Lib.hid h1; have HE3 := Lib.hid (own_grow HO2.out h2 HE2.out (Nat.le_succ _)); clear h1 h2))
  all_goals go_wp2
  all_goals go_ret
  all_goals exact ⟨_, rfl, by rw [← HD.out, HLEN.out]; exact HO3.out, HE3.out⟩
set_option maxHeartbeats 4000000 in
set_option maxRecDepth 20000 in
theorem fields50 (s n l c : Nat) (w : World) (hs : s ≤ 4294967295) (hn : n ≤ 255) (hc : c ≤ 255) : Calls Tryd.prog 29 #[.agg #[.int .i64 50, .int .i64 (s : Int), .int .i64 (n : Int), .int .i64 (l : Int), .int .i64 (c : Int)]] w (FdPost w ([c])) := by
  have HR1 := Lib.hid (RcAt.new w ⟨50, s, n, l, c⟩ 24)
  have HE1 := Lib.hid ((Ext.refl w).alloc (.cells #[.int .i64 50, .int .i64 (s : Int), .int .i64 (n : Int), .int .i64 (l : Int), .int .i64 (c : Int)] 24))
  have HO1 : Hid ((w.alloc (.cells #[.int .i64 50, .int .i64 (s : Int), .int .i64 (n : Int), .int .i64 (l : Int), .int .i64 (c : Int)] 24)).ownsRow (w.heap.size + 1) 5 1 (.slice none 0 0) 0 (byC [])) := World.ownsRow_nil _ _ _ _
  have m1 : IntKind.u8.wrap (n : Int) = (n : Int) := by rw [IntKind.wrap_u8]; omega
  have m2 : IntKind.u8.wrap (c : Int) = (c : Int) := by rw [IntKind.wrap_u8]; omega
  go_enter Tryd.func29, Tryd.ntmps29
  go_wp2_with (at_builtin; refine app_new rfl _ _ 25 rfl Tryd.underlying25 _ 0 [] [c] rfl HO1.out (by show Value.slice (some ⟨_, 0, none⟩) 1 1 = _; simp) (by simp) (by simp) (by simp) ?_; intro g4 cap4 w0 h1 h2; have HE := Lib.hid (own_grow HO1.out h2 HE1.out (Nat.le_succ _)); have HO4 := Lib.hid h1; clear h1 h2)
  go_ret
  exact ⟨_, rfl, HO4.out, HE.out⟩
set_option maxHeartbeats 4000000 in
set_option maxRecDepth 20000 in
theorem fields48 (s n l c : Nat) (w : World) (hs : s ≤ 4294967295) (hn : n ≤ 255) : Calls Tryd.prog 29 #[.agg #[.int .i64 48, .int .i64 (s : Int), .int .i64 (n : Int), .int .i64 (l : Int), .int .i64 (c : Int)]] w (FdPost w (be4 s ++ [n])) := by
  have HR := Lib.hid (RcAt.new w ⟨48, s, n, l, c⟩ 24)
  have HE := Lib.hid ((Ext.refl w).alloc (.cells #[.int .i64 48, .int .i64 (s : Int), .int .i64 (n : Int), .int .i64 (l : Int), .int .i64 (c : Int)] 24))
  have m1 : IntKind.u8.wrap (n : Int) = (n : Int) := by rw [IntKind.wrap_u8]; omega
  go_enter Tryd.func29, Tryd.ntmps29
  go_wp2_with fail
  revert HR HE
  generalize hw0 : w.alloc _ = w0
  intro HR HE
  have hs0 : w.heap.size + 1 ≤ w0.heap.size := by rw [← hw0]; simp
  clear hw0
  obtain ⟨q0, q1, q2, q3, q4⟩ := HR.out
  have q5 := ((Ext.refl w0).alloc (.cells #[.int .u8 (n : Int)] 5)).cell q1
  have U1 := Lib.hid (four_nil s (w.heap.size + 1) w0.drew hs0 hs)
  have U2 := Lib.hid (four_nil s (w.heap.size + 1) ((w0.alloc (.cells #[.int .u8 (n : Int)] 5)).drew) (Nat.le_trans hs0 (by simp)) hs)
  have HRB := Lib.hid (one_row w0 n)
  go_wp2_with fail
  go_region_law (first
    | (go_simp; go_at_call 43; (with_reducible refine U1.out.mono ?_); rintro e w2 ⟨g2, c2, rfl, h1, h2⟩; have HOa := Lib.hid (h1.alloc (.cells #[.int .u8 (n : Int)] 5)); have HEa := Lib.hid ((HE.out.drew.trans h2).alloc (.cells #[.int .u8 (n : Int)] 5)); have HRa := Lib.hid (one_row w2 n); have hsa := Nat.le_trans hs0 (Nat.le_trans h2.size ((Ext.refl w2).alloc (.cells #[.int .u8 (n : Int)] 5)).size); obtain ⟨r0, r1, r2, r3, r4⟩ := HR.out.ext ((Ext.refl w0).drew.trans h2); clear h1 h2)
    | (go_simp; go_at_call 43; (with_reducible refine U2.out.mono ?_); rintro e w2 ⟨g2, c2, rfl, h1, h2⟩; have HOa := Lib.hid h1; have HEa := Lib.hid (((HE.out.alloc (.cells #[.int .u8 (n : Int)] 5)).drew).trans h2); have HRa := Lib.hid (HRB.out.ext ((Ext.refl _).drew.trans h2)); have hsa := Nat.le_trans hs0 (Nat.le_trans ((Ext.refl w0).alloc (.cells #[.int .u8 (n : Int)] 5)).drew.size h2.size); obtain ⟨r0, r1, r2, r3, r4⟩ := HR.out.ext (((Ext.refl w0).alloc (.cells #[.int .u8 (n : Int)] 5)).drew.trans h2); clear h1 h2)
    | (refine step_app_row (by rfl) _ _ 25 (by rfl) Tryd.underlying25 _ 4 (byC (be4 s)) (by rfl) HOa.out _ 1 [.int .u8 (n : Int)] (by rfl) HRa.out rfl (one_cell1 n) hsa (by decide) ?_; intro v4 w4 h1 h2; have HO4 := Lib.hid h1; have HE4 := Lib.hid (own_grow HOa.out h2 HEa.out (Nat.le_succ _)); clear h1 h2))
  all_goals go_wp2
  all_goals go_ret
  all_goals exact ⟨_, rfl, by rw [show byC (be4 s ++ [n]) = byC (be4 s) ++ [.int .u8 (n : Int)] by simp [byC]]; exact HO4.out, HE4.out⟩
def okF (r : Rc) : Prop := kndR r.k ∧ (0 ≤ r.s ∧ r.s ≤ 4294967295) ∧ (0 ≤ r.l ∧ r.l ≤ 4294967295) ∧ (0 ≤ r.n ∧ r.n ≤ 255) ∧ 0 ≤ r.c ∧ r.c ≤ 255
theorem okF_may {r : Rc} (h : MayR r) : okF r := by
  have := may_knd h
  unfold MayR at h
  refine ⟨this, ?_, ?_, ?_, ?_⟩ <;> omega
theorem okF_zero {k : Int} (h : kndR k) : okF ⟨k, 0, 0, 0, 0⟩ := ⟨h, by simp, by simp, by simp, by simp⟩
theorem fields_any (r : Rc) (w : World) (h : okF r) : Calls Tryd.prog 29 #[rcA r] w (FdPost w (datR r)) := by
  obtain ⟨k, s, n, l, c⟩ := r
  obtain ⟨⟨h1, h2⟩, ⟨h3, h4⟩, ⟨h5, h6⟩, ⟨h7, h8⟩, h9, h10⟩ := h
  simp only at h1 h2 h3 h4 h5 h6 h7 h8 h9 h10
  obtain ⟨s, rfl⟩ := Int.eq_ofNat_of_zero_le h3
  obtain ⟨n, rfl⟩ := Int.eq_ofNat_of_zero_le h7
  obtain ⟨l, rfl⟩ := Int.eq_ofNat_of_zero_le h5
  obtain ⟨c, rfl⟩ := Int.eq_ofNat_of_zero_le h9
  have hk : k = 48 ∨ k = 49 ∨ k = 50 ∨ k = 51 := by omega
  rcases hk with rfl | rfl | rfl | rfl
  · exact fields48 s n l c w (by omega) (by omega)
  · exact fields49 s n l c w (by omega) (by omega) (by omega)
  · exact fields50 s n l c w (by omega) (by omega) (by omega)
  · exact fields51 s n l c w (by omega) (by omega)
end Go.Proofs.YtmphochnmdmioaaDoor

/- log.Parse and its closure: contracts over this seat's translation. -/
namespace Go.Proofs.YtmphochnmdmioaaDoor
set_option linter.unusedVariables false
set_option linter.unusedSimpArgs false
open Go.RowKit Go.Extern.Stop Go.Stop Go.Extern

theorem BoxIs.set {w : World} {b : Nat} {cs : Array Value} {T : TypeId} (h : BoxIs w b cs T) (i : Nat) (v : Value) : BoxIs (w.setCell ⟨b, i, none⟩ v) b (cs.setIfInBounds i v) T := by
  have := heap_setCell_same w b i cs T v h
  exact this
theorem BoxIs.put {w : World} {b : Nat} {cs : Array Value} {T : TypeId} (h : BoxIs w b cs T) {p : Addr} (hp : b ≠ p.block) (v : Value) : BoxIs (w.setCell p v) b cs T := (Below.heap_setCell w p v b hp).trans h
def NcPost (w : World) (R g off m cap n V : Nat) (e : Ending) (w' : World) : Prop := ∃ u, e = .returned (.int .i64 (V : Int)) ∧ w' = w.setCell ⟨R, 0, none⟩ u ∧ (n < m → u = .slice (some ⟨g, off + n, none⟩) (m - n) (cap - n))
set_option maxHeartbeats 4000000 in
set_option maxRecDepth 20000 in
theorem nextc_any (R g off m cap n : Nat) (bs : List Nat) (w : World) (hc : w.cell? ⟨R, 0, none⟩ = some (.slice (some ⟨g, off, none⟩) m cap)) (hf : w.frozen? ⟨R, 0, none⟩ = false) (hb : Bys w (.slice (some ⟨g, off, none⟩) m cap) bs) (hn : 0 < n ∧ n ≤ 4) (hm : n ≤ m) :
    Calls Tryd.prog 33 #[.int .i64 (n : Int), .pointer (some ⟨R, 0, none⟩)] w (NcPost w R g off m cap n (val (bs.take n))) := by
  have hbl := hb.len
  have hbc := hb.caps
  have HM : Hid (m = bs.length) := hbl
  have HB := Lib.hid hb
  have x3 : (n : Int) ≤ (cap : Int) := by omega
  have x4 : (n : Int) ≤ (m : Int) := by omega
  clear hb hbl
  go_enter Tryd.func33, Tryd.ntmps33
  go_wp2_with fail
  go_loop [4, 11] (fun vv iv => ∃ i : Nat, i ≤ n ∧ vv = .int .i64 (val (bs.take i) : Int) ∧ iv = .int .i64 (i : Int)) (fun _ iv => n - (intOf iv).toNat)
  case atStart => exact ⟨0, Nat.zero_le _, rfl, rfl⟩
  case round =>
    obtain ⟨i, hi, rfl, rfl⟩ := hrel
    by_cases hlt : i < n
    · have hx := nget_of_lt (bs := bs) (j := i) (by rw [← HM.out]; omega)
      have cx := HB.out.at hx
      have hxb := HB.out.lt i
      have HS := Lib.hid (val_take hx)
      have hv3 := val_lt 3 (bs := bs.take i) (by rw [List.length_take]; omega) (fun y hy => HB.out.2.1 y (List.mem_of_mem_take hy))
      obtain ⟨x, hxx⟩ : ∃ x, bs.getD i 0 = x := ⟨_, rfl⟩
      obtain ⟨q, hq⟩ : ∃ q, val (bs.take i) = q := ⟨_, rfl⟩
      rw [hxx] at cx hxb HS
      rw [hq] at HS hv3 ⊢
      have hq3 : q < 16777216 := hv3
      obtain ⟨y, hy⟩ : ∃ y, q * 256 + x = y := ⟨_, rfl⟩
      have k1 : bits .or .i64 ((q : Int) * 256) (x : Int) = (y : Int) := by
        have := or_low q x 8 (by omega) (by omega)
        rw [show ((q : Int) * 256) = ((q * 2 ^ 8 : Nat) : Int) by omega, this]
        omega
      rw [hy] at HS
      have m1 : IntKind.i64.wrap (x : Int) = (x : Int) := by rw [IntKind.wrap_i64]; omega
      have m3 : IntKind.i64.wrap ((q : Int) * 256) = (q : Int) * 256 := by rw [IntKind.wrap_i64]; omega
      have x1 : (0 : Int) ≤ (i : Int) := by omega
      have x2 : (i : Int) < (n : Int) := by omega
      clear hx hxx hq hv3 hy
      go_wp2
      go_roundw
      case rel => exact ⟨i + 1, by omega, by rw [HS.out], by go_num⟩
      case measure => simp [intOf]; omega
    · obtain rfl : i = n := by omega
      by_cases hcap : cap = i
      · go_wp2
        go_ret
        exact ⟨_, rfl, rfl, fun h => by omega⟩
      · go_wp2
        go_ret
        exact ⟨_, rfl, rfl, fun _ => rfl⟩
end Go.Proofs.YtmphochnmdmioaaDoor
