/- Groups, plain: they lie one behind the other; where they begin. -/
import Derived.Test.YtkighedghgcdjaaDoorSc2
namespace Go.Proofs.YtkighedghgcdjaaDoor
set_option linter.unusedVariables false
set_option linter.unusedSimpArgs false
open Go.RowKit

def Chain : Int → List (Int × Int) → Int → Prop
  | a, [], b => a = b
  | a, p :: L, b => p.1 = a ∧ 1 ≤ p.2 ∧ Chain (a + p.2) L b
theorem chain_append {a b c : Int} {L M : List (Int × Int)} (h : Chain a L b) (k : Chain b M c) : Chain a (L ++ M) c := by
  induction L generalizing a with
  | nil => obtain rfl : a = b := h; exact k
  | cons p L ih => exact ⟨h.1, h.2.1, ih h.2.2⟩
theorem chain_bump {a b F C : Int} {I : List (Int × Int)} (h : Chain a (I ++ [(F, C)]) b) : Chain a (I ++ [(F, C + 1)]) (b + 1) := by
  induction I generalizing a with
  | nil =>
    obtain ⟨h1, h2, h3⟩ := h
    have h3' : a + C = b := h3
    have h2' : 1 ≤ C := h2
    exact ⟨h1, by show 1 ≤ C + 1; omega, by show a + (C + 1) = b + 1; omega⟩
  | cons p I ih => exact ⟨h.1, h.2.1, ih h.2.2⟩
theorem chain_mem {a b : Int} {L : List (Int × Int)} (h : Chain a L b) : a ≤ b ∧ ∀ p ∈ L, a ≤ p.1 ∧ 1 ≤ p.2 ∧ p.1 + p.2 ≤ b := by
  induction L generalizing a with
  | nil =>
    obtain rfl : a = b := h
    exact ⟨Int.le_refl _, fun p hp => by cases hp⟩
  | cons p L ih =>
    obtain ⟨h1, h2, h3⟩ := h
    obtain ⟨i1, i2⟩ := ih h3
    refine ⟨by omega, fun q hq => ?_⟩
    rcases List.mem_cons.1 hq with rfl | hq
    · omega
    · have := i2 q hq; omega
theorem chain_of {a b x : Int} {L : List (Int × Int)} (h : Chain a L b) (h1 : a ≤ x) (h2 : x < b) (q : Int) :
    ∃ (k : Nat) (F C : Int), ofV x L q = q + k ∧ L[k]? = some (F, C) ∧ (F = x ↔ ∃ p ∈ L, p.1 = x) := by
  induction L generalizing a q with
  | nil =>
    obtain rfl : a = b := h
    omega
  | cons p L ih =>
    obtain ⟨c1, c2, c3⟩ := h
    by_cases hx : x < a + p.2
    · refine ⟨0, p.1, p.2, ?_, rfl, fun e => ⟨p, List.mem_cons_self, e⟩, fun ⟨p', hp, e⟩ => ?_⟩
      · show (if inG x p then q else ofV x L (q + 1)) = _
        rw [if_pos ⟨by omega, by omega, by omega⟩]
        simp
      · rcases List.mem_cons.1 hp with rfl | hp
        · exact e
        · have := (chain_mem c3).2 p' hp; omega
    · obtain ⟨k, F, C, e1, e2, e3⟩ := ih c3 (by omega) (q + 1)
      refine ⟨k + 1, F, C, ?_, by simpa using e2, ?_⟩
      · show (if inG x p then q else ofV x L (q + 1)) = _
        rw [if_neg (fun e => by have := e.2.2; omega), e1]
        push_cast
        omega
      · rw [e3]
        constructor
        · rintro ⟨p', hp, e⟩; exact ⟨p', List.mem_cons_of_mem _ hp, e⟩
        · rintro ⟨p', hp, e⟩
          rcases List.mem_cons.1 hp with rfl | hp
          · omega
          · exact ⟨p', hp, e⟩
theorem unlAt_zero (L : List Fr) : unlAt L 0 = 0 := by unfold unlAt; exact unlV_self _ _ _
theorem grpS_step {L : List Fr} {cut : Int} {k : Nat} (hk : k < 16) : grpS L cut 16 (k + 1) = if cut < unlAt L k then ((grpS L cut 16 k).1 ++ [((grpS L cut 16 k).2.1, (grpS L cut 16 k).2.2)], (k : Int), 1) else ((grpS L cut 16 k).1, (grpS L cut 16 k).2.1, (grpS L cut 16 k).2.2 + 1) := by
  have hb := grpS_bound L cut 16 k
  show (if cut < unlAt L k ∨ (grpS L cut 16 k).2.2 = 16 then _ else _) = _
  by_cases hc : cut < unlAt L k
  · rw [if_pos (Or.inl hc), if_pos hc]
  · rw [if_neg (fun e => e.elim hc (fun e => by omega)), if_neg hc]
theorem grp_inv (L : List Fr) (cut : Int) (hcut : 0 ≤ cut) (k : Nat) (hk : k + 1 ≤ 16) :
    Chain 0 (grpL L cut 16 (k + 1)) ((k + 1 : Nat) : Int) ∧ ∀ i : Nat, i < k + 1 → ((∃ p ∈ grpL L cut 16 (k + 1), p.1 = (i : Int)) ↔ (i = 0 ∨ cut < unlAt L i)) := by
  induction k with
  | zero =>
    have hs : grpL L cut 16 1 = [(0, 1)] := by
      unfold grpL
      rw [grpS_step (by omega), unlAt_zero, if_neg (by omega)]
      rfl
    rw [hs]
    refine ⟨⟨rfl, Int.le_refl _, rfl⟩, fun i hi => ?_⟩
    obtain rfl : i = 0 := by omega
    exact ⟨fun _ => Or.inl rfl, fun _ => ⟨(0, 1), List.mem_cons_self, rfl⟩⟩
  | succ k ih =>
    obtain ⟨i1, i2⟩ := ih (by omega)
    have hm := chain_mem i1
    by_cases hc : cut < unlAt L (k + 1)
    · have hs : grpL L cut 16 (k + 1 + 1) = grpL L cut 16 (k + 1) ++ [(((k + 1 : Nat) : Int), 1)] := by
        show (grpS L cut 16 (k + 1 + 1)).1 ++ _ = _
        rw [grpS_step (by omega), if_pos hc]
        rfl
      rw [hs]
      refine ⟨chain_append i1 ⟨rfl, Int.le_refl _, rfl⟩, fun i hi => ?_⟩
      by_cases hik : i < k + 1
      · rw [← i2 i hik]
        constructor
        · rintro ⟨p, hp, e⟩
          rcases List.mem_append.1 hp with hp | hp
          · exact ⟨p, hp, e⟩
          · obtain rfl := List.mem_singleton.1 hp
            have e' : ((k + 1 : Nat) : Int) = (i : Int) := e
            omega
        · rintro ⟨p, hp, e⟩; exact ⟨p, List.mem_append_left _ hp, e⟩
      · obtain rfl : i = k + 1 := by omega
        exact ⟨fun _ => Or.inr hc, fun _ => ⟨_, List.mem_append_right _ (List.mem_singleton.2 rfl), rfl⟩⟩
    · obtain ⟨I, F, C, e0⟩ : ∃ I F C, grpS L cut 16 (k + 1) = (I, F, C) := ⟨_, _, _, rfl⟩
      have h0 : grpL L cut 16 (k + 1) = I ++ [(F, C)] := by unfold grpL; rw [e0]
      have hs : grpL L cut 16 (k + 1 + 1) = I ++ [(F, C + 1)] := by
        show (grpS L cut 16 (k + 1 + 1)).1 ++ [((grpS L cut 16 (k + 1 + 1)).2.1, (grpS L cut 16 (k + 1 + 1)).2.2)] = _
        rw [grpS_step (by omega), if_neg hc, e0]
      rw [h0] at i1 i2 hm
      rw [hs]
      refine ⟨by have := chain_bump i1; push_cast at this ⊢; exact this, fun i hi => ?_⟩
      have same : (∃ p ∈ I ++ [(F, C + 1)], p.1 = (i : Int)) ↔ ∃ p ∈ I ++ [(F, C)], p.1 = (i : Int) := by
        constructor
        · rintro ⟨p, hp, e⟩
          rcases List.mem_append.1 hp with hp | hp
          · exact ⟨p, List.mem_append_left _ hp, e⟩
          · obtain rfl := List.mem_singleton.1 hp
            exact ⟨(F, C), List.mem_append_right _ (List.mem_singleton.2 rfl), e⟩
        · rintro ⟨p, hp, e⟩
          rcases List.mem_append.1 hp with hp | hp
          · exact ⟨p, List.mem_append_left _ hp, e⟩
          · obtain rfl := List.mem_singleton.1 hp
            exact ⟨(F, C + 1), List.mem_append_right _ (List.mem_singleton.2 rfl), e⟩
      rw [same]
      by_cases hik : i < k + 1
      · exact i2 i hik
      · obtain rfl : i = k + 1 := by omega
        constructor
        · rintro ⟨p, hp, e⟩
          have := hm.2 p hp
          omega
        · rintro (h | h)
          · omega
          · exact absurd h hc
theorem grp_len (L : List Fr) {cut more : Int} (h : cut ≤ more) (k : Nat) (hk : k ≤ 16) : (grpS L more 16 k).1.length ≤ (grpS L cut 16 k).1.length := by
  induction k with
  | zero => exact Nat.le_refl _
  | succ k ih =>
    have ih := ih (by omega)
    rw [grpS_step (by omega), grpS_step (by omega)]
    by_cases h1 : more < unlAt L k
    · rw [if_pos h1, if_pos (by omega)]
      simp only [List.length_append, List.length_cons, List.length_nil]
      omega
    · rw [if_neg h1]
      split
      · simp only [List.length_append, List.length_cons, List.length_nil]; omega
      · exact ih
/-- what SceneCuts asks of the frame i -/
theorem cuts_at (L : List Fr) (cut : Int) (hcut : 0 ≤ cut) (n : Nat) (hn : 1 ≤ n ∧ n ≤ 16) (i : Nat) (hi : i < n) :
    ∃ (k : Nat) (F C : Int), ofV i (grpL L cut 16 n) 0 = k ∧ (grpL L cut 16 n)[k]? = some (F, C) ∧ (F == (i : Int)) = ((i : Int) == 0 || decide (cut < unlAt L i)) := by
  obtain ⟨m, rfl⟩ : ∃ m, n = m + 1 := ⟨n - 1, by omega⟩
  obtain ⟨h1, h2⟩ := grp_inv L cut hcut m hn.2
  obtain ⟨k, F, C, e1, e2, e3⟩ := chain_of h1 (show (0 : Int) ≤ (i : Int) by omega) (by omega) 0
  refine ⟨k, F, C, by rw [e1]; omega, e2, ?_⟩
  rw [Bool.eq_iff_iff, beq_iff_eq, Bool.or_eq_true, beq_iff_eq, decide_eq_true_iff, e3, h2 i hi]
  constructor
  · rintro (h | h)
    · exact Or.inl (by omega)
    · exact Or.inr h
  · rintro (h | h)
    · exact Or.inl (by omega)
    · exact Or.inr h
theorem grp_small (L : List Fr) (cut : Int) (hcut : 0 ≤ cut) (n : Nat) (hn : 1 ≤ n ∧ n ≤ 16) : ∀ (q : Nat) (p : Int × Int), (grpL L cut 16 n)[q]? = some p → small p := fun q p hq => by
  obtain ⟨m, rfl⟩ : ∃ m, n = m + 1 := ⟨n - 1, by omega⟩
  have := (chain_mem (grp_inv L cut hcut m hn.2).1).2 p (List.mem_of_getElem? hq)
  unfold small
  omega
theorem grpF_none {L : List Fr} {n : Nat} (h : grpF L n = none) {i : Nat} (hi : i < n) : ansAt L i = none := by
  have h1 : grpF L (i + 1) = none := by
    cases hc : grpF L (i + 1) with
    | none => rfl
    | some f =>
      have := grpF_some hc (n - (i + 1))
      rw [show i + 1 + (n - (i + 1)) = n by omega, h] at this
      cases this
  unfold grpF at h1
  split at h1
  · cases h1
  · split at h1
    · assumption
    · cases h1
end Go.Proofs.YtkighedghgcdjaaDoor
