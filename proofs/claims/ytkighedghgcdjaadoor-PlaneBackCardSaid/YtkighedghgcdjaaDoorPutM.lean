/- A square laid in a row of samples, plain arithmetic. -/
import Derived.Test.YtkighedghgcdjaaDoorCop
namespace Go.Proofs.YtkighedghgcdjaaDoor
set_option linter.unusedVariables false
set_option linter.unusedSimpArgs false
open Go.RowKit

/-- is place k in the square, and where -/
def inSq (W X Y N k : Nat) : Prop := Y ≤ k / W ∧ k / W < Y + N ∧ X ≤ k % W ∧ k % W < X + N
instance (W X Y N k : Nat) : Decidable (inSq W X Y N k) := by unfold inSq; exact inferInstance
def idxSq (W X Y N k : Nat) : Nat := (k / W - Y) * N + (k % W - X)
/-- the samples, when the first K of the square are laid -/
def putK (W X Y N K : Nat) (z b : Nat → Int) (k : Nat) : Int := if inSq W X Y N k ∧ idxSq W X Y N k < K then b (idxSq W X Y N k) else z k
theorem putK_zero (W X Y N : Nat) (z b : Nat → Int) (k : Nat) : putK W X Y N 0 z b k = z k := by
  unfold putK
  rw [if_neg (fun h => Nat.not_lt_zero _ h.2)]
theorem pos_div {W R C : Nat} (h : C < W) : (R * W + C) / W = R ∧ (R * W + C) % W = C := by
  constructor
  · rw [Nat.add_comm, Nat.add_mul_div_right _ _ (by omega), Nat.div_eq_of_lt h, Nat.zero_add]
  · rw [Nat.add_comm, Nat.add_mul_mod_self_right, Nat.mod_eq_of_lt h]
theorem pos_of (k W : Nat) : (k / W) * W + k % W = k := by
  have := Nat.div_add_mod k W
  rw [Nat.mul_comm] at this
  exact this
theorem row_eq {a t J N : Nat} (ht : t < N) (h1 : J * N ≤ a * N + t) (h2 : a * N + t < J * N + N) : a = J := by
  rcases Nat.lt_trichotomy a J with h | h | h
  · have := Nat.mul_le_mul_right N (show a + 1 ≤ J from h)
    rw [Nat.succ_mul] at this
    omega
  · exact h
  · have := Nat.mul_le_mul_right N (show J + 1 ≤ a from h)
    rw [Nat.succ_mul] at this
    omega
theorem in_sq {W X Y N J t : Nat} (hX : X + N ≤ W) (hJ : J < N) (ht : t < N) : inSq W X Y N ((Y + J) * W + (X + t)) ∧ idxSq W X Y N ((Y + J) * W + (X + t)) = J * N + t := by
  obtain ⟨e1, e2⟩ := pos_div (W := W) (R := Y + J) (C := X + t) (by omega)
  unfold inSq idxSq
  rw [e1, e2]
  refine ⟨by omega, ?_⟩
  rw [show Y + J - Y = J by omega, show X + t - X = t by omega]
theorem sq_at {W X Y N k : Nat} (h : inSq W X Y N k) : ∃ J t, J < N ∧ t < N ∧ k = (Y + J) * W + (X + t) ∧ idxSq W X Y N k = J * N + t := by
  obtain ⟨h1, h2, h3, h4⟩ := h
  refine ⟨k / W - Y, k % W - X, by omega, by omega, ?_, rfl⟩
  rw [show Y + (k / W - Y) = k / W by omega, show X + (k % W - X) = k % W by omega, pos_of]
/-- a row of the square, laid at once -/
theorem putK_splice {W X Y N J n : Nat} {z b : Nat → Int} (hX : X + N ≤ W) (hJ : J < N) (hn : (Y + J) * W + X + N ≤ n) :
    splice ((rowL n (putK W X Y N (J * N) z b)).map (Value.int .i64)) ((Y + J) * W + X) ((rowL N fun t => b (J * N + t)).map (Value.int .i64)) = (rowL n (putK W X Y N ((J + 1) * N) z b)).map (Value.int .i64) := by
  have other : ∀ i, (i < (Y + J) * W + X ∨ (Y + J) * W + X + N ≤ i) → putK W X Y N (J * N) z b i = putK W X Y N ((J + 1) * N) z b i := fun i hi => by
    unfold putK
    by_cases hs : inSq W X Y N i
    · obtain ⟨J', t, h1, h2, h3, h4⟩ := sq_at hs
      rw [h4]
      by_cases c1 : J' * N + t < J * N
      · rw [if_pos ⟨hs, c1⟩, if_pos ⟨hs, by rw [Nat.succ_mul]; omega⟩]
      · by_cases c2 : J' * N + t < (J + 1) * N
        · rw [Nat.succ_mul] at c2
          have := row_eq h2 (by omega) c2
          subst this
          omega
        · rw [if_neg (fun e => c1 e.2), if_neg (fun e => c2 e.2)]
    · rw [if_neg (fun e => hs e.1), if_neg (fun e => hs e.1)]
  unfold splice
  apply List.ext_getElem?
  intro i
  have hlen : ∀ f, ((rowL n f).map (Value.int .i64)).length = n := fun f => by rw [List.length_map, rowL_length]
  have hcs : ((rowL N fun t => b (J * N + t)).map (Value.int .i64)).length = N := by rw [List.length_map, rowL_length]
  by_cases h1 : i < (Y + J) * W + X
  · rw [List.getElem?_append_left (by rw [List.length_take, hlen]; omega), List.getElem?_take, if_pos h1, List.getElem?_map, List.getElem?_map, rowL_get (by omega), rowL_get (by omega), other i (Or.inl h1)]
  · have e1 : (List.take ((Y + J) * W + X) ((rowL n (putK W X Y N (J * N) z b)).map (Value.int .i64))).length = (Y + J) * W + X := by rw [List.length_take, hlen]; omega
    rw [List.getElem?_append_right (by rw [e1]; omega), e1]
    by_cases h2 : i < (Y + J) * W + X + N
    · obtain ⟨t, rfl⟩ : ∃ t, i = (Y + J) * W + (X + t) := ⟨i - ((Y + J) * W + X), by omega⟩
      have ht : t < N := by omega
      rw [List.getElem?_append_left (by rw [hcs]; omega), List.getElem?_map, List.getElem?_map, show (Y + J) * W + (X + t) - ((Y + J) * W + X) = t by omega, rowL_get ht, rowL_get (by omega)]
      obtain ⟨s1, s2⟩ := in_sq (Y := Y) hX hJ ht
      unfold putK
      rw [s2, if_pos ⟨s1, by rw [Nat.succ_mul]; omega⟩]
    · rw [List.getElem?_append_right (by rw [hcs]; omega), List.getElem?_drop, hcs, show (Y + J) * W + X + N + (i - ((Y + J) * W + X) - N) = i by omega, List.getElem?_map, List.getElem?_map]
      by_cases h3 : i < n
      · rw [rowL_get h3, rowL_get h3, other i (Or.inr (by omega))]
      · rw [List.getElem?_eq_none (by rw [rowL_length]; omega), List.getElem?_eq_none (by rw [rowL_length]; omega)]
/-- one sample of the square -/
theorem putK_one {W X Y N K : Nat} {z b : Nat → Int} (hX : X + N ≤ W) (hK : K < N * N) (i : Nat) :
    putK W X Y N (K + 1) z b i = if i = (Y + K / N) * W + X + K % N then b K else putK W X Y N K z b i := by
  have hN : 0 < N := by
    rcases Nat.eq_zero_or_pos N with h | h
    · subst h; omega
    · exact h
  have hd : K / N < N := (Nat.div_lt_iff_lt_mul hN).2 hK
  have hm : K % N < N := Nat.mod_lt _ hN
  obtain ⟨s1, s2⟩ := in_sq (Y := Y) hX hd hm
  rw [pos_of] at s2
  by_cases hi : i = (Y + K / N) * W + X + K % N
  · rw [if_pos hi, hi, Nat.add_assoc]
    unfold putK
    rw [s2, if_pos ⟨s1, Nat.lt_succ_self _⟩]
  · rw [if_neg hi]
    unfold putK
    by_cases hs : inSq W X Y N i
    · have hne : idxSq W X Y N i ≠ K := fun e => by
        obtain ⟨J, t, h1, h2, h3, h4⟩ := sq_at hs
        rw [e] at h4
        obtain ⟨q1, q2⟩ := pos_div (W := N) (R := J) (C := t) h2
        rw [← h4] at q1 q2
        rw [← q1, ← q2] at h3
        omega
      by_cases c1 : idxSq W X Y N i < K
      · rw [if_pos ⟨hs, by omega⟩, if_pos ⟨hs, c1⟩]
      · rw [if_neg (fun e => by have := e.2; omega), if_neg (fun e => c1 e.2)]
    · rw [if_neg (fun e => hs e.1), if_neg (fun e => hs e.1)]
end Go.Proofs.YtkighedghgcdjaaDoor
