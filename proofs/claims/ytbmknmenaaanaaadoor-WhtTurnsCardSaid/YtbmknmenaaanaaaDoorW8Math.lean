/- What the laws of the transform ask: plain arithmetic. -/
import Derived.Test.YtbmknmenaaanaaaDoorW8
namespace Go.Proofs.YtbmknmenaaanaaaDoor
set_option linter.unusedVariables false
set_option linter.unusedSimpArgs false

theorem getD_rowL (N : Nat) (f : Nat → Int) (i : Nat) : (rowL N f).getD i 0 = if i < N then f i else 0 := by
  by_cases h : i < N <;> simp [rowL, h]
theorem wht_congr {m M : Nat} {f g : Nat → Int} (hm : m ≤ M) (h : ∀ j, j < 2 ^ M → f j = g j) : ∀ i, i < 2 ^ M → wht m f i = wht m g i := by
  induction m with
  | zero => exact h
  | succ m ih =>
    intro i hi
    have h1 := ih (by omega) i hi
    have h2 := ih (by omega) (flip m i) (flip_lt hi (by omega))
    simp only [wht, wpass, h1, h2]
theorem lg_of {n : Nat} (h : n = 16 ∨ n = 64) : n = 2 ^ lgN n ∧ (n = 16 ∧ lgN n = 4 ∨ n = 64 ∧ lgN n = 6) := by
  rcases h with rfl | rfl <;> decide
theorem blkAns_ok {zs : List Int} {F : Int} (h : zs.length = 16 ∨ zs.length = 64) (hw : within (-F) F zs) : blkAns zs F = none := by
  unfold blkAns
  rw [if_pos h, if_pos hw]
theorem rowL_within {N : Nat} {f : Nat → Int} {a b : Int} (h : ∀ i, i < N → a ≤ f i ∧ f i ≤ b) : within a b (rowL N f) := by
  intro x hx
  obtain ⟨i, hi, rfl⟩ := List.mem_map.1 hx
  exact h i (List.mem_range.1 hi)
theorem rowL_congr {N : Nat} {f g : Nat → Int} (h : ∀ j, j < N → f j = g j) : rowL N f = rowL N g := by
  unfold rowL
  apply List.map_congr_left
  intro j hj
  exact h j (List.mem_range.1 hj)
theorem fwd_bound {zs : List Int} (h : blkAns zs 65536 = none) (i : Nat) : -4194304 ≤ fwdF zs i ∧ fwdF zs i ≤ 4194304 := by
  obtain ⟨h1, h2⟩ := blkAns_none h
  obtain ⟨e, h3⟩ := lg_of h1
  have hb := wht_bound (m := lgN zs.length) (B := 65536) (fun i => getD_bound h2 (by decide) i) i
  unfold fwdF
  rcases h3 with ⟨_, e4⟩ | ⟨_, e4⟩ <;> rw [e4] at hb ⊢ <;> omega
theorem round16 (z : Int) : (16 * z + 16 / 2) / 16 = z := by omega
theorem round64 (z : Int) : (64 * z + 64 / 2) / 64 = z := by omega
/-- what is transformed comes back -/
theorem back_math {zs : List Int} (h : blkAns zs 65536 = none) : blkAns (fwdL zs) 16777216 = none ∧ invL (fwdL zs) = zs := by
  obtain ⟨h1, h2⟩ := blkAns_none h
  obtain ⟨e, h3⟩ := lg_of h1
  have hl : (fwdL zs).length = zs.length := rowL_length _ _
  refine ⟨blkAns_ok (by rw [hl]; exact h1) (rowL_within fun i _ => by have := fwd_bound h i; omega), ?_⟩
  unfold invL
  rw [hl]
  conv => rhs; rw [← rowL_getD zs]
  apply rowL_congr
  intro j hj
  have e1 : wht (lgN zs.length) (fun i => (fwdL zs).getD i 0) j = 2 ^ lgN zs.length * zs.getD j 0 := by
    rw [wht_congr (g := fwdF zs) (Nat.le_refl _) (fun i hi => by unfold fwdL; rw [getD_rowL, if_pos (by omega)]) j (by omega)]
    unfold fwdF
    rw [wht_wht]
  unfold invF
  rw [e1]
  rcases h3 with ⟨_, e4⟩ | ⟨_, e4⟩ <;> rw [e4]
  · exact round16 _
  · exact round64 _
end Go.Proofs.YtbmknmenaaanaaaDoor
