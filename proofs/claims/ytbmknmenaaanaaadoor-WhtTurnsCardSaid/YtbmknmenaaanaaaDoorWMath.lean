/- The transform by the bits of the index: plain arithmetic. -/
import Derived.Test.YtbmknmenaaanaaaDoorCards
namespace Go.Proofs.YtbmknmenaaanaaaDoor
set_option linter.unusedVariables false
set_option linter.unusedSimpArgs false

def flip (m i : Nat) : Nat := i ^^^ 2 ^ m
theorem flip_flip (m i : Nat) : flip m (flip m i) = i := by unfold flip; rw [Nat.xor_assoc, Nat.xor_self, Nat.xor_zero]
theorem flip_comm (m k i : Nat) : flip m (flip k i) = flip k (flip m i) := by unfold flip; rw [Nat.xor_assoc, Nat.xor_assoc, Nat.xor_comm (2 ^ k)]
theorem flip_bit (m i : Nat) : (flip m i).testBit m = !i.testBit m := by simp [flip, Nat.testBit_xor, Nat.testBit_two_pow_self]
theorem flip_other {m k : Nat} (h : m ≠ k) (i : Nat) : (flip m i).testBit k = i.testBit k := by simp [flip, Nat.testBit_xor, Nat.testBit_two_pow_of_ne h]
theorem flip_lt {m M i : Nat} (h : i < 2 ^ M) (hm : m < M) : flip m i < 2 ^ M := Nat.xor_lt_two_pow h (Nat.pow_lt_pow_right (by omega) hm)

/-- one pass over a bit of the index -/
def wpass (m : Nat) (f : Nat → Int) (i : Nat) : Int := if i.testBit m then f (flip m i) - f i else f i + f (flip m i)
def wht : Nat → (Nat → Int) → Nat → Int
  | 0, f => f
  | m + 1, f => wpass m (wht m f)
theorem wpass_twice (m : Nat) (f : Nat → Int) : wpass m (wpass m f) = fun i => 2 * f i := by
  funext i
  unfold wpass
  rw [flip_bit, flip_flip]
  cases i.testBit m <;> simp <;> omega
theorem wpass_comm {m k : Nat} (h : m ≠ k) (f : Nat → Int) : wpass m (wpass k f) = wpass k (wpass m f) := by
  funext i
  unfold wpass
  rw [flip_other h, flip_other (Ne.symm h), flip_comm]
  cases i.testBit m <;> cases i.testBit k <;> simp <;> omega
theorem wpass_mul (m : Nat) (c : Int) (f : Nat → Int) : wpass m (fun i => c * f i) = fun i => c * wpass m f i := by
  funext i
  unfold wpass
  split <;> simp [Int.mul_add, Int.mul_sub]
theorem wpass_add (m : Nat) (f g : Nat → Int) : wpass m (fun i => f i + g i) = fun i => wpass m f i + wpass m g i := by
  funext i
  unfold wpass
  split <;> simp only [] <;> omega
theorem wht_pass {m k : Nat} (h : m ≤ k) (f : Nat → Int) : wht m (wpass k f) = wpass k (wht m f) := by
  induction m with
  | zero => rfl
  | succ m ih => rw [wht, wht, ih (by omega), wpass_comm (by omega)]
theorem wht_mul (m : Nat) (c : Int) (f : Nat → Int) : wht m (fun i => c * f i) = fun i => c * wht m f i := by
  induction m with
  | zero => rfl
  | succ m ih => rw [wht, ih, wpass_mul]; rfl
theorem wht_add (m : Nat) (f g : Nat → Int) : wht m (fun i => f i + g i) = fun i => wht m f i + wht m g i := by
  induction m with
  | zero => rfl
  | succ m ih => rw [wht, ih, wpass_add]; rfl
theorem wht_sub (m : Nat) (f g : Nat → Int) : wht m (fun i => f i - g i) = fun i => wht m f i - wht m g i := by
  have h := wht_add m (fun i => f i - g i) g
  funext i
  have h' := congrFun h i
  simp only [Int.sub_add_cancel] at h'
  have e : (fun i => g i) = g := rfl
  show wht m (fun i => f i - g i) i = wht m f i - wht m g i
  have : wht m f i = wht m (fun i => f i - g i) i + wht m g i := h'
  omega
/-- twice forth is so many times what it was -/
theorem wht_wht (m : Nat) (f : Nat → Int) : wht m (wht m f) = fun i => 2 ^ m * f i := by
  induction m with
  | zero => funext i; simp [wht]
  | succ m ih =>
    rw [wht, wht, wht_pass (Nat.le_refl m), wpass_twice, ih]
    funext i
    rw [Int.pow_succ]
    rw [← Int.mul_assoc, Int.mul_comm 2]
theorem wpass_bound {m : Nat} {B : Int} {f : Nat → Int} (h : ∀ i, -B ≤ f i ∧ f i ≤ B) (i : Nat) : -(2 * B) ≤ wpass m f i ∧ wpass m f i ≤ 2 * B := by
  have h1 := h i
  have h2 := h (flip m i)
  unfold wpass
  split <;> omega
theorem wht_bound {m : Nat} {B : Int} {f : Nat → Int} (h : ∀ i, -B ≤ f i ∧ f i ≤ B) (i : Nat) : -(2 ^ m * B) ≤ wht m f i ∧ wht m f i ≤ 2 ^ m * B := by
  induction m generalizing i with
  | zero => simpa [wht] using h i
  | succ m ih =>
    have := wpass_bound (m := m) ih i
    rw [wht, Int.pow_succ, Int.mul_comm (2 ^ m) 2, Int.mul_assoc]
    exact this

/-- a pass that has come to index k -/
def wmid (m k : Nat) (g : Nat → Int) (j : Nat) : Int := if j.testBit m then (if flip m j < k then g (flip m j) - g j else g j) else (if j < k then g j + g (flip m j) else g j)
theorem wmid_zero (m : Nat) (g : Nat → Int) : wmid m 0 g = g := by
  funext j
  unfold wmid
  split <;> simp
theorem wmid_end {m k M : Nat} (g : Nat → Int) (hm : m < M) (hk : 2 ^ M ≤ k) {j : Nat} (hj : j < 2 ^ M) : wmid m k g j = wpass m g j := by
  have := flip_lt hj hm
  unfold wmid wpass
  rw [if_pos (by omega : flip m j < k), if_pos (by omega : j < k)]
theorem wmid_skip {m k : Nat} (g : Nat → Int) (h : k.testBit m = true) : wmid m (k + 1) g = wmid m k g := by
  funext j
  unfold wmid
  by_cases hj : j.testBit m = true
  · rw [if_pos hj, if_pos hj]
    have : flip m j ≠ k := fun e => by
      have h1 := flip_bit m j
      rw [e, h, hj] at h1
      cases h1
    by_cases h2 : flip m j < k
    · rw [if_pos h2, if_pos (by omega)]
    · rw [if_neg h2, if_neg (by omega)]
  · rw [if_neg hj, if_neg hj]
    have : j ≠ k := fun e => by rw [e] at hj; exact hj h
    by_cases h2 : j < k
    · rw [if_pos h2, if_pos (by omega)]
    · rw [if_neg h2, if_neg (by omega)]
theorem wmid_self {m k : Nat} (g : Nat → Int) (h : k.testBit m = false) : wmid m k g k = g k ∧ wmid m k g (flip m k) = g (flip m k) := by
  unfold wmid
  rw [flip_bit, flip_flip, h]
  simp
theorem wmid_step {m k : Nat} (g : Nat → Int) (h : k.testBit m = false) (j : Nat) :
    wmid m (k + 1) g j = if j = flip m k then g k - g (flip m k) else if j = k then g k + g (flip m k) else wmid m k g j := by
  by_cases h1 : j = flip m k
  · subst h1
    rw [if_pos rfl]
    unfold wmid
    rw [flip_bit, flip_flip, h]
    simp
  · rw [if_neg h1]
    by_cases h2 : j = k
    · subst h2
      rw [if_pos rfl]
      unfold wmid
      rw [h]
      simp
    · rw [if_neg h2]
      unfold wmid
      have h3 : flip m j ≠ k := fun e => h1 (by rw [← e, flip_flip])
      by_cases hj : j.testBit m = true
      · rw [if_pos hj, if_pos hj]
        by_cases h4 : flip m j < k
        · rw [if_pos h4, if_pos (by omega)]
        · rw [if_neg h4, if_neg (by omega)]
      · rw [if_neg hj, if_neg hj]
        by_cases h4 : j < k
        · rw [if_pos h4, if_pos (by omega)]
        · rw [if_neg h4, if_neg (by omega)]
end Go.Proofs.YtbmknmenaaanaaaDoor
