/- The transform as the sum of all with their signs: plain arithmetic. -/
import Derived.Test.YtbmknmenaaanaaaDoorWSigns
import Derived.Test.YtbmknmenaaanaaaDoorW8Math
namespace Go.Proofs.YtbmknmenaaanaaaDoor
set_option linter.unusedVariables false
set_option linter.unusedSimpArgs false

/-- the sign by the bits below m -/
def bsg (m i t : Nat) : Int := match m with
  | 0 => 1
  | m + 1 => if Nat.testBit i m ∧ Nat.testBit t m then -bsg m i t else bsg m i t
def tsum (s : Nat → Int) (f : Nat → Int) : Nat → Int
  | 0 => 0
  | j + 1 => tsum s f j + f j * s j
theorem tsum_congr {s s' f f' : Nat → Int} {n : Nat} (h : ∀ j, j < n → f j * s j = f' j * s' j) : tsum s f n = tsum s' f' n := by
  induction n with
  | zero => rfl
  | succ n ih => rw [tsum, tsum, ih (fun j hj => h j (by omega)), h n (by omega)]
theorem tsum_split (s f : Nat → Int) (a b : Nat) : tsum s f (a + b) = tsum s f a + tsum (fun j => s (a + j)) (fun j => f (a + j)) b := by
  induction b with
  | zero => simp [tsum]
  | succ b ih => rw [← Nat.add_assoc, tsum, ih, tsum]; omega
theorem tsum_add (s f g : Nat → Int) (n : Nat) : tsum s (fun j => f j + g j) n = tsum s f n + tsum s g n := by
  induction n with
  | zero => rfl
  | succ n ih => rw [tsum, tsum, tsum, ih, Int.add_mul]; omega
theorem tsum_sub (s f g : Nat → Int) (n : Nat) : tsum s (fun j => f j - g j) n = tsum s f n - tsum s g n := by
  induction n with
  | zero => rfl
  | succ n ih => rw [tsum, tsum, tsum, ih, Int.sub_mul]; omega
/-- the low bits decide -/
theorem bsg_high {m i t k : Nat} (h : m ≤ k) : bsg m (flip k i) t = bsg m i t ∧ bsg m i (flip k t) = bsg m i t := by
  induction m with
  | zero => exact ⟨rfl, rfl⟩
  | succ m ih =>
    obtain ⟨h1, h2⟩ := ih (by omega)
    unfold bsg
    rw [flip_other (by omega), flip_other (by omega), h1, h2]
    exact ⟨rfl, rfl⟩
theorem wht_shiftL {m k : Nat} (h : m ≤ k) (f : Nat → Int) (i : Nat) : wht m f (flip k i) = wht m (fun j => f (flip k j)) i := by
  induction m generalizing i with
  | zero => rfl
  | succ m ih =>
    rw [wht, wht, wpass, wpass, flip_other (by omega), flip_comm, ih (by omega), ih (by omega)]
theorem flip_addL : ∀ m < 6, ∀ j < 2 ^ m, flip m j = 2 ^ m + j := by decide +kernel
theorem bitLowR {m j : Nat} (h : j < 2 ^ m) : j.testBit m = false := Nat.testBit_lt_two_pow h
theorem tsum_neg (s f : Nat → Int) (n : Nat) : tsum (fun j => -s j) f n = -tsum s f n := by
  induction n with
  | zero => rfl
  | succ n ih => rw [tsum, tsum, ih, Int.mul_neg]; omega
theorem wht_tsum {m : Nat} (hm : m ≤ 6) (f : Nat → Int) (i : Nat) (hi : i < 2 ^ m) : wht m f i = tsum (bsg m i) f (2 ^ m) := by
  induction m generalizing f i with
  | zero =>
    have : i = 0 := by simpa using hi
    subst this
    simp [wht, tsum, bsg]
  | succ m ih =>
    have hp : 2 ^ (m + 1) = 2 ^ m + 2 ^ m := by rw [Nat.pow_succ]; omega
    rw [hp, tsum_split, wht, wpass]
    have hf : tsum (bsg (m + 1) i) f (2 ^ m) = tsum (bsg m i) f (2 ^ m) := by
      apply tsum_congr
      intro j hj
      have := bitLowR hj
      simp [bsg, this]
    cases hb : i.testBit m with
    | false =>
      have hi' : i < 2 ^ m := by
        by_cases c : i < 2 ^ m
        · exact c
        · exfalso
          have := Nat.testBit_of_two_pow_le_and_two_pow_add_one_gt (i := m) (n := i) (by omega) (by omega)
          rw [hb] at this; cases this
      have hg : tsum (fun j => bsg (m + 1) i (2 ^ m + j)) (fun j => f (2 ^ m + j)) (2 ^ m) = tsum (bsg m i) (fun j => f (flip m j)) (2 ^ m) := by
        apply tsum_congr
        intro j hj
        rw [← flip_addL m (by omega) j hj]
        have := (bsg_high (m := m) (i := i) (t := j) (Nat.le_refl m)).2
        simp only [bsg, hb, Bool.false_eq_true, false_and, if_false, this]
      rw [hf, hg, wht_shiftL (Nat.le_refl m), ih (by omega) f i hi', ih (by omega) _ i hi']
      rfl
    | true =>
      obtain ⟨i', he⟩ : ∃ i', i' = flip m i := ⟨_, rfl⟩
      have hie : flip m i' = i := by rw [he, flip_flip]
      have hb' : i'.testBit m = false := by rw [he, flip_bit, hb]; rfl
      have hi'' : i' < 2 ^ (m + 1) := by rw [he]; exact flip_lt hi (by omega)
      have hi' : i' < 2 ^ m := by
        by_cases c : i' < 2 ^ m
        · exact c
        · exfalso
          have := Nat.testBit_of_two_pow_le_and_two_pow_add_one_gt (i := m) (n := i') (by omega) (by omega)
          rw [hb'] at this; cases this
      have hs : ∀ t, bsg m i t = bsg m i' t := fun t => by rw [← hie]; exact (bsg_high (Nat.le_refl m)).1
      have hg : tsum (fun j => bsg (m + 1) i (2 ^ m + j)) (fun j => f (2 ^ m + j)) (2 ^ m) = tsum (fun j => -bsg m i' j) (fun j => f (flip m j)) (2 ^ m) := by
        apply tsum_congr
        intro j hj
        rw [← flip_addL m (by omega) j hj]
        have e1 := (bsg_high (m := m) (i := i) (t := j) (Nat.le_refl m)).2
        have e2 : (flip m j).testBit m = true := by rw [flip_bit, bitLowR hj]; rfl
        simp only [bsg, hb, e2, and_self, if_true, e1, hs]
      have hf' : tsum (bsg m i) f (2 ^ m) = tsum (bsg m i') f (2 ^ m) := tsum_congr fun j _ => by rw [hs]
      rw [hf, hg, hf', tsum_neg, ← he]
      have e1 := ih (by omega) f i' hi'
      have e2 : wht m f i = tsum (bsg m i') (fun j => f (flip m j)) (2 ^ m) := by rw [← hie, wht_shiftL (Nat.le_refl m)]; exact ih (by omega) _ i' hi'
      simp only [if_true]
      omega
theorem bsg_tab4 : ∀ i < 16, ∀ t < 16, bsg 4 i t = sgn (i % 4) (t % 4) * sgn (i / 4) (t / 4) := by decide +kernel
theorem bsg_tab8 : ∀ i < 64, ∀ t < 64, bsg 6 i t = sgn (i % 8) (t % 8) * sgn (i / 8) (t / 8) := by decide +kernel
end Go.Proofs.YtbmknmenaaanaaaDoor
