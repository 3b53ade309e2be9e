/- coef's coding over a plain coder. -/
import Derived.Test.YtdndambkaohgiaaGreatDoorZi
namespace Go.Proofs.YtdndambkaohgiaaGreatDoor
set_option linter.unusedVariables false
set_option linter.unusedSimpArgs false
open Go.RowKit Go.Extern.Stop Go.Stop Go.Extern

def bitAt (u : Int) (k : Nat) : Bool := decide (u / (2 : Int) ^ k % 2 = 1)
def geAt (u : Int) (z : Nat) : Bool := decide ((2 : Int) ^ (z + 1) ≤ u)
section
variable {σ : Type}
/-- how many bits the rest has beyond the first: z so far, f more at most -/
def rzM (M : Mc σ) (u : Int) : Nat → Nat → Ms σ → Nat × Ms σ
  | 0, z, s => (z, s)
  | f + 1, z, s => if (flaM M s (geAt u z)).1 then rzM M u f (z + 1) (flaM M s (geAt u z)).2 else (z, (flaM M s (geAt u z)).2)
/-- the bits below the highest: k to come, c so far -/
def rbM (M : Mc σ) (u : Int) : Nat → Nat → Ms σ → Nat × Ms σ
  | 0, c, s => (c, s)
  | k + 1, c, s => rbM M u k (2 * c + if (flaM M s (bitAt u k)).1 then 1 else 0) (flaM M s (bitAt u k)).2
def rstM (M : Mc σ) (u : Int) (s : Ms σ) : Nat × Ms σ := rbM M u (rzM M u 13 0 s).1 1 (rzM M u 13 0 s).2
theorem rz_yes {M : Mc σ} {u : Int} {f z : Nat} {s s1 : Ms σ} (h : flaM M s (geAt u z) = (true, s1)) : rzM M u (f + 1) z s = rzM M u f (z + 1) s1 := by
  show (if _ = true then _ else _) = _
  rw [h]
  rfl
theorem rz_no {M : Mc σ} {u : Int} {f z : Nat} {s s1 : Ms σ} (h : flaM M s (geAt u z) = (false, s1)) : rzM M u (f + 1) z s = (z, s1) := by
  show (if _ = true then _ else _) = _
  rw [h]
  rfl
theorem rb_step {M : Mc σ} {u : Int} {k c : Nat} {s s1 : Ms σ} {b : Bool} (h : flaM M s (bitAt u k) = (b, s1)) : rbM M u (k + 1) c s = rbM M u k (2 * c + if b then 1 else 0) s1 := by
  show rbM M u k (2 * c + if (flaM M s (bitAt u k)).1 = true then 1 else 0) (flaM M s (bitAt u k)).2 = _
  rw [h]
theorem rz_le {M : Mc σ} {u : Int} : ∀ (f z : Nat) (s : Ms σ), z ≤ (rzM M u f z s).1 ∧ (rzM M u f z s).1 ≤ z + f
  | 0, z, s => ⟨Nat.le_refl _, Nat.le_refl _⟩
  | f + 1, z, s => by
    obtain ⟨⟨b, t⟩, e⟩ : ∃ r, flaM M s (geAt u z) = r := ⟨_, rfl⟩
    cases b
    · rw [rz_no e]; exact ⟨Nat.le_refl _, Nat.le_add_right _ _⟩
    · rw [rz_yes e]
      have h := rz_le (M := M) (u := u) f (z + 1) t
      omega
theorem rb_lt {M : Mc σ} {u : Int} : ∀ (k c : Nat) (s : Ms σ), c * 2 ^ k ≤ (rbM M u k c s).1 ∧ (rbM M u k c s).1 < (c + 1) * 2 ^ k
  | 0, c, s => by show c * 1 ≤ c ∧ c < (c + 1) * 1; omega
  | k + 1, c, s => by
    obtain ⟨⟨b, t⟩, e⟩ : ∃ r, flaM M s (bitAt u k) = r := ⟨_, rfl⟩
    rw [rb_step e]
    have h := rb_lt (M := M) (u := u) k (2 * c + if b then 1 else 0) t
    have p : (2 : Nat) ^ (k + 1) = 2 * 2 ^ k := by rw [Nat.pow_succ, Nat.mul_comm]
    rw [p]
    have hb : (if b = true then 1 else 0) ≤ 1 := by cases b <;> decide
    generalize (if b = true then 1 else 0) = d at h hb ⊢
    constructor
    · refine Nat.le_trans ?_ h.1
      rw [← Nat.mul_assoc]; exact Nat.mul_le_mul_right _ (by omega)
    · refine Nat.lt_of_lt_of_le h.2 ?_
      rw [← Nat.mul_assoc]; exact Nat.mul_le_mul_right _ (by omega)
end
theorem two_pos (m : Nat) : (0 : Int) < 2 ^ m := Int.pow_pos (by decide)
theorem two_le (m : Nat) (h : m ≤ 13) : (2 : Int) ^ m ≤ 8192 := by
  have h2 : (2 : Nat) ^ m ≤ 8192 := Nat.pow_le_pow_right (n := 2) (by decide) h
  have h3 : ((2 ^ m : Nat) : Int) ≤ ((8192 : Nat) : Int) := Int.ofNat_le.2 h2
  rw [Int.natCast_pow] at h3
  exact h3
theorem shl_one (m : Nat) (h : m ≤ 13) : Op.shift .shl .i64 1 .i64 (m : Int) = pure (.int .i64 ((2 : Int) ^ m)) := by
  unfold Op.shift
  rw [if_neg (by omega)]
  have e : min (m : Int).toNat IntKind.i64.bits = m := by rw [show IntKind.i64.bits = 64 from rfl]; omega
  rw [e]
  have b1 := two_pos m
  have b2 := two_le m h
  show pure (Value.int .i64 (IntKind.i64.wrap (1 * 2 ^ m))) = _
  rw [Int.one_mul]
  generalize (2 : Int) ^ m = x at b1 b2
  rw [IntKind.wrap_i64, show (x + 9223372036854775808) % 18446744073709551616 - 9223372036854775808 = x by omega]
theorem wrap_two (m : Nat) (h : m ≤ 13) : IntKind.i64.wrap ((2 : Int) ^ m) = (2 : Int) ^ m := by
  have b1 := two_pos m
  have b2 := two_le m h
  generalize (2 : Int) ^ m = x at b1 b2
  rw [IntKind.wrap_i64]; omega
theorem shr_any (u : Int) (k : Nat) (h : k ≤ 13) : Op.shift .shr .i64 u .i64 (k : Int) = pure (.int .i64 (u / (2 : Int) ^ k)) := by
  unfold Op.shift
  rw [if_neg (by omega)]
  have e : min (k : Int).toNat IntKind.i64.bits = k := by rw [show IntKind.i64.bits = 64 from rfl]; omega
  rw [e]
  show pure (Value.int .i64 (u.fdiv (2 ^ k))) = _
  rw [Int.fdiv_eq_ediv_of_nonneg _ (Int.le_of_lt (two_pos k))]
theorem and_one (x : Int) : Op.intBits .and .i64 x 1 = pure (.int .i64 (x % 2)) := by
  unfold Op.intBits
  show pure (Value.int .i64 (IntKind.i64.wrap (((BitVec.ofInt 64 x &&& BitVec.ofInt 64 1).toNat : Nat) : Int))) = _
  rw [BitVec.toNat_and, BitVec.toNat_ofInt, show (BitVec.ofInt 64 1).toNat = 1 from rfl, Nat.and_one_is_mod, IntKind.wrap_i64]
  have e : (((x % ((2 ^ 64 : Nat) : Int)).toNat % 2 : Nat) : Int) = x % 2 := by
    rw [show ((2 ^ 64 : Nat) : Int) = 18446744073709551616 from rfl]; omega
  rw [e, show (x % 2 + 9223372036854775808) % 18446744073709551616 - 9223372036854775808 = x % 2 by omega]
theorem bit_and (u : Int) (k : Nat) : (u / (2 : Int) ^ k % 2 == 1) = bitAt u k := by
  unfold bitAt
  by_cases e : u / (2 : Int) ^ k % 2 = 1
  · rw [decide_eq_true e]; exact beq_iff_eq.2 e
  · rw [decide_eq_false e]; exact beq_eq_false_iff_ne.2 e
end Go.Proofs.YtdndambkaohgiaaGreatDoor
