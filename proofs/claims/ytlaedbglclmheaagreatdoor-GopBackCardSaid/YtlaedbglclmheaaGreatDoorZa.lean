/- Contracts of this seat: Mm, BiM, Ucr. -/
import Derived.Test.YtlaedbglclmheaaGreatDoorErrFacts
/- The builtins max and min of ints, as rules for a walk. -/
namespace Go.Proofs.YtlaedbglclmheaaGreatDoor
set_option linter.unusedVariables false
set_option linter.unusedSimpArgs false
open Go.RowKit

theorem mx2 : ∀ (x y : Int) ts ty W, (Builtin.max_ ts ty #[.int .i64 x, .int .i64 y]).run Tryz.prog W = .ok (.int .i64 (max x y)) W := fun x y ts ty W => by
  have e : max x y = if x < y then y else x := by omega
  simp [Builtin.max_, Builtin.max2, e]
theorem mn2 : ∀ (x y : Int) ts ty W, (Builtin.min_ ts ty #[.int .i64 x, .int .i64 y]).run Tryz.prog W = .ok (.int .i64 (min x y)) W := fun x y ts ty W => by
  have e : min x y = if y < x then y else x := by omega
  simp [Builtin.min_, Builtin.min2, e]
theorem mx3 : ∀ (x y z : Int) ts ty W, (Builtin.max_ ts ty #[.int .i64 x, .int .i64 y, .int .i64 z]).run Tryz.prog W = .ok (.int .i64 (max (max x y) z)) W := fun x y z ts ty W => by
  have e : max (max x y) z = if (if x < y then y else x) < z then z else (if x < y then y else x) := by omega
  simp [Builtin.max_, Builtin.max2, e]
end Go.Proofs.YtlaedbglclmheaaGreatDoor

/- Bits of bytes, bits as lists: plain arithmetic. -/
namespace Go.Proofs.YtlaedbglclmheaaGreatDoor
set_option linter.unusedVariables false
set_option linter.unusedSimpArgs false
open Go.RowKit

theorem wrap_nat {n : Nat} (h : n < 2 ^ 63) : IntKind.i64.wrap (n : Int) = (n : Int) := by rw [IntKind.wrap_i64]; omega
theorem ofInt_nat (n : Nat) : BitVec.ofInt 64 (n : Int) = BitVec.ofNat 64 n := by
  apply BitVec.eq_of_toNat_eq
  simp [BitVec.toNat_ofNat]
theorem and_mask (x t : Nat) (hx : x < 2 ^ 63) (ht : t ≤ 62) : bits .and .i64 (x : Int) ((2 ^ t - 1 : Nat) : Int) = ((x % 2 ^ t : Nat) : Int) := by
  have h2 : 2 ^ t ≤ 2 ^ 62 := Nat.pow_le_pow_right (by decide) ht
  have hp : 0 < 2 ^ t := Nat.two_pow_pos t
  have hm : x % 2 ^ t < 2 ^ t := Nat.mod_lt _ hp
  have e : (BitVec.ofInt 64 (x : Int) &&& BitVec.ofInt 64 ((2 ^ t - 1 : Nat) : Int)).toNat = x % 2 ^ t := by
    rw [ofInt_nat, ofInt_nat, BitVec.toNat_and, BitVec.toNat_ofNat, BitVec.toNat_ofNat, Nat.mod_eq_of_lt (by omega), Nat.mod_eq_of_lt (by omega), Nat.and_two_pow_sub_one_eq_mod]
  show IntKind.i64.wrap (((BitVec.ofInt 64 (x : Int) &&& BitVec.ofInt 64 ((2 ^ t - 1 : Nat) : Int)).toNat : Nat) : Int) = _
  rw [e]
  exact wrap_nat (by omega)
theorem or_low (v p t : Nat) (hp : p < 2 ^ t) (hb : v * 2 ^ t + p < 2 ^ 63) : bits .or .i64 ((v * 2 ^ t : Nat) : Int) (p : Int) = ((v * 2 ^ t + p : Nat) : Int) := by
  have e : (BitVec.ofInt 64 ((v * 2 ^ t : Nat) : Int) ||| BitVec.ofInt 64 (p : Int)).toNat = v * 2 ^ t + p := by
    rw [ofInt_nat, ofInt_nat, BitVec.toNat_or, BitVec.toNat_ofNat, BitVec.toNat_ofNat, Nat.mod_eq_of_lt (by omega), Nat.mod_eq_of_lt (by omega), Nat.mul_comm, Nat.two_pow_add_eq_or_of_lt hp]
  show IntKind.i64.wrap (((BitVec.ofInt 64 ((v * 2 ^ t : Nat) : Int) ||| BitVec.ofInt 64 (p : Int)).toNat : Nat) : Int) = _
  rw [e]
  exact wrap_nat hb
theorem ofInt8_nat (n : Nat) : BitVec.ofInt 8 (n : Int) = BitVec.ofNat 8 n := by
  apply BitVec.eq_of_toNat_eq
  simp [BitVec.toNat_ofNat]
theorem or_byte (v p t : Nat) (hp : p < 2 ^ t) (hb : v * 2 ^ t + p < 256) : bits .or .u8 ((v * 2 ^ t : Nat) : Int) (p : Int) = ((v * 2 ^ t + p : Nat) : Int) := by
  have e : (BitVec.ofInt 8 ((v * 2 ^ t : Nat) : Int) ||| BitVec.ofInt 8 (p : Int)).toNat = v * 2 ^ t + p := by
    rw [ofInt8_nat, ofInt8_nat, BitVec.toNat_or, BitVec.toNat_ofNat, BitVec.toNat_ofNat, Nat.mod_eq_of_lt (by omega), Nat.mod_eq_of_lt (by omega), Nat.mul_comm, Nat.two_pow_add_eq_or_of_lt hp]
  show IntKind.u8.wrap (((BitVec.ofInt 8 ((v * 2 ^ t : Nat) : Int) ||| BitVec.ofInt 8 (p : Int)).toNat : Nat) : Int) = _
  rw [e, IntKind.wrap_u8]
  omega

/-- the bit at a place of bytes; the number of so many bits from a place on -/
def btN (bs : List Nat) (p : Nat) : Nat := bs.getD (p / 8) 0 / 2 ^ (7 - p % 8) % 2
def nmN (bs : List Nat) (p : Nat) : Nat → Nat
  | 0 => 0
  | k + 1 => 2 * nmN bs p k + btN bs (p + k)
theorem btN_lt (bs : List Nat) (p : Nat) : btN bs p < 2 := Nat.mod_lt _ (by decide)
theorem nmN_lt (bs : List Nat) (p k : Nat) : nmN bs p k < 2 ^ k := by
  induction k with
  | zero => simp [nmN]
  | succ k ih => have := btN_lt bs (p + k); simp only [nmN, Nat.pow_succ]; omega
theorem nmN_add (bs : List Nat) (p k t : Nat) : nmN bs p (k + t) = nmN bs p k * 2 ^ t + nmN bs (p + k) t := by
  induction t with
  | zero => simp [nmN]
  | succ t ih =>
    show 2 * nmN bs p (k + t) + btN bs (p + (k + t)) = _ + (2 * nmN bs (p + k) t + btN bs (p + k + t))
    rw [ih, Nat.pow_succ, ← Nat.add_assoc p k t, Nat.mul_add, ← Nat.mul_assoc (nmN bs p k), Nat.mul_comm _ 2]
    omega
theorem mod_half (q t : Nat) : q % 2 ^ (t + 1) = 2 * (q / 2 % 2 ^ t) + q % 2 := by
  rw [Nat.pow_succ', Nat.mod_mul]
  omega
theorem nmN_in (bs : List Nat) (p t : Nat) (h : p % 8 + t ≤ 8) : nmN bs p t = bs.getD (p / 8) 0 / 2 ^ (8 - p % 8 - t) % 2 ^ t := by
  induction t with
  | zero => simp [nmN, Nat.mod_one]
  | succ t ih =>
    have e1 : (p + t) / 8 = p / 8 := by omega
    have e2 : (p + t) % 8 = p % 8 + t := by omega
    have e3 : 8 - p % 8 - t = (8 - p % 8 - (t + 1)) + 1 := by omega
    have e4 : 7 - (p % 8 + t) = 8 - p % 8 - (t + 1) := by omega
    simp only [nmN]
    rw [ih (by omega)]
    unfold btN
    rw [e1, e2, e3, e4, Nat.pow_succ, ← Nat.div_div_eq_div_mul, mod_half]
theorem nmN_one (bs : List Nat) (p : Nat) : nmN bs p 1 = btN bs p := by simp [nmN]

/-- the number of so many bits from a place on, of any bits -/
def nmF (f : Nat → Nat) (p : Nat) : Nat → Nat
  | 0 => 0
  | k + 1 => 2 * nmF f p k + f (p + k)
theorem nmF_add (f : Nat → Nat) (p k t : Nat) : nmF f p (k + t) = nmF f p k * 2 ^ t + nmF f (p + k) t := by
  induction t with
  | zero => simp [nmF]
  | succ t ih =>
    show 2 * nmF f p (k + t) + f (p + (k + t)) = _ + (2 * nmF f (p + k) t + f (p + k + t))
    rw [ih, Nat.pow_succ, ← Nat.add_assoc p k t, Nat.mul_add, ← Nat.mul_assoc (nmF f p k), Nat.mul_comm _ 2]
    omega
theorem nmF_lt {f : Nat → Nat} (h : ∀ p, f p < 2) (p k : Nat) : nmF f p k < 2 ^ k := by
  induction k with
  | zero => simp [nmF]
  | succ k ih => have := h (p + k); simp only [nmF, Nat.pow_succ]; omega
theorem nmF_congr {f g : Nat → Nat} {p k : Nat} (h : ∀ i, i < k → f (p + i) = g (p + i)) : nmF f p k = nmF g p k := by
  induction k with
  | zero => rfl
  | succ k ih => simp only [nmF]; rw [ih fun i hi => h i (by omega), h k (by omega)]
theorem nmF_zero {f : Nat → Nat} {p k : Nat} (h : ∀ i, i < k → f (p + i) = 0) : nmF f p k = 0 := by
  induction k with
  | zero => rfl
  | succ k ih => simp only [nmF]; rw [ih fun i hi => h i (by omega), h k (by omega)]
theorem nmN_nmF (bs : List Nat) (p k : Nat) : nmN bs p k = nmF (btN bs) p k := by
  induction k with
  | zero => rfl
  | succ k ih => simp only [nmN, nmF]; rw [ih]
/-- a bit of a number's eight, or more -/
theorem nmF_bit {f : Nat → Nat} (h : ∀ p, f p < 2) (p k i : Nat) (hi : i < k) : nmF f p k / 2 ^ (k - 1 - i) % 2 = f (p + i) := by
  obtain ⟨d, rfl⟩ : ∃ d, k = i + 1 + d := ⟨k - (i + 1), by omega⟩
  have hl := nmF_lt h (p + (i + 1)) d
  have e : i + 1 + d - 1 - i = d := by omega
  rw [nmF_add, e, Nat.mul_comm, Nat.mul_add_div (Nat.two_pow_pos d), Nat.div_eq_of_lt hl, Nat.add_zero]
  simp only [nmF]
  have := h (p + i)
  omega
/-- bits as a list -/
def bL (l : List Bool) (p : Nat) : Nat := (l.getD p false).toNat
theorem bL_lt (l : List Bool) (p : Nat) : bL l p < 2 := by unfold bL; cases l.getD p false <;> decide
theorem bL_end {l : List Bool} {p : Nat} (h : l.length ≤ p) : bL l p = 0 := by unfold bL; rw [List.getD, List.getElem?_eq_none h]; rfl
theorem bL_left {l m : List Bool} {p : Nat} (h : p < l.length) : bL (l ++ m) p = bL l p := by unfold bL; rw [List.getD, List.getD, List.getElem?_append_left h]
theorem bL_right (l m : List Bool) (p : Nat) : bL (l ++ m) (l.length + p) = bL m p := by unfold bL; rw [List.getD, List.getD, List.getElem?_append_right (by omega), Nat.add_sub_cancel_left]
/-- the bytes of bits -/
def pkB (l : List Bool) (j : Nat) : Nat := nmF (bL l) (8 * j) 8
theorem pkB_lt (l : List Bool) (j : Nat) : pkB l j < 256 := nmF_lt (bL_lt l) _ 8
theorem pkB_end {l : List Bool} {j : Nat} (h : l.length ≤ 8 * j) : pkB l j = 0 := nmF_zero fun i _ => bL_end (by omega)
/-- the bits of a number -/
def bsOf (v n : Nat) : List Bool := (List.range n).map fun i => decide (v / 2 ^ (n - 1 - i) % 2 = 1)
theorem bsOf_length (v n : Nat) : (bsOf v n).length = n := by simp [bsOf]
theorem bsOf_get (v n i : Nat) (h : i < n) : (bsOf v n)[i]? = some (decide (v / 2 ^ (n - 1 - i) % 2 = 1)) := by
  simp [bsOf, h]
theorem bL_of (v n i : Nat) (h : i < n) : bL (bsOf v n) i = v / 2 ^ (n - 1 - i) % 2 := by
  unfold bL
  rw [List.getD, bsOf_get v n i h]
  have : v / 2 ^ (n - 1 - i) % 2 < 2 := Nat.mod_lt _ (by decide)
  by_cases hc : v / 2 ^ (n - 1 - i) % 2 = 1
  · simp [hc]
  · simp [hc]; omega
theorem bsOf_add (v a b : Nat) : bsOf v (a + b) = bsOf (v / 2 ^ b) a ++ bsOf v b := by
  apply List.ext_getElem?
  intro i
  by_cases h1 : i < a
  · rw [List.getElem?_append_left (by rw [bsOf_length]; exact h1), bsOf_get _ _ _ h1, bsOf_get _ _ _ (by omega), Nat.div_div_eq_div_mul, ← Nat.pow_add, show b + (a - 1 - i) = a + b - 1 - i by omega]
  · by_cases h2 : i < a + b
    · rw [List.getElem?_append_right (by rw [bsOf_length]; omega), bsOf_length, bsOf_get v (a + b) i h2, bsOf_get v b (i - a) (by omega), show b - 1 - (i - a) = a + b - 1 - i by omega]
    · rw [List.getElem?_eq_none (by rw [bsOf_length]; omega), List.getElem?_eq_none (by rw [List.length_append, bsOf_length, bsOf_length]; omega)]
theorem bsOf_mod (v a : Nat) : bsOf (v % 2 ^ a) a = bsOf v a := by
  apply List.ext_getElem?
  intro i
  by_cases h1 : i < a
  · rw [bsOf_get _ _ _ h1, bsOf_get _ _ _ h1]
    have e : v % 2 ^ a / 2 ^ (a - 1 - i) % 2 = v / 2 ^ (a - 1 - i) % 2 := by
      obtain ⟨d, hd⟩ : ∃ d, a = (a - 1 - i) + (d + 1) := ⟨i, by omega⟩
      generalize a - 1 - i = m at hd ⊢
      subst hd
      rw [Nat.pow_add, Nat.mod_mul_right_div_self, Nat.pow_succ', Nat.mod_mul_right_mod]
    rw [e]
  · rw [List.getElem?_eq_none (by rw [bsOf_length]; omega), List.getElem?_eq_none (by rw [bsOf_length]; omega)]
/-- the number that its bits make -/
theorem nmF_of (l : List Bool) (v t : Nat) (m : List Bool) (hv : v < 2 ^ t) : nmF (bL (l ++ bsOf v t ++ m)) l.length t = v := by
  have h : ∀ k, k ≤ t → nmF (bL (l ++ bsOf v t ++ m)) l.length k = v / 2 ^ (t - k) := by
    intro k
    induction k with
    | zero => intro _; rw [Nat.sub_zero, Nat.div_eq_of_lt hv]; rfl
    | succ k ih =>
      intro hk
      simp only [nmF]
      rw [ih (by omega), List.append_assoc, bL_right, bL_left (by rw [bsOf_length]; omega), bL_of _ _ _ (by omega), show t - k = (t - (k + 1)) + 1 by omega, Nat.pow_succ, ← Nat.div_div_eq_div_mul, show t - 1 - k = t - (k + 1) by omega]
      omega
  have := h t (Nat.le_refl _)
  simpa using this
/-- a number of at most as many bits as are free, put: the last byte -/
theorem pk_put (l : List Bool) (v t : Nat) (hv : v < 2 ^ t) (h : l.length % 8 + t ≤ 8) : pkB (l ++ bsOf v t) (l.length / 8) = pkB l (l.length / 8) + v * 2 ^ (8 - l.length % 8 - t) := by
  have hL : 8 * (l.length / 8) + l.length % 8 = l.length := Nat.div_add_mod _ _
  unfold pkB
  obtain ⟨r, hr⟩ : ∃ r, l.length % 8 = r := ⟨_, rfl⟩
  obtain ⟨d, hd⟩ : ∃ d, 8 = r + (t + d) := ⟨8 - r - t, by omega⟩
  have e1 : nmF (bL (l ++ bsOf v t)) (8 * (l.length / 8)) 8 = nmF (bL (l ++ bsOf v t)) (8 * (l.length / 8)) (r + (t + d)) := by rw [← hd]
  have e2 : nmF (bL l) (8 * (l.length / 8)) 8 = nmF (bL l) (8 * (l.length / 8)) (r + (t + d)) := by rw [← hd]
  rw [e1, e2, nmF_add (bL (l ++ bsOf v t)) _ r (t + d), nmF_add (bL l) _ r (t + d), show 8 * (l.length / 8) + r = l.length by omega, nmF_add (bL (l ++ bsOf v t)) l.length t d]
  have h1 : nmF (bL (l ++ bsOf v t)) (8 * (l.length / 8)) r = nmF (bL l) (8 * (l.length / 8)) r := nmF_congr fun i hi => bL_left (by omega)
  have h2 : nmF (bL (l ++ bsOf v t)) l.length t = v := by have := nmF_of l v t [] hv; rwa [List.append_nil] at this
  have h3 : nmF (bL (l ++ bsOf v t)) (l.length + t) d = 0 := nmF_zero fun i _ => bL_end (by rw [List.length_append, bsOf_length]; omega)
  have h4 : nmF (bL l) l.length (t + d) = 0 := nmF_zero fun i _ => bL_end (by omega)
  rw [h1, h2, h3, h4, hr, show 8 - r - t = d by omega]
  omega
theorem pk_old (l m : List Bool) (j : Nat) (h : 8 * j + 8 ≤ l.length) : pkB (l ++ m) j = pkB l j := nmF_congr fun i hi => bL_left (by omega)
/-- the byte in which bits are free: a multiple -/
theorem pk_free (l : List Bool) : ∃ q, pkB l (l.length / 8) = q * 2 ^ (8 - l.length % 8) := by
  have hL : 8 * (l.length / 8) + l.length % 8 = l.length := Nat.div_add_mod _ _
  unfold pkB
  obtain ⟨r, hr⟩ : ∃ r, l.length % 8 = r := ⟨_, rfl⟩
  obtain ⟨d, hd⟩ : ∃ d, 8 = r + d := ⟨8 - r, by omega⟩
  have e2 : nmF (bL l) (8 * (l.length / 8)) 8 = nmF (bL l) (8 * (l.length / 8)) (r + d) := by rw [← hd]
  rw [e2, nmF_add, hr, show 8 - r = d by omega, nmF_zero (f := bL l) (p := 8 * (l.length / 8) + r) fun i _ => bL_end (by omega)]
  exact ⟨_, rfl⟩
theorem bt_pk (l : List Bool) (p : Nat) (h : p < 8 * ((l.length + 7) / 8)) : btN ((List.range ((l.length + 7) / 8)).map (pkB l)) p = bL l p := by
  unfold btN
  rw [List.getD, List.getElem?_map, List.getElem?_range (by omega)]
  show pkB l (p / 8) / 2 ^ (7 - p % 8) % 2 = _
  have := nmF_bit (bL_lt l) (8 * (p / 8)) 8 (p % 8) (Nat.mod_lt _ (by decide))
  rw [Nat.div_add_mod] at this
  exact this
end Go.Proofs.YtlaedbglclmheaaGreatDoor

/- The sum of bytes (CRC-32), bit by bit and by halves of bytes; what a change of a byte does: plain. -/
namespace Go.Proofs.YtlaedbglclmheaaGreatDoor
set_option linter.unusedVariables false
set_option linter.unusedSimpArgs false
open Go.RowKit

/-- one bit of the sum -/
def r1 (c : Nat) : Nat := if c % 2 = 1 then (c / 2) ^^^ 3988292384 else c / 2
def rN : Nat → Nat → Nat
  | 0, c => c
  | k + 1, c => rN k (r1 c)
theorem tb0 (c : Nat) : c.testBit 0 = decide (c % 2 = 1) := Nat.testBit_zero c
theorem xor_half (a b : Nat) : (a ^^^ b) / 2 = a / 2 ^^^ b / 2 := by
  apply Nat.eq_of_testBit_eq
  intro i
  simp only [Nat.testBit_div_two, Nat.testBit_xor]
theorem xor_par (a b : Nat) : (a ^^^ b) % 2 = (a % 2 + b % 2) % 2 := by
  have h := Nat.testBit_xor a b 0
  rw [tb0, tb0, tb0] at h
  have ha : a % 2 = 0 ∨ a % 2 = 1 := by omega
  have hb : b % 2 = 0 ∨ b % 2 = 1 := by omega
  have hc : (a ^^^ b) % 2 = 0 ∨ (a ^^^ b) % 2 = 1 := by omega
  rcases ha with ha | ha <;> rcases hb with hb | hb <;> rcases hc with hc | hc <;> rw [ha, hb, hc] at h <;> simp_all
theorem r1_xor (a b : Nat) : r1 (a ^^^ b) = r1 a ^^^ r1 b := by
  have hp := xor_par a b
  have hh := xor_half a b
  unfold r1
  have ha : a % 2 = 0 ∨ a % 2 = 1 := by omega
  have hb : b % 2 = 0 ∨ b % 2 = 1 := by omega
  rcases ha with ha | ha <;> rcases hb with hb | hb <;> rw [ha, hb] at hp <;> simp only [hp, ha, hb, hh] <;> simp only [Nat.reduceAdd, Nat.reduceMod, Nat.zero_add, if_true, if_false, Nat.zero_ne_one, reduceIte]
  · rw [Nat.xor_assoc]
  · rw [Nat.xor_assoc, Nat.xor_assoc, Nat.xor_comm 3988292384]
  · rw [Nat.xor_assoc, ← Nat.xor_assoc 3988292384, Nat.xor_comm 3988292384 (b / 2), Nat.xor_assoc (b / 2), Nat.xor_self, Nat.xor_zero]
theorem rN_xor (k a b : Nat) : rN k (a ^^^ b) = rN k a ^^^ rN k b := by
  induction k generalizing a b with
  | zero => rfl
  | succ k ih => simp only [rN]; rw [r1_xor, ih]
theorem r1_lt {c : Nat} (h : c < 4294967296) : r1 c < 4294967296 := by
  unfold r1
  split
  · exact Nat.xor_lt_two_pow (n := 32) (by omega) (by decide)
  · omega
theorem rN_lt (k : Nat) {c : Nat} (h : c < 4294967296) : rN k c < 4294967296 := by
  induction k generalizing c with
  | zero => exact h
  | succ k ih => exact ih (r1_lt h)
theorem rN_mul (k h : Nat) : rN k (2 ^ k * h) = h := by
  induction k with
  | zero => simp [rN]
  | succ k ih =>
    simp only [rN]
    have e : r1 (2 ^ (k + 1) * h) = 2 ^ k * h := by
      have e2 : 2 ^ (k + 1) * h = 2 * (2 ^ k * h) := by rw [Nat.pow_succ, Nat.mul_comm (2 ^ k) 2, Nat.mul_assoc]
      rw [e2]
      generalize 2 ^ k * h = m
      unfold r1
      rw [if_neg (by omega)]
      omega
    rw [e, ih]
theorem split_xor (k c : Nat) : c = (2 ^ k * (c / 2 ^ k)) ^^^ (c % 2 ^ k) := by
  have hl : c % 2 ^ k < 2 ^ k := Nat.mod_lt _ (Nat.two_pow_pos k)
  apply Nat.eq_of_testBit_eq
  intro i
  rw [Nat.testBit_xor, Nat.testBit_two_pow_mul, Nat.testBit_mod_two_pow, Nat.testBit_div_two_pow]
  by_cases h : i < k
  · simp [h, show ¬ k ≤ i by omega]
  · simp [h, show k ≤ i by omega, show i - k + k = i by omega]
/-- four bits at once -/
theorem rN_nib (c : Nat) : rN 4 c = (c / 16) ^^^ rN 4 (c % 16) := by
  have h := split_xor 4 c
  have h2 : rN 4 c = rN 4 ((2 ^ 4 * (c / 2 ^ 4)) ^^^ (c % 2 ^ 4)) := by rw [← h]
  rw [h2, rN_xor, rN_mul]
theorem rN_add (a b c : Nat) : rN (a + b) c = rN b (rN a c) := by
  induction a generalizing c with
  | zero => simp [rN]
  | succ a ih => rw [show a + 1 + b = (a + b) + 1 by omega]; simp only [rN]; exact ih _
theorem r1_inj {a b : Nat} (ha : a < 4294967296) (hb : b < 4294967296) (h : r1 a = r1 b) : a = b := by
  have key : ∀ x, x < 2147483648 → (x ^^^ 3988292384).testBit 31 = true ∧ x.testBit 31 = false := fun x hx => by
    have h1 : x.testBit 31 = false := Nat.testBit_lt_two_pow hx
    refine ⟨?_, h1⟩
    rw [Nat.testBit_xor, h1]
    decide
  unfold r1 at h
  have pa : a % 2 = 0 ∨ a % 2 = 1 := by omega
  have pb : b % 2 = 0 ∨ b % 2 = 1 := by omega
  have ka := key (a / 2) (by omega)
  have kb := key (b / 2) (by omega)
  rcases pa with pa | pa <;> rcases pb with pb | pb <;> simp only [pa, pb, if_true, if_false, Nat.zero_ne_one, reduceIte] at h
  · omega
  · rw [h, kb.1] at ka; exact absurd ka.2 (by decide)
  · rw [← h, ka.1] at kb; exact absurd kb.2 (by decide)
  · have h2 := congrArg (· ^^^ 3988292384) h
    simp only [Nat.xor_assoc, Nat.xor_self, Nat.xor_zero] at h2
    omega
theorem rN_inj (k : Nat) {a b : Nat} (ha : a < 4294967296) (hb : b < 4294967296) (h : rN k a = rN k b) : a = b := by
  induction k generalizing a b with
  | zero => exact h
  | succ k ih => exact r1_inj ha hb (ih (r1_lt ha) (r1_lt hb) h)
/-- a byte taken into the sum -/
def stpC (c x : Nat) : Nat := rN 8 (c ^^^ x)
def crcF (c : Nat) (bs : List Nat) : Nat := bs.foldl stpC c
def crc (bs : List Nat) : Nat := crcF 4294967295 bs ^^^ 4294967295
theorem stpC_lt {c x : Nat} (h : c < 4294967296) (hx : x < 256) : stpC c x < 4294967296 := rN_lt 8 (Nat.xor_lt_two_pow (n := 32) h (by omega))
theorem crcF_lt : ∀ {bs : List Nat} {c : Nat}, c < 4294967296 → (∀ x ∈ bs, x < 256) → crcF c bs < 4294967296
  | [], _, h, _ => h
  | x :: bs, c, h, hb => crcF_lt (bs := bs) (stpC_lt h (hb x (by simp))) (fun y hy => hb y (by simp [hy]))
theorem crc_lt {bs : List Nat} (hb : ∀ x ∈ bs, x < 256) : crc bs < 4294967296 := Nat.xor_lt_two_pow (n := 32) (crcF_lt (by decide) hb) (by decide)
theorem stpC_inj {c d x : Nat} (hc : c < 4294967296) (hd : d < 4294967296) (hx : x < 256) (h : stpC c x = stpC d x) : c = d := by
  have h1 := rN_inj 8 (Nat.xor_lt_two_pow (n := 32) hc (by omega)) (Nat.xor_lt_two_pow (n := 32) hd (by omega)) h
  have h2 := congrArg (· ^^^ x) h1
  simpa only [Nat.xor_assoc, Nat.xor_self, Nat.xor_zero] using h2
theorem stpC_byte {c x y : Nat} (hc : c < 4294967296) (hx : x < 256) (hy : y < 256) (h : stpC c x = stpC c y) : x = y := by
  have h1 := rN_inj 8 (Nat.xor_lt_two_pow (n := 32) hc (by omega)) (Nat.xor_lt_two_pow (n := 32) hc (by omega)) h
  have h2 := congrArg (c ^^^ ·) h1
  simpa only [← Nat.xor_assoc, Nat.xor_self, Nat.zero_xor] using h2
theorem crcF_inj : ∀ {bs : List Nat} {c d : Nat}, c < 4294967296 → d < 4294967296 → (∀ x ∈ bs, x < 256) → crcF c bs = crcF d bs → c = d
  | [], _, _, _, _, _, h => h
  | x :: bs, c, d, hc, hd, hb, h => stpC_inj hc hd (hb x (by simp)) (crcF_inj (bs := bs) (stpC_lt hc (hb x (by simp))) (stpC_lt hd (hb x (by simp))) (fun y hy => hb y (by simp [hy])) h)
theorem crcF_app (c : Nat) (a b : List Nat) : crcF c (a ++ b) = crcF (crcF c a) b := by simp [crcF]
/-- bytes of which one is another have another sum -/
theorem crc_turned {p q : List Nat} {x y : Nat} (hp : ∀ z ∈ p, z < 256) (hq : ∀ z ∈ q, z < 256) (hx : x < 256) (hy : y < 256) (hne : x ≠ y) : crc (p ++ x :: q) ≠ crc (p ++ y :: q) := by
  intro h
  have h2 := congrArg (· ^^^ 4294967295) h
  simp only [crc, Nat.xor_assoc, Nat.xor_self, Nat.xor_zero] at h2
  rw [crcF_app, crcF_app] at h2
  have hc := crcF_lt (bs := p) (c := 4294967295) (by decide) hp
  exact hne (stpC_byte hc hx hy (crcF_inj (bs := q) (stpC_lt hc hx) (stpC_lt hc hy) hq h2))
/-- the program's way: four bits at a time, by a table -/
def nib (r : Nat) : Nat := rN 4 r
theorem stpC_nib (c x : Nat) : stpC c x = (((c ^^^ x) / 16) ^^^ nib ((c ^^^ x) % 16)) / 16 ^^^ nib ((((c ^^^ x) / 16) ^^^ nib ((c ^^^ x) % 16)) % 16) := by
  unfold stpC nib
  rw [show (8 : Nat) = 4 + 4 from rfl, rN_add, rN_nib (c ^^^ x)]
  exact rN_nib _
theorem nib_lt {r : Nat} (h : r < 16) : nib r < 4294967296 := rN_lt 4 (by omega)
theorem nib_tab : (List.range 16).map (fun r => (nib r : Int)) = [0, 498536548, 997073096, 651767980, 1994146192, 1802195444, 1303535960, 1342533948, 3988292384, 4027552580, 3604390888, 3412177804, 2607071920, 2262029012, 2685067896, 3183342108] := by decide +kernel
/-- four bytes of a number, the highest first -/
def be4 (s : Nat) : List Nat := [s / 16777216, s / 65536 % 256, s / 256 % 256, s % 256]
def be3 (s : Nat) : List Nat := [s / 65536, s / 256 % 256, s % 256]
def val : List Nat → Nat := fun l => l.foldl (fun v x => v * 256 + x) 0
theorem val_be4 {s : Nat} : val (be4 s) = s := by simp only [val, be4, List.foldl_cons, List.foldl_nil]; omega
theorem be4_lt {s : Nat} (h : s < 4294967296) : ∀ x ∈ be4 s, x < 256 := by intro x hx; simp only [be4, List.mem_cons, List.not_mem_nil, or_false] at hx; omega
theorem be3_lt {s : Nat} (h : s < 16777216) : ∀ x ∈ be3 s, x < 256 := by intro x hx; simp only [be3, List.mem_cons, List.not_mem_nil, or_false] at hx; omega
end Go.Proofs.YtlaedbglclmheaaGreatDoor
