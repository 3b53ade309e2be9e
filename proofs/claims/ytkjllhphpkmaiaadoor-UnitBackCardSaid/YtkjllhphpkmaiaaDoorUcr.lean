/- The sum of bytes (CRC-32), bit by bit and by halves of bytes; what a change of a byte does: plain. -/
import Derived.Test.YtkjllhphpkmaiaaDoorBiM
namespace Go.Proofs.YtkjllhphpkmaiaaDoor
set_option linter.unusedVariables false
set_option linter.unusedSimpArgs false
open Go.RowKit

/-- one bit of the sum -/
def r1 (c : Nat) : Nat := if c % 2 = 1 then (c / 2) ^^^ 3988292384 else c / 2
def rN : Nat → Nat → Nat
  | 0, c => c
  | k + 1, c => rN k (r1 c)
theorem tb0 (c : Nat) : c.testBit 0 = decide (c % 2 = 1) := Nat.testBit_zero c
theorem xor_half (a b : Nat) : (a ^^^ b) / 2 = a / 2 ^^^ b / 2 := by
  apply Nat.eq_of_testBit_eq
  intro i
  simp only [Nat.testBit_div_two, Nat.testBit_xor]
theorem xor_par (a b : Nat) : (a ^^^ b) % 2 = (a % 2 + b % 2) % 2 := by
  have h := Nat.testBit_xor a b 0
  rw [tb0, tb0, tb0] at h
  have ha : a % 2 = 0 ∨ a % 2 = 1 := by omega
  have hb : b % 2 = 0 ∨ b % 2 = 1 := by omega
  have hc : (a ^^^ b) % 2 = 0 ∨ (a ^^^ b) % 2 = 1 := by omega
  rcases ha with ha | ha <;> rcases hb with hb | hb <;> rcases hc with hc | hc <;> rw [ha, hb, hc] at h <;> simp_all
theorem r1_xor (a b : Nat) : r1 (a ^^^ b) = r1 a ^^^ r1 b := by
  have hp := xor_par a b
  have hh := xor_half a b
  unfold r1
  have ha : a % 2 = 0 ∨ a % 2 = 1 := by omega
  have hb : b % 2 = 0 ∨ b % 2 = 1 := by omega
  rcases ha with ha | ha <;> rcases hb with hb | hb <;> rw [ha, hb] at hp <;> simp only [hp, ha, hb, hh] <;> simp only [Nat.reduceAdd, Nat.reduceMod, Nat.zero_add, if_true, if_false, Nat.zero_ne_one, reduceIte]
  · rw [Nat.xor_assoc]
  · rw [Nat.xor_assoc, Nat.xor_assoc, Nat.xor_comm 3988292384]
  · rw [Nat.xor_assoc, ← Nat.xor_assoc 3988292384, Nat.xor_comm 3988292384 (b / 2), Nat.xor_assoc (b / 2), Nat.xor_self, Nat.xor_zero]
theorem rN_xor (k a b : Nat) : rN k (a ^^^ b) = rN k a ^^^ rN k b := by
  induction k generalizing a b with
  | zero => rfl
  | succ k ih => simp only [rN]; rw [r1_xor, ih]
theorem r1_lt {c : Nat} (h : c < 4294967296) : r1 c < 4294967296 := by
  unfold r1
  split
  · exact Nat.xor_lt_two_pow (n := 32) (by omega) (by decide)
  · omega
theorem rN_lt (k : Nat) {c : Nat} (h : c < 4294967296) : rN k c < 4294967296 := by
  induction k generalizing c with
  | zero => exact h
  | succ k ih => exact ih (r1_lt h)
theorem rN_mul (k h : Nat) : rN k (2 ^ k * h) = h := by
  induction k with
  | zero => simp [rN]
  | succ k ih =>
    simp only [rN]
    have e : r1 (2 ^ (k + 1) * h) = 2 ^ k * h := by
      have e2 : 2 ^ (k + 1) * h = 2 * (2 ^ k * h) := by rw [Nat.pow_succ, Nat.mul_comm (2 ^ k) 2, Nat.mul_assoc]
      rw [e2]
      generalize 2 ^ k * h = m
      unfold r1
      rw [if_neg (by omega)]
      omega
    rw [e, ih]
theorem split_xor (k c : Nat) : c = (2 ^ k * (c / 2 ^ k)) ^^^ (c % 2 ^ k) := by
  have hl : c % 2 ^ k < 2 ^ k := Nat.mod_lt _ (Nat.two_pow_pos k)
  apply Nat.eq_of_testBit_eq
  intro i
  rw [Nat.testBit_xor, Nat.testBit_two_pow_mul, Nat.testBit_mod_two_pow, Nat.testBit_div_two_pow]
  by_cases h : i < k
  · simp [h, show ¬ k ≤ i by omega]
  · simp [h, show k ≤ i by omega, show i - k + k = i by omega]
/-- four bits at once -/
theorem rN_nib (c : Nat) : rN 4 c = (c / 16) ^^^ rN 4 (c % 16) := by
  have h := split_xor 4 c
  have h2 : rN 4 c = rN 4 ((2 ^ 4 * (c / 2 ^ 4)) ^^^ (c % 2 ^ 4)) := by rw [← h]
  rw [h2, rN_xor, rN_mul]
theorem rN_add (a b c : Nat) : rN (a + b) c = rN b (rN a c) := by
  induction a generalizing c with
  | zero => simp [rN]
  | succ a ih => rw [show a + 1 + b = (a + b) + 1 by omega]; simp only [rN]; exact ih _
theorem r1_inj {a b : Nat} (ha : a < 4294967296) (hb : b < 4294967296) (h : r1 a = r1 b) : a = b := by
  have key : ∀ x, x < 2147483648 → (x ^^^ 3988292384).testBit 31 = true ∧ x.testBit 31 = false := fun x hx => by
    have h1 : x.testBit 31 = false := Nat.testBit_lt_two_pow hx
    refine ⟨?_, h1⟩
    rw [Nat.testBit_xor, h1]
    decide
  unfold r1 at h
  have pa : a % 2 = 0 ∨ a % 2 = 1 := by omega
  have pb : b % 2 = 0 ∨ b % 2 = 1 := by omega
  have ka := key (a / 2) (by omega)
  have kb := key (b / 2) (by omega)
  rcases pa with pa | pa <;> rcases pb with pb | pb <;> simp only [pa, pb, if_true, if_false, Nat.zero_ne_one, reduceIte] at h
  · omega
  · rw [h, kb.1] at ka; exact absurd ka.2 (by decide)
  · rw [← h, ka.1] at kb; exact absurd kb.2 (by decide)
  · have h2 := congrArg (· ^^^ 3988292384) h
    simp only [Nat.xor_assoc, Nat.xor_self, Nat.xor_zero] at h2
    omega
theorem rN_inj (k : Nat) {a b : Nat} (ha : a < 4294967296) (hb : b < 4294967296) (h : rN k a = rN k b) : a = b := by
  induction k generalizing a b with
  | zero => exact h
  | succ k ih => exact r1_inj ha hb (ih (r1_lt ha) (r1_lt hb) h)
/-- a byte taken into the sum -/
def stpC (c x : Nat) : Nat := rN 8 (c ^^^ x)
def crcF (c : Nat) (bs : List Nat) : Nat := bs.foldl stpC c
def crc (bs : List Nat) : Nat := crcF 4294967295 bs ^^^ 4294967295
theorem stpC_lt {c x : Nat} (h : c < 4294967296) (hx : x < 256) : stpC c x < 4294967296 := rN_lt 8 (Nat.xor_lt_two_pow (n := 32) h (by omega))
theorem crcF_lt : ∀ {bs : List Nat} {c : Nat}, c < 4294967296 → (∀ x ∈ bs, x < 256) → crcF c bs < 4294967296
  | [], _, h, _ => h
  | x :: bs, c, h, hb => crcF_lt (bs := bs) (stpC_lt h (hb x (by simp))) (fun y hy => hb y (by simp [hy]))
theorem crc_lt {bs : List Nat} (hb : ∀ x ∈ bs, x < 256) : crc bs < 4294967296 := Nat.xor_lt_two_pow (n := 32) (crcF_lt (by decide) hb) (by decide)
theorem stpC_inj {c d x : Nat} (hc : c < 4294967296) (hd : d < 4294967296) (hx : x < 256) (h : stpC c x = stpC d x) : c = d := by
  have h1 := rN_inj 8 (Nat.xor_lt_two_pow (n := 32) hc (by omega)) (Nat.xor_lt_two_pow (n := 32) hd (by omega)) h
  have h2 := congrArg (· ^^^ x) h1
  simpa only [Nat.xor_assoc, Nat.xor_self, Nat.xor_zero] using h2
theorem stpC_byte {c x y : Nat} (hc : c < 4294967296) (hx : x < 256) (hy : y < 256) (h : stpC c x = stpC c y) : x = y := by
  have h1 := rN_inj 8 (Nat.xor_lt_two_pow (n := 32) hc (by omega)) (Nat.xor_lt_two_pow (n := 32) hc (by omega)) h
  have h2 := congrArg (c ^^^ ·) h1
  simpa only [← Nat.xor_assoc, Nat.xor_self, Nat.zero_xor] using h2
theorem crcF_inj : ∀ {bs : List Nat} {c d : Nat}, c < 4294967296 → d < 4294967296 → (∀ x ∈ bs, x < 256) → crcF c bs = crcF d bs → c = d
  | [], _, _, _, _, _, h => h
  | x :: bs, c, d, hc, hd, hb, h => stpC_inj hc hd (hb x (by simp)) (crcF_inj (bs := bs) (stpC_lt hc (hb x (by simp))) (stpC_lt hd (hb x (by simp))) (fun y hy => hb y (by simp [hy])) h)
theorem crcF_app (c : Nat) (a b : List Nat) : crcF c (a ++ b) = crcF (crcF c a) b := by simp [crcF]
/-- bytes of which one is another have another sum -/
theorem crc_turned {p q : List Nat} {x y : Nat} (hp : ∀ z ∈ p, z < 256) (hq : ∀ z ∈ q, z < 256) (hx : x < 256) (hy : y < 256) (hne : x ≠ y) : crc (p ++ x :: q) ≠ crc (p ++ y :: q) := by
  intro h
  have h2 := congrArg (· ^^^ 4294967295) h
  simp only [crc, Nat.xor_assoc, Nat.xor_self, Nat.xor_zero] at h2
  rw [crcF_app, crcF_app] at h2
  have hc := crcF_lt (bs := p) (c := 4294967295) (by decide) hp
  exact hne (stpC_byte hc hx hy (crcF_inj (bs := q) (stpC_lt hc hx) (stpC_lt hc hy) hq h2))
/-- the program's way: four bits at a time, by a table -/
def nib (r : Nat) : Nat := rN 4 r
theorem stpC_nib (c x : Nat) : stpC c x = (((c ^^^ x) / 16) ^^^ nib ((c ^^^ x) % 16)) / 16 ^^^ nib ((((c ^^^ x) / 16) ^^^ nib ((c ^^^ x) % 16)) % 16) := by
  unfold stpC nib
  rw [show (8 : Nat) = 4 + 4 from rfl, rN_add, rN_nib (c ^^^ x)]
  exact rN_nib _
theorem nib_lt {r : Nat} (h : r < 16) : nib r < 4294967296 := rN_lt 4 (by omega)
theorem nib_tab : (List.range 16).map (fun r => (nib r : Int)) = [0, 498536548, 997073096, 651767980, 1994146192, 1802195444, 1303535960, 1342533948, 3988292384, 4027552580, 3604390888, 3412177804, 2607071920, 2262029012, 2685067896, 3183342108] := by decide +kernel
/-- four bytes of a number, the highest first -/
def be4 (s : Nat) : List Nat := [s / 16777216, s / 65536 % 256, s / 256 % 256, s % 256]
def be3 (s : Nat) : List Nat := [s / 65536, s / 256 % 256, s % 256]
def val : List Nat → Nat := fun l => l.foldl (fun v x => v * 256 + x) 0
theorem val_be4 {s : Nat} : val (be4 s) = s := by simp only [val, be4, List.foldl_cons, List.foldl_nil]; omega
theorem be4_lt {s : Nat} (h : s < 4294967296) : ∀ x ∈ be4 s, x < 256 := by intro x hx; simp only [be4, List.mem_cons, List.not_mem_nil, or_false] at hx; omega
theorem be3_lt {s : Nat} (h : s < 16777216) : ∀ x ∈ be3 s, x < 256 := by intro x hx; simp only [be3, List.mem_cons, List.not_mem_nil, or_false] at hx; omega
end Go.Proofs.YtkjllhphpkmaiaaDoor
