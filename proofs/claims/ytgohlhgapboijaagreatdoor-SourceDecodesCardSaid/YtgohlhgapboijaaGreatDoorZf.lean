/- Contracts of this seat: CoM, CoR, Co1, Co2, Co3, Co4. -/
import Derived.Test.YtgohlhgapboijaaGreatDoorZe
import Derived.Lib.BitFns
import Derived.Lib.Strings
import Derived.Lib.Slices
import Derived.Lib.Small
import Derived.Lib.Walk
/- Codes of numbers: plain arithmetic of their bits. -/
namespace Go.Proofs.YtgohlhgapboijaaGreatDoor
set_option linter.unusedVariables false
set_option linter.unusedSimpArgs false
open Go.RowKit Go.Extern.Stop Go.Stop Go.Extern

def codesS : ByteArray := { data := #[99, 111, 100, 101, 115] }
/-- how many bits a number has -/
def blen (u : Nat) : Nat := Lib.bitLen u
theorem blen_zero : blen 0 = 0 := by decide
theorem blen_half {u : Nat} (h1 : 1 ≤ u) (h2 : u < 2 ^ 64) : blen u = 1 + blen (u / 2) := Lib.bitLen_half u (by omega) h2
theorem blen_bounds : ∀ u : Nat, 1 ≤ u → u < 2 ^ 64 → 1 ≤ blen u ∧ 2 ^ (blen u - 1) ≤ u ∧ u < 2 ^ blen u := by
  intro u
  induction u using Nat.strongRecOn with
  | _ u ih =>
    intro h1 h2
    rw [blen_half h1 h2]
    by_cases h : u = 1
    · subst h; decide
    · obtain ⟨a, b, c⟩ := ih (u / 2) (by omega) (by omega) (by omega)
      generalize blen (u / 2) = L at a b c ⊢
      obtain ⟨k, rfl⟩ : ∃ k, L = k + 1 := ⟨L - 1, by omega⟩
      rw [Nat.add_sub_cancel] at b
      rw [show 1 + (k + 1) - 1 = k + 1 by omega, show 1 + (k + 1) = (k + 1) + 1 by omega, Nat.pow_succ 2 (k + 1)]
      rw [Nat.pow_succ] at c ⊢
      omega
theorem blen_le {u k : Nat} (h1 : 1 ≤ u) (h2 : u < 2 ^ 64) (h : u < 2 ^ k) : blen u ≤ k := by
  obtain ⟨a, b, c⟩ := blen_bounds u h1 h2
  by_cases hk : blen u ≤ k
  · exact hk
  · exfalso
    have : 2 ^ k ≤ 2 ^ (blen u - 1) := Nat.pow_le_pow_right (by decide) (by omega)
    omega
theorem blen_mono {a b : Nat} (h1 : 1 ≤ a) (h : a ≤ b) (h2 : b < 2 ^ 64) : blen a ≤ blen b :=
  blen_le h1 (by omega) (Nat.lt_of_le_of_lt h (blen_bounds b (by omega) h2).2.2)
/-- the Ue code of a number -/
def ueL (v : Nat) : List Bool := bsOf 0 (blen (v + 1) - 1) ++ bsOf (v + 1) (blen (v + 1))
theorem ueL_length (v : Nat) : (ueL v).length = blen (v + 1) - 1 + blen (v + 1) := by unfold ueL; rw [List.length_append, bsOf_length, bsOf_length]
/-- the Rice code of a number -/
def riL (v k : Nat) : List Bool := if v / 2 ^ k < 24 then bsOf (2 ^ (v / 2 ^ k) - 1) (v / 2 ^ k) ++ [false] ++ bsOf v k else bsOf (2 ^ 24 - 1) 24 ++ bsOf v 31
theorem bsOf_ones (j : Nat) : bsOf (2 ^ (j + 1) - 1) (j + 1) = bsOf (2 ^ j - 1) j ++ [true] := by
  have hp := Nat.two_pow_pos j
  have e : bsOf (2 ^ (j + 1) - 1) (j + 1) = bsOf ((2 ^ (j + 1) - 1) / 2 ^ 1) j ++ bsOf (2 ^ (j + 1) - 1) 1 := bsOf_add _ j 1
  rw [e, show (2 ^ (j + 1) - 1) / 2 ^ 1 = 2 ^ j - 1 by rw [Nat.pow_succ]; omega]
  have h1 : bsOf (2 ^ (j + 1) - 1) 1 = [true] := by
    have : (2 ^ (j + 1) - 1) % 2 = 1 := by rw [Nat.pow_succ]; omega
    simp [bsOf, this]
  rw [h1]
/-- bits that are read, put again -/
theorem bs_read_add (bs : List Nat) (p a b : Nat) : bsOf (nmN bs p (a + b)) (a + b) = bsOf (nmN bs p a) a ++ bsOf (nmN bs (p + a) b) b := by
  have hl := nmN_lt bs (p + a) b
  rw [bsOf_add, nmN_add]
  have e1 : (nmN bs p a * 2 ^ b + nmN bs (p + a) b) / 2 ^ b = nmN bs p a := by
    rw [Nat.mul_comm, Nat.mul_add_div (Nat.two_pow_pos b), Nat.div_eq_of_lt hl, Nat.add_zero]
  have e2 : bsOf (nmN bs p a * 2 ^ b + nmN bs (p + a) b) b = bsOf (nmN bs (p + a) b) b := by
    rw [← bsOf_mod (nmN bs p a * 2 ^ b + nmN bs (p + a) b), Nat.mul_comm, Nat.mul_add_mod, Nat.mod_eq_of_lt hl]
  rw [e1, e2]
theorem bs_read_bit (bs : List Nat) (p n i : Nat) (h : i < n) : bL (bsOf (nmN bs p n) n) i = btN bs (p + i) := by
  rw [bL_of _ _ _ h, nmN_nmF]
  exact nmF_bit (btN_lt bs) p n i h
theorem nmN_zero {bs : List Nat} {p : Nat} : ∀ {m : Nat}, nmN bs p m = 0 → ∀ i, i < m → btN bs (p + i) = 0
  | 0, _, i, hi => absurd hi (Nat.not_lt_zero _)
  | m + 1, h, i, hi => by
    simp only [nmN] at h
    by_cases h1 : i < m
    · exact nmN_zero (m := m) (by omega) i h1
    · rw [show i = m by omega]; omega
theorem nmN_first (bs : List Nat) (p m : Nat) : nmN bs p (m + 1) = btN bs p * 2 ^ m + nmN bs (p + 1) m := by
  rw [show m + 1 = 1 + m by omega, nmN_add, nmN_one]

/-- reading a Ue code: why not; the number; the place -/
def ueR (bs : List Nat) : Nat → Nat → Nat → Fall × Int × Nat
  | 0, _, p => (some ([(codesS, (p : Int))], 3), 0, p)
  | f + 1, z, p =>
    if 8 * bs.length ≤ p then (some ([(bitsS, (p : Int))], 1), 0, p)
    else if btN bs p = 1 then
      (if p + 1 + z ≤ 8 * bs.length then (none, ((2 ^ z + nmN bs (p + 1) z - 1 : Nat) : Int), p + 1 + z) else (some ([(bitsS, ((p + 1 : Nat) : Int))], 1), 0, p + 1))
    else ueR bs f (z + 1) (p + 1)
theorem ueR_end {bs : List Nat} {f z p : Nat} (h : 8 * bs.length ≤ p) : ueR bs (f + 1) z p = (some ([(bitsS, (p : Int))], 1), 0, p) := by simp only [ueR, if_pos h]
theorem ueR_zero {bs : List Nat} {f z p : Nat} (h : p < 8 * bs.length) (h0 : ¬ btN bs p = 1) : ueR bs (f + 1) z p = ueR bs f (z + 1) (p + 1) := by simp only [ueR]; rw [if_neg (by omega), if_neg h0]
theorem ueR_yes {bs : List Nat} {f z p : Nat} (h : p + 1 + z ≤ 8 * bs.length) (h0 : btN bs p = 1) : ueR bs (f + 1) z p = (none, ((2 ^ z + nmN bs (p + 1) z - 1 : Nat) : Int), p + 1 + z) := by simp only [ueR]; rw [if_neg (by omega), if_pos h0, if_pos h]
theorem ueR_no {bs : List Nat} {f z p : Nat} (h : p < 8 * bs.length) (h0 : btN bs p = 1) (h1 : ¬ p + 1 + z ≤ 8 * bs.length) : ueR bs (f + 1) z p = (some ([(bitsS, ((p + 1 : Nat) : Int))], 1), 0, p + 1) := by simp only [ueR]; rw [if_neg (by omega), if_pos h0, if_neg h1]
theorem ueR_le {bs : List Nat} : ∀ {f z p : Nat}, p ≤ 8 * bs.length → (ueR bs f z p).2.2 ≤ 8 * bs.length
  | 0, _, _, h => h
  | f + 1, z, p, h => by
    simp only [ueR]
    split
    · exact h
    · split
      · split
        · rename_i h1; exact h1
        · show p + 1 ≤ _; omega
      · exact ueR_le (by omega)
theorem ueR_val {bs : List Nat} : ∀ {f z p : Nat}, (ueR bs f z p).1 ≠ none → (ueR bs f z p).2.1 = 0
  | 0, _, _, h => rfl
  | f + 1, z, p, h => by
    simp only [ueR] at h ⊢
    split
    · rfl
    · split
      · split
        · rename_i h0 h1 h2; rw [if_neg h0, if_pos h1, if_pos h2] at h; exact absurd rfl h
        · rfl
      · rename_i h0 h1; rw [if_neg h0, if_neg h1] at h; exact ueR_val h
/-- the zeros ahead -/
theorem ueR_zeros {bs : List Nat} : ∀ (m : Nat) {f z p : Nat}, (∀ i, i < m → btN bs (p + i) = 0) → p + m ≤ 8 * bs.length → ueR bs (f + m) z p = ueR bs f (z + m) (p + m)
  | 0, _, _, _, _, _ => rfl
  | m + 1, f, z, p, h, hl => by
    have h0 : ¬ btN bs p = 1 := by have := h 0 (by omega); rw [Nat.add_zero] at this; omega
    rw [show f + (m + 1) = (f + m) + 1 by omega, ueR_zero (by omega) h0, ueR_zeros m (fun i hi => by rw [show p + 1 + i = p + (i + 1) by omega]; exact h (i + 1) (by omega)) (by omega), show z + 1 + m = z + (m + 1) by omega, show p + 1 + m = p + (m + 1) by omega]
/-- the bits of a Ue code of v, at a place -/
def UeIs (bs : List Nat) (p v : Nat) : Prop := nmN bs p (blen (v + 1) - 1) = 0 ∧ nmN bs (p + (blen (v + 1) - 1)) (blen (v + 1)) = v + 1 ∧ p + (ueL v).length ≤ 8 * bs.length
theorem ueR_of {bs : List Nat} {p v : Nat} (h : UeIs bs p v) (hv : v ≤ 1073741824) : ueR bs 31 0 p = (none, (v : Int), p + (ueL v).length) := by
  obtain ⟨h0, h1, h2⟩ := h
  obtain ⟨b0, b1, b2⟩ := blen_bounds (v + 1) (by omega) (by omega)
  have b3 := blen_le (u := v + 1) (k := 31) (by omega) (by omega) (by omega)
  rw [ueL_length] at h2 ⊢
  generalize blen (v + 1) = n at *
  obtain ⟨m, rfl⟩ : ∃ m, n = m + 1 := ⟨n - 1, by omega⟩
  rw [Nat.add_sub_cancel] at *
  have hz := ueR_zeros m (f := 31 - m) (z := 0) (nmN_zero h0) (by omega)
  rw [show 31 - m + m = 31 by omega, Nat.zero_add] at hz
  have hf := nmN_first bs (p + m) m
  have hl := nmN_lt bs (p + m + 1) m
  have hbt := btN_lt bs (p + m)
  have h1b : btN bs (p + m) = 1 := by
    by_cases hb : btN bs (p + m) = 1
    · exact hb
    · rw [show btN bs (p + m) = 0 by omega] at hf; omega
  rw [h1b] at hf
  rw [hz, show 31 - m = (30 - m) + 1 by omega, ueR_yes (by omega) h1b]
  refine Prod.ext rfl (Prod.ext ?_ ?_)
  · show ((_ : Nat) : Int) = _
    have : 2 ^ m + nmN bs (p + m + 1) m - 1 = v := by omega
    rw [this]
  · dsimp only
    omega
theorem ueR_is {bs : List Nat} : ∀ {f z p q : Nat} {v : Int}, ueR bs f z p = (none, v, q) → ∃ j, j < f ∧ nmN bs p j = 0 ∧ btN bs (p + j) = 1 ∧ v = ((2 ^ (z + j) + nmN bs (p + j + 1) (z + j) - 1 : Nat) : Int) ∧ q = p + j + 1 + (z + j) ∧ q ≤ 8 * bs.length
  | 0, z, p, q, v, h => by simp [ueR] at h
  | f + 1, z, p, q, v, h => by
    by_cases hp : 8 * bs.length ≤ p
    · rw [ueR_end hp] at h; simp at h
    · by_cases h1 : btN bs p = 1
      · by_cases h2 : p + 1 + z ≤ 8 * bs.length
        · rw [ueR_yes h2 h1] at h
          simp only [Prod.mk.injEq, true_and] at h
          obtain ⟨rfl, rfl⟩ := h
          exact ⟨0, by omega, rfl, h1, rfl, rfl, h2⟩
        · rw [ueR_no (by omega) h1 h2] at h; simp at h
      · rw [ueR_zero (by omega) h1] at h
        obtain ⟨j, h3, h4, h5, h6, h7, h8⟩ := ueR_is h
        have hb := btN_lt bs p
        refine ⟨j + 1, by omega, ?_, by rw [show p + (j + 1) = p + 1 + j by omega]; exact h5, ?_, by omega, h8⟩
        · rw [nmN_first, show btN bs p = 0 by omega, h4, Nat.zero_mul]
        · rw [h6, show z + 1 + j = z + (j + 1) by omega, show p + 1 + j = p + (j + 1) by omega]
/-- what is read as a Ue code is that code -/
theorem ueR_code {bs : List Nat} {p q : Nat} {v : Int} (h : ueR bs 31 0 p = (none, v, q)) : ∃ V : Nat, v = (V : Int) ∧ V < 2147483648 ∧ UeIs bs p V ∧ q = p + (ueL V).length ∧ q ≤ 8 * bs.length := by
  obtain ⟨j, h1, h2, h3, h4, h5, h6⟩ := ueR_is h
  rw [Nat.zero_add] at h4 h5
  have hf := nmN_first bs (p + j) j
  have hl := nmN_lt bs (p + j + 1) j
  have hp := Nat.two_pow_pos j
  have hp2 : 2 ^ j ≤ 2 ^ 30 := Nat.pow_le_pow_right (by decide) (by omega)
  rw [h3, Nat.one_mul] at hf
  obtain ⟨V, hV⟩ : ∃ V, 2 ^ j + nmN bs (p + j + 1) j - 1 = V := ⟨_, rfl⟩
  rw [hV] at h4
  have hb : blen (V + 1) = j + 1 := by
    obtain ⟨a, b, c⟩ := blen_bounds (V + 1) (by omega) (by omega)
    have l1 := blen_le (u := V + 1) (k := j + 1) (by omega) (by omega) (by rw [Nat.pow_succ]; omega)
    by_cases h0 : blen (V + 1) = j + 1
    · exact h0
    · have : 2 ^ blen (V + 1) ≤ 2 ^ j := Nat.pow_le_pow_right (by decide) (by omega)
      omega
  refine ⟨V, h4, by omega, ⟨?_, ?_, ?_⟩, ?_, h6⟩
  · rw [hb, Nat.add_sub_cancel]; exact h2
  · rw [hb, Nat.add_sub_cancel]; omega
  · rw [ueL_length, hb]; omega
  · rw [ueL_length, hb]; omega
theorem UeIs.bits {bs : List Nat} {p v : Nat} (h : UeIs bs p v) : ueL v = bsOf (nmN bs p (ueL v).length) (ueL v).length := by
  have hl := ueL_length v
  rw [hl, bs_read_add, h.1, h.2.1]
  rfl
/-- bits that were put are read -/
theorem UeIs.back {l l0 m : List Bool} {v : Nat} (e : l = l0 ++ ueL v ++ m) (hv : v < 2147483648) : UeIs (pkL l) l0.length v := by
  obtain ⟨b0, b1, b2⟩ := blen_bounds (v + 1) (by omega) (by omega)
  have hl : l.length = l0.length + (ueL v).length + m.length := by rw [e, List.length_append, List.length_append]
  have e2 := pkL_length l
  have h1 := get_back (l := l) (l0 := l0) (m := bsOf (v + 1) (blen (v + 1)) ++ m) (v := 0) (n := blen (v + 1) - 1) (by rw [e]; unfold ueL; simp only [List.append_assoc]) (Nat.two_pow_pos _)
  have h2 := get_back (l := l) (l0 := l0 ++ bsOf 0 (blen (v + 1) - 1)) (m := m) (v := v + 1) (n := blen (v + 1)) (by rw [e]; unfold ueL; simp only [List.append_assoc]) b2
  rw [List.length_append, bsOf_length] at h2
  exact ⟨h1, h2, by omega⟩
end Go.Proofs.YtgohlhgapboijaaGreatDoor

/- Rice codes of numbers; what the readers of codes answer: plain. -/
namespace Go.Proofs.YtgohlhgapboijaaGreatDoor
set_option linter.unusedVariables false
set_option linter.unusedSimpArgs false
open Go.RowKit Go.Extern.Stop Go.Stop Go.Extern

/-- the ones ahead: why not; how many; the place -/
def riQ (bs : List Nat) : Nat → Nat → Nat → Fall × Nat × Nat
  | 0, q, p => (none, q, p)
  | f + 1, q, p =>
    if 8 * bs.length ≤ p then (some ([(bitsS, (p : Int))], 1), q, p)
    else if btN bs p = 1 then riQ bs f (q + 1) (p + 1) else (none, q, p + 1)
theorem riQ_end {bs : List Nat} {f q p : Nat} (h : 8 * bs.length ≤ p) : riQ bs (f + 1) q p = (some ([(bitsS, (p : Int))], 1), q, p) := by simp only [riQ, if_pos h]
theorem riQ_one {bs : List Nat} {f q p : Nat} (h : p < 8 * bs.length) (h0 : btN bs p = 1) : riQ bs (f + 1) q p = riQ bs f (q + 1) (p + 1) := by simp only [riQ]; rw [if_neg (by omega), if_pos h0]
theorem riQ_nil {bs : List Nat} {f q p : Nat} (h : p < 8 * bs.length) (h0 : ¬ btN bs p = 1) : riQ bs (f + 1) q p = (none, q, p + 1) := by simp only [riQ]; rw [if_neg (by omega), if_neg h0]
theorem riQ_le {bs : List Nat} : ∀ {f q p : Nat}, p ≤ 8 * bs.length → (riQ bs f q p).2.2 ≤ 8 * bs.length ∧ (riQ bs f q p).2.1 ≤ q + f
  | 0, q, _, h => ⟨h, Nat.le_refl _⟩
  | f + 1, q, p, h => by
    simp only [riQ]
    split
    · exact ⟨h, by show q ≤ _; omega⟩
    · split
      · have := riQ_le (bs := bs) (f := f) (q := q + 1) (p := p + 1) (by omega)
        exact ⟨this.1, by omega⟩
      · exact ⟨by show p + 1 ≤ _; omega, by show q ≤ _; omega⟩
def riW (k q : Nat) : Nat := if q = 24 then 31 else k
def riN (k q x : Nat) : Nat := if q = 24 then x else x + q * 2 ^ k
def riX (k q : Nat) (most : Int) (V : Nat) : Prop := most < (V : Int) ∨ 1073741824 < V ∨ (q = 24 ∧ V / 2 ^ k < 24)
instance (k q : Nat) (most : Int) (V : Nat) : Decidable (riX k q most V) := by unfold riX; infer_instance
/-- behind the ones -/
def riZ (bs : List Nat) (k : Nat) (most : Int) (q p : Nat) : Fall × Int × Nat :=
  if p + riW k q ≤ 8 * bs.length then
    (if riX k q most (riN k q (nmN bs p (riW k q))) then (some ([(codesS, ((p + riW k q : Nat) : Int))], 3), 0, p + riW k q) else (none, ((riN k q (nmN bs p (riW k q)) : Nat) : Int), p + riW k q))
  else (some ([(bitsS, (p : Int))], 1), 0, p)
def riE (bs : List Nat) (k : Nat) (most : Int) (R : Fall × Nat × Nat) : Fall × Int × Nat := match R.1 with
  | some a => (some a, 0, R.2.2)
  | none => riZ bs k most R.2.1 R.2.2
/-- reading a Rice code -/
def rgG (bs : List Nat) (p : Nat) (k most : Int) : Fall × Int × Nat := if 0 ≤ k ∧ k ≤ 15 then riE bs k.toNat most (riQ bs 24 0 p) else (range, 0, p)
/-- a Ue code's number within a bound -/
def ueB (most : Int) (R : Fall × Int × Nat) : Fall × Int × Nat := match R.1 with
  | some a => (some a, 0, R.2.2)
  | none => if most < R.2.1 ∨ 1073741824 < R.2.1 then (some ([(codesS, (R.2.2 : Int))], 3), 0, R.2.2) else (none, R.2.1, R.2.2)
def ugG (bs : List Nat) (p : Nat) (most : Int) : Fall × Int × Nat := ueB most (ueR bs 31 0 p)
def foldI (v : Int) : Int := if v < -2305843009213693952 ∨ 2305843009213693952 < v then 0 else if 0 < v then 2 * v - 1 else -2 * v
def unfoldI (u : Int) : Int := if u < 0 ∨ 4611686018427387904 < u then 0 else if u % 2 = 1 then (u + 1) / 2 else -(u / 2)
def absI (v : Int) : Int := max v (-v)
def seB (most : Int) (R : Fall × Int × Nat) : Fall × Int × Nat := match R.1 with
  | some a => (some a, 0, R.2.2)
  | none => if most < absI (unfoldI R.2.1) ∨ 536870912 < absI (unfoldI R.2.1) then (some ([(codesS, (R.2.2 : Int))], 3), 0, R.2.2) else (none, unfoldI R.2.1, R.2.2)
def sgG (bs : List Nat) (p : Nat) (most : Int) : Fall × Int × Nat := seB most (ueR bs 31 0 p)
theorem ugG_le {bs : List Nat} {p : Nat} {most : Int} (h : p ≤ 8 * bs.length) : (ugG bs p most).2.2 ≤ 8 * bs.length := by
  have := ueR_le (bs := bs) (f := 31) (z := 0) h
  unfold ugG ueB
  split
  · exact this
  · split <;> exact this
theorem sgG_le {bs : List Nat} {p : Nat} {most : Int} (h : p ≤ 8 * bs.length) : (sgG bs p most).2.2 ≤ 8 * bs.length := by
  have := ueR_le (bs := bs) (f := 31) (z := 0) h
  unfold sgG seB
  split
  · exact this
  · split <;> exact this
theorem rgG_le {bs : List Nat} {p : Nat} {k most : Int} (h : p ≤ 8 * bs.length) : (rgG bs p k most).2.2 ≤ 8 * bs.length := by
  have := (riQ_le (bs := bs) (f := 24) (q := 0) h).1
  unfold rgG
  split
  · unfold riE
    split
    · exact this
    · unfold riZ
      split
      · rename_i h1
        split <;> exact h1
      · exact this
  · exact h

theorem riQ_is {bs : List Nat} : ∀ {f q p q' p' : Nat}, p ≤ 8 * bs.length → riQ bs f q p = (none, q', p') → ∃ j, q' = q + j ∧ nmN bs p j = 2 ^ j - 1 ∧ ((j = f ∧ p' = p + j) ∨ (j < f ∧ btN bs (p + j) = 0 ∧ p' = p + j + 1)) ∧ p' ≤ 8 * bs.length
  | 0, q, p, q', p', hp, h => by
    simp only [riQ, Prod.mk.injEq, true_and] at h
    obtain ⟨rfl, rfl⟩ := h
    exact ⟨0, rfl, rfl, .inl ⟨rfl, rfl⟩, hp⟩
  | f + 1, q, p, q', p', hpl, h => by
    by_cases hp : 8 * bs.length ≤ p
    · rw [riQ_end hp] at h; simp at h
    · have hb := btN_lt bs p
      by_cases h1 : btN bs p = 1
      · rw [riQ_one (by omega) h1] at h
        obtain ⟨j, h2, h3, h4, h5⟩ := riQ_is (by omega) h
        have hp2 := Nat.two_pow_pos j
        refine ⟨j + 1, by omega, ?_, ?_, h5⟩
        · rw [nmN_first, h1, h3, Nat.pow_succ]; omega
        · rw [show p + (j + 1) = p + 1 + j by omega]
          rcases h4 with h4 | h4
          · exact .inl ⟨by omega, by omega⟩
          · exact .inr ⟨by omega, h4.2.1, by omega⟩
      · rw [riQ_nil (by omega) h1] at h
        simp only [Prod.mk.injEq, true_and] at h
        obtain ⟨rfl, rfl⟩ := h
        exact ⟨0, rfl, rfl, .inr ⟨by omega, by rw [Nat.add_zero]; omega, rfl⟩, by omega⟩
theorem nmN_ones {bs : List Nat} {p : Nat} : ∀ {m : Nat}, nmN bs p m = 2 ^ m - 1 → ∀ i, i < m → btN bs (p + i) = 1
  | 0, _, i, hi => absurd hi (Nat.not_lt_zero _)
  | m + 1, h, i, hi => by
    have hp := Nat.two_pow_pos m
    have hb := btN_lt bs (p + m)
    have hl := nmN_lt bs p m
    simp only [nmN, Nat.pow_succ] at h
    by_cases h1 : i < m
    · exact nmN_ones (m := m) (by omega) i h1
    · rw [show i = m by omega]; omega
theorem riQ_ones {bs : List Nat} : ∀ (m : Nat) {f q p : Nat}, (∀ i, i < m → btN bs (p + i) = 1) → p + m ≤ 8 * bs.length → riQ bs (f + m) q p = riQ bs f (q + m) (p + m)
  | 0, _, _, _, _, _ => rfl
  | m + 1, f, q, p, h, hl => by
    have h0 : btN bs p = 1 := by have := h 0 (by omega); rw [Nat.add_zero] at this; exact this
    rw [show f + (m + 1) = (f + m) + 1 by omega, riQ_one (by omega) h0, riQ_ones m (fun i hi => by rw [show p + 1 + i = p + (i + 1) by omega]; exact h (i + 1) (by omega)) (by omega), show q + 1 + m = q + (m + 1) by omega, show p + 1 + m = p + (m + 1) by omega]
/-- the bits of the Rice code of v and k, at a place -/
def RiIs (bs : List Nat) (p v k : Nat) : Prop := (if v / 2 ^ k < 24 then nmN bs p (v / 2 ^ k) = 2 ^ (v / 2 ^ k) - 1 ∧ btN bs (p + v / 2 ^ k) = 0 ∧ nmN bs (p + v / 2 ^ k + 1) k = v % 2 ^ k else nmN bs p 24 = 2 ^ 24 - 1 ∧ nmN bs (p + 24) 31 = v) ∧ p + (riL v k).length ≤ 8 * bs.length
theorem riL_length (v k : Nat) : (riL v k).length = if v / 2 ^ k < 24 then v / 2 ^ k + 1 + k else 55 := by
  unfold riL
  split
  · simp only [List.length_append, bsOf_length, List.length_cons, List.length_nil]
  · simp only [List.length_append, bsOf_length]
theorem riE_of {bs : List Nat} {p v k : Nat} {most : Int} (h : RiIs bs p v k) (hv : v ≤ 1073741824) (hm : (v : Int) ≤ most) : riE bs k most (riQ bs 24 0 p) = (none, (v : Int), p + (riL v k).length) := by
  obtain ⟨h1, h2⟩ := h
  rw [riL_length] at h2 ⊢
  by_cases hq : v / 2 ^ k < 24
  · rw [if_pos hq] at h1 h2 ⊢
    obtain ⟨a, b, c⟩ := h1
    have hdm := Nat.div_add_mod v (2 ^ k)
    generalize v / 2 ^ k = q at *
    have h3 := riQ_ones q (f := 24 - q) (q := 0) (nmN_ones a) (by omega)
    rw [show 24 - q + q = 24 by omega, show 24 - q = (23 - q) + 1 by omega, Nat.zero_add] at h3
    rw [h3, riQ_nil (f := 23 - q) (q := q) (p := p + q) (by omega) (by rw [b]; decide)]
    have e1 : riW k q = k := by unfold riW; rw [if_neg (by omega)]
    have e2 : riN k q (v % 2 ^ k) = v := by unfold riN; rw [if_neg (by omega), Nat.mul_comm]; omega
    show riZ bs k most q (p + q + 1) = _
    unfold riZ
    rw [e1, if_pos (by omega), c, e2, if_neg (by unfold riX; omega)]
    refine Prod.ext rfl (Prod.ext rfl ?_)
    dsimp only
    omega
  · rw [if_neg hq] at h1 h2 ⊢
    obtain ⟨a, b⟩ := h1
    have h3 := riQ_ones 24 (f := 0) (q := 0) (nmN_ones a) (by omega)
    rw [Nat.zero_add] at h3
    rw [h3]
    have e1 : riW k (0 + 24) = 31 := rfl
    have e2 : riN k (0 + 24) v = v := rfl
    show riZ bs k most (0 + 24) (p + 24) = _
    unfold riZ
    rw [e1, if_pos (by omega), b, e2, if_neg (by unfold riX; omega)]
theorem riE_code {bs : List Nat} {p q k : Nat} {v most : Int} (hp : p ≤ 8 * bs.length) (h : riE bs k most (riQ bs 24 0 p) = (none, v, q)) : ∃ V : Nat, v = (V : Int) ∧ V ≤ 1073741824 ∧ (V : Int) ≤ most ∧ RiIs bs p V k ∧ q = p + (riL V k).length ∧ q ≤ 8 * bs.length := by
  unfold riE at h
  split at h
  · simp at h
  · rename_i hn
    obtain ⟨Q, P, hR⟩ : ∃ Q P, riQ bs 24 0 p = (none, Q, P) := ⟨(riQ bs 24 0 p).2.1, (riQ bs 24 0 p).2.2, Prod.ext hn rfl⟩
    rw [hR] at h
    obtain ⟨j, h1, h2, h3, h4⟩ := riQ_is hp hR
    rw [Nat.zero_add] at h1
    subst h1
    simp only [riZ] at h
    split at h
    · rename_i hw
      split at h
      · simp at h
      · rename_i hx
        simp only [Prod.mk.injEq, true_and] at h
        obtain ⟨rfl, rfl⟩ := h
        unfold riX at hx
        rcases h3 with ⟨rfl, rfl⟩ | ⟨h3, h5, rfl⟩
        · have e1 : riW k 24 = 31 := rfl
          rw [e1] at hx hw ⊢
          have e2 : riN k 24 (nmN bs (p + 24) 31) = nmN bs (p + 24) 31 := rfl
          rw [e2] at hx ⊢
          have hq : ¬ nmN bs (p + 24) 31 / 2 ^ k < 24 := by omega
          refine ⟨_, rfl, by omega, by omega, ⟨by rw [if_neg hq]; exact ⟨h2, rfl⟩, ?_⟩, ?_, hw⟩
          · rw [riL_length, if_neg hq]; omega
          · rw [riL_length, if_neg hq]
        · have e1 : riW k Q = k := by unfold riW; rw [if_neg (by omega)]
          rw [e1] at hx hw ⊢
          have hl := nmN_lt bs (p + Q + 1) k
          have e2 : riN k Q (nmN bs (p + Q + 1) k) = nmN bs (p + Q + 1) k + Q * 2 ^ k := by unfold riN; rw [if_neg (by omega)]
          rw [e2] at hx ⊢
          have hd : (nmN bs (p + Q + 1) k + Q * 2 ^ k) / 2 ^ k = Q := by rw [Nat.add_mul_div_right _ _ (Nat.two_pow_pos k), Nat.div_eq_of_lt hl, Nat.zero_add]
          have hm : (nmN bs (p + Q + 1) k + Q * 2 ^ k) % 2 ^ k = nmN bs (p + Q + 1) k := by rw [Nat.add_mul_mod_self_right, Nat.mod_eq_of_lt hl]
          refine ⟨_, rfl, by omega, by omega, ⟨?_, ?_⟩, ?_, hw⟩
          · rw [hd, hm, if_pos h3]; exact ⟨h2, h5, rfl⟩
          · rw [riL_length, hd, if_pos h3]; omega
          · rw [riL_length, hd, if_pos h3]; omega
    · simp at h
theorem RiIs.bits {bs : List Nat} {p v k : Nat} (h : RiIs bs p v k) : riL v k = bsOf (nmN bs p (riL v k).length) (riL v k).length := by
  obtain ⟨h1, h2⟩ := h
  have hl := riL_length v k
  by_cases hq : v / 2 ^ k < 24
  · rw [if_pos hq] at h1 hl
    have e : riL v k = bsOf (2 ^ (v / 2 ^ k) - 1) (v / 2 ^ k) ++ [false] ++ bsOf v k := by unfold riL; rw [if_pos hq]
    obtain ⟨a, b, c⟩ := h1
    rw [hl, bs_read_add, bs_read_add, a, nmN_one, b, show p + (v / 2 ^ k + 1) = p + v / 2 ^ k + 1 by omega, c, bsOf_mod, e]
    rfl
  · rw [if_neg hq] at h1 hl
    have e : riL v k = bsOf (2 ^ 24 - 1) 24 ++ bsOf v 31 := by unfold riL; rw [if_neg hq]
    obtain ⟨a, b⟩ := h1
    rw [hl, show (55 : Nat) = 24 + 31 from rfl, bs_read_add, a, b, e]
theorem RiIs.back {l l0 m : List Bool} {v k : Nat} (e : l = l0 ++ riL v k ++ m) (hv : v < 2147483648) : RiIs (pkL l) l0.length v k := by
  have hl : l.length = l0.length + (riL v k).length + m.length := by rw [e, List.length_append, List.length_append]
  have e2 := pkL_length l
  refine ⟨?_, by omega⟩
  by_cases hq : v / 2 ^ k < 24
  · have er : riL v k = bsOf (2 ^ (v / 2 ^ k) - 1) (v / 2 ^ k) ++ [false] ++ bsOf v k := by unfold riL; rw [if_pos hq]
    rw [if_pos hq]
    rw [er] at e
    generalize v / 2 ^ k = q at *
    have hp2 := Nat.two_pow_pos q
    have g1 := get_back (l := l) (l0 := l0) (m := [false] ++ bsOf v k ++ m) (v := 2 ^ q - 1) (n := q) (by rw [e]; simp only [List.append_assoc]) (by omega)
    have g2 := flag_back (l := l) (l0 := l0 ++ bsOf (2 ^ q - 1) q) (m := bsOf v k ++ m) (b := false) (by rw [e]; simp only [List.append_assoc])
    have g3 := get_back (l := l) (l0 := l0 ++ bsOf (2 ^ q - 1) q ++ [false]) (m := m) (v := v % 2 ^ k) (n := k) (by rw [e, bsOf_mod]; simp only [List.append_assoc]) (Nat.mod_lt _ (Nat.two_pow_pos k))
    rw [List.length_append, bsOf_length] at g2
    rw [List.length_append, List.length_append, bsOf_length] at g3
    rw [nmN_one] at g2
    exact ⟨g1, g2, g3⟩
  · have er : riL v k = bsOf (2 ^ 24 - 1) 24 ++ bsOf v 31 := by unfold riL; rw [if_neg hq]
    rw [if_neg hq]
    rw [er] at e
    have g1 := get_back (l := l) (l0 := l0) (m := bsOf v 31 ++ m) (v := 2 ^ 24 - 1) (n := 24) (by rw [e]; simp only [List.append_assoc]) (by decide)
    have g2 := get_back (l := l) (l0 := l0 ++ bsOf (2 ^ 24 - 1) 24) (m := m) (v := v) (n := 31) (by rw [e]; simp only [List.append_assoc]) (by omega)
    rw [List.length_append, bsOf_length] at g2
    exact ⟨g1, g2⟩
end Go.Proofs.YtgohlhgapboijaaGreatDoor

/- codes.Fold, Unfold, SizeUe, SizeRice; kinref3 the same: contracts over this seat's translation. -/
namespace Go.Proofs.YtgohlhgapboijaaGreatDoor
set_option linter.unusedVariables false
set_option linter.unusedSimpArgs false
open Go.RowKit Go.Extern.Stop Go.Stop Go.Extern

/-- bits of a number below 2^32 -/
theorem blen8 {b : Int} (h0 : 0 ≤ b) (h1 : b < 256) : Lib.len8 b = (blen b.toNat : Int) ∧ blen b.toNat ≤ 8 := ⟨Lib.len8_of b h0 (by omega), Lib.bitLen_le8' b h0 (by omega)⟩
set_option maxHeartbeats 4000000 in
set_option maxRecDepth 100000 in
theorem len64_int (x : Int) (w : World) (h0 : 0 ≤ x) (h1 : x < 4294967296) : Calls Tryz.prog 98 #[.int .u64 x] w fun e w' => e = .returned (.int .i64 (blen x.toNat : Int)) ∧ w = w' := by
  by_cases h16 : 65536 ≤ x
  · by_cases h8 : 256 ≤ x / 65536
    · have p0 : (0 : Int) ≤ x / 65536 / 256 := by omega
      have p1 : x / 65536 / 256 ≤ 255 := by omega
      have p2 : IntKind.u8.wrap (x / 65536 / 256) = x / 65536 / 256 := by rw [IntKind.wrap_u8]; omega
      obtain ⟨l1, l2⟩ := blen8 p0 (by omega)
      have hb : blen x.toNat = 24 + blen (x.toNat / 16777216) := Lib.bitLen_shift24 x.toNat (by omega) (by omega)
      have e : (x / 65536 / 256).toNat = x.toNat / 16777216 := by omega
      rw [e] at l1 l2
      go_enter Tryz.func98, Tryz.ntmps98
      go_wp2
      go_ret
      refine ⟨congrArg Ending.returned (congrArg (Value.int IntKind.i64) ?_), rfl⟩
      first | (simp only [l1]; done) | omega
    · have p0 : (0 : Int) ≤ x / 65536 := by omega
      have p1 : x / 65536 ≤ 255 := by omega
      have p2 : IntKind.u8.wrap (x / 65536) = x / 65536 := by rw [IntKind.wrap_u8]; omega
      obtain ⟨l1, l2⟩ := blen8 p0 (by omega)
      have hb : blen x.toNat = 16 + blen (x.toNat / 65536) := Lib.bitLen_shift16 x.toNat (by omega) (by omega)
      have e : (x / 65536).toNat = x.toNat / 65536 := by omega
      rw [e] at l1 l2
      go_enter Tryz.func98, Tryz.ntmps98
      go_wp2
      go_ret
      refine ⟨congrArg Ending.returned (congrArg (Value.int IntKind.i64) ?_), rfl⟩
      first | (simp only [l1]; done) | omega
  · by_cases h8 : 256 ≤ x
    · have p0 : (0 : Int) ≤ x / 256 := by omega
      have p1 : x / 256 ≤ 255 := by omega
      have p2 : IntKind.u8.wrap (x / 256) = x / 256 := by rw [IntKind.wrap_u8]; omega
      obtain ⟨l1, l2⟩ := blen8 p0 (by omega)
      have hb : blen x.toNat = 8 + blen (x.toNat / 256) := Lib.bitLen_shift8 x.toNat (by omega) (by omega)
      have e : (x / 256).toNat = x.toNat / 256 := by omega
      rw [e] at l1 l2
      go_enter Tryz.func98, Tryz.ntmps98
      go_wp2
      go_ret
      refine ⟨congrArg Ending.returned (congrArg (Value.int IntKind.i64) ?_), rfl⟩
      first | (simp only [l1]; done) | omega
    · have p0 : (0 : Int) ≤ x := by omega
      have p1 : x ≤ 255 := by omega
      have p2 : IntKind.u8.wrap (x) = x := by rw [IntKind.wrap_u8]; omega
      obtain ⟨l1, l2⟩ := blen8 p0 (by omega)
      go_enter Tryz.func98, Tryz.ntmps98
      go_wp2
      go_ret
      refine ⟨congrArg Ending.returned (congrArg (Value.int IntKind.i64) ?_), rfl⟩
      first | (simp only [l1]; done) | omega
theorem len64_any (x : Nat) (w : World) (h1 : x < 4294967296) : Calls Tryz.prog 98 #[.int .u64 (x : Int)] w fun e w' => e = .returned (.int .i64 (blen x : Int)) ∧ w = w' := by
  have := len64_int (x : Int) w (by omega) (by omega)
  rwa [Int.toNat_natCast] at this
theorem fold_any (v : Int) (w : World) : Calls Tryz.prog 77 #[.int .i64 v] w fun e w' => e = .returned (.int .i64 (foldI v)) ∧ w = w' := by
  by_cases h1 : v < -2305843009213693952
  · have e : foldI v = 0 := by unfold foldI; rw [if_pos (by omega)]
    rw [e]
    clear e
    go_enter Tryz.func77, Tryz.ntmps77
    go_wp2
    go_ret
    exact ⟨rfl, rfl⟩
  · by_cases h2 : 2305843009213693952 < v
    · have e : foldI v = 0 := by unfold foldI; rw [if_pos (by omega)]
      rw [e]
      clear e
      go_enter Tryz.func77, Tryz.ntmps77
      go_wp2
      go_ret
      exact ⟨rfl, rfl⟩
    · by_cases h3 : 0 < v
      · have e : foldI v = 2 * v - 1 := by unfold foldI; rw [if_neg (by omega), if_pos h3]
        have j1 : IntKind.i64.wrap (2 * v) = 2 * v := by rw [IntKind.wrap_i64]; omega
        have j2 : IntKind.i64.wrap (2 * v - 1) = 2 * v - 1 := by rw [IntKind.wrap_i64]; omega
        rw [e]
        clear e
        go_enter Tryz.func77, Tryz.ntmps77
        go_wp2
        go_ret
        exact ⟨rfl, rfl⟩
      · have e : foldI v = -2 * v := by unfold foldI; rw [if_neg (by omega), if_neg h3]
        have j1 : IntKind.i64.wrap (-2 * v) = -2 * v := by rw [IntKind.wrap_i64]; omega
        rw [e]
        clear e
        go_enter Tryz.func77, Tryz.ntmps77
        go_wp2
        go_ret
        exact ⟨by first | rfl | (congr 2; omega), rfl⟩
theorem rfold_any (v : Int) (w : World) : Calls Tryz.prog 56 #[.int .i64 v] w fun e w' => e = .returned (.int .i64 (foldI v)) ∧ w = w' := by
  by_cases h1 : v < -2305843009213693952
  · have e : foldI v = 0 := by unfold foldI; rw [if_pos (by omega)]
    rw [e]
    clear e
    go_enter Tryz.func56, Tryz.ntmps56
    go_wp2
    go_ret
    exact ⟨rfl, rfl⟩
  · by_cases h2 : 2305843009213693952 < v
    · have e : foldI v = 0 := by unfold foldI; rw [if_pos (by omega)]
      rw [e]
      clear e
      go_enter Tryz.func56, Tryz.ntmps56
      go_wp2
      go_ret
      exact ⟨rfl, rfl⟩
    · by_cases h3 : 0 < v
      · have e : foldI v = 2 * v - 1 := by unfold foldI; rw [if_neg (by omega), if_pos h3]
        have j1 : IntKind.i64.wrap (2 * v) = 2 * v := by rw [IntKind.wrap_i64]; omega
        have j2 : IntKind.i64.wrap (2 * v - 1) = 2 * v - 1 := by rw [IntKind.wrap_i64]; omega
        rw [e]
        clear e
        go_enter Tryz.func56, Tryz.ntmps56
        go_wp2
        go_ret
        exact ⟨rfl, rfl⟩
      · have e : foldI v = -2 * v := by unfold foldI; rw [if_neg (by omega), if_neg h3]
        have j1 : IntKind.i64.wrap (-2 * v) = -2 * v := by rw [IntKind.wrap_i64]; omega
        rw [e]
        clear e
        go_enter Tryz.func56, Tryz.ntmps56
        go_wp2
        go_ret
        exact ⟨by first | rfl | (congr 2; omega), rfl⟩
theorem unfold_any (v : Int) (w : World) : Calls Tryz.prog 65 #[.int .i64 v] w fun e w' => e = .returned (.int .i64 (unfoldI v)) ∧ w = w' := by
  by_cases h1 : v < 0
  · have e : unfoldI v = 0 := by unfold unfoldI; rw [if_pos (by omega)]
    rw [e]
    clear e
    go_enter Tryz.func65, Tryz.ntmps65
    go_wp2
    go_ret
    exact ⟨rfl, rfl⟩
  · by_cases h2 : 4611686018427387904 < v
    · have e : unfoldI v = 0 := by unfold unfoldI; rw [if_pos (by omega)]
      rw [e]
      clear e
      go_enter Tryz.func65, Tryz.ntmps65
      go_wp2
      go_ret
      exact ⟨rfl, rfl⟩
    · have m1 : Int.tmod v 2 = v % 2 := by rw [Int.tmod_eq_emod_of_nonneg (by omega)]
      by_cases h3 : v % 2 = 1
      · have e : unfoldI v = (v + 1) / 2 := by unfold unfoldI; rw [if_neg (by omega), if_pos h3]
        have j1 : IntKind.i64.wrap (v + 1) = v + 1 := by rw [IntKind.wrap_i64]; omega
        have j2 : Int.tdiv (v + 1) 2 = (v + 1) / 2 := by rw [Int.tdiv_eq_ediv_of_nonneg (by omega)]
        rw [e]
        clear e
        go_enter Tryz.func65, Tryz.ntmps65
        go_wp2
        go_ret
        exact ⟨rfl, rfl⟩
      · have h4 : v % 2 = 0 := by omega
        have e : unfoldI v = -(v / 2) := by unfold unfoldI; rw [if_neg (by omega), if_neg h3]
        obtain ⟨z, rfl⟩ : ∃ z, v = 2 * z := ⟨v / 2, by omega⟩
        have e2 : -(2 * z / 2) = -z := by omega
        have j1 : IntKind.i64.wrap (-(2 * z)) = -(2 * z) := by rw [IntKind.wrap_i64]; omega
        have j2 : Int.tdiv (-(2 * z)) 2 = -z := by rw [Int.neg_tdiv, Int.tdiv_eq_ediv_of_nonneg (by omega)]; omega
        have j3 : Int.tdiv (2 * z) 2 = z := by rw [Int.tdiv_eq_ediv_of_nonneg (by omega)]; omega
        have j4 : 2 * z / 2 = z := by omega
        have j5 : IntKind.i64.wrap (-z) = -z := by rw [IntKind.wrap_i64]; omega
        rw [e, e2]
        clear e e2
        go_enter Tryz.func65, Tryz.ntmps65
        go_wp2
        go_ret
        exact ⟨by first | rfl | (congr 2; omega), rfl⟩
theorem runfold_any (v : Int) (w : World) : Calls Tryz.prog 71 #[.int .i64 v] w fun e w' => e = .returned (.int .i64 (unfoldI v)) ∧ w = w' := by
  by_cases h1 : v < 0
  · have e : unfoldI v = 0 := by unfold unfoldI; rw [if_pos (by omega)]
    rw [e]
    clear e
    go_enter Tryz.func71, Tryz.ntmps71
    go_wp2
    go_ret
    exact ⟨rfl, rfl⟩
  · by_cases h2 : 4611686018427387904 < v
    · have e : unfoldI v = 0 := by unfold unfoldI; rw [if_pos (by omega)]
      rw [e]
      clear e
      go_enter Tryz.func71, Tryz.ntmps71
      go_wp2
      go_ret
      exact ⟨rfl, rfl⟩
    · have m1 : Int.tmod v 2 = v % 2 := by rw [Int.tmod_eq_emod_of_nonneg (by omega)]
      by_cases h3 : v % 2 = 1
      · have e : unfoldI v = (v + 1) / 2 := by unfold unfoldI; rw [if_neg (by omega), if_pos h3]
        have j1 : IntKind.i64.wrap (v + 1) = v + 1 := by rw [IntKind.wrap_i64]; omega
        have j2 : Int.tdiv (v + 1) 2 = (v + 1) / 2 := by rw [Int.tdiv_eq_ediv_of_nonneg (by omega)]
        rw [e]
        clear e
        go_enter Tryz.func71, Tryz.ntmps71
        go_wp2
        go_ret
        exact ⟨rfl, rfl⟩
      · have h4 : v % 2 = 0 := by omega
        have e : unfoldI v = -(v / 2) := by unfold unfoldI; rw [if_neg (by omega), if_neg h3]
        obtain ⟨z, rfl⟩ : ∃ z, v = 2 * z := ⟨v / 2, by omega⟩
        have e2 : -(2 * z / 2) = -z := by omega
        have j1 : IntKind.i64.wrap (-(2 * z)) = -(2 * z) := by rw [IntKind.wrap_i64]; omega
        have j2 : Int.tdiv (-(2 * z)) 2 = -z := by rw [Int.neg_tdiv, Int.tdiv_eq_ediv_of_nonneg (by omega)]; omega
        have j3 : Int.tdiv (2 * z) 2 = z := by rw [Int.tdiv_eq_ediv_of_nonneg (by omega)]; omega
        have j4 : 2 * z / 2 = z := by omega
        have j5 : IntKind.i64.wrap (-z) = -z := by rw [IntKind.wrap_i64]; omega
        rw [e, e2]
        clear e e2
        go_enter Tryz.func71, Tryz.ntmps71
        go_wp2
        go_ret
        exact ⟨by first | rfl | (congr 2; omega), rfl⟩
def ueOk (v : Int) : Prop := 0 ≤ v ∧ v ≤ 1073741824
instance (v : Int) : Decidable (ueOk v) := by unfold ueOk; infer_instance
def riOk (v k : Int) : Prop := (0 ≤ v ∧ v ≤ 1073741824) ∧ 0 ≤ k ∧ k ≤ 15
instance (v k : Int) : Decidable (riOk v k) := by unfold riOk; infer_instance
def szUe (v : Int) : Int := if ueOk v then ((ueL v.toNat).length : Int) else 0
def szRi (v k : Int) : Int := if riOk v k then ((riL v.toNat k.toNat).length : Int) else 0
theorem szri_any (v k : Int) (w : World) : Calls Tryz.prog 50 #[.int .i64 v, .int .i64 k] w fun e w' => e = .returned (.int .i64 (szRi v k)) ∧ w = w' := by
  by_cases h1 : v < 0
  · have e : szRi v k = 0 := by unfold szRi; rw [if_neg (by unfold riOk; omega)]
    rw [e]
    clear e
    go_enter Tryz.func50, Tryz.ntmps50
    go_wp2
    go_ret
    exact ⟨rfl, rfl⟩
  · by_cases h2 : 1073741824 < v
    · have e : szRi v k = 0 := by unfold szRi; rw [if_neg (by unfold riOk; omega)]
      rw [e]
      clear e
      go_enter Tryz.func50, Tryz.ntmps50
      go_wp2
      go_ret
      exact ⟨rfl, rfl⟩
    · by_cases h3 : k < 0
      · have e : szRi v k = 0 := by unfold szRi; rw [if_neg (by unfold riOk; omega)]
        rw [e]
        clear e
        go_enter Tryz.func50, Tryz.ntmps50
        go_wp2
        go_ret
        exact ⟨rfl, rfl⟩
      · by_cases h4 : 15 < k
        · have e : szRi v k = 0 := by unfold szRi; rw [if_neg (by unfold riOk; omega)]
          rw [e]
          clear e
          go_enter Tryz.func50, Tryz.ntmps50
          go_wp2
          go_ret
          exact ⟨rfl, rfl⟩
        · obtain ⟨V, rfl⟩ : ∃ V : Nat, v = (V : Int) := ⟨v.toNat, by omega⟩
          obtain ⟨K, rfl⟩ : ∃ K : Nat, k = (K : Int) := ⟨k.toNat, by omega⟩
          obtain ⟨q, hq⟩ : ∃ q, V / 2 ^ K = q := ⟨_, rfl⟩
          have i1 : (V : Int) / 2 ^ K = (q : Int) := by rw [← hq]; simp
          have i2 : IntKind.u64.wrap (K : Int) = (K : Int) := by rw [IntKind.wrap_u64]; omega
          have i3 : (0 : Int) ≤ (K : Int) ∧ (K : Int) ≤ 64 := by omega
          have hqV : q ≤ V := by rw [← hq]; exact Nat.div_le_self _ _
          have i4 : IntKind.i64.wrap (q : Int) = (q : Int) := by rw [IntKind.wrap_i64]; omega
          by_cases h5 : q < 24
          · have e : szRi (V : Int) (K : Int) = (q : Int) + 1 + (K : Int) := by unfold szRi; rw [if_pos (by unfold riOk; omega), Int.toNat_natCast, Int.toNat_natCast, riL_length, hq, if_pos h5]; omega
            have j3 : IntKind.i64.wrap ((q : Int) + 1) = (q : Int) + 1 := by rw [IntKind.wrap_i64]; omega
            have j4 : IntKind.i64.wrap ((q : Int) + 1 + (K : Int)) = (q : Int) + 1 + (K : Int) := by rw [IntKind.wrap_i64]; omega
            rw [e]
            clear e hq
            go_enter Tryz.func50, Tryz.ntmps50
            go_wp2
            go_ret
            exact ⟨rfl, rfl⟩
          · have e : szRi (V : Int) (K : Int) = 55 := by unfold szRi; rw [if_pos (by unfold riOk; omega), Int.toNat_natCast, Int.toNat_natCast, riL_length, hq, if_neg h5]; rfl
            rw [e]
            clear e hq
            go_enter Tryz.func50, Tryz.ntmps50
            go_wp2
            go_ret
            exact ⟨rfl, rfl⟩
theorem rszri_any (v k : Int) (w : World) : Calls Tryz.prog 58 #[.int .i64 v, .int .i64 k] w fun e w' => e = .returned (.int .i64 (szRi v k)) ∧ w = w' := by
  by_cases h1 : v < 0
  · have e : szRi v k = 0 := by unfold szRi; rw [if_neg (by unfold riOk; omega)]
    rw [e]
    clear e
    go_enter Tryz.func58, Tryz.ntmps58
    go_wp2
    go_ret
    exact ⟨rfl, rfl⟩
  · by_cases h2 : 1073741824 < v
    · have e : szRi v k = 0 := by unfold szRi; rw [if_neg (by unfold riOk; omega)]
      rw [e]
      clear e
      go_enter Tryz.func58, Tryz.ntmps58
      go_wp2
      go_ret
      exact ⟨rfl, rfl⟩
    · by_cases h3 : k < 0
      · have e : szRi v k = 0 := by unfold szRi; rw [if_neg (by unfold riOk; omega)]
        rw [e]
        clear e
        go_enter Tryz.func58, Tryz.ntmps58
        go_wp2
        go_ret
        exact ⟨rfl, rfl⟩
      · by_cases h4 : 15 < k
        · have e : szRi v k = 0 := by unfold szRi; rw [if_neg (by unfold riOk; omega)]
          rw [e]
          clear e
          go_enter Tryz.func58, Tryz.ntmps58
          go_wp2
          go_ret
          exact ⟨rfl, rfl⟩
        · obtain ⟨V, rfl⟩ : ∃ V : Nat, v = (V : Int) := ⟨v.toNat, by omega⟩
          obtain ⟨K, rfl⟩ : ∃ K : Nat, k = (K : Int) := ⟨k.toNat, by omega⟩
          obtain ⟨q, hq⟩ : ∃ q, V / 2 ^ K = q := ⟨_, rfl⟩
          have i1 : (V : Int) / 2 ^ K = (q : Int) := by rw [← hq]; simp
          have i2 : IntKind.u64.wrap (K : Int) = (K : Int) := by rw [IntKind.wrap_u64]; omega
          have i3 : (0 : Int) ≤ (K : Int) ∧ (K : Int) ≤ 64 := by omega
          have hqV : q ≤ V := by rw [← hq]; exact Nat.div_le_self _ _
          have i4 : IntKind.i64.wrap (q : Int) = (q : Int) := by rw [IntKind.wrap_i64]; omega
          by_cases h5 : q < 24
          · have e : szRi (V : Int) (K : Int) = (q : Int) + 1 + (K : Int) := by unfold szRi; rw [if_pos (by unfold riOk; omega), Int.toNat_natCast, Int.toNat_natCast, riL_length, hq, if_pos h5]; omega
            have j3 : IntKind.i64.wrap ((q : Int) + 1) = (q : Int) + 1 := by rw [IntKind.wrap_i64]; omega
            have j4 : IntKind.i64.wrap ((q : Int) + 1 + (K : Int)) = (q : Int) + 1 + (K : Int) := by rw [IntKind.wrap_i64]; omega
            rw [e]
            clear e hq
            go_enter Tryz.func58, Tryz.ntmps58
            go_wp2
            go_ret
            exact ⟨rfl, rfl⟩
          · have e : szRi (V : Int) (K : Int) = 55 := by unfold szRi; rw [if_pos (by unfold riOk; omega), Int.toNat_natCast, Int.toNat_natCast, riL_length, hq, if_neg h5]; rfl
            rw [e]
            clear e hq
            go_enter Tryz.func58, Tryz.ntmps58
            go_wp2
            go_ret
            exact ⟨rfl, rfl⟩
end Go.Proofs.YtgohlhgapboijaaGreatDoor

/- codes.PutUe, PutSe, PutRice: contracts over this seat's translation. -/
namespace Go.Proofs.YtgohlhgapboijaaGreatDoor
set_option linter.unusedVariables false
set_option linter.unusedSimpArgs false
open Go.RowKit Go.Extern.Stop Go.Stop Go.Extern

def cuF (v : Int) : Fall := if ueOk v then none else range
def cuL (l : List Bool) (v : Int) : List Bool := if ueOk v then l ++ ueL v.toNat else l
def seOk (v : Int) : Prop := -536870912 ≤ v ∧ v ≤ 536870912
instance (v : Int) : Decidable (seOk v) := by unfold seOk; infer_instance
def csF (v : Int) : Fall := if seOk v then none else range
def csL (l : List Bool) (v : Int) : List Bool := if seOk v then l ++ ueL (foldI v).toNat else l
def crF (v k : Int) : Fall := if riOk v k then none else range
def crL (l : List Bool) (v k : Int) : List Bool := if riOk v k then l ++ riL v.toNat k.toNat else l
theorem fold_ok {v : Int} (h : seOk v) : ueOk (foldI v) := by
  unfold seOk at h
  unfold ueOk foldI
  rw [if_neg (by omega)]
  split <;> omega
set_option maxHeartbeats 4000000 in
set_option maxRecDepth 20000 in
theorem putri_any (b B : Nat) (v k : Int) (l : List Bool) (w : World) (h : WrAt w b B l) (hl : l.length ≤ 700000000) :
    Calls Tryz.prog 52 #[.pointer (some ⟨b, 0, none⟩), .int .i64 v, .int .i64 k] w (WPPost w b B (crL l v k) (crF v k)) := by
  by_cases h1 : v < 0
  · have HF : Hid (crF v k = range) := by show _ = _; unfold crF; rw [if_neg (by unfold riOk; omega)]
    have HL : Hid (crL l v k = l) := by show _ = _; unfold crL; rw [if_neg (by unfold riOk; omega)]
    go_enter Tryz.func52, Tryz.ntmps52
    go_wp2
    go_ret
    exact ⟨.iface 31 (.int .i64 3), rfl, by rw [HL.out]; exact h, WKp.refl _ _ _, by rw [HF.out]; exact ErrIs.code (by decide)⟩
  · by_cases h2 : 1073741824 < v
    · have HF : Hid (crF v k = range) := by show _ = _; unfold crF; rw [if_neg (by unfold riOk; omega)]
      have HL : Hid (crL l v k = l) := by show _ = _; unfold crL; rw [if_neg (by unfold riOk; omega)]
      go_enter Tryz.func52, Tryz.ntmps52
      go_wp2
      go_ret
      exact ⟨.iface 31 (.int .i64 3), rfl, by rw [HL.out]; exact h, WKp.refl _ _ _, by rw [HF.out]; exact ErrIs.code (by decide)⟩
    · by_cases h3 : k < 0
      · have HF : Hid (crF v k = range) := by show _ = _; unfold crF; rw [if_neg (by unfold riOk; omega)]
        have HL : Hid (crL l v k = l) := by show _ = _; unfold crL; rw [if_neg (by unfold riOk; omega)]
        go_enter Tryz.func52, Tryz.ntmps52
        go_wp2
        go_ret
        exact ⟨.iface 31 (.int .i64 3), rfl, by rw [HL.out]; exact h, WKp.refl _ _ _, by rw [HF.out]; exact ErrIs.code (by decide)⟩
      · by_cases h4 : 15 < k
        · have HF : Hid (crF v k = range) := by show _ = _; unfold crF; rw [if_neg (by unfold riOk; omega)]
          have HL : Hid (crL l v k = l) := by show _ = _; unfold crL; rw [if_neg (by unfold riOk; omega)]
          go_enter Tryz.func52, Tryz.ntmps52
          go_wp2
          go_ret
          exact ⟨.iface 31 (.int .i64 3), rfl, by rw [HL.out]; exact h, WKp.refl _ _ _, by rw [HF.out]; exact ErrIs.code (by decide)⟩
        · obtain ⟨V, rfl⟩ : ∃ V : Nat, v = (V : Int) := ⟨v.toNat, by omega⟩
          obtain ⟨K, rfl⟩ : ∃ K : Nat, k = (K : Int) := ⟨k.toNat, by omega⟩
          have hF : crF (V : Int) (K : Int) = none := by unfold crF; rw [if_pos (by unfold riOk; omega)]
          have hL : crL l (V : Int) (K : Int) = l ++ riL V K := by unfold crL; rw [if_pos (by unfold riOk; omega)]; rfl
          rw [hF, hL]
          obtain ⟨q, hq⟩ : ∃ q, V / 2 ^ K = q := ⟨_, rfl⟩
          have i1 : (V : Int) / 2 ^ K = (q : Int) := by rw [← hq]; simp
          have i3 : (0 : Int) ≤ (K : Int) ∧ (K : Int) ≤ 64 := by omega
          have hqV : q ≤ V := by rw [← hq]; exact Nat.div_le_self _ _
          have i4 : IntKind.i64.wrap (q : Int) = (q : Int) := by rw [IntKind.wrap_i64]; omega
          obtain ⟨T, hT⟩ : ∃ T, min q 24 = T := ⟨_, rfl⟩
          have i5 : min (q : Int) 24 = (T : Int) := by omega
          have r2 := mn2
          have HA := Lib.hid h
          have UF := Lib.hid (fun (w' : World) (j : Nat) (h' : WrAt w' b B (l ++ bsOf (2 ^ j - 1) j)) (hj : j ≤ 24) => wflag_any b B true (l ++ bsOf (2 ^ j - 1) j) w' h' (by rw [List.length_append, bsOf_length]; omega))
          have HT : Hid (T ≤ 24 ∧ (q < 24 → T = q) ∧ (¬ q < 24 → T = 24)) := ⟨by omega, by omega, by omega⟩
          have hT24 : T ≤ 24 := by omega
          have HQ := Lib.hid hq
          have hM : 2 ^ K ≤ 2 ^ 15 := Nat.pow_le_pow_right (by decide) (by omega)
          have hM0 : 1 ≤ 2 ^ K := Nat.two_pow_pos K
          have hand := and_mask V K (by omega) (by omega)
          have hrl : V % 2 ^ K < 2 ^ K := Nat.mod_lt _ (Nat.two_pow_pos K)
          have HMd : Hid (bsOf (V % 2 ^ K) K = bsOf V K) := bsOf_mod V K
          have U31 := Lib.hid (fun (w' : World) (h' : WrAt w' b B (l ++ bsOf (2 ^ 24 - 1) 24)) => wput_yes b B V 31 (l ++ bsOf (2 ^ 24 - 1) 24) w' h' (by omega) (by omega) (by rw [List.length_append, bsOf_length]; omega))
          have UF0 := Lib.hid (fun (w' : World) (h' : WrAt w' b B (l ++ bsOf (2 ^ q - 1) q)) (hj : q < 24) => wflag_any b B false (l ++ bsOf (2 ^ q - 1) q) w' h' (by rw [List.length_append, bsOf_length]; omega))
          have UK := Lib.hid (fun (w' : World) (h' : WrAt w' b B (l ++ bsOf (2 ^ q - 1) q ++ [false])) (hj : q < 24) => wput_yes b B (V % 2 ^ K) K (l ++ bsOf (2 ^ q - 1) q ++ [false]) w' h' (by omega) hrl (by rw [List.length_append, List.length_append, bsOf_length]; simp; omega))
          obtain ⟨M, hMM⟩ : ∃ M, 2 ^ K = M := ⟨_, rfl⟩
          obtain ⟨M1, hM1⟩ : ∃ M1, M - 1 = M1 := ⟨_, rfl⟩
          obtain ⟨Y, hY⟩ : ∃ Y, V % M = Y := ⟨_, rfl⟩
          have jp : (2 : Int) ^ K = (M : Int) := by rw [← hMM]; simp
          have i1' : (V : Int) / (M : Int) = (q : Int) := by rw [← jp]; exact i1
          rw [hMM] at hM hM0 hand UK HMd
          rw [hM1, hY] at hand
          rw [hY] at UK HMd
          have j2 : IntKind.i64.wrap (1 * 2 ^ K) = (M : Int) := by rw [jp, IntKind.wrap_i64]; omega
          have j3 : IntKind.i64.wrap (M : Int) = (M : Int) := by rw [IntKind.wrap_i64]; omega
          have j4 : IntKind.i64.wrap ((M : Int) - 1) = (M1 : Int) := by rw [IntKind.wrap_i64]; omega
          clear hF hL hT hq hMM hM1 hY h hrl hqV hM hM0
          go_enter Tryz.func52, Tryz.ntmps52
          go_wp2_with fail
          go_loopw [28] (fun iv wr => ∃ j : Nat, j ≤ T ∧ iv = .int .i64 (j : Int) ∧ Hid (WrAt wr b B (l ++ bsOf (2 ^ j - 1) j)) ∧ Hid (WKp b B w wr)) (fun iv _ => T - (intOf iv).toNat)
          case atStart => exact ⟨0, Nat.zero_le _, rfl, by show WrAt _ _ _ _; rw [show bsOf (2 ^ 0 - 1) 0 = [] from rfl, List.append_nil]; exact HA.out, WKp.refl _ _ _⟩
          case round =>
            clear HA
            obtain ⟨j, hj, rfl, HW, HK⟩ := hrel
            by_cases hlt : j < T
            · go_wp2_with fail
              refine (UF.out _ j HW.out (by omega)).mono ?_; rintro e w2 ⟨rfl, h2, k2⟩
              have HW2 : Hid (WrAt w2 b B (l ++ bsOf (2 ^ (j + 1) - 1) (j + 1))) := by show WrAt _ _ _ _; rw [bsOf_ones, ← List.append_assoc]; exact h2
              have HK2 := Lib.hid (HK.out.trans k2)
              clear h2 k2 HW HK
              go_wp2
              go_roundw
              case rel => exact ⟨j + 1, by omega, by go_num, HW2.out, HK2.out⟩
              case measure => simp [intOf]; omega
            · obtain rfl : j = T := by omega
              by_cases hq24 : q < 24
              · obtain rfl := HT.out.2.1 hq24
                go_wp2_with fail
                refine (UF0.out _ HW.out hq24).mono ?_; rintro e w2 ⟨rfl, h2, k2⟩
                have K2 := HK.out.trans k2
                go_wp2_with fail
                refine (UK.out _ h2 hq24).mono ?_; rintro e w3 ⟨x3, rfl, h3, k3, e3⟩
                go_wp2
                go_ret
                refine ⟨x3, rfl, ?_, K2.trans k3, e3⟩
                have er : riL V K = bsOf (2 ^ j - 1) j ++ [false] ++ bsOf V K := by unfold riL; rw [HQ.out, if_pos hq24]
                rw [HMd.out] at h3
                rw [er]
                simp only [List.append_assoc] at h3 ⊢
                exact h3
              · have h24 := HT.out.2.2 hq24
                subst h24
                go_wp2_with fail
                refine (U31.out _ HW.out).mono ?_; rintro e w3 ⟨x3, rfl, h3, k3, e3⟩
                go_wp2
                go_ret
                refine ⟨x3, rfl, ?_, HK.out.trans k3, e3⟩
                have er : riL V K = bsOf (2 ^ 24 - 1) 24 ++ bsOf V 31 := by unfold riL; rw [HQ.out, if_neg hq24]
                rw [er, ← List.append_assoc]
                exact h3
end Go.Proofs.YtgohlhgapboijaaGreatDoor

/- codes.readUe, GetUe, GetSe, GetRice: contracts over this seat's translation. -/
namespace Go.Proofs.YtgohlhgapboijaaGreatDoor
set_option linter.unusedVariables false
set_option linter.unusedSimpArgs false
open Go.RowKit Go.Extern.Stop Go.Stop Go.Extern
variable {F : Nat → Prop}

theorem rd_end {bs : List Nat} {p N : Nat} (h : 8 * bs.length < p + N) (hp : p ≤ 8 * bs.length) (hN : N ≤ 32) : rdF bs p (N : Int) = some ([(bitsS, (p : Int))], 1) ∧ rdV bs p (N : Int) = 0 ∧ rdP bs p (N : Int) = p := by
  have e : rdF bs p (N : Int) = some ([(bitsS, (p : Int))], 1) := by unfold rdF; rw [if_pos (by omega), if_neg (by omega)]
  refine ⟨e, ?_, ?_⟩
  · unfold rdV; rw [e]
  · unfold rdP; rw [e]
theorem get_end (b p N : Nat) (bs : List Nat) (w : World) (h : RdAt F w b bs p) (hp : p ≤ 8 * bs.length) (hN : N ≤ 32) (he : 8 * bs.length < p + N) :
    Calls Tryz.prog 62 #[.pointer (some ⟨b, 0, none⟩), .int .i64 (N : Int)] w (RgPost F w b bs 0 p (some ([(bitsS, (p : Int))], 1))) := by
  obtain ⟨g1, g2, g3⟩ := rd_end he hp hN
  have U := rdget_any b p (N : Int) bs w h hp
  rwa [g1, g2, g3] at U
theorem flag_end (b p : Nat) (bs : List Nat) (w : World) (h : RdAt F w b bs p) (hp : p ≤ 8 * bs.length) (he : 8 * bs.length ≤ p) :
    Calls Tryz.prog 84 #[.pointer (some ⟨b, 0, none⟩)] w (RfPost F w b bs false p (some ([(bitsS, (p : Int))], 1))) := by
  obtain ⟨g1, g2, g3⟩ := rd_end (N := 1) (bs := bs) (p := p) (by omega) hp (by omega)
  have U := rdflag_any b p bs w h hp
  rwa [show rdF bs p 1 = _ from g1, show rdV bs p 1 = _ from g2, show rdP bs p 1 = _ from g3] at U
theorem flag_bit (b p : Nat) (x : Bool) (bs : List Nat) (w : World) (h : RdAt F w b bs p) (hp : p < 8 * bs.length) (hx : (btN bs p == 1) = x) :
    Calls Tryz.prog 84 #[.pointer (some ⟨b, 0, none⟩)] w (RfPost F w b bs x (p + 1) none) := by
  obtain ⟨g1, g2, g3⟩ := rd_good (bs := bs) (p := p) (N := 1) (by omega) (by omega)
  have U := rdflag_any b p bs w h (by omega)
  have hv : (rdV bs p 1 == 1) = x := by
    rw [show rdV bs p 1 = _ from g2, nmN_one, ← hx]
    have := btN_lt bs p
    by_cases h1 : btN bs p = 1
    · rw [h1]; rfl
    · rw [show btN bs p = 0 by omega]; rfl
  rwa [show rdF bs p 1 = _ from g1, hv, show rdP bs p 1 = _ from g3] at U
set_option maxRecDepth 20000 in
theorem oob_any (b p : Nat) (bs : List Nat) (w : World) (h : RdAt F w b bs p) : Calls Tryz.prog 85 #[.pointer (some ⟨b, 0, none⟩)] w (EPost w (some ([(codesS, (p : Int))], 3))) := by
  have HP := Lib.hid (place_any b p bs w h)
  clear h
  go_enter Tryz.func85, Tryz.ntmps85
  go_wp2_with fail
  refine (HP.out).mono ?_; rintro e w1 ⟨rfl, rfl⟩
  go_wp2_with fail
  refine (in_err codesS (p : Int) [] 3 (.iface 31 (.int .i64 3)) _ rfl).mono ?_; rintro e w2 ⟨u, rfl, hx2, he2⟩
  go_wp2
  go_ret
  exact ⟨u, rfl, hx2, he2, by decide, by simp⟩
theorem RdAt.small {w : World} {b p : Nat} {bs : List Nat} (h : RdAt F w b bs p) : bs.length ≤ 140737488355328 := by obtain ⟨_, _, _, ⟨-, -, hl⟩, -⟩ := h; exact hl
end Go.Proofs.YtgohlhgapboijaaGreatDoor

/- codes.GetRice: its contract over this seat's translation. -/
namespace Go.Proofs.YtgohlhgapboijaaGreatDoor
set_option linter.unusedVariables false
set_option linter.unusedSimpArgs false
open Go.RowKit Go.Extern.Stop Go.Stop Go.Extern
variable {F : Nat → Prop}

set_option maxHeartbeats 8000000 in
set_option maxRecDepth 20000 in
theorem getri_any (b p : Nat) (k most : Int) (bs : List Nat) (w : World) (h : RdAt F w b bs p) (hp : p ≤ 8 * bs.length) :
    Calls Tryz.prog 63 #[.pointer (some ⟨b, 0, none⟩), .int .i64 k, .int .i64 most] w (RgPost F w b bs (rgG bs p k most).2.1 (rgG bs p k most).2.2 (rgG bs p k most).1) := by
  by_cases h3 : k < 0
  · have HR : Hid (rgG bs p k most = (range, 0, p)) := by show _ = _; unfold rgG; rw [if_neg (by omega)]
    go_enter Tryz.func63, Tryz.ntmps63
    go_wp2
    go_ret2
    exact ⟨.iface 31 (.int .i64 3), by rw [HR.out]; rfl, Kp.refl _ _, by rw [HR.out]; exact h, by rw [HR.out]; exact ErrIs.code (by decide)⟩
  · by_cases h4 : 15 < k
    · have HR : Hid (rgG bs p k most = (range, 0, p)) := by show _ = _; unfold rgG; rw [if_neg (by omega)]
      go_enter Tryz.func63, Tryz.ntmps63
      go_wp2
      go_ret2
      exact ⟨.iface 31 (.int .i64 3), by rw [HR.out]; rfl, Kp.refl _ _, by rw [HR.out]; exact h, by rw [HR.out]; exact ErrIs.code (by decide)⟩
    · obtain ⟨K, rfl⟩ : ∃ K : Nat, k = (K : Int) := ⟨k.toNat, by omega⟩
      have hG0 : rgG bs p (K : Int) most = riE bs K most (riQ bs 24 0 p) := by unfold rgG; rw [if_pos (by omega)]; rfl
      rw [hG0]
      obtain ⟨RQ, hRQ⟩ : ∃ RQ, riQ bs 24 0 p = RQ := ⟨_, rfl⟩
      rw [hRQ]
      obtain ⟨R, hR⟩ : ∃ R, riE bs K most RQ = R := ⟨_, rfl⟩
      rw [hR]
      have HR0 := Lib.hid hR
      have HRQ0 := Lib.hid hRQ
      obtain ⟨n, hn⟩ : ∃ n, n = 8 * bs.length := ⟨_, rfl⟩
      have HN := Lib.hid hn
      have hnb : n ≤ 1125899906842624 := by have := h.small; omega
      rw [← hn] at hp
      have HA0 := Lib.hid h
      obtain ⟨M, hMM⟩ : ∃ M, 2 ^ K = M := ⟨_, rfl⟩
      have jp : (2 : Int) ^ K = (M : Int) := by rw [← hMM]; simp
      have k9 : (0 : Int) ≤ (K : Int) ∧ (K : Int) ≤ 64 := by omega
      have UE := Lib.hid (fun (w' : World) (P : Nat) (h' : RdAt F w' b bs P) (hP : P = n) => flag_end b P bs w' h' (by omega) (by omega))
      have UB := Lib.hid (fun (w' : World) (P : Nat) (x : Bool) (h' : RdAt F w' b bs P) (hP : P < n) (hx : (btN bs P == 1) = x) => flag_bit b P x bs w' h' (by omega) hx)
      have UGt := Lib.hid (fun (w' : World) (P N : Nat) (h' : RdAt F w' b bs P) (hP : P + N ≤ n) (hN : N ≤ 32) => rget_yes b P N bs w' h' (by omega) hN)
      have UNt := Lib.hid (fun (w' : World) (P N : Nat) (h' : RdAt F w' b bs P) (hP : P ≤ n) (he : n < P + N) (hN : N ≤ 32) => get_end b P N bs w' h' (by omega) hN (by omega))
      clear hn h hR hRQ hG0 hMM
      go_enter Tryz.func63, Tryz.ntmps63
      go_wp2_with fail
      go_loopw [8] (fun qv wr => ∃ q : Nat, q ≤ 24 ∧ qv = .int .i64 (q : Int) ∧ p + q ≤ n ∧ Hid (riQ bs (24 - q) q (p + q) = RQ) ∧ Hid (RdAt F wr b bs (p + q)) ∧ Hid (Kp b w wr)) (fun qv _ => 24 - (intOf qv).toNat)
      case atStart => exact ⟨0, by omega, rfl, hp, HRQ0.out, HA0.out, Kp.refl _ _⟩
      case round =>
        clear HA0 HRQ0
        obtain ⟨q, hq, rfl, hqn, HR, HA, HK⟩ := hrel
        by_cases hq24 : q = 24
        · subst hq24
          obtain ⟨P, hP⟩ : ∃ P, p + 24 = P := ⟨_, rfl⟩
          rw [hP] at HR HA hqn
          have hPn := hqn
          have HRQ : Hid (RQ = (none, 24, P)) := by show _ = _; rw [← HR.out]; rfl
          obtain ⟨wz, hwz⟩ : ∃ wz, wz = wr := ⟨_, rfl⟩
          subst hwz
          clear hP HR
          -- in hand: wz, HA : RdAt at P, HK : Kp, HRQ : riQ .. = (none, 24, P), hPn : P ≤ n
          have hRz : R = riZ bs K most 24 P := by rw [← HR0.out]; unfold riE; rw [HRQ.out]
          by_cases hG : P + 31 ≤ n
          · have UG := Lib.hid (UGt.out wz P 31 HA.out hG (by omega))
            have hl := nmN_lt bs P 31
            obtain ⟨V, hV⟩ : ∃ V, nmN bs P 31 = V := ⟨_, rfl⟩
            obtain ⟨Z, hZ⟩ : ∃ Z, P + 31 = Z := ⟨_, rfl⟩
            have hRv : R = if riX K 24 most V then (some ([(codesS, (Z : Int))], 3), 0, Z) else (none, (V : Int), Z) := by
              rw [hRz]
              unfold riZ
              rw [show riW K 24 = 31 from rfl, if_pos (by rw [← HN.out]; exact hG), show ∀ x, riN K 24 x = x from fun x => rfl, hV, hZ]
            rw [hV] at UG hl
            rw [hZ] at UG
            obtain ⟨X, hX⟩ : ∃ X, V / 2 ^ K = X := ⟨_, rfl⟩
            have i1 : (V : Int) / 2 ^ K = (X : Int) := by rw [← hX]; simp
            have i1' : (V : Int) / (M : Int) = (X : Int) := by rw [← jp]; exact i1
            have hXV : X ≤ V := by rw [← hX]; exact Nat.div_le_self _ _
            have i4 : IntKind.i64.wrap (X : Int) = (X : Int) := by rw [IntKind.wrap_i64]; omega
            have HX := Lib.hid hX
            clear hV hZ hRz hX
            by_cases t1 : most < (V : Int)
            · have HG : Hid (R = (some ([(codesS, (Z : Int))], 3), 0, Z)) := by show _ = _; rw [hRv, if_pos (by unfold riX; exact .inl t1)]
              clear hRv
              -- the test is true: HG : R = (some codes, 0, Z)
              go_wp2_with fail
              refine (UG.out).mono ?_; rintro e w2 ⟨x, rfl, k2, r2, e2⟩
              obtain rfl : x = .nilIface := e2
              go_wp2_with fail
              refine (oob_any b Z bs _ r2).mono ?_; rintro e w3 ⟨x, rfl, hx3, e3⟩
              go_wp2
              go_ret2
              exact ⟨_, by rw [HG.out]; rfl, (HK.out.trans k2).ext hx3, by rw [HG.out]; exact r2.ext hx3, by rw [HG.out]; exact e3⟩
            · by_cases t2 : 1073741824 < V
              · have HG : Hid (R = (some ([(codesS, (Z : Int))], 3), 0, Z)) := by show _ = _; rw [hRv, if_pos (by unfold riX; exact .inr (.inl t2))]
                have t2' : (1073741824 : Int) < (V : Int) := by omega
                clear hRv
                -- the test is true: HG : R = (some codes, 0, Z)
                go_wp2_with fail
                refine (UG.out).mono ?_; rintro e w2 ⟨x, rfl, k2, r2, e2⟩
                obtain rfl : x = .nilIface := e2
                go_wp2_with fail
                refine (oob_any b Z bs _ r2).mono ?_; rintro e w3 ⟨x, rfl, hx3, e3⟩
                go_wp2
                go_ret2
                exact ⟨_, by rw [HG.out]; rfl, (HK.out.trans k2).ext hx3, by rw [HG.out]; exact r2.ext hx3, by rw [HG.out]; exact e3⟩
              · have t2' : ¬ (1073741824 : Int) < (V : Int) := by omega
                by_cases t3 : X < 24
                · have HG : Hid (R = (some ([(codesS, (Z : Int))], 3), 0, Z)) := by show _ = _; rw [hRv, if_pos (by unfold riX; rw [HX.out]; exact .inr (.inr ⟨rfl, t3⟩))]
                  have t3' : (X : Int) < 24 := by omega
                  clear hRv
                  -- the test is true: HG : R = (some codes, 0, Z)
                  go_wp2_with fail
                  refine (UG.out).mono ?_; rintro e w2 ⟨x, rfl, k2, r2, e2⟩
                  obtain rfl : x = .nilIface := e2
                  go_wp2_with fail
                  refine (oob_any b Z bs _ r2).mono ?_; rintro e w3 ⟨x, rfl, hx3, e3⟩
                  go_wp2
                  go_ret2
                  exact ⟨_, by rw [HG.out]; rfl, (HK.out.trans k2).ext hx3, by rw [HG.out]; exact r2.ext hx3, by rw [HG.out]; exact e3⟩
                · have HG : Hid (R = (none, (V : Int), Z)) := by show _ = _; rw [hRv, if_neg (by unfold riX; rw [HX.out]; omega)]
                  have t3' : ¬ (X : Int) < 24 := by omega
                  clear hRv
                  go_wp2_with fail
                  refine (UG.out).mono ?_; rintro e w2 ⟨x, rfl, k2, r2, e2⟩
                  obtain rfl : x = .nilIface := e2
                  go_wp2
                  go_ret2
                  exact ⟨_, by rw [HG.out]; rfl, HK.out.trans k2, by rw [HG.out]; exact r2, by rw [HG.out]; rfl⟩
          · have HG : Hid (R = (some ([(bitsS, (P : Int))], 1), 0, P)) := by
              show _ = _
              rw [hRz]
              unfold riZ
              rw [show riW K 24 = 31 from rfl, if_neg (by rw [← HN.out]; exact hG)]
            have UN2 := Lib.hid (UNt.out wz P 31 HA.out hPn (by omega) (by omega))
            clear hRz
            -- the bits lack: HG : R = (some bits, 0, P), UN
            go_wp2_with fail
            refine (UN2.out).mono ?_; rintro e w2 ⟨x, rfl, k2, r2, e2⟩
            have HE2 := Lib.hid e2
            obtain ⟨t5, y5, rfl⟩ := e2.ne
            clear e2
            go_wp2
            go_ret2
            exact ⟨_, by rw [HG.out]; rfl, HK.out.trans k2, by rw [HG.out]; exact r2, by rw [HG.out]; exact HE2.out⟩
        · have hql : (q : Int) < 24 := by omega
          obtain ⟨P, hP⟩ : ∃ P, p + q = P := ⟨_, rfl⟩
          have HPq := Lib.hid hP
          rw [hP] at HR HA hqn
          rw [show 24 - q = (23 - q) + 1 by omega] at HR
          clear hP
          by_cases hE : P = n
          · have hRQ : RQ = (some ([(bitsS, (P : Int))], 1), q, P) := by rw [← HR.out]; exact riQ_end (by rw [← HN.out]; omega)
            have HG : Hid (R = (some ([(bitsS, (P : Int))], 1), 0, P)) := by show _ = _; rw [← HR0.out]; unfold riE; rw [hRQ]
            have HE := Lib.hid (UE.out wr P HA.out hE)
            clear hRQ HR hE
            go_wp2_with fail
            refine (HE.out).mono ?_; rintro e w1 ⟨x, rfl, k1, r1, e1⟩
            have HE1 := Lib.hid e1
            obtain ⟨t5, y5, rfl⟩ := e1.ne
            clear e1
            go_wp2
            go_ret2
            exact ⟨_, by rw [HG.out]; rfl, HK.out.trans k1, by rw [HG.out]; exact r1, by rw [HG.out]; exact HE1.out⟩
          · have hPn1 : P < n := by omega
            by_cases hB : btN bs P = 1
            · have HB := Lib.hid (UB.out wr P true HA.out hPn1 (by rw [hB]; rfl))
              have HRQ : Hid (riQ bs (23 - q) (q + 1) (P + 1) = RQ) := by show _ = _; rw [← HR.out]; exact (riQ_one (by rw [← HN.out]; omega) hB).symm
              clear HR hB hE
              go_wp2_with fail
              refine (HB.out).mono ?_; rintro e w1 ⟨x, rfl, k1, r1, e1⟩
              obtain rfl : x = .nilIface := e1
              have HK1 := Lib.hid (HK.out.trans k1)
              have HA1 := Lib.hid r1
              clear k1 r1
              go_wp2
              go_roundw
              case rel => exact ⟨q + 1, by omega, by go_num, by have := HPq.out; omega, by show _ = _; rw [show 24 - (q + 1) = 23 - q by omega, show p + (q + 1) = P + 1 by have := HPq.out; omega]; exact HRQ.out, by show RdAt _ _ _ _ _; rw [show p + (q + 1) = P + 1 by have := HPq.out; omega]; exact HA1.out, HK1.out⟩
              case measure => simp [intOf]; omega
            · have HB := Lib.hid (UB.out wr P false HA.out hPn1 (by rw [beq_eq_false_iff_ne]; exact hB))
              have HRQ : Hid (RQ = (none, q, P + 1)) := by show _ = _; rw [← HR.out]; exact riQ_nil (by rw [← HN.out]; omega) hB
              clear HR hB hE
              go_wp2_with fail
              refine (HB.out).mono ?_; rintro e wz ⟨x, rfl, k1, r1, e1⟩
              obtain rfl : x = .nilIface := e1
              have HK1 := Lib.hid (HK.out.trans k1)
              have HA1 := Lib.hid r1
              obtain ⟨P1, hP1⟩ : ∃ P1, P + 1 = P1 := ⟨_, rfl⟩
              rw [hP1] at HA1 HRQ
              have hPn : P1 ≤ n := by omega
              clear k1 r1 HA HK hP1
              have HA := HA1
              have HK := HK1
              clear HA1 HK1
              -- in hand: wz, HA : RdAt at P1, HK : Kp, HRQ : riQ .. = (none, q, P1), hPn : P1 ≤ n, q < 24
              have hRz : R = riZ bs K most q P1 := by rw [← HR0.out]; unfold riE; rw [HRQ.out]
              have hw : riW K q = K := by unfold riW; rw [if_neg (by omega)]
              have q24 : ((q : Int) == 24) = false := by rw [beq_eq_false_iff_ne]; omega
              by_cases hG : P1 + K ≤ n
              · have UG := Lib.hid (UGt.out wz P1 K HA.out hG (by omega))
                have hl := nmN_lt bs P1 K
                have hM : 2 ^ K ≤ 2 ^ 15 := Nat.pow_le_pow_right (by decide) (by omega)
                have hqM : q * 2 ^ K ≤ 24 * 2 ^ 15 := Nat.mul_le_mul (by omega) hM
                obtain ⟨x, hx⟩ : ∃ x, nmN bs P1 K = x := ⟨_, rfl⟩
                obtain ⟨Z, hZ⟩ : ∃ Z, P1 + K = Z := ⟨_, rfl⟩
                obtain ⟨Y, hY⟩ : ∃ Y, q * 2 ^ K = Y := ⟨_, rfl⟩
                obtain ⟨V, hV⟩ : ∃ V, x + Y = V := ⟨_, rfl⟩
                have hRv : R = if riX K q most V then (some ([(codesS, (Z : Int))], 3), 0, Z) else (none, (V : Int), Z) := by
                  rw [hRz]
                  unfold riZ
                  rw [hw, if_pos (by rw [← HN.out]; exact hG), show ∀ x, riN K q x = x + q * 2 ^ K from fun x => by unfold riN; rw [if_neg (by omega)], hx, hY, hV, hZ]
                rw [hx] at UG hl
                rw [hZ] at UG
                rw [hY] at hqM
                have i1 : (q : Int) * 2 ^ K = (Y : Int) := by rw [← hY]; simp
                have i1' : (q : Int) * (M : Int) = (Y : Int) := by rw [← jp]; exact i1
                have i2 : IntKind.i64.wrap (Y : Int) = (Y : Int) := by rw [IntKind.wrap_i64]; omega
                have i4 : IntKind.i64.wrap ((x : Int) + (Y : Int)) = (V : Int) := by rw [IntKind.wrap_i64]; omega
                clear hx hZ hRz hY hV
                by_cases t1 : most < (V : Int)
                · have HG : Hid (R = (some ([(codesS, (Z : Int))], 3), 0, Z)) := by show _ = _; rw [hRv, if_pos (by unfold riX; exact .inl t1)]
                  clear hRv
                  -- the test is true: HG : R = (some codes, 0, Z)
                  go_wp2_with fail
                  refine (UG.out).mono ?_; rintro e w2 ⟨x, rfl, k2, r2, e2⟩
                  obtain rfl : x = .nilIface := e2
                  go_wp2_with fail
                  refine (oob_any b Z bs _ r2).mono ?_; rintro e w3 ⟨x, rfl, hx3, e3⟩
                  go_wp2
                  go_ret2
                  exact ⟨_, by rw [HG.out]; rfl, (HK.out.trans k2).ext hx3, by rw [HG.out]; exact r2.ext hx3, by rw [HG.out]; exact e3⟩
                · by_cases t2 : 1073741824 < V
                  · have HG : Hid (R = (some ([(codesS, (Z : Int))], 3), 0, Z)) := by show _ = _; rw [hRv, if_pos (by unfold riX; exact .inr (.inl t2))]
                    have t2' : (1073741824 : Int) < (V : Int) := by omega
                    clear hRv
                    -- the test is true: HG : R = (some codes, 0, Z)
                    go_wp2_with fail
                    refine (UG.out).mono ?_; rintro e w2 ⟨x, rfl, k2, r2, e2⟩
                    obtain rfl : x = .nilIface := e2
                    go_wp2_with fail
                    refine (oob_any b Z bs _ r2).mono ?_; rintro e w3 ⟨x, rfl, hx3, e3⟩
                    go_wp2
                    go_ret2
                    exact ⟨_, by rw [HG.out]; rfl, (HK.out.trans k2).ext hx3, by rw [HG.out]; exact r2.ext hx3, by rw [HG.out]; exact e3⟩
                  · have t2' : ¬ (1073741824 : Int) < (V : Int) := by omega
                    have HG : Hid (R = (none, (V : Int), Z)) := by show _ = _; rw [hRv, if_neg (by unfold riX; omega)]
                    clear hRv
                    go_wp2_with fail
                    refine (UG.out).mono ?_; rintro e w2 ⟨x, rfl, k2, r2, e2⟩
                    obtain rfl : x = .nilIface := e2
                    go_wp2
                    go_ret2
                    exact ⟨_, by rw [HG.out]; rfl, HK.out.trans k2, by rw [HG.out]; exact r2, by rw [HG.out]; rfl⟩
              · have HG : Hid (R = (some ([(bitsS, (P1 : Int))], 1), 0, P1)) := by
                  show _ = _
                  rw [hRz]
                  unfold riZ
                  rw [hw, if_neg (by rw [← HN.out]; exact hG)]
                have UN2 := Lib.hid (UNt.out wz P1 K HA.out hPn (by omega) (by omega))
                clear hRz
                -- the bits lack: HG : R = (some bits, 0, P), UN
                go_wp2_with fail
                refine (UN2.out).mono ?_; rintro e w2 ⟨x, rfl, k2, r2, e2⟩
                have HE2 := Lib.hid e2
                obtain ⟨t5, y5, rfl⟩ := e2.ne
                clear e2
                go_wp2
                go_ret2
                exact ⟨_, by rw [HG.out]; rfl, HK.out.trans k2, by rw [HG.out]; exact r2, by rw [HG.out]; exact HE2.out⟩
end Go.Proofs.YtgohlhgapboijaaGreatDoor
