/- Contracts of this seat: BiM, Kp, Brd, Bcl, Bwr, Bwr2, Bwr3, Bwr4, Brd2, Brd3, Brd4, Bnr, Bst. -/
import Derived.Test.YtgohlhgapboijaaGreatDoorZb
import Derived.Lib.Hide
import Derived.BigQuiet
import Derived.Deep.QuietTactic
import Derived.WalkSpells
import Derived.Laws.OwnMore
import Derived.Deep.RegionHeld3
import Derived.BigRegion
import Derived.Deep.LoopGhost
import Derived.Laws.BytesArg
/- Bits of bytes, bits as lists: plain arithmetic. -/
namespace Go.Proofs.YtgohlhgapboijaaGreatDoor
set_option linter.unusedVariables false
set_option linter.unusedSimpArgs false
open Go.RowKit

theorem wrap_nat {n : Nat} (h : n < 2 ^ 63) : IntKind.i64.wrap (n : Int) = (n : Int) := by rw [IntKind.wrap_i64]; omega
theorem ofInt_nat (n : Nat) : BitVec.ofInt 64 (n : Int) = BitVec.ofNat 64 n := by
  apply BitVec.eq_of_toNat_eq
  simp [BitVec.toNat_ofNat]
theorem and_mask (x t : Nat) (hx : x < 2 ^ 63) (ht : t ≤ 62) : bits .and .i64 (x : Int) ((2 ^ t - 1 : Nat) : Int) = ((x % 2 ^ t : Nat) : Int) := by
  have h2 : 2 ^ t ≤ 2 ^ 62 := Nat.pow_le_pow_right (by decide) ht
  have hp : 0 < 2 ^ t := Nat.two_pow_pos t
  have hm : x % 2 ^ t < 2 ^ t := Nat.mod_lt _ hp
  have e : (BitVec.ofInt 64 (x : Int) &&& BitVec.ofInt 64 ((2 ^ t - 1 : Nat) : Int)).toNat = x % 2 ^ t := by
    rw [ofInt_nat, ofInt_nat, BitVec.toNat_and, BitVec.toNat_ofNat, BitVec.toNat_ofNat, Nat.mod_eq_of_lt (by omega), Nat.mod_eq_of_lt (by omega), Nat.and_two_pow_sub_one_eq_mod]
  show IntKind.i64.wrap (((BitVec.ofInt 64 (x : Int) &&& BitVec.ofInt 64 ((2 ^ t - 1 : Nat) : Int)).toNat : Nat) : Int) = _
  rw [e]
  exact wrap_nat (by omega)
theorem or_low (v p t : Nat) (hp : p < 2 ^ t) (hb : v * 2 ^ t + p < 2 ^ 63) : bits .or .i64 ((v * 2 ^ t : Nat) : Int) (p : Int) = ((v * 2 ^ t + p : Nat) : Int) := by
  have e : (BitVec.ofInt 64 ((v * 2 ^ t : Nat) : Int) ||| BitVec.ofInt 64 (p : Int)).toNat = v * 2 ^ t + p := by
    rw [ofInt_nat, ofInt_nat, BitVec.toNat_or, BitVec.toNat_ofNat, BitVec.toNat_ofNat, Nat.mod_eq_of_lt (by omega), Nat.mod_eq_of_lt (by omega), Nat.mul_comm, Nat.two_pow_add_eq_or_of_lt hp]
  show IntKind.i64.wrap (((BitVec.ofInt 64 ((v * 2 ^ t : Nat) : Int) ||| BitVec.ofInt 64 (p : Int)).toNat : Nat) : Int) = _
  rw [e]
  exact wrap_nat hb
theorem ofInt8_nat (n : Nat) : BitVec.ofInt 8 (n : Int) = BitVec.ofNat 8 n := by
  apply BitVec.eq_of_toNat_eq
  simp [BitVec.toNat_ofNat]
theorem or_byte (v p t : Nat) (hp : p < 2 ^ t) (hb : v * 2 ^ t + p < 256) : bits .or .u8 ((v * 2 ^ t : Nat) : Int) (p : Int) = ((v * 2 ^ t + p : Nat) : Int) := by
  have e : (BitVec.ofInt 8 ((v * 2 ^ t : Nat) : Int) ||| BitVec.ofInt 8 (p : Int)).toNat = v * 2 ^ t + p := by
    rw [ofInt8_nat, ofInt8_nat, BitVec.toNat_or, BitVec.toNat_ofNat, BitVec.toNat_ofNat, Nat.mod_eq_of_lt (by omega), Nat.mod_eq_of_lt (by omega), Nat.mul_comm, Nat.two_pow_add_eq_or_of_lt hp]
  show IntKind.u8.wrap (((BitVec.ofInt 8 ((v * 2 ^ t : Nat) : Int) ||| BitVec.ofInt 8 (p : Int)).toNat : Nat) : Int) = _
  rw [e, IntKind.wrap_u8]
  omega

/-- the bit at a place of bytes; the number of so many bits from a place on -/
def btN (bs : List Nat) (p : Nat) : Nat := bs.getD (p / 8) 0 / 2 ^ (7 - p % 8) % 2
def nmN (bs : List Nat) (p : Nat) : Nat → Nat
  | 0 => 0
  | k + 1 => 2 * nmN bs p k + btN bs (p + k)
theorem btN_lt (bs : List Nat) (p : Nat) : btN bs p < 2 := Nat.mod_lt _ (by decide)
theorem nmN_lt (bs : List Nat) (p k : Nat) : nmN bs p k < 2 ^ k := by
  induction k with
  | zero => simp [nmN]
  | succ k ih => have := btN_lt bs (p + k); simp only [nmN, Nat.pow_succ]; omega
theorem nmN_add (bs : List Nat) (p k t : Nat) : nmN bs p (k + t) = nmN bs p k * 2 ^ t + nmN bs (p + k) t := by
  induction t with
  | zero => simp [nmN]
  | succ t ih =>
    show 2 * nmN bs p (k + t) + btN bs (p + (k + t)) = _ + (2 * nmN bs (p + k) t + btN bs (p + k + t))
    rw [ih, Nat.pow_succ, ← Nat.add_assoc p k t, Nat.mul_add, ← Nat.mul_assoc (nmN bs p k), Nat.mul_comm _ 2]
    omega
theorem mod_half (q t : Nat) : q % 2 ^ (t + 1) = 2 * (q / 2 % 2 ^ t) + q % 2 := by
  rw [Nat.pow_succ', Nat.mod_mul]
  omega
theorem nmN_in (bs : List Nat) (p t : Nat) (h : p % 8 + t ≤ 8) : nmN bs p t = bs.getD (p / 8) 0 / 2 ^ (8 - p % 8 - t) % 2 ^ t := by
  induction t with
  | zero => simp [nmN, Nat.mod_one]
  | succ t ih =>
    have e1 : (p + t) / 8 = p / 8 := by omega
    have e2 : (p + t) % 8 = p % 8 + t := by omega
    have e3 : 8 - p % 8 - t = (8 - p % 8 - (t + 1)) + 1 := by omega
    have e4 : 7 - (p % 8 + t) = 8 - p % 8 - (t + 1) := by omega
    simp only [nmN]
    rw [ih (by omega)]
    unfold btN
    rw [e1, e2, e3, e4, Nat.pow_succ, ← Nat.div_div_eq_div_mul, mod_half]
theorem nmN_one (bs : List Nat) (p : Nat) : nmN bs p 1 = btN bs p := by simp [nmN]

/-- the number of so many bits from a place on, of any bits -/
def nmF (f : Nat → Nat) (p : Nat) : Nat → Nat
  | 0 => 0
  | k + 1 => 2 * nmF f p k + f (p + k)
theorem nmF_add (f : Nat → Nat) (p k t : Nat) : nmF f p (k + t) = nmF f p k * 2 ^ t + nmF f (p + k) t := by
  induction t with
  | zero => simp [nmF]
  | succ t ih =>
    show 2 * nmF f p (k + t) + f (p + (k + t)) = _ + (2 * nmF f (p + k) t + f (p + k + t))
    rw [ih, Nat.pow_succ, ← Nat.add_assoc p k t, Nat.mul_add, ← Nat.mul_assoc (nmF f p k), Nat.mul_comm _ 2]
    omega
theorem nmF_lt {f : Nat → Nat} (h : ∀ p, f p < 2) (p k : Nat) : nmF f p k < 2 ^ k := by
  induction k with
  | zero => simp [nmF]
  | succ k ih => have := h (p + k); simp only [nmF, Nat.pow_succ]; omega
theorem nmF_congr {f g : Nat → Nat} {p k : Nat} (h : ∀ i, i < k → f (p + i) = g (p + i)) : nmF f p k = nmF g p k := by
  induction k with
  | zero => rfl
  | succ k ih => simp only [nmF]; rw [ih fun i hi => h i (by omega), h k (by omega)]
theorem nmF_zero {f : Nat → Nat} {p k : Nat} (h : ∀ i, i < k → f (p + i) = 0) : nmF f p k = 0 := by
  induction k with
  | zero => rfl
  | succ k ih => simp only [nmF]; rw [ih fun i hi => h i (by omega), h k (by omega)]
theorem nmN_nmF (bs : List Nat) (p k : Nat) : nmN bs p k = nmF (btN bs) p k := by
  induction k with
  | zero => rfl
  | succ k ih => simp only [nmN, nmF]; rw [ih]
/-- a bit of a number's eight, or more -/
theorem nmF_bit {f : Nat → Nat} (h : ∀ p, f p < 2) (p k i : Nat) (hi : i < k) : nmF f p k / 2 ^ (k - 1 - i) % 2 = f (p + i) := by
  obtain ⟨d, rfl⟩ : ∃ d, k = i + 1 + d := ⟨k - (i + 1), by omega⟩
  have hl := nmF_lt h (p + (i + 1)) d
  have e : i + 1 + d - 1 - i = d := by omega
  rw [nmF_add, e, Nat.mul_comm, Nat.mul_add_div (Nat.two_pow_pos d), Nat.div_eq_of_lt hl, Nat.add_zero]
  simp only [nmF]
  have := h (p + i)
  omega
/-- bits as a list -/
def bL (l : List Bool) (p : Nat) : Nat := (l.getD p false).toNat
theorem bL_lt (l : List Bool) (p : Nat) : bL l p < 2 := by unfold bL; cases l.getD p false <;> decide
theorem bL_end {l : List Bool} {p : Nat} (h : l.length ≤ p) : bL l p = 0 := by unfold bL; rw [List.getD, List.getElem?_eq_none h]; rfl
theorem bL_left {l m : List Bool} {p : Nat} (h : p < l.length) : bL (l ++ m) p = bL l p := by unfold bL; rw [List.getD, List.getD, List.getElem?_append_left h]
theorem bL_right (l m : List Bool) (p : Nat) : bL (l ++ m) (l.length + p) = bL m p := by unfold bL; rw [List.getD, List.getD, List.getElem?_append_right (by omega), Nat.add_sub_cancel_left]
/-- the bytes of bits -/
def pkB (l : List Bool) (j : Nat) : Nat := nmF (bL l) (8 * j) 8
theorem pkB_lt (l : List Bool) (j : Nat) : pkB l j < 256 := nmF_lt (bL_lt l) _ 8
theorem pkB_end {l : List Bool} {j : Nat} (h : l.length ≤ 8 * j) : pkB l j = 0 := nmF_zero fun i _ => bL_end (by omega)
/-- the bits of a number -/
def bsOf (v n : Nat) : List Bool := (List.range n).map fun i => decide (v / 2 ^ (n - 1 - i) % 2 = 1)
theorem bsOf_length (v n : Nat) : (bsOf v n).length = n := by simp [bsOf]
theorem bsOf_get (v n i : Nat) (h : i < n) : (bsOf v n)[i]? = some (decide (v / 2 ^ (n - 1 - i) % 2 = 1)) := by
  simp [bsOf, h]
theorem bL_of (v n i : Nat) (h : i < n) : bL (bsOf v n) i = v / 2 ^ (n - 1 - i) % 2 := by
  unfold bL
  rw [List.getD, bsOf_get v n i h]
  have : v / 2 ^ (n - 1 - i) % 2 < 2 := Nat.mod_lt _ (by decide)
  by_cases hc : v / 2 ^ (n - 1 - i) % 2 = 1
  · simp [hc]
  · simp [hc]; omega
theorem bsOf_add (v a b : Nat) : bsOf v (a + b) = bsOf (v / 2 ^ b) a ++ bsOf v b := by
  apply List.ext_getElem?
  intro i
  by_cases h1 : i < a
  · rw [List.getElem?_append_left (by rw [bsOf_length]; exact h1), bsOf_get _ _ _ h1, bsOf_get _ _ _ (by omega), Nat.div_div_eq_div_mul, ← Nat.pow_add, show b + (a - 1 - i) = a + b - 1 - i by omega]
  · by_cases h2 : i < a + b
    · rw [List.getElem?_append_right (by rw [bsOf_length]; omega), bsOf_length, bsOf_get v (a + b) i h2, bsOf_get v b (i - a) (by omega), show b - 1 - (i - a) = a + b - 1 - i by omega]
    · rw [List.getElem?_eq_none (by rw [bsOf_length]; omega), List.getElem?_eq_none (by rw [List.length_append, bsOf_length, bsOf_length]; omega)]
theorem bsOf_mod (v a : Nat) : bsOf (v % 2 ^ a) a = bsOf v a := by
  apply List.ext_getElem?
  intro i
  by_cases h1 : i < a
  · rw [bsOf_get _ _ _ h1, bsOf_get _ _ _ h1]
    have e : v % 2 ^ a / 2 ^ (a - 1 - i) % 2 = v / 2 ^ (a - 1 - i) % 2 := by
      obtain ⟨d, hd⟩ : ∃ d, a = (a - 1 - i) + (d + 1) := ⟨i, by omega⟩
      generalize a - 1 - i = m at hd ⊢
      subst hd
      rw [Nat.pow_add, Nat.mod_mul_right_div_self, Nat.pow_succ', Nat.mod_mul_right_mod]
    rw [e]
  · rw [List.getElem?_eq_none (by rw [bsOf_length]; omega), List.getElem?_eq_none (by rw [bsOf_length]; omega)]
/-- the number that its bits make -/
theorem nmF_of (l : List Bool) (v t : Nat) (m : List Bool) (hv : v < 2 ^ t) : nmF (bL (l ++ bsOf v t ++ m)) l.length t = v := by
  have h : ∀ k, k ≤ t → nmF (bL (l ++ bsOf v t ++ m)) l.length k = v / 2 ^ (t - k) := by
    intro k
    induction k with
    | zero => intro _; rw [Nat.sub_zero, Nat.div_eq_of_lt hv]; rfl
    | succ k ih =>
      intro hk
      simp only [nmF]
      rw [ih (by omega), List.append_assoc, bL_right, bL_left (by rw [bsOf_length]; omega), bL_of _ _ _ (by omega), show t - k = (t - (k + 1)) + 1 by omega, Nat.pow_succ, ← Nat.div_div_eq_div_mul, show t - 1 - k = t - (k + 1) by omega]
      omega
  have := h t (Nat.le_refl _)
  simpa using this
/-- a number of at most as many bits as are free, put: the last byte -/
theorem pk_put (l : List Bool) (v t : Nat) (hv : v < 2 ^ t) (h : l.length % 8 + t ≤ 8) : pkB (l ++ bsOf v t) (l.length / 8) = pkB l (l.length / 8) + v * 2 ^ (8 - l.length % 8 - t) := by
  have hL : 8 * (l.length / 8) + l.length % 8 = l.length := Nat.div_add_mod _ _
  unfold pkB
  obtain ⟨r, hr⟩ : ∃ r, l.length % 8 = r := ⟨_, rfl⟩
  obtain ⟨d, hd⟩ : ∃ d, 8 = r + (t + d) := ⟨8 - r - t, by omega⟩
  have e1 : nmF (bL (l ++ bsOf v t)) (8 * (l.length / 8)) 8 = nmF (bL (l ++ bsOf v t)) (8 * (l.length / 8)) (r + (t + d)) := by rw [← hd]
  have e2 : nmF (bL l) (8 * (l.length / 8)) 8 = nmF (bL l) (8 * (l.length / 8)) (r + (t + d)) := by rw [← hd]
  rw [e1, e2, nmF_add (bL (l ++ bsOf v t)) _ r (t + d), nmF_add (bL l) _ r (t + d), show 8 * (l.length / 8) + r = l.length by omega, nmF_add (bL (l ++ bsOf v t)) l.length t d]
  have h1 : nmF (bL (l ++ bsOf v t)) (8 * (l.length / 8)) r = nmF (bL l) (8 * (l.length / 8)) r := nmF_congr fun i hi => bL_left (by omega)
  have h2 : nmF (bL (l ++ bsOf v t)) l.length t = v := by have := nmF_of l v t [] hv; rwa [List.append_nil] at this
  have h3 : nmF (bL (l ++ bsOf v t)) (l.length + t) d = 0 := nmF_zero fun i _ => bL_end (by rw [List.length_append, bsOf_length]; omega)
  have h4 : nmF (bL l) l.length (t + d) = 0 := nmF_zero fun i _ => bL_end (by omega)
  rw [h1, h2, h3, h4, hr, show 8 - r - t = d by omega]
  omega
theorem pk_old (l m : List Bool) (j : Nat) (h : 8 * j + 8 ≤ l.length) : pkB (l ++ m) j = pkB l j := nmF_congr fun i hi => bL_left (by omega)
/-- the byte in which bits are free: a multiple -/
theorem pk_free (l : List Bool) : ∃ q, pkB l (l.length / 8) = q * 2 ^ (8 - l.length % 8) := by
  have hL : 8 * (l.length / 8) + l.length % 8 = l.length := Nat.div_add_mod _ _
  unfold pkB
  obtain ⟨r, hr⟩ : ∃ r, l.length % 8 = r := ⟨_, rfl⟩
  obtain ⟨d, hd⟩ : ∃ d, 8 = r + d := ⟨8 - r, by omega⟩
  have e2 : nmF (bL l) (8 * (l.length / 8)) 8 = nmF (bL l) (8 * (l.length / 8)) (r + d) := by rw [← hd]
  rw [e2, nmF_add, hr, show 8 - r = d by omega, nmF_zero (f := bL l) (p := 8 * (l.length / 8) + r) fun i _ => bL_end (by omega)]
  exact ⟨_, rfl⟩
theorem bt_pk (l : List Bool) (p : Nat) (h : p < 8 * ((l.length + 7) / 8)) : btN ((List.range ((l.length + 7) / 8)).map (pkB l)) p = bL l p := by
  unfold btN
  rw [List.getD, List.getElem?_map, List.getElem?_range (by omega)]
  show pkB l (p / 8) / 2 ^ (7 - p % 8) % 2 = _
  have := nmF_bit (bL_lt l) (8 * (p / 8)) 8 (p % 8) (Nat.mod_lt _ (by decide))
  rw [Nat.div_add_mod] at this
  exact this
end Go.Proofs.YtgohlhgapboijaaGreatDoor

/- A world in which all blocks but one stay. -/
namespace Go.Proofs.YtgohlhgapboijaaGreatDoor
set_option linter.unusedVariables false
set_option linter.unusedSimpArgs false
open Go.RowKit Go.Extern.Stop Go.Stop Go.Extern

/-- all that was there stays, but for one block -/
def Kp (b : Nat) (w w' : World) : Prop := World.grownBy w w' (some b)
theorem Kp.refl (b : Nat) (w : World) : Kp b w w := ⟨rfl, rfl, rfl, Nat.le_refl _, fun _ _ _ => rfl⟩
theorem Kp.size {b : Nat} {w w' : World} (h : Kp b w w') : w.heap.size ≤ w'.heap.size := World.grownBy.size h
theorem Kp.block {b : Nat} {w w' : World} (h : Kp b w w') {k : Nat} (hk : k < w.heap.size) (hb : k ≠ b) : w'.heap[k]? = w.heap[k]? := World.grownBy.block h k hk (fun e => hb (Option.some.inj e))
theorem Kp.trans {b : Nat} {u v w : World} (h : Kp b u v) (k : Kp b v w) : Kp b u w :=
  ⟨(World.grownBy.os k).trans (World.grownBy.os h), (World.grownBy.tape k).trans (World.grownBy.tape h), (World.grownBy.output k).trans (World.grownBy.output h), Nat.le_trans h.size k.size, fun i hi hn => (World.grownBy.block k i (Nat.lt_of_lt_of_le hi h.size) hn).trans (World.grownBy.block h i hi hn)⟩
theorem Kp.of_ext {b : Nat} {w w' : World} (h : Ext w w') : Kp b w w' := ⟨Below.os h, Below.tape h, Below.output h, h.size, fun _ hi _ => h.block hi⟩
theorem Kp.ext {b : Nat} {u v w : World} (h : Kp b u v) (k : Ext v w) : Kp b u w := h.trans (Kp.of_ext k)
theorem Kp.set {b : Nat} {u v : World} (h : Kp b u v) (o : Nat) (x : Value) : Kp b u (v.setCell ⟨b, o, none⟩ x) :=
  h.trans ⟨rfl, rfl, rfl, by simp, fun i _ hn => Below.heap_setCell v ⟨b, o, none⟩ x i (fun e => hn (by rw [e]))⟩
theorem Kp.cell {b : Nat} {w w' : World} (h : Kp b w w') {p : Addr} {v : Value} (hp : w.cell? p = some v) (hb : p.block ≠ b) : w'.cell? p = some v :=
  (World.cell?_of_block (h.block (Ext.lt hp) hb)).trans hp
theorem Kp.frozen {b : Nat} {w w' : World} (h : Kp b w w') {p : Addr} (hp : p.block < w.heap.size) (hb : p.block ≠ b) : w'.frozen? p = w.frozen? p :=
  World.frozen?_of_block (h.block hp hb)
/-- what lay there before the block -/
theorem Kp.out {b : Nat} {u v w : World} (h : Ext u v) (k : Kp b v w) (hb : u.heap.size ≤ b) : Ext u w :=
  Below.trans (c := w) h ⟨World.grownBy.os k, World.grownBy.tape k, World.grownBy.output k, k.size, fun i hi => k.block (Nat.lt_of_lt_of_le hi h.size) (by omega)⟩
end Go.Proofs.YtgohlhgapboijaaGreatDoor

/- Bytes; a bits.Reader; Left, Place, Get: contracts over this seat's translation. -/
namespace Go.Proofs.YtgohlhgapboijaaGreatDoor
set_option linter.unusedVariables false
set_option linter.unusedSimpArgs false
open Go.RowKit Go.Extern.Stop Go.Stop Go.Extern
variable {F : Nat → Prop}

/-- a slice of bytes -/
def Bys (w : World) (v : Value) (bs : List Nat) : Prop := Row w v bs.length (bs.map fun x : Nat => Value.int .u8 (x : Int)) ∧ (∀ x ∈ bs, x < 256) ∧ bs.length ≤ 140737488355328
theorem Bys.ext {w w' : World} {v : Value} {bs : List Nat} (h : Bys w v bs) (k : Ext w w') : Bys w' v bs := ⟨h.1.ext k, h.2⟩
theorem Bys.form {w : World} {v : Value} {bs : List Nat} (h : Bys w v bs) : ∃ a cap, v = .slice a bs.length cap := h.1.form
theorem Bys.len {w : World} {a : Option Addr} {n cap : Nat} {bs : List Nat} (h : Bys w (.slice a n cap) bs) : n = bs.length := by
  obtain ⟨a', cap', e, -⟩ := h.1
  simp only [Value.slice.injEq] at e
  exact e.2.1
theorem Bys.had {w : World} {a : Option Addr} {n cap : Nat} {bs : List Nat} (h : Bys w (.slice a n cap) bs) (hn : 0 < n) : ∃ g off, a = some ⟨g, off, none⟩ := by
  have hl := h.len
  obtain ⟨a', cap', e, -, -, h3, -⟩ := h.1
  simp only [Value.slice.injEq] at e
  obtain ⟨rfl, -, -⟩ := e
  exact h3 (by omega)
theorem Bys.at {w : World} {g off n cap : Nat} {bs : List Nat} (h : Bys w (.slice (some ⟨g, off, none⟩) n cap) bs) {j : Nat} {x : Nat} (hj : bs[j]? = some x) : w.cell? ⟨g, off + j, none⟩ = some (.int .u8 (x : Int)) := by
  obtain ⟨a', cap', e, -, -, -, h4⟩ := h.1
  simp only [Value.slice.injEq] at e
  exact h4 g off e.1.symm j _ (by rw [List.getElem?_map, hj]; rfl)
theorem nget_of_lt {bs : List Nat} {j : Nat} (h : j < bs.length) : bs[j]? = some (bs.getD j 0) := by simp [List.getD, h]
theorem Bys.lt {w : World} {v : Value} {bs : List Nat} (h : Bys w v bs) (j : Nat) : bs.getD j 0 < 256 := by
  by_cases hj : j < bs.length
  · exact h.2.1 _ (List.mem_of_getElem? (nget_of_lt hj))
  · rw [List.getD, List.getElem?_eq_none (by omega)]; decide

/-- a reader's two cells, of which the place may be written -/
def RdBox (w : World) (b : Nat) (u : Value) (p : Nat) : Prop := w.cell? ⟨b, 0, none⟩ = some u ∧ w.cell? ⟨b, 1, none⟩ = some (.int .i64 (p : Int)) ∧ w.frozen? ⟨b, 1, none⟩ = false
theorem RdBox.ext {w w' : World} {b : Nat} {u : Value} {p : Nat} (h : RdBox w b u p) (k : Ext w w') : RdBox w' b u p := ⟨k.cell h.1, k.cell h.2.1, (Below.frozen (p := ⟨b, 1, none⟩) k (Ext.lt (p := ⟨b, 0, none⟩) h.1)).trans h.2.2⟩
theorem cell_off_ne {w : World} {b i j : Nat} (u : Value) (h : i ≠ j) : (w.setCell ⟨b, i, none⟩ u).cell? ⟨b, j, none⟩ = w.cell? ⟨b, j, none⟩ :=
  World.cell?_setCell_other w _ _ u (fun e => h (congrArg Addr.off e))
theorem RdBox.set {w : World} {b : Nat} {u : Value} {p : Nat} (h : RdBox w b u p) (q : Nat) : RdBox (w.setCell ⟨b, 1, none⟩ (.int .i64 (q : Int))) b u q :=
  ⟨(cell_off_ne _ (by decide)).trans h.1, World.cell?_setCell_same _ _ _ h.2.1, by simpa using h.2.2⟩
/-- a reader of these bytes at this place, and what it reads lies elsewhere -/
def RdAt (F : Nat → Prop) (w : World) (b : Nat) (bs : List Nat) (p : Nat) : Prop := ∃ a cap, RdBox w b (.slice a bs.length cap) p ∧ Bys w (.slice a bs.length cap) bs ∧ (∀ g off, a = some ⟨g, off, none⟩ → g ≠ b ∧ ¬ F g)
theorem RdAt.ext {w w' : World} {b : Nat} {bs : List Nat} {p : Nat} (h : RdAt F w b bs p) (k : Ext w w') : RdAt F w' b bs p := by
  obtain ⟨a, cap, h1, h2, h3⟩ := h
  exact ⟨a, cap, h1.ext k, h2.ext k, h3⟩
theorem row_kp {w w' : World} {b : Nat} {a : Option Addr} {n cap : Nat} {N : Nat} {xs : List Value} (h : Row w (.slice a n cap) N xs) (k : Kp b w w') (hb : ∀ g off, a = some ⟨g, off, none⟩ → g ≠ b) : Row w' (.slice a n cap) N xs := by
  obtain ⟨a', cap', e, h1, h2, h3, h4⟩ := h
  simp only [Value.slice.injEq] at e
  obtain ⟨rfl, rfl, rfl⟩ := e
  exact ⟨a, cap, rfl, h1, h2, h3, fun g off ha j u hu => k.cell (h4 g off ha j u hu) (hb g off ha)⟩
theorem RdAt.set {w : World} {b : Nat} {bs : List Nat} {p : Nat} (h : RdAt F w b bs p) (q : Nat) : RdAt F (w.setCell ⟨b, 1, none⟩ (.int .i64 (q : Int))) b bs q := by
  obtain ⟨a, cap, h1, h2, h3⟩ := h
  exact ⟨a, cap, h1.set q, ⟨row_kp h2.1 ((Kp.refl b w).set 1 _) (fun g off ha => (h3 g off ha).1), h2.2⟩, h3⟩

theorem RdAt.mono {E : Nat → Prop} {w : World} {b : Nat} {bs : List Nat} {p : Nat} (h : RdAt F w b bs p) (k : ∀ g, E g → F g) : RdAt E w b bs p := by
  obtain ⟨a, cap, h1, h2, h3⟩ := h
  exact ⟨a, cap, h1, h2, fun g off ha => ⟨(h3 g off ha).1, fun e => (h3 g off ha).2 (k g e)⟩⟩
theorem RdAt.kp {w w' : World} {b d : Nat} {bs : List Nat} {p : Nat} (h : RdAt F w b bs p) (k : Kp d w w') (hd : F d) (hb : b ≠ d) : RdAt F w' b bs p := by
  obtain ⟨a, cap, ⟨h0, h1, h2⟩, h3, h4⟩ := h
  have e := k.block (Ext.lt (p := ⟨b, 0, none⟩) h0) hb
  exact ⟨a, cap, ⟨(World.cell?_of_block (a := ⟨b, 0, none⟩) e).trans h0, (World.cell?_of_block (a := ⟨b, 1, none⟩) e).trans h1, (World.frozen?_of_block (a := ⟨b, 1, none⟩) e).trans h2⟩, ⟨row_kp h3.1 k (fun g off ha e => (h4 g off ha).2 (e ▸ hd)), h3.2⟩, h4⟩
set_option maxRecDepth 20000 in
theorem left_any (b p : Nat) (bs : List Nat) (w : World) (h : RdAt F w b bs p) (hp : p ≤ 8 * bs.length) :
    Calls Tryz.prog 68  #[.pointer (some ⟨b, 0, none⟩)] w fun e w' => e = .returned (.int .i64 ((8 * bs.length - p : Nat) : Int)) ∧ Ext w w' := by
  obtain ⟨a, cap, ⟨h0, h1, h2⟩, ⟨-, -, hl⟩, -⟩ := h
  obtain ⟨n, hn⟩ : ∃ n, n = bs.length := ⟨_, rfl⟩
  rw [← hn] at h0 hp hl ⊢
  have e1 : IntKind.i64.wrap (8 * (n : Int)) = 8 * (n : Int) := by rw [IntKind.wrap_i64]; omega
  have e2 : IntKind.i64.wrap (8 * (n : Int) - (p : Int)) = ((8 * n - p : Nat) : Int) := by rw [IntKind.wrap_i64]; omega
  clear hn
  go_enter Tryz.func68, Tryz.ntmps68
  go_wp2_with fail
  go_quiet (fail)
  go_wp2
  go_ret
  exact ⟨rfl, (Ext.refl w).drewN _⟩
set_option maxRecDepth 20000 in
theorem place_any (b p : Nat) (bs : List Nat) (w : World) (h : RdAt F w b bs p) :
    Calls Tryz.prog 91 #[.pointer (some ⟨b, 0, none⟩)] w fun e w' => e = .returned (.int .i64 (p : Int)) ∧ w = w' := by
  obtain ⟨a, cap, ⟨h0, h1, h2⟩, -, -⟩ := h
  go_enter Tryz.func91, Tryz.ntmps91
  go_wp2
  go_ret
  exact ⟨rfl, rfl⟩
end Go.Proofs.YtgohlhgapboijaaGreatDoor

/- Bytes copied: slices.Clone, kinref.CopyBytes; bits.NewReader: contracts over this seat's translation. -/
namespace Go.Proofs.YtgohlhgapboijaaGreatDoor
set_option linter.unusedVariables false
set_option linter.unusedSimpArgs false
open Go.RowKit Go.Extern.Stop Go.Stop Go.Extern

theorem infoU8 : (Tryz.prog.info? 5).map (fun i => (i.zero, i.size, i.bytes)) = some (some (.int .u8 0), 1, 1) := by kernel_rfl
/-- bytes as cells -/
def byC (bs : List Nat) : List Value := bs.map fun x : Nat => Value.int .u8 (x : Int)
theorem byC_length (bs : List Nat) : (byC bs).length = bs.length := by simp [byC]
theorem byC_one (bs : List Nat) : ∀ u ∈ byC bs, u.oneCell' = true := fun u hu => by
  obtain ⟨x, _, rfl⟩ := List.mem_map.1 hu
  rfl
theorem news_of_bys {w : World} {g off n cap : Nat} {bs : List Nat} (h : Bys w (.slice (some ⟨g, off, none⟩) n cap) bs) : ∀ j u, (byC bs)[j]? = some u → w.cell? ((⟨g, off, none⟩ : Addr).add j) = some u := fun j u hu => by
  have hadd : (⟨g, off, none⟩ : Addr).add j = ⟨g, off + j, none⟩ := by unfold Addr.add; split <;> simp_all
  unfold byC at hu
  rw [List.getElem?_map] at hu
  obtain ⟨x, hx, rfl⟩ := Option.map_eq_some_iff.1 hu
  rw [hadd]
  exact h.at hx
theorem Bys.of_owns {w : World} {base n : Nat} {v : Value} {bs : List Nat} (h : w.ownsRow base 5 1 v n (byC bs)) (hb : ∀ x ∈ bs, x < 256) (hl : bs.length ≤ 140737488355328) : Bys w v bs := by
  have hn : n = bs.length := by have := h.1; rw [byC_length] at this; omega
  subst hn
  exact ⟨Row.of_owns h, hb, hl⟩
theorem Bys.nil (w : World) : Bys w (.slice none 0 0) [] := ⟨Row.nil w, by simp, by simp⟩
theorem Bys.caps {w : World} {a : Option Addr} {n cap : Nat} {bs : List Nat} (h : Bys w (.slice a n cap) bs) : n ≤ cap ∧ cap ≤ maxLen := by
  obtain ⟨a', cap', e, h1, h2, -, -⟩ := h.1
  simp only [Value.slice.injEq] at e
  obtain ⟨-, rfl, rfl⟩ := e
  exact ⟨h1, h2⟩
def CPost (w : World) (bs : List Nat) (e : Ending) (w' : World) : Prop := ∃ u, e = .returned u ∧ w'.ownsRow w.heap.size 5 1 u bs.length (byC bs) ∧ Ext w w'
set_option maxRecDepth 20000 in
set_option maxHeartbeats 2000000 in
theorem clb_any (bs : List Nat) (v : Value) (w : World) (ha : Bys w v bs) : Calls Tryz.prog 53 #[v] w (CPost w bs) := by
  obtain ⟨i0, hi, hz0, hz1, hz2⟩ := info_parts infoU8
  obtain ⟨n, hn⟩ : ∃ n, n = bs.length := ⟨_, rfl⟩
  have hl := ha.2.2
  have E1 : Ext w (w.alloc (.cells #[] 5)) := (Ext.refl w).alloc _
  have hown : (w.alloc (.cells #[] 5)).ownsRow w.heap.size 5 1 (.slice (some ⟨w.heap.size, 0, none⟩) 0 0) 0 [] := World.ownsRow_made w #[] 0 (Nat.le_refl _) (Nat.zero_le _) rfl
  have fin : ∀ (v' : Value) (w' : World), w'.ownsRow w.heap.size 5 1 v' (0 + n) ([] ++ byC bs) → (w.alloc (.cells #[] 5)).grownBy w' (some w.heap.size) → w'.ownsRow w.heap.size 5 1 v' n (byC bs) ∧ Ext w w' := fun v' w' h1 h2 =>
    ⟨by simpa using h1, Below.grown E1 h2 (by simp) (fun k hk => by cases hk; exact Nat.le_refl _)⟩
  have FIN := Lib.hid fin
  clear fin
  obtain ⟨a, cap, rfl⟩ := ha.form
  rw [← hn] at ha hl
  by_cases hz : n = 0
  · obtain rfl : bs = [] := List.eq_nil_of_length_eq_zero (by omega)
    subst hz
    clear ha hn
    cases a with
    | none =>
      have r1 : ∀ W, (binOp .eql 26 (.slice none 0 cap) (.slice none 0 0)).run Tryz.prog W = .ok (.bool true) W := fun W => Lib.run_eql_slice_nil W _ _ _ 0 cap 0 0 Tryz.underlying26
      go_enter Tryz.func53, Tryz.ntmps53
      go_wp2
      go_ret
      exact ⟨_, rfl, World.ownsRow_nil _ _ _ _, Ext.refl _⟩
    | some a =>
      have r1 : ∀ W, (binOp .eql 26 (.slice (some a) 0 cap) (.slice none 0 0)).run Tryz.prog W = .ok (.bool false) W := fun W => Lib.run_eql_slice_nil W _ _ _ 0 cap 0 0 Tryz.underlying26
      go_enter Tryz.func53, Tryz.ntmps53
      go_wp2_with (at_builtin; refine wpList_append_own _ rfl _ _ 26 rfl w.heap.size 5 i0 (.int .u8 0) 1 1 Tryz.underlying26 hi hz0 hz1 hz2 rfl (by decide) _ 0 [] rfl hown a 0 cap [] rfl rfl (by simp) (by simp) (by decide) (by decide) (by simp) ?_; intro v' w' h1 h2 _)
      go_ret
      obtain ⟨h3, h4⟩ := FIN.out _ _ h1 h2
      exact ⟨_, rfl, h3, h4⟩
  · obtain ⟨g, off, rfl⟩ := ha.had (by omega)
    obtain ⟨c1, c2⟩ := ha.caps
    have hnews := news_of_bys (ha.ext E1)
    have HN := Lib.hid hn
    have HW := Lib.hid hnews
    have r1 : ∀ W, (binOp .eql 26 (.slice (some ⟨g, off, none⟩) n cap) (.slice none 0 0)).run Tryz.prog W = .ok (.bool false) W := fun W => Lib.run_eql_slice_nil W _ _ _ n cap 0 0 Tryz.underlying26
    rw [← hn]
    clear hn hnews hz
    go_enter Tryz.func53, Tryz.ntmps53
    go_wp2_with (at_builtin; refine wpList_append_own _ rfl _ _ 26 rfl w.heap.size 5 i0 (.int .u8 0) 1 1 Tryz.underlying26 hi hz0 hz1 hz2 rfl (by decide) _ 0 [] rfl hown ⟨g, off, none⟩ n cap (byC bs) rfl (by rw [byC_length, HN.out, Nat.mul_one]) HW.out (byC_one bs) (by unfold maxLen; omega) (by omega) (by simp) ?_; intro v' w' h1 h2 _)
    go_ret
    obtain ⟨h3, h4⟩ := FIN.out _ _ h1 h2
    exact ⟨_, rfl, by rw [← HN.out]; exact h3, h4⟩
set_option maxRecDepth 20000 in
set_option maxHeartbeats 2000000 in
theorem cpb_any (bs : List Nat) (v : Value) (w : World) (ha : Bys w v bs) : Calls Tryz.prog 13 #[v] w (CPost w bs) := by
  obtain ⟨i0, hi, hz0, hz1, hz2⟩ := info_parts infoU8
  obtain ⟨n, hn⟩ : ∃ n, n = bs.length := ⟨_, rfl⟩
  have hl := ha.2.2
  have E1 : Ext w (w.alloc (.cells #[] 5)) := (Ext.refl w).alloc _
  have hown : (w.alloc (.cells #[] 5)).ownsRow w.heap.size 5 1 (.slice (some ⟨w.heap.size, 0, none⟩) 0 0) 0 [] := World.ownsRow_made w #[] 0 (Nat.le_refl _) (Nat.zero_le _) rfl
  have fin : ∀ (v' : Value) (w' : World), w'.ownsRow w.heap.size 5 1 v' (0 + n) ([] ++ byC bs) → (w.alloc (.cells #[] 5)).grownBy w' (some w.heap.size) → w'.ownsRow w.heap.size 5 1 v' n (byC bs) ∧ Ext w w' := fun v' w' h1 h2 =>
    ⟨by simpa using h1, Below.grown E1 h2 (by simp) (fun k hk => by cases hk; exact Nat.le_refl _)⟩
  have FIN := Lib.hid fin
  clear fin
  obtain ⟨a, cap, rfl⟩ := ha.form
  rw [← hn] at ha hl
  by_cases hz : n = 0
  · obtain rfl : bs = [] := List.eq_nil_of_length_eq_zero (by omega)
    subst hz
    clear ha hn
    cases a with
    | none =>
      go_enter Tryz.func13, Tryz.ntmps13
      go_wp2
      go_ret
      exact ⟨_, rfl, hown, E1⟩
    | some a =>
      have r1 : ∀ W, (binOp .eql 26 (.slice (some a) 0 cap) (.slice none 0 0)).run Tryz.prog W = .ok (.bool false) W := fun W => Lib.run_eql_slice_nil W _ _ _ 0 cap 0 0 Tryz.underlying26
      go_enter Tryz.func13, Tryz.ntmps13
      go_wp2_with (at_builtin; refine wpList_append_own _ rfl _ _ 26 rfl w.heap.size 5 i0 (.int .u8 0) 1 1 Tryz.underlying26 hi hz0 hz1 hz2 rfl (by decide) _ 0 [] rfl hown a 0 cap [] rfl rfl (by simp) (by simp) (by decide) (by decide) (by simp) ?_; intro v' w' h1 h2 _)
      go_ret
      obtain ⟨h3, h4⟩ := FIN.out _ _ h1 h2
      exact ⟨_, rfl, h3, h4⟩
  · obtain ⟨g, off, rfl⟩ := ha.had (by omega)
    obtain ⟨c1, c2⟩ := ha.caps
    have hnews := news_of_bys (ha.ext E1)
    have HN := Lib.hid hn
    have HW := Lib.hid hnews
    have r1 : ∀ W, (binOp .eql 26 (.slice (some ⟨g, off, none⟩) n cap) (.slice none 0 0)).run Tryz.prog W = .ok (.bool false) W := fun W => Lib.run_eql_slice_nil W _ _ _ n cap 0 0 Tryz.underlying26
    rw [← hn]
    clear hn hnews hz
    go_enter Tryz.func13, Tryz.ntmps13
    go_wp2_with (at_builtin; refine wpList_append_own _ rfl _ _ 26 rfl w.heap.size 5 i0 (.int .u8 0) 1 1 Tryz.underlying26 hi hz0 hz1 hz2 rfl (by decide) _ 0 [] rfl hown ⟨g, off, none⟩ n cap (byC bs) rfl (by rw [byC_length, HN.out, Nat.mul_one]) HW.out (byC_one bs) (by unfold maxLen; omega) (by omega) (by simp) ?_; intro v' w' h1 h2 _)
    go_ret
    obtain ⟨h3, h4⟩ := FIN.out _ _ h1 h2
    exact ⟨_, rfl, by rw [← HN.out]; exact h3, h4⟩
end Go.Proofs.YtgohlhgapboijaaGreatDoor

/- A bits.Writer; NewWriter, Len, Align: contracts over this seat's translation. -/
namespace Go.Proofs.YtgohlhgapboijaaGreatDoor
set_option linter.unusedVariables false
set_option linter.unusedSimpArgs false
open Go.RowKit Go.Extern.Stop Go.Stop Go.Extern

/-- the bytes of bits -/
def pkL (l : List Bool) : List Nat := (List.range ((l.length + 7) / 8)).map (pkB l)
theorem pkL_length (l : List Bool) : (pkL l).length = (l.length + 7) / 8 := by simp [pkL]
theorem pkL_lt (l : List Bool) : ∀ x ∈ pkL l, x < 256 := fun x hx => by
  obtain ⟨j, -, rfl⟩ := List.mem_map.1 hx
  exact pkB_lt l j
theorem pkL_get {l : List Bool} {j : Nat} (h : j < (l.length + 7) / 8) : (pkL l)[j]? = some (pkB l j) := by simp [pkL, h]
def u8Blk (w : World) (k : Nat) : Prop := ∃ cs fr, w.heap[k]? = some (.cells cs 5 fr)
/-- what a writer at b leaves as it was: what lies below B, and what is no block of bytes -/
def WKp (b B : Nat) (w w' : World) : Prop := (w'.os = w.os ∧ w'.tape = w.tape ∧ w'.output = w.output) ∧ w.heap.size ≤ w'.heap.size ∧ ∀ k, k < w.heap.size → k ≠ b → (k < B ∨ ¬ u8Blk w k) → w'.heap[k]? = w.heap[k]?
theorem WKp.refl (b B : Nat) (w : World) : WKp b B w w := ⟨⟨rfl, rfl, rfl⟩, Nat.le_refl _, fun _ _ _ _ => rfl⟩
theorem WKp.trans {b B : Nat} {u v w : World} (h : WKp b B u v) (k : WKp b B v w) : WKp b B u w := by
  obtain ⟨⟨h1, h2, h3⟩, h4, h5⟩ := h
  obtain ⟨⟨k1, k2, k3⟩, k4, k5⟩ := k
  refine ⟨⟨k1.trans h1, k2.trans h2, k3.trans h3⟩, Nat.le_trans h4 k4, fun i hi hb hc => ?_⟩
  have e := h5 i hi hb hc
  refine (k5 i (Nat.lt_of_lt_of_le hi h4) hb ?_).trans e
  rcases hc with hc | hc
  · exact .inl hc
  · exact .inr fun ⟨cs, fr, hh⟩ => hc ⟨cs, fr, by rw [← e]; exact hh⟩
theorem WKp.of_ext {b B : Nat} {w w' : World} (h : Ext w w') : WKp b B w w' := ⟨⟨Below.os h, Below.tape h, Below.output h⟩, h.size, fun _ hi _ _ => h.block hi⟩
theorem WKp.ext {b B : Nat} {u v w : World} (h : WKp b B u v) (k : Ext v w) : WKp b B u w := h.trans (WKp.of_ext k)
theorem WKp.of_kp {b B : Nat} {w w' : World} (h : Kp b w w') : WKp b B w w' := ⟨⟨World.grownBy.os h, World.grownBy.tape h, World.grownBy.output h⟩, h.size, fun _ hi hb _ => h.block hi hb⟩
/-- what was there before the writer stays -/
theorem WKp.out {b B : Nat} {u v w : World} (h : Ext u v) (k : WKp b B v w) (hb : u.heap.size ≤ b) (hB : u.heap.size ≤ B) : Ext u w :=
  Below.trans (c := w) h ⟨k.1.1, k.1.2.1, k.1.2.2, k.2.1, fun i hi => k.2.2 i (Nat.lt_of_lt_of_le hi h.size) (by omega) (.inl (by omega))⟩
theorem WKp.block {b B : Nat} {u v : World} (k : WKp b B u v) {i : Nat} (hi : i < B) (hB : B ≤ u.heap.size) (hb : i ≠ b) : v.heap[i]? = u.heap[i]? := k.2.2 i (Nat.lt_of_lt_of_le hi hB) hb (.inl hi)
theorem WKp.cell {b B : Nat} {u v : World} (k : WKp b B u v) {p : Addr} {x : Value} (hp : u.cell? p = some x) (hi : p.block < B) (hb : p.block ≠ b) : v.cell? p = some x :=
  (World.cell?_of_block (k.2.2 p.block (Ext.lt hp) hb (.inl hi))).trans hp
/-- a writer's two cells, which may be written -/
def WrBox (w : World) (b : Nat) (u : Value) (n : Nat) : Prop := (w.cell? ⟨b, 0, none⟩ = some u ∧ w.cell? ⟨b, 1, none⟩ = some (.int .i64 (n : Int))) ∧ w.frozen? ⟨b, 0, none⟩ = false ∧ w.frozen? ⟨b, 1, none⟩ = false
theorem WrBox.ext {w w' : World} {b : Nat} {u : Value} {n : Nat} (h : WrBox w b u n) (k : Ext w w') : WrBox w' b u n :=
  ⟨⟨k.cell h.1.1, k.cell h.1.2⟩, (Below.frozen (p := ⟨b, 0, none⟩) k (Ext.lt (p := ⟨b, 0, none⟩) h.1.1)).trans h.2.1, (Below.frozen (p := ⟨b, 1, none⟩) k (Ext.lt (p := ⟨b, 0, none⟩) h.1.1)).trans h.2.2⟩
theorem WrBox.same {w w' : World} {b : Nat} {u : Value} {n : Nat} (h : WrBox w b u n) (k : w'.heap[b]? = w.heap[b]?) : WrBox w' b u n :=
  ⟨⟨(World.cell?_of_block (a := ⟨b, 0, none⟩) k).trans h.1.1, (World.cell?_of_block (a := ⟨b, 1, none⟩) k).trans h.1.2⟩, (World.frozen?_of_block (a := ⟨b, 0, none⟩) k).trans h.2.1, (World.frozen?_of_block (a := ⟨b, 1, none⟩) k).trans h.2.2⟩
theorem WrBox.row {w : World} {b : Nat} {u : Value} {n : Nat} (h : WrBox w b u n) (v : Value) : WrBox (w.setCell ⟨b, 0, none⟩ v) b v n :=
  ⟨⟨World.cell?_setCell_same _ _ _ h.1.1, (cell_off_ne _ (by decide)).trans h.1.2⟩, by simpa using h.2.1, by simpa using h.2.2⟩
theorem WrBox.siz {w : World} {b : Nat} {u : Value} {n : Nat} (h : WrBox w b u n) (m : Nat) : WrBox (w.setCell ⟨b, 1, none⟩ (.int .i64 (m : Int))) b u m :=
  ⟨⟨(cell_off_ne _ (by decide)).trans h.1.1, World.cell?_setCell_same _ _ _ h.1.2⟩, by simpa using h.2.1, by simpa using h.2.2⟩
/-- a writer with these bits -/
def WrAt (w : World) (b B : Nat) (l : List Bool) : Prop := ∃ v, WrBox w b v l.length ∧ w.ownsRow B 5 1 v ((l.length + 7) / 8) (byC (pkL l)) ∧ (b < B ∧ B ≤ w.heap.size) ∧ l.length ≤ 1000000000
theorem WrAt.ext {w w' : World} {b B : Nat} {l : List Bool} (h : WrAt w b B l) (k : Ext w w') : WrAt w' b B l := by
  obtain ⟨v, h1, h2, h3, h4⟩ := h
  refine ⟨v, h1.ext k, h2.kept (row := none) ⟨Below.os k, Below.tape k, Below.output k, k.size, fun i hi _ => k.block hi⟩ (by cases hv : v.ownBlock <;> simp), ⟨h3.1, Nat.le_trans h3.2 k.size⟩, h4⟩
/-- a new writer, at any base -/
def NWPost (w : World) (e : Ending) (w' : World) : Prop := ∃ b, e = .returned (.pointer (some ⟨b, 0, none⟩)) ∧ w.heap.size ≤ b ∧ WrBox w' b (.slice none 0 0) 0 ∧ Ext w w'
theorem WrAt.new {w : World} {b B : Nat} (h : WrBox w b (.slice none 0 0) 0) (h1 : b < B) (h2 : B ≤ w.heap.size) : WrAt w b B [] := ⟨_, h, World.ownsRow_nil _ _ _ _, ⟨h1, h2⟩, by simp⟩
theorem newwr_any (w : World) : Calls Tryz.prog 19 #[] w (NWPost w) := by
  go_enter Tryz.func19, Tryz.ntmps19
  go_wp2
  go_ret
  exact ⟨_, rfl, Nat.le_refl _, ⟨⟨by simp, by simp⟩, by simp, by simp⟩, (Ext.refl w).alloc _⟩
end Go.Proofs.YtgohlhgapboijaaGreatDoor

/- (*bits.Writer).Align, Put: contracts over this seat's translation. -/
namespace Go.Proofs.YtgohlhgapboijaaGreatDoor
set_option linter.unusedVariables false
set_option linter.unusedSimpArgs false
open Go.RowKit Go.Extern.Stop Go.Stop Go.Extern

theorem own_set_lt {w : World} {base : Nat} {e : TypeId} {size : Nat} {v : Value} {n : Nat} {xs : List Value} (h : w.ownsRow base e size v n xs) {p : Addr} (u : Value) (hp : p.block < base) : (w.setCell p u).ownsRow base e size v n xs := by
  obtain ⟨h1, h2⟩ := h
  refine ⟨h1, ?_⟩
  rcases h2 with h2 | ⟨g, cap, cur, hv, hg, hh, r⟩
  · exact Or.inl h2
  · exact Or.inr ⟨g, cap, cur, hv, hg, by rw [Below.heap_setCell _ _ _ _ (by omega)]; exact hh, r⟩
def wpad (l : List Bool) : List Bool := l ++ List.replicate ((8 - l.length % 8) % 8) false
theorem wpad_length (l : List Bool) : (wpad l).length = 8 * ((l.length + 7) / 8) := by
  unfold wpad
  rw [List.length_append, List.length_replicate]
  omega
theorem bL_pad (l : List Bool) (d p : Nat) : bL (l ++ List.replicate d false) p = bL l p := by
  by_cases h : p < l.length
  · exact bL_left h
  · rw [bL_end (l := l) (by omega)]
    obtain ⟨q, rfl⟩ : ∃ q, p = l.length + q := ⟨p - l.length, by omega⟩
    rw [bL_right]
    unfold bL
    rw [List.getD]
    by_cases hq : q < d
    · rw [List.getElem?_replicate, if_pos hq]; rfl
    · rw [List.getElem?_replicate, if_neg hq]; rfl
theorem pkL_pad (l : List Bool) : pkL (wpad l) = pkL l := by
  unfold pkL
  rw [wpad_length, show (8 * ((l.length + 7) / 8) + 7) / 8 = (l.length + 7) / 8 by omega]
  apply List.map_congr_left
  intro j _
  exact nmF_congr fun i _ => bL_pad _ _ _
/-- a call without a result: the writer's bits -/
def WAPost (w : World) (b B : Nat) (l : List Bool) (e : Ending) (w' : World) : Prop := e = .returned (.tuple #[]) ∧ WrAt w' b B l ∧ WKp b B w w'
end Go.Proofs.YtgohlhgapboijaaGreatDoor

/- (*bits.Writer).Put where it puts: its contract over this seat's translation. -/
namespace Go.Proofs.YtgohlhgapboijaaGreatDoor
set_option linter.unusedVariables false
set_option linter.unusedSimpArgs false
open Go.RowKit Go.Extern.Stop Go.Stop Go.Extern

/-- an append of one byte to a row of the call's own -/
theorem push_u8 {ops : Array Oper} {rest : List Oper} {o : Oper} {a : Act} {Q : Exit → Act → World → Prop} {W : World} {base : Nat} (hgd : o.guard = none) (s y : Operand) (t : TypeId)
    (ho : o.op = .call { callee := .builtin .append, args := #[s, y], argTypes := #[t, t] }) (ht : Tryz.prog.underlying t = some (.slice 5))
    (v : Value) (n : Nat) (xs : List Value) (x : Int) (hs : a.eval s = v) (hown : W.ownsRow base 5 1 v n xs) (hx : a.eval y = .slice (some ⟨W.heap.size, 0, none⟩) 1 1) (hb : base ≤ W.heap.size) (hn : n ≤ 1000000000000)
    (h : ∀ g cap w', w'.ownsRow base 5 1 (.slice (some ⟨g, 0, none⟩) (n + 1) cap) (n + 1) (xs ++ [.int .u8 x]) → W.grownBy w' v.ownBlock → wpList Tryz.prog ops Q rest (a.put o.dst (.slice (some ⟨g, 0, none⟩) (n + 1) cap)) w') :
    wpList Tryz.prog ops Q (o :: rest) a (W.alloc (.cells #[.int .u8 x] 5)) := by
  obtain ⟨i0, hi, hz0, hz1, hz2⟩ := info_parts infoU8
  refine wpList_append_own _ hgd s y t ho base 5 i0 (.int .u8 0) 1 1 ht hi hz0 hz1 hz2 rfl (by decide) v n xs hs (hown.alloc _) ⟨W.heap.size, 0, none⟩ 1 1 [.int .u8 x] hx rfl (cell_one_new _ _ _) (fun u hu => by obtain rfl := List.mem_singleton.1 hu; rfl) (by unfold maxLen; omega) (by omega) (by simp; omega) ?_
  intro v' w' h1 h2 _
  have g := World.grownBy_alloc W (.cells #[.int .u8 x] 5) v.ownBlock
  have hg : W.grownBy w' v.ownBlock := ⟨h2.os.trans g.os, h2.tape.trans g.tape, h2.output.trans g.output, Nat.le_trans g.size h2.size, fun k hk hne => (h2.block k (Nat.lt_of_lt_of_le hk g.size) hne).trans (g.block k hk hne)⟩
  obtain ⟨gg, cap, rfl⟩ : ∃ gg cap, v' = .slice (some ⟨gg, 0, none⟩) (n + 1) cap := by
    rcases h1.2 with ⟨-, h0⟩ | ⟨gg, cap, cur, e, -⟩
    · omega
    · exact ⟨gg, cap, e⟩
  exact h gg cap w' h1 hg
theorem own_apart {w w' : World} {b B : Nat} {v : Value} {n : Nat} {xs : List Value} (h : w.ownsRow B 5 1 v n xs) (hg : w.grownBy w' v.ownBlock) : WKp b B w w' :=
  ⟨⟨hg.os, hg.tape, hg.output⟩, hg.size, fun k hk _ hc => hg.block k hk (fun e => by
    rcases h.2 with ⟨rfl, -⟩ | ⟨g, cap, cur, rfl, hb, hgg, -⟩
    · simp [Value.ownBlock] at e
    · simp only [Value.ownBlock, Option.some.injEq] at e
      subst e
      rcases hc with hc | hc
      · omega
      · exact hc ⟨cur, (0, 0), hgg⟩)⟩
theorem own_apart_b {w w' : World} {b B : Nat} {v : Value} {n : Nat} {xs : List Value} (h : w.ownsRow B 5 1 v n xs) (hg : w.grownBy w' v.ownBlock) (hb : b < B) (hs : b < w.heap.size) : w'.heap[b]? = w.heap[b]? :=
  hg.block b hs (fun e => by have := h.lt b e.symm; omega)
/-- the bytes of bits, and one more where the last is full -/
def pk1 (l : List Bool) : List Nat := (List.range (l.length / 8 + 1)).map (pkB l)
theorem pk1_full (l : List Bool) (h : l.length % 8 = 0) : pkL l ++ [0] = pk1 l := by
  unfold pkL pk1
  rw [show (l.length + 7) / 8 = l.length / 8 by omega, List.range_succ, List.map_append]
  simp only [List.map_cons, List.map_nil]
  rw [pkB_end (by omega)]
theorem pk1_part (l : List Bool) (h : l.length % 8 ≠ 0) : pkL l = pk1 l := by
  unfold pkL pk1
  rw [show (l.length + 7) / 8 = l.length / 8 + 1 by omega]
theorem pk1_put (l : List Bool) (y t : Nat) (hy : y < 2 ^ t) (h1 : 1 ≤ t) (h : l.length % 8 + t ≤ 8) : (byC (pk1 l)).set (l.length / 8) (.int .u8 ((pkB l (l.length / 8) + y * 2 ^ (8 - l.length % 8 - t) : Nat) : Int)) = byC (pkL (l ++ bsOf y t)) := by
  have hp := pk_put l y t hy h
  have hlen : ((l ++ bsOf y t).length + 7) / 8 = l.length / 8 + 1 := by rw [List.length_append, bsOf_length]; omega
  apply List.ext_getElem?
  intro j
  unfold byC pkL pk1
  rw [hlen, List.getElem?_set, List.getElem?_map, List.getElem?_map, List.getElem?_map, List.getElem?_map]
  by_cases hj : j < l.length / 8 + 1
  · rw [List.getElem?_range hj]
    by_cases e : l.length / 8 = j
    · subst e
      rw [if_pos rfl, if_pos (by simp)]
      show _ = some (Value.int .u8 ((pkB (l ++ bsOf y t) (l.length / 8) : Nat) : Int))
      rw [hp]
    · rw [if_neg e]
      show some (Value.int .u8 ((pkB l j : Nat) : Int)) = some (Value.int .u8 ((pkB (l ++ bsOf y t) j : Nat) : Int))
      rw [pk_old l _ j (by omega)]
  · rw [List.getElem?_eq_none (by simp; omega), if_neg (by omega)]
    rfl
theorem put_list (l : List Bool) (v m t k : Nat) (h : t ≤ m) : (l ++ bsOf (v / 2 ^ m) k) ++ bsOf (v / 2 ^ (m - t) % 2 ^ t) t = l ++ bsOf (v / 2 ^ (m - t)) (k + t) := by
  rw [List.append_assoc, bsOf_mod, bsOf_add, Nat.div_div_eq_div_mul, ← Nat.pow_add, show m - t + t = m by omega]
theorem wput_step {w : World} {b B g cap n I S t Z : Nat} {L L' : List Bool} (hB : WrBox w b (.slice (some ⟨g, 0, none⟩) n cap) S) (hO : w.ownsRow B 5 1 (.slice (some ⟨g, 0, none⟩) n cap) n (byC (pk1 L)))
    (hP : (byC (pk1 L)).set I (.int .u8 (Z : Int)) = byC (pkL L')) (hbB : b < B) (hBs : B ≤ w.heap.size) (hl : L'.length = S + t) (hn : (S + t + 7) / 8 = n) (hs : S + t ≤ 1000000000) :
    WrAt ((w.setCell ⟨g, I, none⟩ (.int .u8 (Z : Int))).setCell ⟨b, 1, none⟩ (.int .i64 ((S : Int) + (t : Int)))).drew b B L' ∧ WKp b B w ((w.setCell ⟨g, I, none⟩ (.int .u8 (Z : Int))).setCell ⟨b, 1, none⟩ (.int .i64 ((S : Int) + (t : Int)))).drew := by
  have e : ((S : Int) + (t : Int)) = ((S + t : Nat) : Int) := by omega
  rw [e]
  have hg := (hO.lt g rfl).1
  obtain ⟨h1, h2⟩ := hO.stored I (.int .u8 (Z : Int))
  rw [hP] at h1
  have hb1 : WrBox (w.setCell ⟨g, I, none⟩ (.int .u8 (Z : Int))) b (.slice (some ⟨g, 0, none⟩) n cap) S := hB.same (Below.heap_setCell _ _ _ _ (show b ≠ g by omega))
  have D : Ext ((w.setCell ⟨g, I, none⟩ (.int .u8 (Z : Int))).setCell ⟨b, 1, none⟩ (.int .i64 ((S + t : Nat) : Int))) ((w.setCell ⟨g, I, none⟩ (.int .u8 (Z : Int))).setCell ⟨b, 1, none⟩ (.int .i64 ((S + t : Nat) : Int))).drew := (Ext.refl _).drew
  have hA : WrAt ((w.setCell ⟨g, I, none⟩ (.int .u8 (Z : Int))).setCell ⟨b, 1, none⟩ (.int .i64 ((S + t : Nat) : Int))) b B L' :=
    ⟨_, by rw [hl]; exact hb1.siz _, by rw [hl, hn]; exact own_set_lt h1 _ hbB, ⟨hbB, by simpa using hBs⟩, by omega⟩
  exact ⟨hA.ext D, ((own_apart (b := b) hO h2).trans (WKp.of_kp ((Kp.refl b _).set 1 _))).ext D⟩
/-- an error, the writer's bits -/
def WPPost (w : World) (b B : Nat) (l : List Bool) (f : Fall) (e : Ending) (w' : World) : Prop := ∃ x, e = .returned x ∧ WrAt w' b B l ∧ WKp b B w w' ∧ ErrIs w' f x
set_option maxHeartbeats 8000000 in
set_option maxRecDepth 20000 in
theorem wput_yes (b B v N : Nat) (l : List Bool) (w : World) (h : WrAt w b B l) (hN : N ≤ 32) (hv : v < 2 ^ N) (hl : l.length + N ≤ 900000000) :
    Calls Tryz.prog 51 #[.pointer (some ⟨b, 0, none⟩), .int .i64 (v : Int), .int .i64 (N : Int)] w (WPPost w b B (l ++ bsOf v N) none) := by
  have HA := Lib.hid h
  have hv32 : v < 4294967296 := Nat.lt_of_lt_of_le hv (Nat.pow_le_pow_right (by decide) hN)
  have hsh : (v : Int) / 2 ^ N = 0 := by
    have : ((v / 2 ^ N : Nat) : Int) = 0 := by rw [Nat.div_eq_of_lt hv]; rfl
    rw [← this]; simp
  have HV := Lib.hid hv
  clear h hv
  go_enter Tryz.func51, Tryz.ntmps51
  go_wp2_with fail
  go_loopw [2] (fun nv wr => ∃ k, k ≤ N ∧ nv = .int .i64 ((N - k : Nat) : Int) ∧ Hid (WrAt wr b B (l ++ bsOf (v / 2 ^ (N - k)) k)) ∧ Hid (WKp b B w wr)) (fun nv _ => (intOf nv).toNat)
  case atStart => exact ⟨0, Nat.zero_le _, by rw [Nat.sub_zero], by show WrAt _ _ _ _; rw [show bsOf (v / 2 ^ (N - 0)) 0 = [] from rfl, List.append_nil]; exact HA.out, WKp.refl _ _ _⟩
  case round =>
    clear HA hsh
    obtain ⟨k, hk, rfl, HR, HK⟩ := hrel
    by_cases hlt : k < N
    · obtain ⟨L, hL⟩ : ∃ L, l ++ bsOf (v / 2 ^ (N - k)) k = L := ⟨_, rfl⟩
      have hLl : L.length = l.length + k := by rw [← hL, List.length_append, bsOf_length]
      rw [hL] at HR
      obtain ⟨vv, hbx, ho, h3, h4⟩ := HR.out
      obtain ⟨S, hS⟩ : ∃ S, L.length = S := ⟨_, rfl⟩
      obtain ⟨r, hr⟩ : ∃ r, S % 8 = r := ⟨_, rfl⟩
      obtain ⟨I, hI⟩ : ∃ I, S / 8 = I := ⟨_, rfl⟩
      obtain ⟨m, hm⟩ : ∃ m, N - k = m := ⟨_, rfl⟩
      obtain ⟨u, hu⟩ : ∃ u, 8 - r = u := ⟨_, rfl⟩
      obtain ⟨t, ht⟩ : ∃ t, min u m = t := ⟨_, rfl⟩
      obtain ⟨d, hd⟩ : ∃ d, u - t = d := ⟨_, rfl⟩
      obtain ⟨m', hm'⟩ : ∃ m', m - t = m' := ⟨_, rfl⟩
      obtain ⟨x, hx⟩ : ∃ x, v / 2 ^ m' = x := ⟨_, rfl⟩
      obtain ⟨y, hy⟩ : ∃ y, x % 2 ^ t = y := ⟨_, rfl⟩
      have hyt : y < 2 ^ t := by rw [← hy]; exact Nat.mod_lt _ (Nat.two_pow_pos t)
      have htb : 1 ≤ t ∧ t ≤ 8 ∧ r + t ≤ 8 ∧ t ≤ m := by omega
      have hput := pk1_put L y t hyt htb.1 (by rw [hS, hr]; omega)
      have hlist := put_list l v m t k htb.2.2.2
      rw [← hm, hL, hm, hm', hx, hy] at hlist
      obtain ⟨q, hq⟩ := pk_free L
      rw [hS, hr, hu, hI] at hq
      rw [hS, hr, hI, show 8 - r - t = d by omega] at hput
      obtain ⟨X, hX⟩ : ∃ X, pkB L I = X := ⟨_, rfl⟩
      have hX8 : X < 256 := by rw [← hX]; exact pkB_lt L I
      rw [hX] at hput hq
      obtain ⟨Y, hY⟩ : ∃ Y, y * 2 ^ d = Y := ⟨_, rfl⟩
      have hYu : Y < 2 ^ u := by
        rw [← hY, show u = t + d by omega, Nat.pow_add]
        exact Nat.mul_lt_mul_of_pos_right hyt (Nat.two_pow_pos d)
      have h2u : q * 2 ^ u + 2 ^ u ≤ 256 := by
        have e : 256 = 2 ^ r * 2 ^ u := by rw [← Nat.pow_add, show r + u = 8 by omega]
        rw [e, ← Nat.succ_mul]
        refine Nat.mul_le_mul_right _ ?_
        rw [hq] at hX8
        rw [e] at hX8
        exact Nat.lt_of_mul_lt_mul_right hX8
      have hor := or_byte q Y u hYu (by omega)
      rw [← hq] at hor
      obtain ⟨n, hn⟩ : ∃ n, I + 1 = n := ⟨_, rfl⟩
      have hxm : x ≤ v := by rw [← hx]; exact Nat.div_le_self _ _
      have hand := and_mask x t (by omega) (by omega)
      rw [hy] at hand
      rw [hY] at hput
      obtain ⟨M, hM⟩ : ∃ M, 2 ^ t = M := ⟨_, rfl⟩
      have hM1 : 1 ≤ M ∧ M ≤ 256 := by rw [← hM]; exact ⟨Nat.two_pow_pos t, Nat.le_trans (Nat.pow_le_pow_right (by decide) htb.2.1) (by decide)⟩
      obtain ⟨M1, hMM⟩ : ∃ M1, M - 1 = M1 := ⟨_, rfl⟩
      rw [hM, hMM] at hand
      rw [hM] at hyt
      have hdp : 1 ≤ 2 ^ d ∧ 2 ^ d ≤ 256 := ⟨Nat.two_pow_pos d, Nat.le_trans (Nat.pow_le_pow_right (by decide) (show d ≤ 8 by omega)) (by decide)⟩
      obtain ⟨Z, hZZ⟩ : ∃ Z, X + Y = Z := ⟨_, rfl⟩
      have hZ : Z < 256 := by omega
      rw [hZZ] at hor hput
      have i1 : (S : Int) % 8 = (r : Int) := by omega
      have i2 : Int.tmod (S : Int) 8 = (r : Int) := by rw [Int.tmod_eq_emod_of_nonneg (by omega)]; exact i1
      have i3 : IntKind.i64.wrap (8 - (r : Int)) = (u : Int) := by rw [IntKind.wrap_i64]; omega
      have i4 : (8 : Int) - (r : Int) = (u : Int) := by omega
      have i5 : min (u : Int) (m : Int) = (t : Int) := by omega
      have i6 : IntKind.i64.wrap ((m : Int) - (t : Int)) = (m' : Int) := by rw [IntKind.wrap_i64]; omega
      have i7 : (m : Int) - (t : Int) = (m' : Int) := by omega
      have i8 : (v : Int) / 2 ^ m' = (x : Int) := by rw [← hx]; simp
      have i9 : (2 : Int) ^ t = (M : Int) := by rw [← hM]; simp
      have j1 : IntKind.i64.wrap (1 * 2 ^ t) = (M : Int) := by rw [i9, IntKind.wrap_i64]; omega
      have j2 : IntKind.i64.wrap (M : Int) = (M : Int) := by rw [IntKind.wrap_i64]; omega
      have j3 : IntKind.i64.wrap ((M : Int) - 1) = (M1 : Int) := by rw [IntKind.wrap_i64]; omega
      have j4 : (M : Int) - 1 = (M1 : Int) := by omega
      have j5 : IntKind.i64.wrap ((u : Int) - (t : Int)) = (d : Int) := by rw [IntKind.wrap_i64]; omega
      have j6 : (u : Int) - (t : Int) = (d : Int) := by omega
      have j7 : (y : Int) * 2 ^ d = (Y : Int) := by rw [← hY]; simp
      have j8 : IntKind.i64.wrap (Y : Int) = (Y : Int) := by rw [IntKind.wrap_i64]; omega
      have j9 : IntKind.u8.wrap (Y : Int) = (Y : Int) := by rw [IntKind.wrap_u8]; omega
      have jA : IntKind.i64.wrap ((n : Int) - 1) = (I : Int) := by rw [IntKind.wrap_i64]; omega
      have jB : (n : Int) - 1 = (I : Int) := by omega
      have jC : IntKind.i64.wrap ((S : Int) + (t : Int)) = ((S + t : Nat) : Int) := by rw [IntKind.wrap_i64]; omega
      have jD : IntKind.i64.wrap (I : Int) = (I : Int) := by rw [IntKind.wrap_i64]; omega
      have m1 : (0 : Int) < (m : Int) := by omega
      have k1 : (0 : Int) ≤ (I : Int) := by omega
      have k2 : (I : Int) < (n : Int) := by omega
      have d9 : (0 : Int) ≤ (d : Int) ∧ (d : Int) ≤ 64 := by omega
      have t9 : (0 : Int) ≤ (t : Int) ∧ (t : Int) ≤ 64 := by omega
      have n9 : (0 : Int) ≤ (m' : Int) ∧ (m' : Int) ≤ 64 := by omega
      have r2 := mn2
      have HE : Hid (k + t ≤ N ∧ N - (k + t) = m' ∧ L ++ bsOf y t = l ++ bsOf (v / 2 ^ (N - (k + t))) (k + t) ∧ m' < N - k ∧ (L ++ bsOf y t).length = S + t ∧ (S + t + 7) / 8 = n ∧ S + t ≤ 1000000000) := ⟨by omega, by omega, by rw [show N - (k + t) = m' by omega, hx]; exact hlist, by omega, by rw [List.length_append, bsOf_length, hS], by omega, by omega⟩
      have HP := Lib.hid hput
      have HXg : Hid ((byC (pk1 L))[I]? = some (.int .u8 (X : Int))) := by
        show _ = _
        unfold byC pk1
        rw [hS, hI, List.getElem?_map, List.getElem?_map, List.getElem?_range (by omega), ← hX]
        rfl
      have HMM := Lib.hid hm
      rw [hm]
      obtain ⟨⟨c0, c1⟩, f0, f1⟩ := id hbx
      rw [hS] at c1
      by_cases h0 : r = 0
      · have u8e : ((u : Int) == 8) = true := by rw [beq_iff_eq]; omega
        have hN0 : (L.length + 7) / 8 = I := by rw [hS]; omega
        have hfull := pk1_full L (by rw [hS, hr]; exact h0)
        rw [hN0] at ho
        obtain ⟨aa, ac, rfl⟩ : ∃ aa ac, vv = .slice aa I ac := by
          rcases ho.2 with ⟨rfl, h0⟩ | ⟨g, cap, cur, rfl, -⟩
          · exact ⟨none, 0, by rw [h0]⟩
          · exact ⟨_, _, rfl⟩
        have HFU : Hid (byC (pkL L) ++ [.int .u8 0] = byC (pk1 L)) := by show _ = _; rw [← hfull]; unfold byC; simp
        have HO := Lib.hid ho
        have HB := Lib.hid (show WrBox wr b (.slice aa I ac) S by rw [← hS]; exact hbx)
        have hbB := h3.1
        have hBS := h3.2
        have hnI : I < n := by omega
        have HNI : Hid (n = I + 1) := hn.symm
        have hIb : I ≤ 1000000000 := by omega
        clear hL hLl hbx ho hS hr hI hm hu ht hd hm' hx hy hyt hlist hq hX hYu h2u hM hMM hput HR h0 hN0 h3 h4 hn hZZ hX8 hfull
        go_wp2_with (at_builtin; refine push_u8 rfl _ _ 26 rfl Tryz.underlying26 _ I _ _ rfl HO.out (by show Value.slice (some ⟨wr.heap.size, 0, none⟩) 1 1 = _; simp) hBS (by omega) ?_; intro g cap w7 h1 h2; have HB7 := Lib.hid (HB.out.same (own_apart_b HO.out h2 hbB (Ext.lt (p := ⟨b, 0, none⟩) HB.out.1.1))); have HK7 := Lib.hid (HK.out.trans (own_apart (b := b) HO.out h2)); have HO7 := Lib.hid h1; have HS7 := Nat.le_trans hBS h2.size; obtain ⟨⟨y0, y1⟩, y2, y3⟩ := HB7.out; clear h1 h2 c0 c1 f0 f1)
        have HB8 := Lib.hid (HB7.out.row (.slice (some ⟨g, 0, none⟩) n cap))
        have HO8 : Hid ((w7.setCell ⟨b, 0, none⟩ (.slice (some ⟨g, 0, none⟩) n cap)).ownsRow B 5 1 (.slice (some ⟨g, 0, none⟩) n cap) n (byC (pk1 L))) := own_set_lt (by have := HO7.out; rw [HFU.out, ← HNI.out] at this; exact this) _ hbB
        have HK8 := Lib.hid (HK7.out.trans (WKp.of_kp ((Kp.refl b w7).set 0 (.slice (some ⟨g, 0, none⟩) n cap))))
        have HS8 : B ≤ (w7.setCell ⟨b, 0, none⟩ (.slice (some ⟨g, 0, none⟩) n cap)).heap.size := by simpa using HS7
        have hbg : b < g := by have := (HO8.out.lt g rfl).1; omega
        rw [← HNI.out]
        clear HB7 HO7 HK7 HS7 y0 y1 y2 y3 HO HB hBS HNI HFU HK
        revert HB8 HO8 HK8 HS8
        generalize w7.setCell ⟨b, 0, none⟩ (.slice (some ⟨g, 0, none⟩) n cap) = w8
        intro HB8 HO8 HK8 HS8
        obtain ⟨⟨a0, a1⟩, a2, a3⟩ := HB8.out
        go_wp2_with fail
        go_quiet (fail)
        have D8 : Ext w8 (w8.drewN nq) := (Ext.refl w8).drewN _
        have HB9 := Lib.hid (HB8.out.ext D8)
        have HO9 := Lib.hid (HO8.out.kept (row := none) ⟨Below.os D8, Below.tape D8, Below.output D8, D8.size, fun i hi _ => D8.block hi⟩ (by cases hv : Value.ownBlock _ <;> simp))
        have HK9 := Lib.hid (HK8.out.ext D8)
        have HS9 : B ≤ (w8.drewN nq).heap.size := Nat.le_trans HS8 D8.size
        clear HB8 HO8 HK8 D8 HS8 a0 a1 a2 a3
        revert HB9 HO9 HK9 HS9
        generalize w8.drewN nq = w9
        intro HB9 HO9 HK9 HS9
        obtain ⟨⟨a0, a1⟩, a2, a3⟩ := HB9.out
        have cx : w9.cell? ⟨g, I, none⟩ = some (.int .u8 (X : Int)) := by
          rw [HO9.out.cellAt I (by omega)]
          exact HXg.out
        have fx := HO9.out.frozenAt I
        go_wp2_with fail
        go_region
        all_goals go_wp2
        go_roundw
        case rel => exact ⟨k + t, HE.out.1, by rw [HE.out.2.1], by show WrAt _ _ _ _; rw [← HE.out.2.2.1]; exact (wput_step HB9.out HO9.out HP.out hbB HS9 HE.out.2.2.2.2.1 HE.out.2.2.2.2.2.1 HE.out.2.2.2.2.2.2).1, HK9.out.trans (wput_step HB9.out HO9.out HP.out hbB HS9 HE.out.2.2.2.2.1 HE.out.2.2.2.2.2.1 HE.out.2.2.2.2.2.2).2⟩
        case measure => simp only [intOf]; have h1 := HE.out.2.2.2.1; have h2 := HMM.out; omega
      · have u8e : ((u : Int) == 8) = false := by rw [beq_eq_false_iff_ne]; omega
        have hN0 : (L.length + 7) / 8 = n := by rw [hS]; omega
        rw [hN0, pk1_part L (by rw [hS, hr]; exact h0)] at ho
        obtain ⟨g, cap, rfl⟩ : ∃ g cap, vv = .slice (some ⟨g, 0, none⟩) n cap := by
          rcases ho.2 with ⟨-, h0⟩ | ⟨gg, cap, cur, e, -⟩
          · omega
          · exact ⟨gg, cap, e⟩
        have HB8 := Lib.hid (show WrBox wr b (.slice (some ⟨g, 0, none⟩) n cap) S by rw [← hS]; exact hbx)
        have HO8 := Lib.hid ho
        have HK8 := Lib.hid HK.out
        have HS8 : B ≤ wr.heap.size := h3.2
        have hbB := h3.1
        have hbg : b < g := by have := (ho.lt g rfl).1; omega
        have hnI : I < n := by omega
        obtain ⟨w8, rfl⟩ : ∃ w8 : World, w8 = wr := ⟨_, rfl⟩
        clear hL hLl hbx ho hS hr hI hm hu ht hd hm' hx hy hyt hlist hq hX hYu h2u hM hMM hput HR HK h0 hN0 h3 h4 hn hZZ hX8
        obtain ⟨a0, a1, a2, a3⟩ : _ ∧ _ ∧ _ ∧ _ := ⟨c0, c1, f0, f1⟩
        clear c0 c1 f0 f1
        go_wp2_with fail
        go_quiet (fail)
        have D8 : Ext w8 (w8.drewN nq) := (Ext.refl w8).drewN _
        have HB9 := Lib.hid (HB8.out.ext D8)
        have HO9 := Lib.hid (HO8.out.kept (row := none) ⟨Below.os D8, Below.tape D8, Below.output D8, D8.size, fun i hi _ => D8.block hi⟩ (by cases hv : Value.ownBlock _ <;> simp))
        have HK9 := Lib.hid (HK8.out.ext D8)
        have HS9 : B ≤ (w8.drewN nq).heap.size := Nat.le_trans HS8 D8.size
        clear HB8 HO8 HK8 D8 HS8 a0 a1 a2 a3
        revert HB9 HO9 HK9 HS9
        generalize w8.drewN nq = w9
        intro HB9 HO9 HK9 HS9
        obtain ⟨⟨a0, a1⟩, a2, a3⟩ := HB9.out
        have cx : w9.cell? ⟨g, I, none⟩ = some (.int .u8 (X : Int)) := by
          rw [HO9.out.cellAt I (by omega)]
          exact HXg.out
        have fx := HO9.out.frozenAt I
        go_wp2_with fail
        go_region
        all_goals go_wp2
        go_roundw
        case rel => exact ⟨k + t, HE.out.1, by rw [HE.out.2.1], by show WrAt _ _ _ _; rw [← HE.out.2.2.1]; exact (wput_step HB9.out HO9.out HP.out hbB HS9 HE.out.2.2.2.2.1 HE.out.2.2.2.2.2.1 HE.out.2.2.2.2.2.2).1, HK9.out.trans (wput_step HB9.out HO9.out HP.out hbB HS9 HE.out.2.2.2.2.1 HE.out.2.2.2.2.2.1 HE.out.2.2.2.2.2.2).2⟩
        case measure => simp only [intOf]; have h1 := HE.out.2.2.2.1; have h2 := HMM.out; omega
    · obtain rfl : k = N := by omega
      have n0 : ((k - k : Nat) : Int) = 0 := by omega
      rw [n0]
      have HF : Hid (WrAt wr b B (l ++ bsOf v k)) := by have := HR.out; rwa [Nat.sub_self, Nat.pow_zero, Nat.div_one] at this
      clear n0 HR
      go_wp2
      go_ret
      exact ⟨_, rfl, HF.out, HK.out, rfl⟩
end Go.Proofs.YtgohlhgapboijaaGreatDoor

/- (*bits.Writer).Put at all arguments; Flag, Bytes: contracts over this seat's translation. -/
namespace Go.Proofs.YtgohlhgapboijaaGreatDoor
set_option linter.unusedVariables false
set_option linter.unusedSimpArgs false
open Go.RowKit Go.Extern.Stop Go.Stop Go.Extern

def putOk (v n : Int) : Prop := (0 ≤ n ∧ n ≤ 32) ∧ 0 ≤ v ∧ v < 2 ^ n.toNat
instance (v n : Int) : Decidable (putOk v n) := by unfold putOk; infer_instance
def wpF (v n : Int) : Fall := if putOk v n then none else range
def wpL (l : List Bool) (v n : Int) : List Bool := if putOk v n then l ++ bsOf v.toNat n.toNat else l
set_option maxHeartbeats 4000000 in
set_option maxRecDepth 20000 in
theorem wput_any (b B : Nat) (v n : Int) (l : List Bool) (w : World) (h : WrAt w b B l) (hl : l.length ≤ 800000000) :
    Calls Tryz.prog 51 #[.pointer (some ⟨b, 0, none⟩), .int .i64 v, .int .i64 n] w (WPPost w b B (wpL l v n) (wpF v n)) := by
  by_cases h1 : n < 0
  · have hno : ¬ putOk v n := fun ⟨k, _⟩ => by omega
    have HF : Hid (wpF v n = range) := by show _ = _; unfold wpF; rw [if_neg hno]
    have HL : Hid (wpL l v n = l) := by show _ = _; unfold wpL; rw [if_neg hno]
    clear hno
    go_enter Tryz.func51, Tryz.ntmps51
    go_wp2
    go_ret
    exact ⟨.iface 31 (.int .i64 3), rfl, by rw [HL.out]; exact h, WKp.refl _ _ _, by rw [HF.out]; exact ErrIs.code (by decide)⟩
  · by_cases h2 : 32 < n
    · have hno : ¬ putOk v n := fun ⟨k, _⟩ => by omega
      have HF : Hid (wpF v n = range) := by show _ = _; unfold wpF; rw [if_neg hno]
      have HL : Hid (wpL l v n = l) := by show _ = _; unfold wpL; rw [if_neg hno]
      clear hno
      go_enter Tryz.func51, Tryz.ntmps51
      go_wp2
      go_ret
      exact ⟨.iface 31 (.int .i64 3), rfl, by rw [HL.out]; exact h, WKp.refl _ _ _, by rw [HF.out]; exact ErrIs.code (by decide)⟩
    · by_cases h3 : v < 0
      · have hno : ¬ putOk v n := fun ⟨_, k⟩ => by omega
        have HF : Hid (wpF v n = range) := by show _ = _; unfold wpF; rw [if_neg hno]
        have HL : Hid (wpL l v n = l) := by show _ = _; unfold wpL; rw [if_neg hno]
        clear hno
        go_enter Tryz.func51, Tryz.ntmps51
        go_wp2
        go_ret
        exact ⟨.iface 31 (.int .i64 3), rfl, by rw [HL.out]; exact h, WKp.refl _ _ _, by rw [HF.out]; exact ErrIs.code (by decide)⟩
      · obtain ⟨N, rfl⟩ : ∃ N : Nat, n = (N : Int) := ⟨n.toNat, by omega⟩
        obtain ⟨V, rfl⟩ : ∃ V : Nat, v = (V : Int) := ⟨v.toNat, by omega⟩
        have ep : ((2 ^ N : Nat) : Int) = (2 : Int) ^ N := by simp
        by_cases h4 : V < 2 ^ N
        · have hok : putOk (V : Int) (N : Int) := ⟨by omega, by omega, by rw [Int.toNat_natCast, ← ep]; omega⟩
          have e1 : wpF (V : Int) (N : Int) = none := by unfold wpF; rw [if_pos hok]
          have e2 : wpL l (V : Int) (N : Int) = l ++ bsOf V N := by unfold wpL; rw [if_pos hok]; rfl
          rw [e1, e2]
          exact wput_yes b B V N l w h (by omega) h4 (by omega)
        · have hno : ¬ putOk (V : Int) (N : Int) := fun ⟨_, _, k⟩ => by rw [Int.toNat_natCast, ← ep] at k; omega
          have hd : 1 ≤ V / 2 ^ N := (Nat.le_div_iff_mul_le (Nat.two_pow_pos N)).2 (by omega)
          obtain ⟨D, hD⟩ : ∃ D, V / 2 ^ N = D := ⟨_, rfl⟩
          have q1 : (V : Int) / 2 ^ N = (D : Int) := by rw [← hD]; simp
          rw [hD] at hd
          have q2 : ((D : Int) != 0) = true := by rw [bne_iff_ne]; omega
          have HF : Hid (wpF (V : Int) (N : Int) = range) := by show _ = _; unfold wpF; rw [if_neg hno]
          have HL : Hid (wpL l (V : Int) (N : Int) = l) := by show _ = _; unfold wpL; rw [if_neg hno]
          clear hno ep h4 hD
          go_enter Tryz.func51, Tryz.ntmps51
          go_wp2
          go_ret
          exact ⟨.iface 31 (.int .i64 3), rfl, by rw [HL.out]; exact h, WKp.refl _ _ _, by rw [HF.out]; exact ErrIs.code (by decide)⟩
set_option maxHeartbeats 4000000 in
set_option maxRecDepth 20000 in
theorem wflag_any (b B : Nat) (x : Bool) (l : List Bool) (w : World) (h : WrAt w b B l) (hl : l.length ≤ 800000000) :
    Calls Tryz.prog 78 #[.pointer (some ⟨b, 0, none⟩), .bool x] w (WAPost w b B (l ++ [x])) := by
  cases x with
  | true =>
    have U := Lib.hid (wput_yes b B 1 1 l w h (by decide) (by decide) (by omega))
    have HB : Hid (bsOf 1 1 = [true]) := by show _ = _; decide
    clear h hl
    go_enter Tryz.func78, Tryz.ntmps78
    go_wp2_with fail
    refine (U.out).mono ?_; rintro e w1 ⟨x1, rfl, h1, k1, -⟩
    go_wp2
    go_end0
    exact ⟨rfl, by rw [← HB.out]; exact h1, k1⟩
  | false =>
    have U := Lib.hid (wput_yes b B 0 1 l w h (by decide) (by decide) (by omega))
    have HB : Hid (bsOf 0 1 = [false]) := by show _ = _; decide
    clear h hl
    go_enter Tryz.func78, Tryz.ntmps78
    go_wp2_with fail
    refine (U.out).mono ?_; rintro e w1 ⟨x1, rfl, h1, k1, -⟩
    go_wp2
    go_end0
    exact ⟨rfl, by rw [← HB.out]; exact h1, k1⟩
set_option maxRecDepth 20000 in
theorem wbytes_any (b B : Nat) (l : List Bool) (w : World) (h : WrAt w b B l) : Calls Tryz.prog 21 #[.pointer (some ⟨b, 0, none⟩)] w (CPost w (pkL l)) := by
  obtain ⟨v, ⟨⟨c0, c1⟩, f0, f1⟩, ho, h3, h4⟩ := h
  have U := Lib.hid (clb_any (pkL l) v w (Bys.of_owns ho (pkL_lt l) (by rw [pkL_length]; omega)))
  obtain ⟨a, cap, rfl⟩ : ∃ a cap, v = .slice a ((l.length + 7) / 8) cap := by
    rcases ho.2 with ⟨rfl, h0⟩ | ⟨g, cap, cur, rfl, -⟩
    · exact ⟨none, 0, by rw [h0]⟩
    · exact ⟨_, _, rfl⟩
  generalize (l.length + 7) / 8 = n at *
  clear ho h3 h4 c1 f0 f1
  go_enter Tryz.func21, Tryz.ntmps21
  go_wp2_with fail
  refine (U.out).mono ?_; rintro e w1 ⟨u, rfl, ho, hx⟩
  go_wp2
  go_ret
  exact ⟨_, rfl, ho, hx⟩
end Go.Proofs.YtgohlhgapboijaaGreatDoor

/- (*bits.Reader).Get: its contract over this seat's translation. -/
namespace Go.Proofs.YtgohlhgapboijaaGreatDoor
set_option linter.unusedVariables false
set_option linter.unusedSimpArgs false
open Go.RowKit Go.Extern.Stop Go.Stop Go.Extern
variable {F : Nat → Prop}

def bitsS : ByteArray := { data := #[98, 105, 116, 115] }
/-- why bits are not read; what is read; where the reader then stands -/
def rdF (bs : List Nat) (p : Nat) (n : Int) : Fall := if 0 ≤ n ∧ n ≤ 32 then (if n ≤ ((8 * bs.length - p : Nat) : Int) then none else some ([(bitsS, (p : Int))], 1)) else range
def rdV (bs : List Nat) (p : Nat) (n : Int) : Int := match rdF bs p n with
  | none => (nmN bs p n.toNat : Nat)
  | some _ => 0
def rdP (bs : List Nat) (p : Nat) (n : Int) : Nat := match rdF bs p n with
  | none => p + n.toNat
  | some _ => p
/-- a number and an error, the reader's place -/
def RgPost (F : Nat → Prop) (w : World) (b : Nat) (bs : List Nat) (v : Int) (q : Nat) (f : Fall) (e : Ending) (w' : World) : Prop := ∃ x, e = .returned (.tuple #[.int .i64 v, x]) ∧ Kp b w w' ∧ RdAt F w' b bs q ∧ ErrIs w' f x
set_option maxHeartbeats 4000000 in
set_option maxRecDepth 20000 in
theorem rget_yes (b p N : Nat) (bs : List Nat) (w : World) (h : RdAt F w b bs p) (hp : p + N ≤ 8 * bs.length) (hN : N ≤ 32) :
    Calls Tryz.prog 62 #[.pointer (some ⟨b, 0, none⟩), .int .i64 (N : Int)] w (RgPost F w b bs (nmN bs p N : Nat) (p + N) none) := by
  have L := Lib.hid (left_any b p bs w h (by omega))
  have HR := Lib.hid h
  have hl : bs.length ≤ 140737488355328 := by obtain ⟨_, _, _, ⟨-, -, hl⟩, -⟩ := h; exact hl
  obtain ⟨D, hD⟩ : ∃ D, 8 * bs.length - p = D := ⟨_, rfl⟩
  rw [hD] at L
  have d1 : (N : Int) ≤ (D : Int) := by omega
  clear h hD
  go_enter Tryz.func62, Tryz.ntmps62
  go_wp2_with fail
  refine (L.out).mono ?_; rintro e w1 ⟨rfl, hx1⟩
  have HR1 := Lib.hid (HR.out.ext hx1)
  have K1 := Lib.hid (Kp.of_ext (b := b) hx1)
  clear HR hx1 L
  go_wp2_with fail
  go_loopw [1, 6] (fun nv vv wr => ∃ k : Nat, k ≤ N ∧ nv = .int .i64 ((N - k : Nat) : Int) ∧ vv = .int .i64 ((nmN bs p k : Nat) : Int) ∧ Hid (RdAt F wr b bs (p + k)) ∧ Hid (Kp b w wr)) (fun nv _ _ => (intOf nv).toNat)
  case atStart => exact ⟨0, Nat.zero_le _, by rw [Nat.sub_zero], rfl, HR1.out, K1.out⟩
  case round =>
    clear HR1 K1
    obtain ⟨k, hk, rfl, rfl, HR, HK⟩ := hrel
    by_cases hlt : k < N
    · obtain ⟨a, cap, ⟨c0, c1, f1⟩, hB, hne⟩ := HR.out
      obtain ⟨P, hP⟩ : ∃ P, P = p + k := ⟨_, rfl⟩
      obtain ⟨q, hq⟩ : ∃ q, q = P / 8 := ⟨_, rfl⟩
      obtain ⟨r, hr⟩ : ∃ r, r = P % 8 := ⟨_, rfl⟩
      obtain ⟨m, hm⟩ : ∃ m, m = N - k := ⟨_, rfl⟩
      obtain ⟨u, hu⟩ : ∃ u, u = 8 - r := ⟨_, rfl⟩
      obtain ⟨t, ht⟩ : ∃ t, t = min u m := ⟨_, rfl⟩
      obtain ⟨d, hd⟩ : ∃ d, d = u - t := ⟨_, rfl⟩
      have hq1 : q < bs.length := by omega
      obtain ⟨g, off, rfl⟩ := hB.had (by omega)
      have cB := hB.at (nget_of_lt hq1)
      have hBl := hB.lt q
      have hin := nmN_in bs P t (by omega)
      have hadd := nmN_add bs p k t
      have hv := nmN_lt bs p k
      have hv2 := nmN_lt bs p (k + t)
      rw [← hP] at hadd c1
      rw [← hq, ← hr, show 8 - r - t = d by omega] at hin
      obtain ⟨B, hBB⟩ : ∃ B, bs.getD q 0 = B := ⟨_, rfl⟩
      rw [hBB] at cB hBl hin
      obtain ⟨x, hx⟩ : ∃ x, B / 2 ^ d = x := ⟨_, rfl⟩
      obtain ⟨y, hy⟩ : ∃ y, x % 2 ^ t = y := ⟨_, rfl⟩
      rw [hx, hy] at hin
      rw [hin] at hadd
      obtain ⟨V, hV⟩ : ∃ V, nmN bs p k = V := ⟨_, rfl⟩
      obtain ⟨V2, hV2⟩ : ∃ V2, nmN bs p (k + t) = V2 := ⟨_, rfl⟩
      rw [hV] at hv hadd ⊢
      rw [hV2] at hv2 hadd
      have hxB : x ≤ B := by rw [← hx]; exact Nat.div_le_self _ _
      have hyt : y < 2 ^ t := by rw [← hy]; exact Nat.mod_lt _ (Nat.two_pow_pos t)
      have ht8 : t ≤ 8 ∧ 1 ≤ t := by omega
      have hM : 2 ^ t ≤ 256 := Nat.le_trans (Nat.pow_le_pow_right (by decide) ht8.1) (by decide)
      have hM0 : 1 ≤ 2 ^ t := Nat.two_pow_pos t
      have hVb : V2 < 2 ^ 32 := Nat.lt_of_lt_of_le hv2 (Nat.pow_le_pow_right (by decide) (by omega))
      have b1 := and_mask x t (by omega) (by omega)
      have b2 := or_low V y t hyt (by omega)
      rw [hy] at b1
      rw [← hadd] at b2
      obtain ⟨M, hMM⟩ : ∃ M, 2 ^ t = M := ⟨_, rfl⟩
      obtain ⟨M1, hM1⟩ : ∃ M1, M - 1 = M1 := ⟨_, rfl⟩
      obtain ⟨Z, hZ⟩ : ∃ Z, V * M = Z := ⟨_, rfl⟩
      rw [hMM] at hM hM0 b1 b2 hyt hadd
      rw [hM1] at b1
      rw [hZ] at b2 hadd
      have i1 : (P : Int) % 8 = (r : Int) := by omega
      have i2 : Int.tmod (P : Int) 8 = (r : Int) := by rw [Int.tmod_eq_emod_of_nonneg (by omega)]; exact i1
      have i3 : Int.tdiv (P : Int) 8 = (q : Int) := by rw [Int.tdiv_eq_ediv_of_nonneg (by omega)]; omega
      have i4 : (P : Int) / 8 = (q : Int) := by omega
      have i5 : IntKind.i64.wrap (8 - (r : Int)) = (u : Int) := by rw [IntKind.wrap_i64]; omega
      have i6 : (8 : Int) - (r : Int) = (u : Int) := by omega
      have i7 : min (u : Int) (m : Int) = (t : Int) := by omega
      have i8 : IntKind.i64.wrap ((u : Int) - (t : Int)) = (d : Int) := by rw [IntKind.wrap_i64]; omega
      have i9 : (u : Int) - (t : Int) = (d : Int) := by omega
      have j1 : (B : Int) / 2 ^ d = (x : Int) := by rw [← hx]; simp
      have jp : (2 : Int) ^ t = (M : Int) := by rw [← hMM]; simp
      have j2 : IntKind.i64.wrap (1 * 2 ^ t) = (M : Int) := by rw [jp, IntKind.wrap_i64]; omega
      have j3 : IntKind.i64.wrap (M : Int) = (M : Int) := by rw [IntKind.wrap_i64]; omega
      have j4 : IntKind.i64.wrap ((M : Int) - 1) = (M1 : Int) := by rw [IntKind.wrap_i64]; omega
      have j5 : (M : Int) - 1 = (M1 : Int) := by omega
      have jz : (V : Int) * (M : Int) = (Z : Int) := by rw [← hZ]; simp
      have j6 : IntKind.i64.wrap ((V : Int) * 2 ^ t) = (Z : Int) := by rw [jp, jz, IntKind.wrap_i64]; omega
      have jy : IntKind.i64.wrap (Z : Int) = (Z : Int) := by rw [IntKind.wrap_i64]; omega
      have j7 : IntKind.i64.wrap ((m : Int) - (t : Int)) = ((N - (k + t) : Nat) : Int) := by rw [IntKind.wrap_i64]; omega
      have j8 : (m : Int) - (t : Int) = ((N - (k + t) : Nat) : Int) := by omega
      have j9 : IntKind.i64.wrap ((P : Int) + (t : Int)) = ((P + t : Nat) : Int) := by rw [IntKind.wrap_i64]; omega
      have jA : IntKind.i64.wrap (B : Int) = (B : Int) := by rw [IntKind.wrap_i64]; omega
      have q1 : (0 : Int) ≤ (q : Int) := by omega
      have q2 : (q : Int) < (bs.length : Int) := by omega
      have m1 : (0 : Int) < (m : Int) := by omega
      have r2 := mn2
      have HE : Hid (V2 = nmN bs p (k + t) ∧ P + t = p + (k + t) ∧ k + t ≤ N ∧ N - (k + t) < N - k) := ⟨hV2.symm, by omega, by omega, by omega⟩
      have d9 : (0 : Int) ≤ (d : Int) ∧ (d : Int) ≤ 64 := by omega
      have t9 : (0 : Int) ≤ (t : Int) ∧ (t : Int) ≤ 64 := by omega
      have hPP := Lib.hid hP.symm
      have hmm := Lib.hid hm.symm
      rw [← hm]
      clear hP hq hr hm hu ht hd hin hadd hv hv2 hx hy hV hV2 hMM hM1 hZ hB hBB hne
      go_wp2_with fail
      go_quiet (fail)
      have D1 : Ext wr (wr.drewN nq) := (Ext.refl wr).drewN _
      have HR2 := Lib.hid (HR.out.ext D1)
      have K2 := Lib.hid (HK.out.ext D1)
      clear HR HK D1 c0 c1 f1 cB
      revert HR2 K2
      generalize wr.drewN nq = wq
      intro HR2 K2
      obtain ⟨a, cap, ⟨c0, c1, f1⟩, -, -⟩ := HR2.out
      rw [hPP.out] at c1
      go_wp2
      go_roundw
      case rel => exact ⟨k + t, HE.out.2.2.1, rfl, by rw [HE.out.1], by rw [← HE.out.2.1]; exact HR2.out.set _, K2.out.set 1 _⟩
      case measure => simp only [intOf]; have h1 := HE.out.2.2.2; have h2 := hmm.out; omega
    · obtain rfl : k = N := by omega
      have n0 : ((k - k : Nat) : Int) = 0 := by omega
      rw [n0]
      clear n0
      go_wp2
      go_ret2
      exact ⟨_, rfl, HK.out, HR.out, rfl⟩
end Go.Proofs.YtgohlhgapboijaaGreatDoor

/- (*bits.Reader).Get at all arguments; Flag: contracts over this seat's translation. -/
namespace Go.Proofs.YtgohlhgapboijaaGreatDoor
set_option linter.unusedVariables false
set_option linter.unusedSimpArgs false
open Go.RowKit Go.Extern.Stop Go.Stop Go.Extern
variable {F : Nat → Prop}

set_option maxHeartbeats 4000000 in
set_option maxRecDepth 20000 in
theorem rdget_any (b p : Nat) (n : Int) (bs : List Nat) (w : World) (h : RdAt F w b bs p) (hp : p ≤ 8 * bs.length) :
    Calls Tryz.prog 62 #[.pointer (some ⟨b, 0, none⟩), .int .i64 n] w (RgPost F w b bs (rdV bs p n) (rdP bs p n) (rdF bs p n)) := by
  by_cases h1 : n < 0
  · have HR : Hid (rdF bs p n = range) := by show _ = _; unfold rdF; rw [if_neg (by omega)]
    have HV : Hid (rdV bs p n = 0 ∧ rdP bs p n = p) := by unfold rdV rdP; rw [HR.out]; exact ⟨rfl, rfl⟩
    go_enter Tryz.func62, Tryz.ntmps62
    go_wp2
    go_ret2
    exact ⟨.iface 31 (.int .i64 3), by rw [HV.out.1]; rfl, Kp.refl _ _, by rw [HV.out.2]; exact h, by rw [HR.out]; exact ErrIs.code (by decide)⟩
  · by_cases h2 : 32 < n
    · have HR : Hid (rdF bs p n = range) := by show _ = _; unfold rdF; rw [if_neg (by omega)]
      have HV : Hid (rdV bs p n = 0 ∧ rdP bs p n = p) := by unfold rdV rdP; rw [HR.out]; exact ⟨rfl, rfl⟩
      go_enter Tryz.func62, Tryz.ntmps62
      go_wp2
      go_ret2
      exact ⟨.iface 31 (.int .i64 3), by rw [HV.out.1]; rfl, Kp.refl _ _, by rw [HV.out.2]; exact h, by rw [HR.out]; exact ErrIs.code (by decide)⟩
    · by_cases h3 : n ≤ ((8 * bs.length - p : Nat) : Int)
      · obtain ⟨N, rfl⟩ : ∃ N : Nat, n = (N : Int) := ⟨n.toNat, by omega⟩
        have hR : rdF bs p (N : Int) = none := by unfold rdF; rw [if_pos (by omega), if_pos h3]
        have hV : rdV bs p (N : Int) = (nmN bs p N : Nat) := by unfold rdV; rw [hR]; rfl
        have hP : rdP bs p (N : Int) = p + N := by unfold rdP; rw [hR]; rfl
        rw [hR, hV, hP]
        exact rget_yes b p N bs w h (by omega) (by omega)
      · have L := Lib.hid (left_any b p bs w h hp)
        have HR : Hid (rdF bs p n = some ([(bitsS, (p : Int))], 1)) := by show _ = _; unfold rdF; rw [if_pos (by omega), if_neg h3]
        have HV : Hid (rdV bs p n = 0 ∧ rdP bs p n = p) := by unfold rdV rdP; rw [HR.out]; exact ⟨rfl, rfl⟩
        obtain ⟨D, hD⟩ : ∃ D, 8 * bs.length - p = D := ⟨_, rfl⟩
        rw [hD] at L h3
        have HA := Lib.hid h
        clear h hD hp
        go_enter Tryz.func62, Tryz.ntmps62
        go_wp2_with fail
        refine (L.out).mono ?_; rintro e w1 ⟨rfl, hx1⟩
        have H1 := Lib.hid (HA.out.ext hx1)
        obtain ⟨a, cap, ⟨c0, c1, f1⟩, -, -⟩ := H1.out
        go_wp2_with fail
        refine (in_err bitsS (p : Int) [] 1 (.iface 31 (.int .i64 1)) _ rfl).mono ?_; rintro e w2 ⟨u, rfl, hx2, he2⟩
        go_wp2
        go_ret2
        exact ⟨u, by rw [HV.out.1]; rfl, Kp.of_ext (hx1.trans hx2), by rw [HV.out.2]; exact H1.out.ext hx2, by rw [HR.out]; exact ⟨he2, by decide, by simp⟩⟩
/-- a bit and an error, the reader's place -/
def RfPost (F : Nat → Prop) (w : World) (b : Nat) (bs : List Nat) (v : Bool) (q : Nat) (f : Fall) (e : Ending) (w' : World) : Prop := ∃ x, e = .returned (.tuple #[.bool v, x]) ∧ Kp b w w' ∧ RdAt F w' b bs q ∧ ErrIs w' f x
set_option maxHeartbeats 4000000 in
set_option maxRecDepth 20000 in
theorem rdflag_any (b p : Nat) (bs : List Nat) (w : World) (h : RdAt F w b bs p) (hp : p ≤ 8 * bs.length) :
    Calls Tryz.prog 84 #[.pointer (some ⟨b, 0, none⟩)] w (RfPost F w b bs (rdV bs p 1 == 1) (rdP bs p 1) (rdF bs p 1)) := by
  have G := Lib.hid (rdget_any b p 1 bs w h hp)
  obtain ⟨v, hv⟩ : ∃ v, rdV bs p 1 = v := ⟨_, rfl⟩
  rw [hv] at G ⊢
  clear h hp hv
  go_enter Tryz.func84, Tryz.ntmps84
  go_wp2_with fail
  refine (G.out).mono ?_; rintro e w1 ⟨x, rfl, k1, r1, e1⟩
  go_wp2
  go_ret2
  exact ⟨_, rfl, k1, r1, e1⟩
end Go.Proofs.YtgohlhgapboijaaGreatDoor

/- (*bits.Reader).Align: its contract over this seat's translation. -/
namespace Go.Proofs.YtgohlhgapboijaaGreatDoor
set_option linter.unusedVariables false
set_option linter.unusedSimpArgs false
open Go.RowKit Go.Extern.Stop Go.Stop Go.Extern
variable {F : Nat → Prop}

theorem IsErr.kp {w w' : World} {b : Nat} {a : Option Addr} {n cap : Nat} (k : Kp b w w') (hb : w.cell? ⟨b, 0, none⟩ = some (.slice a n cap)) : ∀ {p : List (ByteArray × Int)} {c : Int} {v : Value}, IsErr w p c v → IsErr w' p c v
  | [], _, _, hv => hv
  | (_, _) :: _, _, _, ⟨g, u, hv, h0, h1, h2, hu⟩ => by
    have hg : g ≠ b := fun e => by subst e; rw [hb] at h0; cases h0
    exact ⟨g, u, hv, k.cell h0 hg, k.cell h1 hg, k.cell h2 hg, IsErr.kp k hb hu⟩
theorem ErrIs.kp {w w' : World} {b : Nat} {a : Option Addr} {n cap : Nat} {f : Fall} {x : Value} (h : ErrIs w f x) (k : Kp b w w') (hb : w.cell? ⟨b, 0, none⟩ = some (.slice a n cap)) : ErrIs w' f x := by
  cases f with
  | none => exact h
  | some a => exact ⟨IsErr.kp k hb h.1, h.2⟩
def alF (bs : List Nat) (p : Nat) : Nat → Fall
  | 0 => none
  | k + 1 => match alF bs p k with
    | some f => some f
    | none => if btN bs (p + k) = 1 then some ([(bitsS, ((p + k : Nat) : Int))], 2) else none
def alD (p : Nat) : Nat := (8 - p % 8) % 8
def APost (F : Nat → Prop) (w : World) (b : Nat) (bs : List Nat) (q : Nat) (f : Fall) (e : Ending) (w' : World) : Prop := ∃ x, e = .returned x ∧ Kp b w w' ∧ RdAt F w' b bs q ∧ ErrIs w' f x
theorem rd_bit {bs : List Nat} {p : Nat} (h : p + 1 ≤ 8 * bs.length) : rdF bs p 1 = none ∧ rdV bs p 1 = (btN bs p : Nat) ∧ rdP bs p 1 = p + 1 := by
  have hR : rdF bs p 1 = none := by unfold rdF; rw [if_pos (by decide), if_pos (by omega)]
  refine ⟨hR, ?_, ?_⟩
  · unfold rdV; rw [hR]; show ((nmN bs p 1 : Nat) : Int) = _; rw [nmN_one]
  · unfold rdP; rw [hR]; rfl
set_option maxHeartbeats 8000000 in
set_option maxRecDepth 20000 in
theorem rdalign_any (b p : Nat) (bs : List Nat) (w : World) (h : RdAt F w b bs p) (hp : p ≤ 8 * bs.length) :
    Calls Tryz.prog 67 #[.pointer (some ⟨b, 0, none⟩)] w (APost F w b bs (p + alD p) (alF bs p (alD p))) := by
  obtain ⟨D, hD⟩ : ∃ D, alD p = D := ⟨_, rfl⟩
  have hDp : (p + D) % 8 = 0 ∧ D < 8 := by rw [← hD]; unfold alD; omega
  have hle : p + D ≤ 8 * bs.length := by omega
  have hl : bs.length ≤ 140737488355328 := by obtain ⟨_, _, _, ⟨-, -, hl⟩, -⟩ := h; exact hl
  rw [hD]
  clear hD
  have HD := Lib.hid hDp
  obtain ⟨hd0, hd1⟩ := hDp
  clear hd0
  go_enter Tryz.func67, Tryz.ntmps67
  go_wp2_with fail
  go_loopg [3] (D) (fun k xv wr => ∃ j, j + k = D ∧ Hid (RdAt F wr b bs (p + j)) ∧ Hid (ErrIs wr (alF bs p j) xv) ∧ Hid (Kp b w wr))
  case atStart => exact ⟨0, by omega, h, rfl, Kp.refl _ _⟩
  case round =>
    obtain ⟨j, hj, HR, HE, HK⟩ := hrel
    obtain ⟨a, cap, ⟨c0, c1, f1⟩, -, -⟩ := HR.out
    obtain ⟨P, hP⟩ : ∃ P, p + j = P := ⟨_, rfl⟩
    by_cases hk : j = D
    · have m0 : (((p + j : Nat) : Int) % 8 != 0) = false := by rw [bne_eq_false_iff_eq]; have := HD.out.1; omega
      have i1 : ((p + j : Nat) : Int) % 8 = 0 := by have := HD.out.1; omega
      rw [hP] at c1 m0 i1
      have HF : Hid (alF bs p D = alF bs p j ∧ p + D = P) := by rw [← hk]; exact ⟨rfl, hP⟩
      rw [hP] at HR
      clear hk hj hP
      go_wp2
      go_ret
      exact ⟨_, rfl, HK.out, by rw [HF.out.2]; exact HR.out, by rw [HF.out.1]; exact HE.out⟩
    · obtain ⟨r, hr⟩ : ∃ r : Nat, P % 8 = r := ⟨_, rfl⟩
      have hr0 : r ≠ 0 := by have := HD.out.1; have := HD.out.2; omega
      have i1 : (P : Int) % 8 = (r : Int) := by omega
      have m0 : ((r : Int) != 0) = true := by rw [bne_iff_ne]; omega
      obtain ⟨g1, g2, g3⟩ := rd_bit (bs := bs) (p := P) (by omega)
      have U := Lib.hid (fun w (h : RdAt F w b bs P) => rdflag_any b P bs w h (by omega))
      rw [g1, g2, g3] at U
      rw [hP] at HR c1
      have hbl := btN_lt bs P
      have HB : Hid (alF bs p (j + 1) = match alF bs p j with | some f => some f | none => if btN bs P = 1 then some ([(bitsS, (P : Int))], 2) else none) := by show _ = _; rw [← hP]; rfl
      have HJ : Hid (j + 1 ≤ D ∧ p + (j + 1) = P + 1 ∧ j + 1 + (D - (j + 1)) = D) := ⟨by omega, by omega, by omega⟩
      obtain ⟨B, hB⟩ : ∃ B, btN bs P = B := ⟨_, rfl⟩
      rw [hB] at U HB hbl
      clear hk hr hr0 hP g1 g2 g3 hB
      cases hF : alF bs p j with
      | some fl =>
        rw [hF] at HE HB
        obtain ⟨t3, y3, rfl⟩ := HE.out.ne
        go_wp2_with fail
        refine (U.out _ HR.out).mono ?_; rintro e w1 ⟨x1, rfl, k1, r1, he1⟩
        have HR1 := Lib.hid r1
        have HE1 := Lib.hid (HE.out.kp k1 c0)
        have HK1 := Lib.hid (HK.out.trans k1)
        clear r1 he1 k1
        go_wp2
        all_goals go_roundg (D - (j + 1))
        all_goals first
          | exact ⟨j + 1, HJ.out.2.2, by rw [HJ.out.2.1]; exact HR1.out, by rw [HB.out]; exact HE1.out, HK1.out⟩
          | (have := HJ.out.1; omega)
      | none =>
        rw [hF] at HE HB
        obtain rfl := HE.out
        by_cases hb1 : B = 1
        · subst hb1
          go_wp2_with fail
          refine (U.out _ HR.out).mono ?_; rintro e w1 ⟨x1, rfl, k1, r1, he1⟩
          have HR1 := Lib.hid r1
          have HK1 := Lib.hid (HK.out.trans k1)
          clear r1 he1 k1
          go_wp2_with fail
          refine (in_err bitsS (P : Int) [] 2 (.iface 31 (.int .i64 2)) _ rfl).mono ?_; rintro e w2 ⟨u, rfl, hx2, he2⟩
          have HE2 := Lib.hid he2
          go_wp2
          go_roundg (D - (j + 1))
          all_goals first
            | exact ⟨j + 1, HJ.out.2.2, by rw [HJ.out.2.1]; exact HR1.out.ext hx2, by rw [HB.out]; exact ⟨HE2.out, by decide, by simp⟩, HK1.out.ext hx2⟩
            | (have := HJ.out.1; omega)
        · obtain rfl : B = 0 := by omega
          go_wp2_with fail
          refine (U.out _ HR.out).mono ?_; rintro e w1 ⟨x1, rfl, k1, r1, he1⟩
          have HR1 := Lib.hid r1
          have HK1 := Lib.hid (HK.out.trans k1)
          clear r1 he1 k1
          go_wp2
          go_roundg (D - (j + 1))
          all_goals first
            | exact ⟨j + 1, HJ.out.2.2, by rw [HJ.out.2.1]; exact HR1.out, by rw [HB.out]; rfl, HK1.out⟩
            | (have := HJ.out.1; omega)
end Go.Proofs.YtgohlhgapboijaaGreatDoor

/- bits.NewReader: its contract over this seat's translation. -/
namespace Go.Proofs.YtgohlhgapboijaaGreatDoor
set_option linter.unusedVariables false
set_option linter.unusedSimpArgs false
open Go.RowKit Go.Extern.Stop Go.Stop Go.Extern
variable {F : Nat → Prop}

def NPost (w : World) (bs : List Nat) (e : Ending) (w' : World) : Prop := ∃ b, e = .returned (.pointer (some ⟨b, 0, none⟩)) ∧ w.heap.size ≤ b ∧ RdAt (fun g => g < w.heap.size ∨ w'.heap.size ≤ g) w' b bs 0 ∧ Ext w w'
set_option maxRecDepth 20000 in
set_option maxHeartbeats 2000000 in
theorem newrd_any (bs : List Nat) (v : Value) (w : World) (ha : Bys w v bs) : Calls Tryz.prog 35 #[v] w (NPost w bs) := by
  have U := Lib.hid (clb_any bs v w ha)
  have hb := ha.2
  have HB := Lib.hid hb
  clear ha hb
  go_enter Tryz.func35, Tryz.ntmps35
  go_wp2_with fail
  refine (U.out).mono ?_; rintro e w1 ⟨u, rfl, ho, hx1⟩
  have HY := Bys.of_owns ho HB.out.1 HB.out.2
  obtain ⟨a, cap, rfl⟩ := HY.form
  have hg : ∀ g off, a = some ⟨g, off, none⟩ → w.heap.size ≤ g ∧ g < w1.heap.size := fun g off ha => by
    subst ha
    exact ho.lt g rfl
  have HY1 := Lib.hid HY
  have HG := Lib.hid hg
  clear ho HY hg
  go_wp2
  go_ret
  exact ⟨_, rfl, hx1.size, ⟨a, cap, ⟨by simp, by simp, by simp⟩, HY1.out.ext ((Ext.refl _).alloc _), fun g off ha => ⟨by have := HG.out g off ha; omega, fun e => by have := HG.out g off ha; simp only [World.size_alloc] at e; omega⟩⟩, hx1.alloc _⟩
end Go.Proofs.YtgohlhgapboijaaGreatDoor

/- Bytes as strings; kinref.Bytes: its contract over this seat's translation. -/
namespace Go.Proofs.YtgohlhgapboijaaGreatDoor
set_option linter.unusedVariables false
set_option linter.unusedSimpArgs false
open Go.RowKit Go.Extern.Stop Go.Stop Go.Extern

def strOf (bs : List Nat) : ByteArray := strOfNums (bs.map fun x : Nat => (x : Int))
theorem conv_bys {w : World} {a : Option Addr} {n cap : Nat} {bs : List Nat} (h : Bys w (.slice a n cap) bs) : (convert 26 9 (.slice a n cap)).run Tryz.prog w = .ok (.string (strOf bs)) w := by
  have hl := h.len
  by_cases h0 : n = 0
  · subst h0
    obtain rfl : bs = [] := List.eq_nil_of_length_eq_zero hl.symm
    rw [run_convert_bytes_string w 26 9 5 _ 0 cap Tryz.underlying26 Tryz.underlying5 Tryz.underlying9]
    cases a <;> simp [Conv.bytesToString, loadCells]
    all_goals rfl
  · obtain ⟨g, off, rfl⟩ := h.had (by omega)
    refine run_convert_bytes_arg w 26 5 Tryz.underlying26 Tryz.underlying5 g off n cap (bs.map fun x : Nat => (x : Int)) (by rw [List.length_map, hl]) (fun i hi => ?_) 9 Tryz.underlying9
    rw [h.at (nget_of_lt (j := i) (by omega))]
    have e : (bs.map fun x : Nat => (x : Int)).getD i 0 = ((bs.getD i 0 : Nat) : Int) := by
      rw [List.getD, List.getElem?_map, nget_of_lt (j := i) (by omega)]
      rfl
    rw [e]
theorem strOf_data (bs : List Nat) : (strOf bs).data.toList = bs.map fun x => UInt8.ofNat x := by
  unfold strOf strOfNums
  simp [List.map_map]
theorem strOf_inj {xs ys : List Nat} (hx : ∀ x ∈ xs, x < 256) (hy : ∀ x ∈ ys, x < 256) (h : strOf xs = strOf ys) : xs = ys := by
  have h2 : xs.map (fun x => UInt8.ofNat x) = ys.map fun x => UInt8.ofNat x := by rw [← strOf_data, ← strOf_data, h]
  have h3 := congrArg (List.map UInt8.toNat) h2
  rw [List.map_map, List.map_map] at h3
  have id1 : ∀ zs : List Nat, (∀ x ∈ zs, x < 256) → zs.map (UInt8.toNat ∘ fun x => UInt8.ofNat x) = zs := fun zs hz => by
    conv => rhs; rw [← List.map_id zs]
    apply List.map_congr_left
    intro x hx
    have := hz x hx
    simp [Nat.mod_eq_of_lt this]
  rwa [id1 xs hx, id1 ys hy] at h3
set_option maxRecDepth 20000 in
theorem bytes_same (bs : List Nat) (u v : Value) (w : World) (h : Bys w u bs) (k : Bys w v bs) : Calls Tryz.prog 10 #[u, v] w fun e w' => e = .returned (.bool true) ∧ w = w' := by
  obtain ⟨a, ca, rfl⟩ := h.form
  obtain ⟨b, cb, rfl⟩ := k.form
  have c1 := conv_bys h
  have c2 := conv_bys k
  generalize strOf bs = s at *
  generalize bs.length = n at *
  clear h k
  go_enter Tryz.func10, Tryz.ntmps10
  go_wp2
  go_ret
  exact ⟨rfl, rfl⟩
end Go.Proofs.YtgohlhgapboijaaGreatDoor
