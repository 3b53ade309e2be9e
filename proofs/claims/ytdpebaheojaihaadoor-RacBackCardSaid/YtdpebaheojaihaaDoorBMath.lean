/- Chapter 7, plain arithmetic: how unlike two rows are, and the zigzag of 4 and 8. -/
import Derived.Test.YtdpebaheojaihaaDoorCards
namespace Go.Proofs.YtdpebaheojaihaaDoor
set_option linter.unusedVariables false
set_option linter.unusedSimpArgs false

/-- how unlike the first n of two rows are -/
def sadF (f g : Nat → Int) : Nat → Int
  | 0 => 0
  | j + 1 => sadF f g j + max (f j - g j) (g j - f j)
theorem sadF_comm (f g : Nat → Int) (n : Nat) : sadF f g n = sadF g f n := by
  induction n with
  | zero => rfl
  | succ n ih => unfold sadF; omega
theorem sadF_tri (f g h : Nat → Int) (n : Nat) : sadF f h n ≤ sadF f g n + sadF g h n := by
  induction n with
  | zero => simp [sadF]
  | succ n ih => unfold sadF; omega
theorem sadF_pos (f g : Nat → Int) (n : Nat) : 0 ≤ sadF f g n := by
  induction n with
  | zero => simp [sadF]
  | succ n ih => unfold sadF; omega
theorem sadF_zero (f g : Nat → Int) (n : Nat) : sadF f g n = 0 ↔ ∀ j, j < n → f j = g j := by
  induction n with
  | zero => simp [sadF]
  | succ n ih =>
    have hp := sadF_pos f g n
    unfold sadF
    constructor
    · intro h j hj
      by_cases e : j = n
      · subst e; omega
      · exact ih.1 (by omega) j (by omega)
    · intro h
      have h1 := ih.2 (fun j hj => h j (by omega))
      have h2 := h n (by omega)
      omega
theorem sadF_bound {f g : Nat → Int} {B : Int} (hf : ∀ j, -B ≤ f j ∧ f j ≤ B) (hg : ∀ j, -B ≤ g j ∧ g j ≤ B) (n : Nat) : sadF f g n ≤ 2 * B * n := by
  induction n with
  | zero => simp [sadF]
  | succ n ih =>
    have h1 := hf n
    have h2 := hg n
    have e : 2 * B * ((n : Nat) + 1 : Int) = 2 * B * n + 2 * B := by rw [Int.mul_add]; omega
    unfold sadF
    push_cast
    omega
/-- the index that lies i-th on the diagonal s of a square of n, by the landed way: rows from lo to hi -/
def zigLo (n s : Nat) : Nat := s + 1 - n
def zigHi (n s : Nat) : Nat := min s (n - 1)
def zigAt (n s i : Nat) : Nat := let y := if s % 2 = 0 then zigHi n s - (i - zigLo n s) else i; y * n + s - y
def zigDiag (n s k : Nat) : List Nat := (List.range (k - zigLo n s)).map fun i => zigAt n s (zigLo n s + i)
def zigPre (n s : Nat) : List Nat := (List.range s).flatMap fun s => zigDiag n s (zigHi n s + 1)
/-- and by the document's way: rows from 0 to s, those that lie inside -/
def zigY (s i : Nat) : Nat := if s % 2 = 0 then s - i else i
def zigRow (n s k : Nat) : List Nat := ((List.range k).filter fun i => zigY s i < n ∧ s - zigY s i < n).map fun i => zigY s i * n + s - zigY s i
theorem zig_same4 : ∀ s < 7, zigRow 4 s (s + 1) = zigDiag 4 s (zigHi 4 s + 1) := by decide +kernel
theorem zig_same8 : ∀ s < 15, zigRow 8 s (s + 1) = zigDiag 8 s (zigHi 8 s + 1) := by decide +kernel
theorem zig_four : zigPre 4 7 = [0, 1, 4, 8, 5, 2, 3, 6, 9, 12, 13, 10, 7, 11, 14, 15] := by decide +kernel
theorem zig_len : (zigPre 4 7).length = 16 ∧ (zigPre 8 15).length = 64 := by decide +kernel
theorem zig_once : (zigPre 4 7).Nodup ∧ (zigPre 8 15).Nodup ∧ (∀ x ∈ zigPre 4 7, x < 16) ∧ (∀ x ∈ zigPre 8 15, x < 64) := by decide +kernel
theorem zigDiag_succ {n s k : Nat} (h : zigLo n s ≤ k) : zigDiag n s (k + 1) = zigDiag n s k ++ [zigAt n s k] := by
  unfold zigDiag
  rw [show k + 1 - zigLo n s = (k - zigLo n s) + 1 by omega, List.range_succ, List.map_append]
  simp only [List.map_cons, List.map_nil]
  rw [show zigLo n s + (k - zigLo n s) = k by omega]
theorem zigPre_succ (n s : Nat) : zigPre n (s + 1) = zigPre n s ++ zigDiag n s (zigHi n s + 1) := by
  unfold zigPre
  rw [List.range_succ, List.flatMap_append]
  simp
theorem zigRow_succ (n s k : Nat) : zigRow n s (k + 1) = zigRow n s k ++ (if zigY s k < n ∧ s - zigY s k < n then [zigY s k * n + s - zigY s k] else []) := by
  unfold zigRow
  rw [List.range_succ, List.filter_append, List.map_append]
  congr 1
  by_cases h : zigY s k < n ∧ s - zigY s k < n
  · rw [if_pos h]; simp [h]
  · rw [if_neg h]; simp [List.filter_cons, h]
/-- the quarter of an index of 64, and its place there -/
def qOf (i : Nat) : Nat := i / 32 * 2 + i % 8 / 4
def qAt (i : Nat) : Nat := i % 32 / 8 * 4 + i % 4
def qIdx (q k : Nat) : List Nat := (List.range k).filter fun i => qOf i == q
theorem qOf_landed : ∀ i < 64, i / 8 / 4 * 2 + i % 8 / 4 = qOf i ∧ qOf i < 4 ∧ qAt i < 16 := by decide +kernel
theorem qIdx_succ (q k : Nat) : qIdx q (k + 1) = qIdx q k ++ (if qOf k = q then [k] else []) := by
  unfold qIdx
  rw [List.range_succ, List.filter_append]
  congr 1
  by_cases h : qOf k = q
  · rw [if_pos h]; simp [h]
  · rw [if_neg h]; simp [h]
theorem qIdx_count : ∀ i < 64, (qIdx (qOf i) i).length = qAt i := by decide +kernel
theorem qIdx_full : ∀ q < 4, (qIdx q 64).length = 16 := by decide +kernel
theorem qIdx_back : ∀ i < 64, (qIdx (qOf i) 64)[qAt i]? = some i := by decide +kernel
end Go.Proofs.YtdpebaheojaihaaDoor
