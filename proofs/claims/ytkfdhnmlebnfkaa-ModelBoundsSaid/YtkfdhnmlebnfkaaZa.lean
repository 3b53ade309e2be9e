/- Contracts of this seat: Err, Err2, Err3, Err4, Same, Fail. -/
import Derived.Test.YtkfdhnmlebnfkaaErrFacts
import Derived.Deep.LoopGhost
import Derived.Lib.Hide
import Derived.StillTailTactics
import Derived.Deep.QuietTactic
import Derived.BigQuiet
import Derived.Deep.AppendLies
import Derived.Deep.RegionHeld3
/- Errors as the program makes them (a code, wrapped by any number of Faults), and what errors.As, fault.Of, fault.Path and fault.In answer for them: contracts over this seat's translation. -/
namespace Go.Proofs.Ytkfdhnmlebnfkaa
set_option linter.unusedVariables false
set_option linter.unusedSimpArgs false
open Go.RowKit Go.Extern.Stop Go.Stop Go.Extern

/-- nothing that was there has changed -/
def Ext (w w' : World) : Prop := Below w.heap.size w w'
theorem Ext.refl (w : World) : Ext w w := Below.refl _ _
theorem Ext.size {w w' : World} (h : Ext w w') : w.heap.size ≤ w'.heap.size := Below.size h
theorem Ext.trans {a b c : World} (h : Ext a b) (k : Ext b c) : Ext a c := Below.trans h (Below.mono k h.size)
theorem Ext.alloc {a w : World} (h : Ext a w) (o : Obj) : Ext a (w.alloc o) := Below.alloc h h.size o
theorem Ext.drew {a w : World} (h : Ext a w) : Ext a w.drew := Below.drew h
theorem Ext.setCell {a w : World} (h : Ext a w) {p : Addr} (hp : a.heap.size ≤ p.block) (u : Value) : Ext a (w.setCell p u) := Below.setCell h hp u
theorem Ext.lt {w : World} {p : Addr} {v : Value} (h : w.cell? p = some v) : p.block < w.heap.size := World.block_lt_of_cell? w p h
theorem Ext.cell {w w' : World} (h : Ext w w') {p : Addr} {v : Value} (hp : w.cell? p = some v) : w'.cell? p = some v := (Below.cell h (Ext.lt hp)).trans hp
theorem Ext.block {w w' : World} (h : Ext w w') {k : Nat} (hk : k < w.heap.size) : w'.heap[k]? = w.heap[k]? := Below.block h k hk

end Go.Proofs.Ytkfdhnmlebnfkaa

/- fault.Of, fault.In, errors.As at a *Fault: contracts over this seat's translation. -/
namespace Go.Proofs.Ytkfdhnmlebnfkaa
set_option linter.unusedVariables false
set_option linter.unusedSimpArgs false
open Go.RowKit Go.Extern.Stop Go.Stop Go.Extern

theorem setCell_cell {w : World} {p : Addr} {v : Value} (h : w.cell? p = some v) (u : Value) : (w.setCell p u).cell? p = some u := World.cell?_setCell_same w p u h

end Go.Proofs.Ytkfdhnmlebnfkaa

/- errors.As at a *Fault and fault.Path: contracts over this seat's translation. -/
namespace Go.Proofs.Ytkfdhnmlebnfkaa
set_option linter.unusedVariables false
set_option linter.unusedSimpArgs false
open Go.RowKit Go.Extern.Stop Go.Stop Go.Extern

theorem ownsRow_ext {w w' : World} {base : Nat} {e : TypeId} {size : Nat} {v : Value} {n : Nat} {xs : List Value} (h : w.ownsRow base e size v n xs) (k : Ext w w') : w'.ownsRow base e size v n xs := by
  obtain ⟨h1, h2⟩ := h
  refine ⟨h1, ?_⟩
  rcases h2 with h2 | ⟨g, cap, cur, hv, hg, hh, r⟩
  · exact Or.inl h2
  · exact Or.inr ⟨g, cap, cur, hv, hg, by rw [k.block (Array.getElem?_eq_some_iff.1 hh).1]; exact hh, r⟩

/-- the cells of steps -/
def stepCells : List (ByteArray × Int) → List Value
  | [] => []
  | (s, n) :: p => .string s :: .int .i64 n :: stepCells p
theorem stepCells_append (p q : List (ByteArray × Int)) : stepCells (p ++ q) = stepCells p ++ stepCells q := by
  induction p with
  | nil => rfl
  | cons x p ih => obtain ⟨s, n⟩ := x; simp [stepCells, ih]
theorem stepCells_length (p : List (ByteArray × Int)) : (stepCells p).length = p.length * 2 := by
  induction p with
  | nil => rfl
  | cons x p ih => obtain ⟨s, n⟩ := x; simp [stepCells, ih]; omega

end Go.Proofs.Ytkfdhnmlebnfkaa

/- fault.Path: its contract over this seat's translation. -/
namespace Go.Proofs.Ytkfdhnmlebnfkaa
set_option linter.unusedVariables false
set_option linter.unusedSimpArgs false
open Go.RowKit Go.Extern.Stop Go.Stop Go.Extern

end Go.Proofs.Ytkfdhnmlebnfkaa

/- kinsame.Err: an error held against the document's: its contract over this seat's translation. -/
namespace Go.Proofs.Ytkfdhnmlebnfkaa
set_option linter.unusedVariables false
set_option linter.unusedSimpArgs false
open Go.RowKit Go.Extern.Stop Go.Stop Go.Extern

theorem Ext.drewN {a w : World} (h : Ext a w) (n : Nat) : Ext a (w.drewN n) := by
  have h' : Below a.heap.size a w := h
  exact ⟨h'.os, h'.tape, h'.output, h'.size, h'.block⟩

/-- a slice value that reads as these cells -/
def Row (w : World) (v : Value) (n : Nat) (cells : List Value) : Prop :=
  ∃ (a : Option Addr) (cap : Nat), v = .slice a n cap ∧ n ≤ cap ∧ cap ≤ maxLen ∧ (0 < n → ∃ g off, a = some ⟨g, off, none⟩) ∧ ∀ g off, a = some ⟨g, off, none⟩ → ∀ j u, cells[j]? = some u → w.cell? ⟨g, off + j, none⟩ = some u
theorem Row.ext {w w' : World} {v : Value} {n : Nat} {cells : List Value} (h : Row w v n cells) (k : Ext w w') : Row w' v n cells := by
  obtain ⟨a, cap, h0, h1, h2, h3, h4⟩ := h
  exact ⟨a, cap, h0, h1, h2, h3, fun g off ha j u hj => k.cell (h4 g off ha j u hj)⟩
theorem Row.nil (w : World) : Row w (.slice none 0 0) 0 [] := ⟨none, 0, rfl, Nat.le_refl _, Nat.zero_le _, fun h => absurd h (Nat.lt_irrefl _), fun _ _ h => by cases h⟩
theorem Row.of_owns {w : World} {base : Nat} {e : TypeId} {size : Nat} {v : Value} {n : Nat} {xs : List Value} (h : w.ownsRow base e size v n xs) : Row w v n xs := by
  obtain ⟨hl, h⟩ := h
  rcases h with ⟨hv, hn⟩ | ⟨g, cap, cur, hv, hb, hg, hnc, hcm, hcs, ht⟩
  · subst hn
    obtain rfl : xs = [] := List.eq_nil_of_length_eq_zero (by simpa using hl)
    subst hv
    exact Row.nil w
  · refine ⟨_, cap, hv, hnc, hcm, fun _ => ⟨g, 0, rfl⟩, fun g' off' ha j u hj => ?_⟩
    simp only [Option.some.injEq, Addr.mk.injEq, and_true] at ha
    obtain ⟨rfl, rfl⟩ := ha
    rw [Nat.zero_add, cell_of_row w g j cur e (0, 0) hg]
    rw [← ht, List.getElem?_take] at hj
    split at hj
    · simpa using hj
    · cases hj
theorem Row.at {w : World} {g off n cap : Nat} {cells : List Value} (h : Row w (.slice (some ⟨g, off, none⟩) n cap) n cells) {j : Nat} {u : Value} (hj : cells[j]? = some u) : w.cell? ⟨g, off + j, none⟩ = some u := by
  obtain ⟨a, cap', h0, _, _, _, h4⟩ := h
  simp only [Value.slice.injEq] at h0
  exact h4 g off h0.1.symm j u hj
theorem Row.some {w : World} {v : Value} {n : Nat} {cells : List Value} (h : Row w v n cells) (hn : 0 < n) : ∃ g off cap, v = .slice (some ⟨g, off, none⟩) n cap ∧ n ≤ cap ∧ cap ≤ maxLen := by
  obtain ⟨a, cap, h0, h1, h2, h3, _⟩ := h
  obtain ⟨g, off, ha⟩ := h3 hn
  subst ha
  exact ⟨g, off, cap, h0, h1, h2⟩
theorem Row.form {w : World} {v : Value} {n : Nat} {cells : List Value} (h : Row w v n cells) : ∃ a cap, v = .slice a n cap := by
  obtain ⟨a, cap, h0, _⟩ := h
  exact ⟨a, cap, h0⟩
theorem stepCells_get (p : List (ByteArray × Int)) (i : Nat) (s : ByteArray) (n : Int) (h : p[i]? = some (s, n)) : (stepCells p)[i * 2]? = some (.string s) ∧ (stepCells p)[i * 2 + 1]? = some (.int .i64 n) := by
  induction p generalizing i with
  | nil => simp at h
  | cons x p ih =>
    obtain ⟨s', n'⟩ := x
    cases i with
    | zero => simp at h; obtain ⟨rfl, rfl⟩ := h; exact ⟨rfl, rfl⟩
    | succ i =>
      have := ih i (by simpa using h)
      rw [show (i + 1) * 2 = i * 2 + 2 from by omega]
      exact this

end Go.Proofs.Ytkfdhnmlebnfkaa

/- kinref.Fail: its contract over this seat's translation. -/
namespace Go.Proofs.Ytkfdhnmlebnfkaa
set_option linter.unusedVariables false
set_option linter.unusedSimpArgs false
open Go.RowKit Go.Extern.Stop Go.Stop Go.Extern
theorem fail_any (c : Int) (w : World) :
    Calls Try.prog 49 #[.int .i64 c] w fun e w' => e = .returned (.agg #[.int .i64 c, .slice none 0 0]) ∧ Ext w w' := by
  go_enter Try.func49, Try.ntmps49
  go_wp2
  exact bodyPost_ret (v := .agg #[.int .i64 c, .slice none 0 0]) (by simp [results, Try.results49, go_sem]) rfl ⟨rfl, by repeat (first | exact Ext.refl _ | apply Ext.alloc | apply Ext.setCell (ha := by simp))⟩
end Go.Proofs.Ytkfdhnmlebnfkaa
