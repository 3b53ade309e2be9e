/- kinsame.Err: an error held against the document's: its contract over this seat's translation. -/
import Derived.Test.YtgohlhgapboijaaDoorErr4
namespace Go.Proofs.YtgohlhgapboijaaDoor
set_option linter.unusedVariables false
set_option linter.unusedSimpArgs false
open Go.RowKit Go.Extern.Stop Go.Stop Go.Extern

theorem Ext.drewN {a w : World} (h : Ext a w) (n : Nat) : Ext a (w.drewN n) := by
  have h' : Below a.heap.size a w := h
  exact ⟨h'.os, h'.tape, h'.output, h'.size, h'.block⟩

/-- a slice value that reads as these cells -/
def Row (w : World) (v : Value) (n : Nat) (cells : List Value) : Prop :=
  ∃ (a : Option Addr) (cap : Nat), v = .slice a n cap ∧ n ≤ cap ∧ cap ≤ maxLen ∧ (0 < n → ∃ g off, a = some ⟨g, off, none⟩) ∧ ∀ g off, a = some ⟨g, off, none⟩ → ∀ j u, cells[j]? = some u → w.cell? ⟨g, off + j, none⟩ = some u
theorem Row.ext {w w' : World} {v : Value} {n : Nat} {cells : List Value} (h : Row w v n cells) (k : Ext w w') : Row w' v n cells := by
  obtain ⟨a, cap, h0, h1, h2, h3, h4⟩ := h
  exact ⟨a, cap, h0, h1, h2, h3, fun g off ha j u hj => k.cell (h4 g off ha j u hj)⟩
theorem Row.nil (w : World) : Row w (.slice none 0 0) 0 [] := ⟨none, 0, rfl, Nat.le_refl _, Nat.zero_le _, fun h => absurd h (Nat.lt_irrefl _), fun _ _ h => by cases h⟩
theorem Row.of_owns {w : World} {base : Nat} {e : TypeId} {size : Nat} {v : Value} {n : Nat} {xs : List Value} (h : w.ownsRow base e size v n xs) : Row w v n xs := by
  obtain ⟨hl, h⟩ := h
  rcases h with ⟨hv, hn⟩ | ⟨g, cap, cur, hv, hb, hg, hnc, hcm, hcs, ht⟩
  · subst hn
    obtain rfl : xs = [] := List.eq_nil_of_length_eq_zero (by simpa using hl)
    subst hv
    exact Row.nil w
  · refine ⟨_, cap, hv, hnc, hcm, fun _ => ⟨g, 0, rfl⟩, fun g' off' ha j u hj => ?_⟩
    simp only [Option.some.injEq, Addr.mk.injEq, and_true] at ha
    obtain ⟨rfl, rfl⟩ := ha
    rw [Nat.zero_add, cell_of_row w g j cur e (0, 0) hg]
    rw [← ht, List.getElem?_take] at hj
    split at hj
    · simpa using hj
    · cases hj
theorem Row.at {w : World} {g off n cap : Nat} {cells : List Value} (h : Row w (.slice (some ⟨g, off, none⟩) n cap) n cells) {j : Nat} {u : Value} (hj : cells[j]? = some u) : w.cell? ⟨g, off + j, none⟩ = some u := by
  obtain ⟨a, cap', h0, _, _, _, h4⟩ := h
  simp only [Value.slice.injEq] at h0
  exact h4 g off h0.1.symm j u hj
theorem Row.some {w : World} {v : Value} {n : Nat} {cells : List Value} (h : Row w v n cells) (hn : 0 < n) : ∃ g off cap, v = .slice (some ⟨g, off, none⟩) n cap ∧ n ≤ cap ∧ cap ≤ maxLen := by
  obtain ⟨a, cap, h0, h1, h2, h3, _⟩ := h
  obtain ⟨g, off, ha⟩ := h3 hn
  subst ha
  exact ⟨g, off, cap, h0, h1, h2⟩
theorem Row.form {w : World} {v : Value} {n : Nat} {cells : List Value} (h : Row w v n cells) : ∃ a cap, v = .slice a n cap := by
  obtain ⟨a, cap, h0, _⟩ := h
  exact ⟨a, cap, h0⟩
theorem stepCells_get (p : List (ByteArray × Int)) (i : Nat) (s : ByteArray) (n : Int) (h : p[i]? = some (s, n)) : (stepCells p)[i * 2]? = some (.string s) ∧ (stepCells p)[i * 2 + 1]? = some (.int .i64 n) := by
  induction p generalizing i with
  | nil => simp at h
  | cons x p ih =>
    obtain ⟨s', n'⟩ := x
    cases i with
    | zero => simp at h; obtain ⟨rfl, rfl⟩ := h; exact ⟨rfl, rfl⟩
    | succ i =>
      have := ih i (by simpa using h)
      rw [show (i + 1) * 2 = i * 2 + 2 from by omega]
      exact this

theorem path_nil (w : World) (hg : EtIs w) : Calls Tryd.prog 16 #[.nilIface] w fun e w' => e = .returned (.slice none 0 0) ∧ Ext w w' := by
  have E1 : Ext w (w.alloc (.cells #[.pointer none] 38)) := (Ext.refl w).alloc _
  have nil : ∀ (t : Value) (W : World), Calls Tryd.prog 22 #[.nilIface, t] W fun e w' => e = .returned (.bool false) ∧ W = w' := fun t W => by
    go_enter Tryd.func22, Tryd.ntmps22
    go_wp2
    go_ret
    exact ⟨rfl, rfl⟩
  go_enter Tryd.func16, Tryd.ntmps16
  go_wp2
  refine wp_loop_rounds 1 ?_
  rw [rounds_succ]
  go_wp2_with (go_at_call 22; refine (nil _ _).mono ?_; rintro e w' ⟨rfl, rfl⟩)
  go_ret
  exact ⟨rfl, E1⟩

end Go.Proofs.YtgohlhgapboijaaDoor
