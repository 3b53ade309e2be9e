/- Ints that the call itself made: reading, writing. -/
import Derived.Test.YtdpebaheojaihaaDoorCopy
import Derived.Sort.WalkC
import Derived.Lib.OwnBridge
namespace Go.Proofs.YtdpebaheojaihaaDoor
set_option linter.unusedVariables false
set_option linter.unusedSimpArgs false
open Go.RowKit Go.Sort

def rowA (N : Nat) (f : Nat → Int) : Array Int := Array.ofFn (fun i : Fin N => f i)
theorem rowA_size (N : Nat) (f : Nat → Int) : (rowA N f).size = N := by simp [rowA]
theorem rowA_get {N : Nat} {f : Nat → Int} {j : Nat} (h : j < N) : (rowA N f)[j]! = f j := by
  rw [getElem!_pos _ _ (by rw [rowA_size]; exact h)]
  simp [rowA]
theorem rowA_set {N : Nat} {f : Nat → Int} {i : Nat} {x : Int} : (rowA N f).setIfInBounds i x = rowA N (fun j => if j = i then x else f j) := by
  apply Array.ext_getElem?
  intro j
  rw [Array.getElem?_setIfInBounds]
  by_cases hj : j < N
  · by_cases h : i = j
    · subst h; simp [rowA, hj]
    · have h' : ¬ j = i := fun e => h e.symm
      simp [rowA, hj, h, h']
  · by_cases h : i = j
    · subst h; simp [rowA, hj]
    · simp [rowA, hj, h]
theorem rowA_congr {N : Nat} {f g : Nat → Int} (h : ∀ j, j < N → f j = g j) : rowA N f = rowA N g := by
  apply Array.ext
  · simp [rowA]
  · intro j h1 h2
    simp only [rowA, Array.getElem_ofFn]
    exact h j (by simpa [rowA] using h1)

def rowL (N : Nat) (f : Nat → Int) : List Int := (List.range N).map f
theorem rowL_length (N : Nat) (f : Nat → Int) : (rowL N f).length = N := by simp [rowL]
theorem rowL_get {N : Nat} {f : Nat → Int} {j : Nat} (h : j < N) : (rowL N f)[j]? = some (f j) := by simp [rowL, h]
theorem rowL_arr (N : Nat) (f : Nat → Int) : (rowL N f).toArray = rowA N f := by
  apply Array.ext_getElem?
  intro j
  by_cases h : j < N <;> simp [rowL, rowA, h]
theorem rowL_getD (zs : List Int) : rowL zs.length (fun i => zs.getD i 0) = zs := by
  apply List.ext_getElem?
  intro j
  by_cases h : j < zs.length <;> simp [rowL, h]
/-- ints that the call itself made -/
theorem Ints.of_row {w : World} {base N : Nat} {v : Value} {f : Nat → Int} (h : w.ownsRow base 3 1 v N ((rowL N f).map (Value.int .i64))) (hN : N ≤ 1000000) : Ints w v (rowL N f) := Ints.of_owns h (by rw [rowL_length]; omega)
theorem one_set {w : World} {blk N q k : Nat} {f : Nat → Int} {x : Int} (hk : k < N) :
    ((putRow (Value.int .i64) w blk 0 (rowA N f)).drewN q).setCell ⟨blk, k, none⟩ (.int .i64 x) = (putRow (Value.int .i64) w blk 0 (rowA N (fun i => if i = k then x else f i))).drewN q := by
  have e1 := putRow_set (Value.int .i64) w blk 0 (rowA N f) k x (by rw [rowA_size]; exact hk)
  rw [← rowA_set, ← e1]
  simp only [Nat.zero_add]
  rfl
theorem own_form {w : World} {base N : Nat} {v : Value} {f : Nat → Int} (h : w.ownsRow base 3 1 v N ((rowL N f).map (Value.int .i64))) (hN : 1 ≤ N) : ∃ g cap, v = .slice (some ⟨g, 0, none⟩) N cap ∧ base ≤ g ∧ g < w.heap.size ∧ N ≤ cap ∧ cap ≤ maxLen := by
  obtain ⟨g, cap', e, hg, hgl, hc1, hc2, -, -⟩ := Lib.holds_of_ownsRow (enc := Value.int .i64) h (by
    rintro rfl
    rcases h.2 with ⟨_, h0⟩ | ⟨_, _, _, h0, _⟩
    · omega
    · cases h0)
  exact ⟨g, cap', e, hg, hgl, hc1, hc2⟩
theorem own_holds {w : World} {base g cap N : Nat} {f : Nat → Int} (h : w.ownsRow base 3 1 (.slice (some ⟨g, 0, none⟩) N cap) N ((rowL N f).map (Value.int .i64))) : Holds (Value.int .i64) w g 0 (rowA N f) := by
  obtain ⟨g', cap', e, -, -, -, -, -, hH⟩ := Lib.holds_of_ownsRow (enc := Value.int .i64) h (by intro e; cases e)
  simp only [Value.slice.injEq, Option.some.injEq, Addr.mk.injEq, and_true, true_and] at e
  obtain ⟨rfl, rfl⟩ := e
  rwa [rowL_arr] at hH
theorem own_cell {w : World} {base g cap N k : Nat} {f : Nat → Int} (h : w.ownsRow base 3 1 (.slice (some ⟨g, 0, none⟩) N cap) N ((rowL N f).map (Value.int .i64))) (hk : k < N) : w.cell? ⟨g, k, none⟩ = some (.int .i64 (f k)) ∧ w.frozen? ⟨g, k, none⟩ = false := by
  obtain ⟨ck, fk⟩ := own_holds h k (by rw [rowA_size]; exact hk)
  rw [rowA_get hk] at ck
  exact ⟨by simpa using ck, by simpa using fk⟩
theorem own_set {w : World} {base g cap N k : Nat} {f : Nat → Int} {x : Int} (h : w.ownsRow base 3 1 (.slice (some ⟨g, 0, none⟩) N cap) N ((rowL N f).map (Value.int .i64))) (hk : k < N) :
    (w.setCell ⟨g, k, none⟩ (.int .i64 x)).ownsRow base 3 1 (.slice (some ⟨g, 0, none⟩) N cap) N ((rowL N (fun i => if i = k then x else f i)).map (Value.int .i64)) := by
  have e := one_set (w := w) (blk := g) (q := 0) (f := f) (x := x) hk
  rw [putRow_self _ _ _ _ _ (own_holds h)] at e
  have ho := Lib.ownsRow_putRow (q := 0) (k := N) h (rowL_length N (fun i => if i = k then x else f i)) (Nat.le_refl _)
  rw [List.take_of_length_le (by rw [rowL_length]; exact Nat.le_refl _), rowL_arr] at ho
  rw [show w.setCell ⟨g, k, none⟩ (.int .i64 x) = putRow (Value.int .i64) (Sort.ahead w 0) g 0 (rowA N (fun i => if i = k then x else f i)) from e]
  exact ho
theorem own_ext {w w' : World} {base : Nat} {e : TypeId} {size n : Nat} {v : Value} {xs : List Value} (h : w.ownsRow base e size v n xs) (k : Ext w w') : w'.ownsRow base e size v n xs := by
  obtain ⟨hl, h⟩ := h
  refine ⟨hl, ?_⟩
  rcases h with h | ⟨g, cap, cur, rfl, hb, hg, h⟩
  · exact Or.inl h
  · have hlt : g < w.heap.size := by
      rcases Nat.lt_or_ge g w.heap.size with h' | h'
      · exact h'
      · rw [Array.getElem?_eq_none h'] at hg; cases hg
    exact Or.inr ⟨g, cap, cur, rfl, hb, (k.block hlt).trans hg, h⟩
end Go.Proofs.YtdpebaheojaihaaDoor
