/- Slices of int slices: what they read as; rows of the call's own, several at once. -/
import Derived.Test.YtdpebaheojaihaaDoorPush
import Derived.Test.YtdpebaheojaihaaDoorWOwn
import Derived.Deep.OwnRows
import Derived.Maps.AppendAt
namespace Go.Proofs.YtdpebaheojaihaaDoor
set_option linter.unusedVariables false
set_option linter.unusedSimpArgs false
open Go.RowKit Go.Extern.Stop Go.Stop Go.Extern

/-- a slice value that reads as these rows -/
def Mat (w : World) (v : Value) (L : List (List Int)) : Prop := ∃ (a : Option Addr) (cap : Nat), v = .slice a L.length cap ∧ L.length ≤ cap ∧ cap ≤ maxLen ∧
  (0 < L.length → ∃ g off, a = some ⟨g, off, none⟩ ∧ ∀ q row, L[q]? = some row → ∃ ra rn rc, w.cell? ⟨g, off + q, none⟩ = some (.slice ra rn rc) ∧ Row w (.slice ra rn rc) row.length (row.map (Value.int .i64)))
theorem Mat.ext {w w' : World} {v : Value} {L : List (List Int)} (h : Mat w v L) (k : Ext w w') : Mat w' v L := by
  obtain ⟨a, cap, h0, h1, h2, h3⟩ := h
  refine ⟨a, cap, h0, h1, h2, fun hl => ?_⟩
  obtain ⟨g, off, e, h4⟩ := h3 hl
  refine ⟨g, off, e, fun q row hq => ?_⟩
  obtain ⟨ra, rn, rc, c1, c2⟩ := h4 q row hq
  exact ⟨ra, rn, rc, k.cell c1, c2.ext k⟩
theorem Mat.form {w : World} {v : Value} {L : List (List Int)} (h : Mat w v L) : ∃ a cap, v = .slice a L.length cap := by
  obtain ⟨a, cap, h0, _⟩ := h
  exact ⟨a, cap, h0⟩
theorem Mat.nil (w : World) : Mat w (.slice none 0 0) [] := ⟨none, 0, rfl, Nat.le_refl _, Nat.zero_le _, fun h => absurd h (Nat.lt_irrefl _)⟩
theorem Mat.len {w : World} {a : Option Addr} {n cap : Nat} {L : List (List Int)} (h : Mat w (.slice a n cap) L) : n = L.length := by
  obtain ⟨a', cap', e, _⟩ := h
  simp only [Value.slice.injEq] at e
  exact e.2.1
theorem Mat.had {w : World} {a : Option Addr} {n cap : Nat} {L : List (List Int)} (h : Mat w (.slice a n cap) L) (hn : 0 < n) : ∃ g off, a = some ⟨g, off, none⟩ := by
  have hl := h.len
  obtain ⟨a', cap', e, _, _, h3⟩ := h
  simp only [Value.slice.injEq] at e
  obtain ⟨rfl, -, rfl⟩ := e
  obtain ⟨g, off, e, _⟩ := h3 (by omega)
  exact ⟨g, off, e⟩
theorem Mat.row {w : World} {g off n cap : Nat} {L : List (List Int)} (h : Mat w (.slice (some ⟨g, off, none⟩) n cap) L) {q : Nat} {row : List Int} (hq : L[q]? = some row) :
    ∃ ra rc, w.cell? ⟨g, off + q, none⟩ = some (.slice ra row.length rc) ∧ Row w (.slice ra row.length rc) row.length (row.map (Value.int .i64)) := by
  have hl := h.len
  obtain ⟨a', cap', e, _, _, h3⟩ := h
  simp only [Value.slice.injEq] at e
  obtain ⟨rfl, -, rfl⟩ := e
  obtain ⟨hj, -⟩ := List.getElem?_eq_some_iff.1 hq
  obtain ⟨g', off', e, h4⟩ := h3 (by omega)
  obtain ⟨rfl, rfl⟩ : g = g' ∧ off = off' := by simpa using e
  obtain ⟨ra, rn, rc, c1, c2⟩ := h4 q row hq
  obtain ⟨a, cap, e⟩ := c2.form
  simp only [Value.slice.injEq] at e
  obtain ⟨rfl, rfl, rfl⟩ := e
  exact ⟨_, _, c1, c2⟩
theorem Mat.at {w : World} {g off n cap : Nat} {L : List (List Int)} (h : Mat w (.slice (some ⟨g, off, none⟩) n cap) L) {q : Nat} {row : List Int} (hq : L[q]? = some row) (hl : row.length ≤ 1000000) :
    ∃ ra rn rc, w.cell? ⟨g, off + q, none⟩ = some (.slice ra rn rc) ∧ Ints w (.slice ra rn rc) row := by
  obtain ⟨ra, rc, c1, c2⟩ := h.row hq
  exact ⟨ra, _, rc, c1, c2, by omega⟩

/-- an append of one int to one of several rows -/
theorem push_at {ops : Array Oper} {rest : List Oper} {o : Oper} {a : Act} {Q : Exit → Act → World → Prop} {W : World} {base : Nat} (hgd : o.guard = none) (s y : Operand) (t : TypeId)
    (ho : o.op = .call { callee := .builtin .append, args := #[s, y], argTypes := #[t, t] }) (ht : Tryd.prog.underlying t = some (.slice 3))
    (v : Value) (n : Nat) (xs : List Value) (x : Int) (hs : a.eval s = v) (hown : W.ownsRow base 3 1 v n xs) (hx : a.eval y = .slice (some ⟨W.heap.size, 0, none⟩) 1 1) (hb : base ≤ W.heap.size) (hn : n ≤ 1000000000000)
    (h : ∀ v' w', w'.ownsRow base 3 1 v' (n + 1) (xs ++ [.int .i64 x]) → W.grownBy w' v.ownBlock → (v'.ownBlock = v.ownBlock ∨ v'.ownBlock = some (W.heap.size + 1)) → wpList Tryd.prog ops Q rest (a.put o.dst v') w') :
    wpList Tryd.prog ops Q (o :: rest) a (W.alloc (.cells #[.int .i64 x] 3)) := by
  obtain ⟨i0, hi, hz0, hz1, hz2⟩ := info_parts infoInt
  refine wpList_append_own_at _ hgd s y t ho base 3 i0 (.int .i64 0) 1 8 ht hi hz0 hz1 hz2 rfl (by decide) v n xs hs (hown.alloc _) ⟨W.heap.size, 0, none⟩ 1 1 [.int .i64 x] hx rfl (cell_one_new _ _ _) (one_int _) (by unfold maxLen; omega) (by omega) (by simp; omega) ?_
  intro v' w' h1 h2 h3 h4
  refine h v' w' h1 ⟨h2.os, h2.tape, h2.output, Nat.le_trans (by simp) h2.size, fun k hk hne => ?_⟩ (by simpa using h4)
  exact (h2.block k (by simp; omega) hne).trans (Below.heap_alloc W _ k hk)
/-- likewise, at a step of a region that draws its order -/
theorem step_push_at {ops : Array Oper} {o : Oper} {a : Act} {K : Act → World → Prop} {Q : Exit → Act → World → Prop} {E : Prop} {W : World} {base : Nat} (hgd : o.guard = none) (s y : Operand) (t : TypeId)
    (ho : o.op = .call { callee := .builtin .append, args := #[s, y], argTypes := #[t, t] }) (ht : Tryd.prog.underlying t = some (.slice 3))
    (v : Value) (n : Nat) (xs : List Value) (x : Int) (hs : a.eval s = v) (hown : W.ownsRow base 3 1 v n xs) (hx : a.eval y = .slice (some ⟨W.heap.size, 0, none⟩) 1 1) (hb : base ≤ W.heap.size) (hn : n ≤ 1000000000000)
    (h : ∀ g cap w', w'.ownsRow base 3 1 (.slice (some ⟨g, 0, none⟩) (n + 1) cap) (n + 1) (xs ++ [.int .i64 x]) → W.grownBy w' v.ownBlock → (some g = v.ownBlock ∨ some g = some (W.heap.size + 1)) → K (a.put o.dst (.slice (some ⟨g, 0, none⟩) (n + 1) cap)) w') :
    if Region.wanted o (yielded ops a.tmps) = true then Oper.wp Tryd.prog o a ((W.alloc (.cells #[.int .i64 x] 3)).drew) K Q else E := by
  obtain ⟨i0, hi, hz0, hz1, hz2⟩ := info_parts infoInt
  have hown' : ((W.alloc (.cells #[.int .i64 x] 3)).drew).ownsRow base 3 1 v n xs := (hown.alloc _).drew
  refine step_append_lies _ hgd s y t ho base 3 i0 (.int .i64 0) 1 8 ht hi hz0 hz1 hz2 rfl (by decide) v n xs hs hown' ⟨W.heap.size, 0, none⟩ 1 1 [.int .i64 x] hx rfl (World.news_of_block (cs := #[.int .i64 x]) (t := 3) (fr := (0, 0)) (heap_alloc_new W _)) (one_int _) (by decide) (by unfold maxLen; omega) (by omega) (by simp; omega) (W.heap.size + 1) (by simp) ?_
  intro g cap w' h1 h2 h3 _
  refine h g cap w' h1 ⟨h2.os, h2.tape, h2.output, Nat.le_trans (by simp) h2.size, fun k hk hne => ?_⟩ (by
    rcases h3 with h3 | h3
    · exact Or.inl h3.symm
    · exact Or.inr (by rw [h3]))
  exact (h2.block k (by simp; omega) hne).trans (Below.heap_alloc W _ k hk)
theorem own_grownBy {w w' : World} {base : Nat} {e : TypeId} {size n : Nat} {v : Value} {xs : List Value} {row : Option Nat} (h : w.ownsRow base e size v n xs) (k : w.grownBy w' row) (hne : v.ownBlock = none ∨ v.ownBlock ≠ row) : w'.ownsRow base e size v n xs := by
  obtain ⟨hl, h⟩ := h
  refine ⟨hl, ?_⟩
  rcases h with h | ⟨g, cap, cur, rfl, hb, hg, h⟩
  · exact Or.inl h
  · have hlt : g < w.heap.size := (Array.getElem?_eq_some_iff.1 hg).1
    have e1 : Value.ownBlock (.slice (some ⟨g, 0, none⟩) n cap) = some g := rfl
    rw [e1] at hne
    refine Or.inr ⟨g, cap, cur, rfl, hb, (k.block g hlt ?_).trans hg, h⟩
    rcases hne with hne | hne
    · cases hne
    · exact hne
end Go.Proofs.YtdpebaheojaihaaDoor
