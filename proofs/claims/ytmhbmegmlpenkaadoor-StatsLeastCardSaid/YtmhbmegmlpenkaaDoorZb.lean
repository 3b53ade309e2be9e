/- Contracts of this seat: Rep, Mat, Cop, RMay, PlA, Get, StM, Res, TwF, RFr, Unl, Fms, PlN, RNew, AppRow, Grp. -/
import Derived.Test.YtmhbmegmlpenkaaDoorZa
import Derived.Laws.CopyOwn
import Derived.WalkSpells
import Derived.Deep.RegionLaw
import Derived.Deep.RegionHeld3
import Derived.Deep.OwnRows
import Derived.Maps.AppendAt
import Derived.BigRegion
import Derived.Deep.AppendLies
import Derived.Laws.Rows
/- slices.Repeat of one int, at the lengths that are asked for: its contract over this seat's translation. -/
namespace Go.Proofs.YtmhbmegmlpenkaaDoor
set_option linter.unusedVariables false
set_option linter.unusedSimpArgs false
open Go.RowKit Go.Extern.Stop Go.Stop Go.Extern

theorem zeros_rowr (n : Nat) (x : Int) : (madeCells (Value.int .i64 0).cells (n * 1)).toList = (rowL n fun j => if j < 0 then x else 0).map (Value.int .i64) := by
  apply List.ext_getElem?
  intro j
  by_cases hj : j < n <;> simp [madeCells, rowL, Value.cells, hj, Nat.mod_one]
theorem own_heap {w : World} {base g N : Nat} {xs : List Value} (h : w.ownsRow base 3 1 (.slice (some ⟨g, 0, none⟩) N N) N xs) : w.heap[g]? = some (.cells xs.toArray 3 (0, 0)) := by
  obtain ⟨hl, h | ⟨g', cap, cur, e, -, hg, -, -, hs, ht⟩⟩ := h
  · cases h.1
  · simp only [Value.slice.injEq, Option.some.injEq, Addr.mk.injEq, and_true, true_and] at e
    obtain ⟨rfl, rfl⟩ := e
    rw [hg]
    have : cur.toList = xs := by rw [← ht, List.take_of_length_le (by simp [hs])]
    rw [← this]
theorem heap_own {w : World} {base g N : Nat} {xs : List Value} (hb : base ≤ g) (hl : xs.length = N) (hN : N ≤ maxLen) (h : w.heap[g]? = some (.cells xs.toArray 3 (0, 0))) : w.ownsRow base 3 1 (.slice (some ⟨g, 0, none⟩) N N) N xs :=
  ⟨by omega, Or.inr ⟨g, N, xs.toArray, rfl, hb, h, Nat.le_refl _, hN, by simp [hl], by rw [List.take_of_length_le (by simp [hl])]⟩⟩
theorem splice_rep {N n k : Nat} {x : Int} (h : n + k ≤ N) : splice ((rowL N fun j => if j < n then x else 0).map (Value.int .i64)) n ((rowL k fun _ => x).map (Value.int .i64)) = (rowL N fun j => if j < n + k then x else 0).map (Value.int .i64) := by
  unfold splice
  apply List.ext_getElem?
  intro j
  by_cases h1 : j < n
  · rw [List.getElem?_append_left (by simp [rowL_length]; omega)]
    rw [List.getElem?_take, if_pos h1, List.getElem?_map, List.getElem?_map, rowL_get (by omega), rowL_get (by omega), if_pos h1, if_pos (by omega)]
  · rw [List.getElem?_append_right (by simp [rowL_length]; omega)]
    have e1 : (List.take n (List.map (Value.int .i64) (rowL N fun j => if j < n then x else 0))).length = n := by simp [rowL_length]; omega
    rw [e1]
    by_cases h2 : j < n + k
    · rw [List.getElem?_append_left (by simp [rowL_length]; omega), List.getElem?_map, List.getElem?_map, rowL_get (by omega), rowL_get (by omega), if_pos h2]
    · rw [List.getElem?_append_right (by simp [rowL_length]; omega), List.getElem?_drop]
      have e2 : n + (List.map (Value.int .i64) (rowL k fun _ => x)).length + (j - n - (List.map (Value.int .i64) (rowL k fun _ => x)).length) = j := by simp [rowL_length]; omega
      rw [e2, List.getElem?_map, List.getElem?_map]
      by_cases h3 : j < N
      · rw [rowL_get h3, rowL_get h3, if_neg h1, if_neg h2]
      · rw [List.getElem?_eq_none (by rw [rowL_length]; omega), List.getElem?_eq_none (by rw [rowL_length]; omega)]
theorem rep_read {w : World} {G N n k : Nat} {x : Int} (h : w.heap[G]? = some (.cells ((rowL N fun j => if j < n then x else 0).map (Value.int .i64)).toArray 3 (0, 0))) (hk : k ≤ n) (hn : n ≤ N) : ∀ j u, ((rowL k fun _ => x).map (Value.int .i64))[j]? = some u → w.cell? ((⟨G, 0, none⟩ : Addr).add j) = some u := fun j u hu => by
  have hadd : (⟨G, 0, none⟩ : Addr).add j = ⟨G, 0 + j, none⟩ := by unfold Addr.add; split <;> simp_all
  rw [List.getElem?_map] at hu
  obtain ⟨y, hy, rfl⟩ := Option.map_eq_some_iff.1 hu
  have hj : j < k := by
    have := (List.getElem?_eq_some_iff.1 hy).1
    rwa [rowL_length] at this
  rw [rowL_get hj] at hy
  cases hy
  rw [hadd]
  have e : ((rowL N fun j => if j < n then x else 0).map (Value.int .i64))[0 + j]? = some (.int .i64 x) := by
    rw [Nat.zero_add, List.getElem?_map, rowL_get (by omega), if_pos (by omega)]; rfl
  unfold World.cell?
  simp only [h]
  simpa using e
theorem ones_int (k : Nat) (x : Int) : ∀ u ∈ (rowL k fun _ => x).map (Value.int .i64), u.oneCell' = true := fun u hu => by
  obtain ⟨y, _, rfl⟩ := List.mem_map.1 hu
  rfl
theorem rowL_one (x : Int) : (rowL 1 fun _ => x).map (Value.int .i64) = [Value.int .i64 x] := by simp [rowL, List.range_succ]
theorem rep_made {w w3 : World} {N G g0 off0 cap0 : Nat} {x : Int} (ha : Ints w (.slice (some ⟨g0, off0, none⟩) 1 cap0) [x]) (h : w3.ownsRow w.heap.size 3 1 (.slice (some ⟨w.heap.size, 0, none⟩) N N) N (madeCells (Value.int .i64 0).cells (N * 1)).toList) (hg : w.grownBy w3 none) (hG : G = w.heap.size) :
    Hid (Ext w w3 ∧ w3.heap[G]? = some (.cells ((rowL N fun j => if j < 0 then x else 0).map (Value.int .i64)).toArray 3 (0, 0)) ∧ ∀ j u, ([Value.int .i64 x])[j]? = some u → w3.cell? ((⟨g0, off0, none⟩ : Addr).add j) = some u) := by
  have hE3 : Ext w w3 := Below.grown (Ext.refl w) hg (Nat.le_refl _) (fun k hk => by cases hk)
  rw [zeros_rowr N x] at h
  subst hG
  exact ⟨hE3, own_heap h, news_of_ints (ha.ext hE3)⟩
theorem infoSz : (Tryd.prog.info? 3).map (·.size) = some 1 := by kernel_rfl
end Go.Proofs.YtmhbmegmlpenkaaDoor

/- Slices of int slices: what they read as; rows of the call's own, several at once. -/
namespace Go.Proofs.YtmhbmegmlpenkaaDoor
set_option linter.unusedVariables false
set_option linter.unusedSimpArgs false
open Go.RowKit Go.Extern.Stop Go.Stop Go.Extern

/-- a slice value that reads as these rows -/
def Mat (w : World) (v : Value) (L : List (List Int)) : Prop := ∃ (a : Option Addr) (cap : Nat), v = .slice a L.length cap ∧ L.length ≤ cap ∧ cap ≤ maxLen ∧
  (0 < L.length → ∃ g off, a = some ⟨g, off, none⟩ ∧ ∀ q row, L[q]? = some row → ∃ ra rn rc, w.cell? ⟨g, off + q, none⟩ = some (.slice ra rn rc) ∧ Row w (.slice ra rn rc) row.length (row.map (Value.int .i64)))
theorem Mat.ext {w w' : World} {v : Value} {L : List (List Int)} (h : Mat w v L) (k : Ext w w') : Mat w' v L := by
  obtain ⟨a, cap, h0, h1, h2, h3⟩ := h
  refine ⟨a, cap, h0, h1, h2, fun hl => ?_⟩
  obtain ⟨g, off, e, h4⟩ := h3 hl
  refine ⟨g, off, e, fun q row hq => ?_⟩
  obtain ⟨ra, rn, rc, c1, c2⟩ := h4 q row hq
  exact ⟨ra, rn, rc, k.cell c1, c2.ext k⟩
theorem Mat.form {w : World} {v : Value} {L : List (List Int)} (h : Mat w v L) : ∃ a cap, v = .slice a L.length cap := by
  obtain ⟨a, cap, h0, _⟩ := h
  exact ⟨a, cap, h0⟩
theorem Mat.nil (w : World) : Mat w (.slice none 0 0) [] := ⟨none, 0, rfl, Nat.le_refl _, Nat.zero_le _, fun h => absurd h (Nat.lt_irrefl _)⟩
theorem Mat.len {w : World} {a : Option Addr} {n cap : Nat} {L : List (List Int)} (h : Mat w (.slice a n cap) L) : n = L.length := by
  obtain ⟨a', cap', e, _⟩ := h
  simp only [Value.slice.injEq] at e
  exact e.2.1
theorem Mat.had {w : World} {a : Option Addr} {n cap : Nat} {L : List (List Int)} (h : Mat w (.slice a n cap) L) (hn : 0 < n) : ∃ g off, a = some ⟨g, off, none⟩ := by
  have hl := h.len
  obtain ⟨a', cap', e, _, _, h3⟩ := h
  simp only [Value.slice.injEq] at e
  obtain ⟨rfl, -, rfl⟩ := e
  obtain ⟨g, off, e, _⟩ := h3 (by omega)
  exact ⟨g, off, e⟩
theorem Mat.row {w : World} {g off n cap : Nat} {L : List (List Int)} (h : Mat w (.slice (some ⟨g, off, none⟩) n cap) L) {q : Nat} {row : List Int} (hq : L[q]? = some row) :
    ∃ ra rc, w.cell? ⟨g, off + q, none⟩ = some (.slice ra row.length rc) ∧ Row w (.slice ra row.length rc) row.length (row.map (Value.int .i64)) := by
  have hl := h.len
  obtain ⟨a', cap', e, _, _, h3⟩ := h
  simp only [Value.slice.injEq] at e
  obtain ⟨rfl, -, rfl⟩ := e
  obtain ⟨hj, -⟩ := List.getElem?_eq_some_iff.1 hq
  obtain ⟨g', off', e, h4⟩ := h3 (by omega)
  obtain ⟨rfl, rfl⟩ : g = g' ∧ off = off' := by simpa using e
  obtain ⟨ra, rn, rc, c1, c2⟩ := h4 q row hq
  obtain ⟨a, cap, e⟩ := c2.form
  simp only [Value.slice.injEq] at e
  obtain ⟨rfl, rfl, rfl⟩ := e
  exact ⟨_, _, c1, c2⟩
theorem Mat.at {w : World} {g off n cap : Nat} {L : List (List Int)} (h : Mat w (.slice (some ⟨g, off, none⟩) n cap) L) {q : Nat} {row : List Int} (hq : L[q]? = some row) (hl : row.length ≤ 1000000) :
    ∃ ra rn rc, w.cell? ⟨g, off + q, none⟩ = some (.slice ra rn rc) ∧ Ints w (.slice ra rn rc) row := by
  obtain ⟨ra, rc, c1, c2⟩ := h.row hq
  exact ⟨ra, _, rc, c1, c2, by omega⟩

/-- an append of one int to one of several rows -/
theorem push_at {ops : Array Oper} {rest : List Oper} {o : Oper} {a : Act} {Q : Exit → Act → World → Prop} {W : World} {base : Nat} (hgd : o.guard = none) (s y : Operand) (t : TypeId)
    (ho : o.op = .call { callee := .builtin .append, args := #[s, y], argTypes := #[t, t] }) (ht : Tryd.prog.underlying t = some (.slice 3))
    (v : Value) (n : Nat) (xs : List Value) (x : Int) (hs : a.eval s = v) (hown : W.ownsRow base 3 1 v n xs) (hx : a.eval y = .slice (some ⟨W.heap.size, 0, none⟩) 1 1) (hb : base ≤ W.heap.size) (hn : n ≤ 1000000000000)
    (h : ∀ v' w', w'.ownsRow base 3 1 v' (n + 1) (xs ++ [.int .i64 x]) → W.grownBy w' v.ownBlock → (v'.ownBlock = v.ownBlock ∨ v'.ownBlock = some (W.heap.size + 1)) → wpList Tryd.prog ops Q rest (a.put o.dst v') w') :
    wpList Tryd.prog ops Q (o :: rest) a (W.alloc (.cells #[.int .i64 x] 3)) := by
  obtain ⟨i0, hi, hz0, hz1, hz2⟩ := info_parts infoInt
  refine wpList_append_own_at _ hgd s y t ho base 3 i0 (.int .i64 0) 1 8 ht hi hz0 hz1 hz2 rfl (by decide) v n xs hs (hown.alloc _) ⟨W.heap.size, 0, none⟩ 1 1 [.int .i64 x] hx rfl (cell_one_new _ _ _) (one_int _) (by unfold maxLen; omega) (by omega) (by simp; omega) ?_
  intro v' w' h1 h2 h3 h4
  refine h v' w' h1 ⟨h2.os, h2.tape, h2.output, Nat.le_trans (by simp) h2.size, fun k hk hne => ?_⟩ (by simpa using h4)
  exact (h2.block k (by simp; omega) hne).trans (Below.heap_alloc W _ k hk)
/-- likewise, at a step of a region that draws its order -/
theorem step_push_at {ops : Array Oper} {o : Oper} {a : Act} {K : Act → World → Prop} {Q : Exit → Act → World → Prop} {E : Prop} {W : World} {base : Nat} (hgd : o.guard = none) (s y : Operand) (t : TypeId)
    (ho : o.op = .call { callee := .builtin .append, args := #[s, y], argTypes := #[t, t] }) (ht : Tryd.prog.underlying t = some (.slice 3))
    (v : Value) (n : Nat) (xs : List Value) (x : Int) (hs : a.eval s = v) (hown : W.ownsRow base 3 1 v n xs) (hx : a.eval y = .slice (some ⟨W.heap.size, 0, none⟩) 1 1) (hb : base ≤ W.heap.size) (hn : n ≤ 1000000000000)
    (h : ∀ g cap w', w'.ownsRow base 3 1 (.slice (some ⟨g, 0, none⟩) (n + 1) cap) (n + 1) (xs ++ [.int .i64 x]) → W.grownBy w' v.ownBlock → (some g = v.ownBlock ∨ some g = some (W.heap.size + 1)) → K (a.put o.dst (.slice (some ⟨g, 0, none⟩) (n + 1) cap)) w') :
    if Region.wanted o (yielded ops a.tmps) = true then Oper.wp Tryd.prog o a ((W.alloc (.cells #[.int .i64 x] 3)).drew) K Q else E := by
  obtain ⟨i0, hi, hz0, hz1, hz2⟩ := info_parts infoInt
  have hown' : ((W.alloc (.cells #[.int .i64 x] 3)).drew).ownsRow base 3 1 v n xs := (hown.alloc _).drew
  refine step_append_lies _ hgd s y t ho base 3 i0 (.int .i64 0) 1 8 ht hi hz0 hz1 hz2 rfl (by decide) v n xs hs hown' ⟨W.heap.size, 0, none⟩ 1 1 [.int .i64 x] hx rfl (World.news_of_block (cs := #[.int .i64 x]) (t := 3) (fr := (0, 0)) (heap_alloc_new W _)) (one_int _) (by decide) (by unfold maxLen; omega) (by omega) (by simp; omega) (W.heap.size + 1) (by simp) ?_
  intro g cap w' h1 h2 h3 _
  refine h g cap w' h1 ⟨h2.os, h2.tape, h2.output, Nat.le_trans (by simp) h2.size, fun k hk hne => ?_⟩ (by
    rcases h3 with h3 | h3
    · exact Or.inl h3.symm
    · exact Or.inr (by rw [h3]))
  exact (h2.block k (by simp; omega) hne).trans (Below.heap_alloc W _ k hk)
theorem own_grownBy {w w' : World} {base : Nat} {e : TypeId} {size n : Nat} {v : Value} {xs : List Value} {row : Option Nat} (h : w.ownsRow base e size v n xs) (k : w.grownBy w' row) (hne : v.ownBlock = none ∨ v.ownBlock ≠ row) : w'.ownsRow base e size v n xs := by
  obtain ⟨hl, h⟩ := h
  refine ⟨hl, ?_⟩
  rcases h with h | ⟨g, cap, cur, rfl, hb, hg, h⟩
  · exact Or.inl h
  · have hlt : g < w.heap.size := (Array.getElem?_eq_some_iff.1 hg).1
    have e1 : Value.ownBlock (.slice (some ⟨g, 0, none⟩) n cap) = some g := rfl
    rw [e1] at hne
    refine Or.inr ⟨g, cap, cur, rfl, hb, (k.block g hlt ?_).trans hg, h⟩
    rcases hne with hne | hne
    · cases hne
    · exact hne
/-- m rows of the call's own, in a block of its own -/
def RowsAt (w : World) (g m base : Nat) (R : Nat → Value) (Z : Nat → List Int) : Prop :=
  w.rowIs g 22 m R ∧ g < base ∧ base ≤ w.heap.size ∧ (∀ q, q < m → w.ownsRow base 3 1 (R q) (Z q).length ((Z q).map (Value.int .i64))) ∧ ∀ q q', q < m → q' < m → q ≠ q' → (R q).ownBlock = none ∨ (R q).ownBlock ≠ (R q').ownBlock
theorem RowsAt.push {w w' : World} {g m base q : Nat} {R : Nat → Value} {Z : Nat → List Int} {v' : Value} {x : Int} (h : RowsAt w g m base R Z) (hq : q < m)
    (h1 : w'.ownsRow base 3 1 v' ((Z q).length + 1) ((Z q).map (Value.int .i64) ++ [.int .i64 x])) (h2 : w.grownBy w' (R q).ownBlock) (h3 : v'.ownBlock = (R q).ownBlock ∨ v'.ownBlock = some (w.heap.size + 1)) :
    RowsAt (w'.setCell ⟨g, q, none⟩ v') g m base (fun j => if j = q then v' else R j) (fun j => if j = q then Z q ++ [x] else Z j) := by
  obtain ⟨r1, r2, r3, r4, r5⟩ := h
  have gne : some g ≠ (R q).ownBlock := fun e => by have := ((r4 q hq).lt g e.symm).1; omega
  have hgs : g < w.heap.size := r1.lt
  refine ⟨(r1.of_block (h2.block g hgs gne)).set q v', r2, by have := h2.size; simp [World.setCell]; omega, fun j hj => ?_, fun i j hi hj hij => ?_⟩
  · by_cases hjq : j = q
    · subst hjq
      simp only [if_pos]
      rw [List.length_append, List.map_append]
      exact ownsRow_setCell_below h1 (a := ⟨g, j, none⟩) r2 _
    · simp only [if_neg hjq]
      exact ownsRow_setCell_below (own_grownBy (r4 j hj) h2 (r5 j q hj hq hjq)) (a := ⟨g, q, none⟩) r2 _
  · have lt : ∀ k, k < m → (R k).ownBlock ≠ some (w.heap.size + 1) := fun k hk e => by have := ((r4 k hk).lt _ e).2; omega
    by_cases h1 : i = q
    · subst h1
      have h2 : ¬ j = i := fun e => hij e.symm
      simp only [if_pos, if_neg h2]
      rcases h3 with h3 | h3
      · rw [h3]; exact r5 i j hi hj hij
      · rw [h3]; exact Or.inr (fun e => lt j hj e.symm)
    · by_cases h2 : j = q
      · subst h2
        simp only [if_pos, if_neg h1]
        rcases h3 with h3 | h3
        · rw [h3]; exact r5 i j hi hj hij
        · rw [h3]; exact Or.inr (lt i hi)
      · simp only [if_neg h1, if_neg h2]
        exact r5 i j hi hj hij
theorem RowsAt.mat {w : World} {g m base : Nat} {R : Nat → Value} {Z : Nat → List Int} (h : RowsAt w g m base R Z) (hm : m ≤ 1000000) (hz : ∀ q, q < m → (Z q).length ≤ 1000000) : Mat w (.slice (some ⟨g, 0, none⟩) m m) ((List.range m).map Z) := by
  obtain ⟨r1, r2, r3, r4, r5⟩ := h
  refine ⟨some ⟨g, 0, none⟩, m, by simp, by simp, by unfold maxLen; omega, fun _ => ⟨g, 0, rfl, fun q row hq => ?_⟩⟩
  rw [List.getElem?_map] at hq
  obtain ⟨j, hj, rfl⟩ := Option.map_eq_some_iff.1 hq
  obtain ⟨hlt, e⟩ := List.getElem?_eq_some_iff.1 hj
  simp at hlt e
  subst e
  have hi := Ints.of_owns (r4 q hlt) (by have := hz q hlt; omega)
  obtain ⟨a, cap, e⟩ := hi.form
  refine ⟨a, _, cap, ?_, by rw [← e]; exact hi.1⟩
  rw [← e]
  simpa using r1.cell hlt
end Go.Proofs.YtmhbmegmlpenkaaDoor

/- slices.Repeat's row as one of the call's own; the builtin copy, that leaves all other blocks. -/
namespace Go.Proofs.YtmhbmegmlpenkaaDoor
set_option linter.unusedVariables false
set_option linter.unusedSimpArgs false
open Go.RowKit Go.Extern.Stop Go.Stop Go.Extern

theorem own_mono {w : World} {base b n : Nat} {e : TypeId} {s : Nat} {v : Value} {xs : List Value} (h : w.ownsRow base e s v n xs) (hb : b ≤ base) : w.ownsRow b e s v n xs := by
  obtain ⟨hl, h⟩ := h
  refine ⟨hl, ?_⟩
  rcases h with h | ⟨g, cap, cur, e, hg, h⟩
  · exact Or.inl h
  · exact Or.inr ⟨g, cap, cur, e, Nat.le_trans hb hg, h⟩
/-- made by Repeat, at the lengths that are asked for -/
def RepPost (w : World) (N : Nat) (x : Int) (e : Ending) (w' : World) : Prop := ∃ g, e = .returned (.slice (some ⟨g, 0, none⟩) N N) ∧ Ext w w' ∧ w'.ownsRow w.heap.size 3 1 (.slice (some ⟨g, 0, none⟩) N N) N ((rowL N fun _ => x).map (Value.int .i64)) ∧ w.heap.size ≤ g ∧ g < w'.heap.size
theorem grownBy_setRow (w : World) (g : Nat) (cs : Array Value) : w.grownBy (w.setRow g cs) (some g) :=
  ⟨rfl, rfl, rfl, by simp [World.setRow], fun k _ hne => setRow_other w g k cs (fun e => hne (by rw [e]))⟩
theorem copy_keep {P : Program} {w : World} {ops : Array Oper} {rest : List Oper} {o : Oper} {a : Act} {Q : Exit → Act → World → Prop} (hgd : o.guard = none) (d s : Operand) (dT sT : TypeId)
    (ho : o.op = .call { callee := .builtin .copy, args := #[d, s], argTypes := #[dT, sT] }) (elem : TypeId) (hu : P.underlying dT = some (.slice elem)) (hsz : (P.info? elem).map (·.size) = some 1)
    (g off dLen dCap : Nat) (ad : Addr) (sLen sCap : Nat) (hd : a.eval d = .slice (some ⟨g, off, none⟩) dLen dCap) (hs : a.eval s = .slice (some ad) sLen sCap)
    (cur : List Value) (t : TypeId) (hg : w.heap[g]? = some (.cells cur.toArray t (0, 0))) (cs : List Value) (hn : cs.length = Nat.min sLen dLen)
    (hsrc : ∀ j v, cs[j]? = some v → w.cell? (ad.add j) = some v) (hfit : off + cs.length ≤ cur.length) (h1 : ∀ v ∈ cs, v.oneCell' = true)
    (h : ∀ w', Hid (w'.heap[g]? = some (.cells (splice cur off cs).toArray t (0, 0))) → w.grownBy w' (some g) → wpList P ops Q rest (a.put o.dst (goInt cs.length)) w') :
    wpList P ops Q (o :: rest) a w := by
  refine wpList_copy_own hgd d s dT sT ho elem hu hsz g off dLen dCap ad sLen sCap hd hs cur.toArray t hg cs hn hsrc (by simpa using hfit) h1 ?_
  exact h _ (show _ = _ by simpa [splice] using setRow_heap w g _ _ t _ hg) (grownBy_setRow _ _ _)
/-- what a copy reads, out of a list that came in -/
theorem read_row {w : World} {g off n cap k N : Nat} {zs : List Int} {f : Nat → Int} (h : Ints w (.slice (some ⟨g, off, none⟩) n cap) zs) (hk : k + N ≤ n) (hf : ∀ j, j < N → f j = zs.getD (k + j) 0) :
    ∀ j v, ((rowL N f).map (Value.int .i64))[j]? = some v → w.cell? ((⟨g, off + k, none⟩ : Addr).add j) = some v := fun j v hv => by
  have hadd : (⟨g, off + k, none⟩ : Addr).add j = ⟨g, off + (k + j), none⟩ := by unfold Addr.add; split <;> simp_all [Nat.add_assoc]
  rw [List.getElem?_map] at hv
  obtain ⟨y, hy, rfl⟩ := Option.map_eq_some_iff.1 hv
  have hj : j < N := by
    have := (List.getElem?_eq_some_iff.1 hy).1
    rwa [rowL_length] at this
  rw [rowL_get hj] at hy
  cases hy
  rw [hadd, hf j hj]
  exact h.at (get_of_lt (by rw [← h.len]; omega))
theorem ones_row (N : Nat) (f : Nat → Int) : ∀ u ∈ (rowL N f).map (Value.int .i64), u.oneCell' = true := fun u hu => by
  obtain ⟨y, _, rfl⟩ := List.mem_map.1 hu
  rfl
/-- a splice that covers all -/
theorem splice_all {α : Type} {L cs : List α} (h : cs.length = L.length) : splice L 0 cs = cs := by
  unfold splice
  simp [h]
theorem rowL_cg {N : Nat} {f g : Nat → Int} (h : ∀ j, j < N → f j = g j) : rowL N f = rowL N g := by
  unfold rowL
  exact List.map_congr_left fun j hj => h j (List.mem_range.1 hj)
theorem rowL_sn (k : Nat) (f : Nat → Int) : (rowL (k + 1) f).map (Value.int .i64) = (rowL k f).map (Value.int .i64) ++ [.int .i64 (f k)] := by
  unfold rowL
  rw [List.range_succ, List.map_append, List.map_append]
  rfl
end Go.Proofs.YtmhbmegmlpenkaaDoor

/- kinref6.May: its contract over this seat's translation. -/
namespace Go.Proofs.YtmhbmegmlpenkaaDoor
set_option linter.unusedVariables false
set_option linter.unusedSimpArgs false
open Go.RowKit Go.Extern.Stop Go.Stop Go.Extern

set_option maxRecDepth 20000 in
set_option maxHeartbeats 1000000 in
theorem rmay_any (W H : Int) (zs : List Int) (a : Option Addr) (n cap : Nat) (w : World) (h : Ints w (.slice a n cap) zs) :
    Calls Tryd.prog 30 #[.agg #[.int .i64 W, .int .i64 H, .slice a n cap]] w fun e w' => e = .returned (.bool (decide (may W H zs))) ∧ Ext w w' := by
  have E1 : Ext w (w.alloc (.cells #[.int .i64 W, .int .i64 H, .slice a n cap] 24)) := (Ext.refl w).alloc _
  have HN := Lib.hid h.len
  cases hs : sideB W with
  | false =>
    have HR : Hid (decide (may W H zs) = false) := by show _ = _; simp [may, hs]
    go_enter Tryd.func30, Tryd.ntmps30
    go_wp2_with (go_at_call 69; refine (rside_any _ _).mono ?_; rintro e w' ⟨rfl, rfl⟩)
    go_ret
    exact ⟨by rw [HR.out]; rfl, E1⟩
  | true =>
    cases ht : sideB H with
    | false =>
      have HR : Hid (decide (may W H zs) = false) := by show _ = _; simp [may, ht]
      go_enter Tryd.func30, Tryd.ntmps30
      go_wp2_with (go_at_call 69; refine (rside_any _ _).mono ?_; rintro e w' ⟨rfl, rfl⟩)
      go_ret
      exact ⟨by rw [HR.out]; rfl, E1⟩
    | true =>
      obtain ⟨b1, b2⟩ := side_area hs ht
      by_cases hl : (n : Int) = W * H
      · have hl2 : ((n : Int) == W * H) = true := by simpa using hl
        have HW := Lib.hid (within_any zs 0 255)
        have HR : Hid (decide (may W H zs) = decide (within 0 255 zs)) := by
          show _ = _
          rw [decide_eq_decide]
          exact ⟨fun k => k.2.2.2, fun k => ⟨hs, ht, by rw [← HN.out]; exact hl, k⟩⟩
        clear hl
        cases hd : decide (within 0 255 zs) with
        | true =>
          rw [hd] at HR HW
          clear hd
          go_enter Tryd.func30, Tryd.ntmps30
          go_wp2_with (go_at_call 69; refine (rside_any _ _).mono ?_; rintro e w' ⟨rfl, rfl⟩)
          refine (HW.out _ _ (h.ext (by repeat (first | exact Ext.refl _ | assumption | refine Ext.alloc ?_ _ | refine Ext.drew ?_ | refine Ext.drewN ?_ _ | refine Ext.setCell ?_ (by first | exact Nat.le_refl _ | (simp; done) | omega) _ | refine Ext.trans ?_ (by assumption))))).mono ?_; rintro e w2 ⟨rfl, hx2⟩
          go_wp2
          go_ret
          exact ⟨by rw [HR.out]; rfl, (by repeat (first | exact Ext.refl _ | assumption | refine Ext.alloc ?_ _ | refine Ext.drew ?_ | refine Ext.drewN ?_ _ | refine Ext.setCell ?_ (by first | exact Nat.le_refl _ | (simp; done) | omega) _ | refine Ext.trans ?_ (by assumption)))⟩
        | false =>
          rw [hd] at HR HW
          clear hd
          go_enter Tryd.func30, Tryd.ntmps30
          go_wp2_with (go_at_call 69; refine (rside_any _ _).mono ?_; rintro e w' ⟨rfl, rfl⟩)
          refine (HW.out _ _ (h.ext (by repeat (first | exact Ext.refl _ | assumption | refine Ext.alloc ?_ _ | refine Ext.drew ?_ | refine Ext.drewN ?_ _ | refine Ext.setCell ?_ (by first | exact Nat.le_refl _ | (simp; done) | omega) _ | refine Ext.trans ?_ (by assumption))))).mono ?_; rintro e w2 ⟨rfl, hx2⟩
          go_wp2
          go_ret
          exact ⟨by rw [HR.out]; rfl, (by repeat (first | exact Ext.refl _ | assumption | refine Ext.alloc ?_ _ | refine Ext.drew ?_ | refine Ext.drewN ?_ _ | refine Ext.setCell ?_ (by first | exact Nat.le_refl _ | (simp; done) | omega) _ | refine Ext.trans ?_ (by assumption)))⟩
      · have HR : Hid (decide (may W H zs) = false) := by show _ = _; rw [decide_eq_false (fun hm => hl (by rw [HN.out]; exact hm.2.2.1))]
        have hl2 : ((n : Int) == W * H) = false := by simpa using hl
        clear hl
        go_enter Tryd.func30, Tryd.ntmps30
        go_wp2_with (go_at_call 69; refine (rside_any _ _).mono ?_; rintro e w' ⟨rfl, rfl⟩)
        go_ret
        exact ⟨by rw [HR.out]; rfl, E1⟩
theorem place_in {W H x y : Int} {n : Nat} (hW : W ≤ 32) (hH : H ≤ 32) (hn : (n : Int) = W * H) (hx : x < W) (hy : y < H) : 0 ≤ x → 0 ≤ y → 0 ≤ y * W ∧ y * W ≤ 100000 ∧ y * W + x < n := fun h1 h2 => by
  have a1 : 0 ≤ y * W := Int.mul_nonneg h2 (by omega)
  have a2 : (y + 1) * W ≤ H * W := Int.mul_le_mul_of_nonneg_right (by omega) (by omega)
  have a3 : H * W ≤ 32 * 32 := Int.mul_le_mul hH hW (by omega) (by omega)
  have a4 : (y + 1) * W = y * W + W := by rw [Int.add_mul, Int.one_mul]
  have a5 : W * H = H * W := Int.mul_comm _ _
  omega
end Go.Proofs.YtmhbmegmlpenkaaDoor

/- slices.Equal, plane.Same, at, At, New; kinref6.at, At; kinlaw6.few: contracts over this seat's translation. -/
namespace Go.Proofs.YtmhbmegmlpenkaaDoor
set_option linter.unusedVariables false
set_option linter.unusedSimpArgs false
open Go.RowKit Go.Extern.Stop Go.Stop Go.Extern

/-- are two frames valid and the same -/
def sameB (W H : Int) (xs : List Int) (W' H' : Int) (ys : List Int) : Bool := decide (may W H xs) && (decide (W = W') && (decide (H = H') && decide (xs = ys)))
/-- the nearest place inside -/
def clampI (v n : Int) : Int := max 0 (min v (n - 1))
theorem clampI_in {v n : Int} (h : 1 ≤ n) : 0 ≤ clampI v n ∧ clampI v n < n := by unfold clampI; omega
/-- the sample at a place; beyond an edge, the one at the edge -/
def atV (W H : Int) (zs : List Int) (x y : Int) : Int := zs.getD (clampI y H * W + clampI x W).toNat 0
theorem at_place {W H : Int} {zs : List Int} (h : may W H zs) (x y : Int) : ∃ k : Nat, clampI y H * W + clampI x W = (k : Int) ∧ k < zs.length ∧ 0 ≤ clampI y H * W ∧ clampI y H * W ≤ 100000 ∧ (k : Int) ≤ 100000 ∧ 0 ≤ clampI x W ∧ clampI x W ≤ 31 := by
  have hW := sideB_true h.1
  have hH := sideB_true h.2.1
  have c1 := clampI_in (v := x) (n := W) (by omega)
  have c2 := clampI_in (v := y) (n := H) (by omega)
  obtain ⟨a1, a2, a3⟩ := place_in hW.2.1 hH.2.1 h.2.2.1 c1.2 c2.2 c1.1 c2.1
  have hml := may_len h
  exact ⟨(clampI y H * W + clampI x W).toNat, by omega, by omega, a1, a2, by omega, c1.1, by omega⟩
set_option maxRecDepth 20000 in
set_option maxHeartbeats 2000000 in
theorem at_any (W H x y : Int) (zs : List Int) (a : Option Addr) (n cap : Nat) (w : World) (h : Ints w (.slice a n cap) zs) (hm : may W H zs) :
    Calls Tryd.prog 71 #[.agg #[.int .i64 W, .int .i64 H, .slice a n cap], .int .i64 x, .int .i64 y] w fun e w' => e = .returned (.int .i64 (atV W H zs x y)) ∧ Ext w w' := by
  obtain ⟨k, hk, hk1, b1, b2, b3, b4, b5⟩ := at_place hm x y
  have hW := sideB_true hm.1
  have hH := sideB_true hm.2.1
  have hl := h.len
  obtain ⟨g, off, rfl⟩ := h.had (by omega)
  have E1 : Ext w (w.alloc (.cells #[.int .i64 W, .int .i64 H, .slice (some ⟨g, off, none⟩) n cap] 24)) := (Ext.refl w).alloc _
  have c1 := E1.cell (h.at (get_of_lt hk1))
  have p0 : (w.alloc (.cells #[.int .i64 W, .int .i64 H, .slice (some ⟨g, off, none⟩) n cap] 24)).cell? ⟨w.heap.size, 0, none⟩ = some (.int .i64 W) := by simp
  have p1 : (w.alloc (.cells #[.int .i64 W, .int .i64 H, .slice (some ⟨g, off, none⟩) n cap] 24)).cell? ⟨w.heap.size, 1, none⟩ = some (.int .i64 H) := by simp
  have p2 : (w.alloc (.cells #[.int .i64 W, .int .i64 H, .slice (some ⟨g, off, none⟩) n cap] 24)).cell? ⟨w.heap.size, 2, none⟩ = some (.slice (some ⟨g, off, none⟩) n cap) := by simp
  have HR : Hid (atV W H zs x y = zs.getD k 0) := by show _ = _; unfold atV; rw [hk]; rfl
  revert c1 HR
  generalize zs.getD k 0 = z
  intro c1 HR
  have r1 := mx2
  have r2 := mn2
  obtain ⟨cx, hcx⟩ : ∃ cx, cx = clampI x W := ⟨_, rfl⟩
  obtain ⟨cy, hcy⟩ : ∃ cy, cy = clampI y H := ⟨_, rfl⟩
  rw [← hcx, ← hcy] at hk
  rw [← hcy] at b1 b2
  rw [← hcx] at b4 b5
  have f1 : max 0 (min y (H - 1)) = cy := by rw [hcy]; unfold clampI; omega
  have f2 : max 0 (min x (W - 1)) = cx := by rw [hcx]; unfold clampI; omega
  have e1 : IntKind.i64.wrap (W - 1) = W - 1 := by rw [IntKind.wrap_i64]; omega
  have e2 : IntKind.i64.wrap (H - 1) = H - 1 := by rw [IntKind.wrap_i64]; omega
  have e3 : IntKind.i64.wrap (cy * W) = cy * W := by rw [IntKind.wrap_i64]; omega
  have e4 : IntKind.i64.wrap (cy * W + cx) = (k : Int) := by rw [IntKind.wrap_i64]; omega
  have k1 : (0 : Int) ≤ (k : Int) ∧ (k : Int) < (n : Int) := by omega
  clear hcx hcy hk hm hl hk1 hW hH b1 b2 b3 b4 b5
  go_enter Tryd.func71, Tryd.ntmps71
  go_wp2
  go_region
  all_goals go_wp2
  all_goals go_ret
  all_goals exact ⟨by rw [HR.out]; rfl, E1.drew⟩
set_option maxRecDepth 20000 in
set_option maxHeartbeats 2000000 in
theorem rat_any (W H x y : Int) (zs : List Int) (a : Option Addr) (n cap : Nat) (w : World) (h : Ints w (.slice a n cap) zs) (hm : may W H zs) :
    Calls Tryd.prog 98 #[.agg #[.int .i64 W, .int .i64 H, .slice a n cap], .int .i64 x, .int .i64 y] w fun e w' => e = .returned (.int .i64 (atV W H zs x y)) ∧ Ext w w' := by
  obtain ⟨k, hk, hk1, b1, b2, b3, b4, b5⟩ := at_place hm x y
  have hW := sideB_true hm.1
  have hH := sideB_true hm.2.1
  have hl := h.len
  obtain ⟨g, off, rfl⟩ := h.had (by omega)
  have E1 : Ext w (w.alloc (.cells #[.int .i64 W, .int .i64 H, .slice (some ⟨g, off, none⟩) n cap] 24)) := (Ext.refl w).alloc _
  have c1 := E1.cell (h.at (get_of_lt hk1))
  have p0 : (w.alloc (.cells #[.int .i64 W, .int .i64 H, .slice (some ⟨g, off, none⟩) n cap] 24)).cell? ⟨w.heap.size, 0, none⟩ = some (.int .i64 W) := by simp
  have p1 : (w.alloc (.cells #[.int .i64 W, .int .i64 H, .slice (some ⟨g, off, none⟩) n cap] 24)).cell? ⟨w.heap.size, 1, none⟩ = some (.int .i64 H) := by simp
  have p2 : (w.alloc (.cells #[.int .i64 W, .int .i64 H, .slice (some ⟨g, off, none⟩) n cap] 24)).cell? ⟨w.heap.size, 2, none⟩ = some (.slice (some ⟨g, off, none⟩) n cap) := by simp
  have HR : Hid (atV W H zs x y = zs.getD k 0) := by show _ = _; unfold atV; rw [hk]; rfl
  revert c1 HR
  generalize zs.getD k 0 = z
  intro c1 HR
  have r1 := mx2
  have r2 := mn2
  obtain ⟨cx, hcx⟩ : ∃ cx, cx = clampI x W := ⟨_, rfl⟩
  obtain ⟨cy, hcy⟩ : ∃ cy, cy = clampI y H := ⟨_, rfl⟩
  rw [← hcx, ← hcy] at hk
  rw [← hcy] at b1 b2
  rw [← hcx] at b4 b5
  have f1 : min (max y 0) (H - 1) = cy := by rw [hcy]; unfold clampI; omega
  have f2 : min (max x 0) (W - 1) = cx := by rw [hcx]; unfold clampI; omega
  have e1 : IntKind.i64.wrap (W - 1) = W - 1 := by rw [IntKind.wrap_i64]; omega
  have e2 : IntKind.i64.wrap (H - 1) = H - 1 := by rw [IntKind.wrap_i64]; omega
  have e3 : IntKind.i64.wrap (cy * W) = cy * W := by rw [IntKind.wrap_i64]; omega
  have e4 : IntKind.i64.wrap (cy * W + cx) = (k : Int) := by rw [IntKind.wrap_i64]; omega
  have k1 : (0 : Int) ≤ (k : Int) ∧ (k : Int) < (n : Int) := by omega
  clear hcx hcy hk hm hl hk1 hW hH b1 b2 b3 b4 b5
  go_enter Tryd.func98, Tryd.ntmps98
  go_wp2
  go_ret
  exact ⟨by rw [HR.out]; rfl, E1⟩
def atA (W H : Int) (zs : List Int) (x y : Int) : Int := if may W H zs then atV W H zs x y else 0
end Go.Proofs.YtmhbmegmlpenkaaDoor

/- plane.isNear, plane.Get; kinref6.Get: contracts over this seat's translation. -/
namespace Go.Proofs.YtmhbmegmlpenkaaDoor
set_option linter.unusedVariables false
set_option linter.unusedSimpArgs false
open Go.RowKit Go.Extern.Stop Go.Stop Go.Extern

def nearB (x : Int) : Bool := decide (-65536 ≤ x) && decide (x ≤ 65536)
theorem near_any (x : Int) (w : World) : Calls Tryd.prog 70 #[.int .i64 x] w fun e w' => e = .returned (.bool (nearB x)) ∧ w = w' := by
  by_cases h1 : -65536 ≤ x
  · by_cases h2 : x ≤ 65536
    · have H : Hid (nearB x = true) := by show _ = _; unfold nearB; simp [h1, h2]
      go_enter Tryd.func70, Tryd.ntmps70
      go_wp2
      go_ret
      exact ⟨by rw [H.out]; rfl, rfl⟩
    · have H : Hid (nearB x = false) := by show _ = _; unfold nearB; simp [h2]
      go_enter Tryd.func70, Tryd.ntmps70
      go_wp2
      go_ret
      exact ⟨by rw [H.out]; rfl, rfl⟩
  · have H : Hid (nearB x = false) := by show _ = _; unfold nearB; simp [h1]
    go_enter Tryd.func70, Tryd.ntmps70
    go_wp2
    go_ret
    exact ⟨by rw [H.out]; rfl, rfl⟩
/-- a square out of a frame -/
def getF (W H : Int) (zs : List Int) (x y : Int) (N k : Nat) : Int := atV W H zs (x + ((k % N : Nat) : Int)) (y + ((k / N : Nat) : Int))
def getOk (W H : Int) (zs : List Int) (x y n : Int) : Prop := may W H zs ∧ (1 ≤ n ∧ n ≤ 8) ∧ nearB x = true ∧ nearB y = true
instance (W H : Int) (zs : List Int) (x y n : Int) : Decidable (getOk W H zs x y n) := by unfold getOk; exact inferInstance
def getL (W H : Int) (zs : List Int) (x y n : Int) : List Int := if getOk W H zs x y n then rowL (n.toNat * n.toNat) (getF W H zs x y n.toNat) else []
theorem sq_small {N : Nat} (h : N ≤ 8) : N * N ≤ 64 := Nat.mul_le_mul h h
theorem get_at {N i : Nat} (W H : Int) (zs : List Int) (x y : Int) (j : Nat) (hi : i < N) : getF W H zs x y N (j * N + i) = atV W H zs (x + (i : Int)) (y + (j : Int)) := by
  unfold getF
  have e1 : (j * N + i) % N = i := by rw [Nat.add_comm, Nat.add_mul_mod_self_right, Nat.mod_eq_of_lt hi]
  have e2 : (j * N + i) / N = j := by rw [Nat.add_comm, Nat.add_mul_div_right _ _ (by omega), Nat.div_eq_of_lt hi, Nat.zero_add]
  rw [e1, e2]
/-- a frame's three cells -/
def FrB3 (w : World) (b : Nat) (W H : Int) (v : Value) : Prop := w.cell? ⟨b, 0, none⟩ = some (.int .i64 W) ∧ w.cell? ⟨b, 1, none⟩ = some (.int .i64 H) ∧ w.cell? ⟨b, 2, none⟩ = some v
theorem FrB3.ext {w w' : World} {b : Nat} {W H : Int} {v : Value} (h : FrB3 w b W H v) (k : Ext w w') : FrB3 w' b W H v := ⟨k.cell h.1, k.cell h.2.1, k.cell h.2.2⟩
theorem FrB3.new (w : World) (W H : Int) (v : Value) : FrB3 (w.alloc (.cells #[.int .i64 W, .int .i64 H, v] 24)) w.heap.size W H v := ⟨by simp, by simp, by simp⟩
set_option maxHeartbeats 4000000 in
set_option maxRecDepth 20000 in
theorem get_ok (W H x y : Int) (N : Nat) (zs : List Int) (a : Option Addr) (n cap : Nat) (w : World) (h : Ints w (.slice a n cap) zs) (hm : may W H zs) (hN : 1 ≤ N ∧ N ≤ 8) (hx : -65536 ≤ x ∧ x ≤ 65536) (hy : -65536 ≤ y ∧ y ≤ 65536) :
    Calls Tryd.prog 32 #[.agg #[.int .i64 W, .int .i64 H, .slice a n cap], .int .i64 x, .int .i64 y, .int .i64 (N : Int)] w fun e w' => ∃ u, e = .returned u ∧ Ext w w' ∧ Ints w' u (rowL (N * N) (getF W H zs x y N)) := by
  obtain ⟨i0, hi, hz0, hz1, hz2⟩ := info_parts infoInt
  have M1 := Lib.hid (fun w h => may_any W H zs a n cap w h)
  have A1 := Lib.hid (fun (w : World) (x y : Int) (h : Ints w (.slice a n cap) zs) => at_any W H x y zs a n cap w h hm)
  have H1 := Lib.hid hm
  obtain ⟨hN1, hN2⟩ := hN
  obtain ⟨hx1, hx2⟩ := hx
  obtain ⟨hy1, hy2⟩ := hy
  have hs := sq_small hN2
  have g1 : nearB x = true := by unfold nearB; simp; omega
  have g2 : nearB y = true := by unfold nearB; simp; omega
  have e1 : IntKind.i64.wrap ((N : Int) * (N : Int)) = ((N * N : Nat) : Int) := by rw [IntKind.wrap_i64]; push_cast; have := Int.ofNat_le.2 hs; push_cast at this; omega
  clear hm
  go_enter Tryd.func32, Tryd.ntmps32
  go_wp2_with fail
  refine (M1.out _ (h.ext (by repeat (first | exact Ext.refl _ | assumption | refine Ext.alloc ?_ _ | refine Ext.drew ?_ | refine Ext.drewN ?_ _ | refine Ext.setCell ?_ (by first | exact Nat.le_refl _ | (simp; done) | omega) _ | refine Ext.trans ?_ (by assumption))))).mono ?_; rintro e w1 ⟨rfl, hx1'⟩
  rw [decide_eq_true H1.out]
  have FB := Lib.hid ((FrB3.new w W H (.slice a n cap)).ext hx1')
  have E1 : Ext w w1 := (by repeat (first | exact Ext.refl _ | assumption | refine Ext.alloc ?_ _ | refine Ext.drew ?_ | refine Ext.drewN ?_ _ | refine Ext.setCell ?_ (by first | exact Nat.le_refl _ | (simp; done) | omega) _ | refine Ext.trans ?_ (by assumption)))
  clear hx1'
  go_wp2_with (first | (go_at_call 70; refine (near_any _ _).mono ?_; rintro e w' ⟨rfl, rfl⟩) | (at_make; refine wpList_make_own _ rfl _ _ 22 rfl w1.heap.size 3 i0 (.int .i64 0) 1 Tryd.underlying22 hi hz0 hz1 .i64 .i64 _ (N * N) rfl rfl rfl (by rw [hz2]; omega) (by unfold maxLen; omega) (Nat.le_refl _) ?_; intro w2 hown hgrow))
  have hE2 : Ext w1 w2 := Below.grown (Below.refl _ _) hgrow (Nat.le_refl _) (fun k hk => by cases hk)
  clear hgrow hi hz0 hz1 hz2
  go_loopw [9, 38] (fun bv jv wr => ∃ j : Nat, j ≤ N ∧ jv = .int .i64 j ∧ Hid (wr.ownsRow w1.heap.size 3 1 bv (j * N) ((rowL (j * N) (getF W H zs x y N)).map (Value.int .i64))) ∧ Ext w1 wr) (fun _ jv _ => N - (intOf jv).toNat)
  case atStart => exact ⟨0, Nat.zero_le _, rfl, by show World.ownsRow _ _ _ _ _ _ _; rw [Nat.zero_mul]; exact hown, hE2⟩
  case round =>
    clear hown hE2
    obtain ⟨j, hj, rfl, HO, hE⟩ := hrel
    by_cases hlt : j < N
    · have t1 : decide ((j : Int) < (N : Int)) = true := decide_eq_true (by omega)
      go_wp2_with fail
      go_loopw [9, 42] (fun bv iv wr => ∃ i : Nat, i ≤ N ∧ iv = .int .i64 i ∧ Hid (wr.ownsRow w1.heap.size 3 1 bv (j * N + i) ((rowL (j * N + i) (getF W H zs x y N)).map (Value.int .i64))) ∧ Ext w1 wr) (fun _ iv _ => N - (intOf iv).toNat)
      case atStart => exact ⟨0, Nat.zero_le _, rfl, by simpa using HO, hE⟩
      case round =>
        clear HO hE
        obtain ⟨i, hi, rfl, HO, hE⟩ := hrel
        obtain ⟨p0, p1, p2⟩ := FB.out.ext hE
        by_cases hit : i < N
        · have d1 : IntKind.i64.wrap (x + (i : Int)) = x + (i : Int) := by rw [IntKind.wrap_i64]; omega
          have d2 : IntKind.i64.wrap (y + (j : Int)) = y + (j : Int) := by rw [IntKind.wrap_i64]; omega
          have HS := Lib.hid (get_at W H zs x y j hit)
          have hsm : j * N + i ≤ 1000 := by
            have := Nat.mul_le_mul hj hN2
            omega
          go_wp2_with fail
          refine (A1.out _ (x + i) (y + j) (h.ext (E1.trans hE))).mono ?_; rintro e w5 ⟨rfl, hx5⟩
          have HO5 := Lib.hid (own_ext HO.out hx5)
          have E5 : Ext w1 w5 := hE.trans hx5
          have B5 := E5.size
          clear HO hE hx5 p0 p1 p2
          go_wp2_with (at_builtin; refine push_int rfl _ _ 22 rfl Tryd.underlying22 _ _ _ _ rfl HO5.out (by show Value.slice (some ⟨w5.heap.size, 0, none⟩) 1 1 = _; simp) B5 (by omega) ?_; intro v' w7 h1 h2)
          have E7 : Ext w1 w7 := E5.of_below h2 (Nat.le_refl _)
          have HO7 := Lib.hid h1
          clear h1 h2
          go_roundw
          case rel => exact ⟨i + 1, by omega, by go_num, by
            show World.ownsRow _ _ _ _ _ _ _
            rw [← Nat.add_assoc, rowL_sn, HS.out]
            exact HO7.out, E7⟩
          case measure => simp [intOf]; omega
        · obtain rfl : i = N := by omega
          go_wp2
          go_roundw
          case rel => exact ⟨j + 1, by omega, by go_num, by
            show World.ownsRow _ _ _ _ _ _ _
            rw [Nat.succ_mul]
            exact HO.out, hE⟩
          case measure => simp [intOf]; omega
    · obtain rfl : j = N := by omega
      go_wp2
      go_ret
      exact ⟨_, rfl, E1.trans hE, Ints.of_row HO.out (by omega)⟩
set_option maxHeartbeats 4000000 in
set_option maxRecDepth 20000 in
theorem rget_ok (W H x y : Int) (N : Nat) (zs : List Int) (a : Option Addr) (n cap : Nat) (w : World) (h : Ints w (.slice a n cap) zs) (hm : may W H zs) (hN : 1 ≤ N ∧ N ≤ 8) (hx : -65536 ≤ x ∧ x ≤ 65536) (hy : -65536 ≤ y ∧ y ≤ 65536) :
    Calls Tryd.prog 81 #[.agg #[.int .i64 W, .int .i64 H, .slice a n cap], .int .i64 x, .int .i64 y, .int .i64 (N : Int)] w fun e w' => ∃ u, e = .returned u ∧ Ext w w' ∧ Ints w' u (rowL (N * N) (getF W H zs x y N)) := by
  have M1 := Lib.hid (fun w h => rmay_any W H zs a n cap w h)
  have A1 := Lib.hid (fun (w : World) (x y : Int) (h : Ints w (.slice a n cap) zs) => rat_any W H x y zs a n cap w h hm)
  have H1 := Lib.hid hm
  obtain ⟨hN1, hN2⟩ := hN
  obtain ⟨hx1, hx2⟩ := hx
  obtain ⟨hy1, hy2⟩ := hy
  have hs := sq_small hN2
  have g1 : nearB x = true := by unfold nearB; simp; omega
  have g2 : nearB y = true := by unfold nearB; simp; omega
  have e1 : IntKind.i64.wrap ((N : Int) * (N : Int)) = ((N * N : Nat) : Int) := by rw [IntKind.wrap_i64]; push_cast; have := Int.ofNat_le.2 hs; push_cast at this; omega
  clear hm
  go_enter Tryd.func81, Tryd.ntmps81
  go_wp2_with fail
  refine (M1.out _ (h.ext (by repeat (first | exact Ext.refl _ | assumption | refine Ext.alloc ?_ _ | refine Ext.drew ?_ | refine Ext.drewN ?_ _ | refine Ext.setCell ?_ (by first | exact Nat.le_refl _ | (simp; done) | omega) _ | refine Ext.trans ?_ (by assumption))))).mono ?_; rintro e w1 ⟨rfl, hx1'⟩
  rw [decide_eq_true H1.out]
  have FB := Lib.hid ((FrB3.new w W H (.slice a n cap)).ext hx1')
  have E1 : Ext w w1 := (by repeat (first | exact Ext.refl _ | assumption | refine Ext.alloc ?_ _ | refine Ext.drew ?_ | refine Ext.drewN ?_ _ | refine Ext.setCell ?_ (by first | exact Nat.le_refl _ | (simp; done) | omega) _ | refine Ext.trans ?_ (by assumption)))
  clear hx1'
  go_wp2_with fail
  go_loopw [9, 10] (fun bv jv wr => ∃ j : Nat, j ≤ N ∧ jv = .int .i64 j ∧ Hid (wr.ownsRow w1.heap.size 3 1 bv (j * N) ((rowL (j * N) (getF W H zs x y N)).map (Value.int .i64))) ∧ Ext w1 wr) (fun _ jv _ => N - (intOf jv).toNat)
  case atStart => exact ⟨0, Nat.zero_le _, rfl, by show World.ownsRow _ _ _ _ _ _ _; rw [Nat.zero_mul]; exact World.ownsRow_nil _ _ _ _, Ext.refl _⟩
  case round =>
    obtain ⟨j, hj, rfl, HO, hE⟩ := hrel
    by_cases hlt : j < N
    · have t1 : decide ((j : Int) < (N : Int)) = true := decide_eq_true (by omega)
      go_wp2_with fail
      go_loopw [9, 11] (fun bv iv wr => ∃ i : Nat, i ≤ N ∧ iv = .int .i64 i ∧ Hid (wr.ownsRow w1.heap.size 3 1 bv (j * N + i) ((rowL (j * N + i) (getF W H zs x y N)).map (Value.int .i64))) ∧ Ext w1 wr) (fun _ iv _ => N - (intOf iv).toNat)
      case atStart => exact ⟨0, Nat.zero_le _, rfl, by simpa using HO, hE⟩
      case round =>
        clear HO hE
        obtain ⟨i, hi, rfl, HO, hE⟩ := hrel
        obtain ⟨p0, p1, p2⟩ := FB.out.ext hE
        by_cases hit : i < N
        · have d1 : IntKind.i64.wrap (x + (i : Int)) = x + (i : Int) := by rw [IntKind.wrap_i64]; omega
          have d2 : IntKind.i64.wrap (y + (j : Int)) = y + (j : Int) := by rw [IntKind.wrap_i64]; omega
          have HS := Lib.hid (get_at W H zs x y j hit)
          have hsm : j * N + i ≤ 1000 := by
            have := Nat.mul_le_mul hj hN2
            omega
          go_wp2_with fail
          refine (A1.out _ (x + i) (y + j) (h.ext (E1.trans hE))).mono ?_; rintro e w5 ⟨rfl, hx5⟩
          have HO5 := Lib.hid (own_ext HO.out hx5)
          have E5 : Ext w1 w5 := hE.trans hx5
          have B5 := E5.size
          clear HO hE hx5 p0 p1 p2
          go_wp2_with (at_builtin; refine push_int rfl _ _ 22 rfl Tryd.underlying22 _ _ _ _ rfl HO5.out (by show Value.slice (some ⟨w5.heap.size, 0, none⟩) 1 1 = _; simp) B5 (by omega) ?_; intro v' w7 h1 h2)
          have E7 : Ext w1 w7 := E5.of_below h2 (Nat.le_refl _)
          have HO7 := Lib.hid h1
          clear h1 h2
          go_roundw
          case rel => exact ⟨i + 1, by omega, by go_num, by
            show World.ownsRow _ _ _ _ _ _ _
            rw [← Nat.add_assoc, rowL_sn, HS.out]
            exact HO7.out, E7⟩
          case measure => simp [intOf]; omega
        · obtain rfl : i = N := by omega
          go_wp2
          go_roundw
          case rel => exact ⟨j + 1, by omega, by go_num, by
            show World.ownsRow _ _ _ _ _ _ _
            rw [Nat.succ_mul]
            exact HO.out, hE⟩
          case measure => simp [intOf]; omega
    · obtain rfl : j = N := by omega
      go_wp2
      go_ret
      exact ⟨_, rfl, E1.trans hE, Ints.of_row HO.out (by omega)⟩
set_option maxHeartbeats 2000000 in
set_option maxRecDepth 20000 in
theorem get_no (W H x y i : Int) (zs : List Int) (a : Option Addr) (n cap : Nat) (w : World) (h : Ints w (.slice a n cap) zs) (hm : ¬ getOk W H zs x y i) :
    Calls Tryd.prog 32 #[.agg #[.int .i64 W, .int .i64 H, .slice a n cap], .int .i64 x, .int .i64 y, .int .i64 i] w fun e w' => ∃ u, e = .returned u ∧ Ext w w' ∧ Ints w' u [] := by
  have M1 := Lib.hid (fun w h => may_any W H zs a n cap w h)
  by_cases h1 : may W H zs
  · have H1 := Lib.hid h1
    have hb : ¬ ((1 ≤ i ∧ i ≤ 8) ∧ (-65536 ≤ x ∧ x ≤ 65536) ∧ -65536 ≤ y ∧ y ≤ 65536) := fun ⟨k1, k2, k3⟩ => hm ⟨h1, k1, by unfold nearB; simp; omega, by unfold nearB; simp; omega⟩
    clear hm h1
    by_cases c1 : i < 1
    · clear hb
      go_enter Tryd.func32, Tryd.ntmps32
      go_wp2_with fail
      refine (M1.out _ (h.ext (by repeat (first | exact Ext.refl _ | assumption | refine Ext.alloc ?_ _ | refine Ext.drew ?_ | refine Ext.drewN ?_ _ | refine Ext.setCell ?_ (by first | exact Nat.le_refl _ | (simp; done) | omega) _ | refine Ext.trans ?_ (by assumption))))).mono ?_; rintro e w1 ⟨rfl, hx1'⟩
      rw [decide_eq_true H1.out]
      go_wp2_with (go_at_call 70; refine (near_any _ _).mono ?_; rintro e w' ⟨rfl, rfl⟩)
      go_ret
      exact ⟨_, rfl, (by repeat (first | exact Ext.refl _ | assumption | refine Ext.alloc ?_ _ | refine Ext.drew ?_ | refine Ext.drewN ?_ _ | refine Ext.setCell ?_ (by first | exact Nat.le_refl _ | (simp; done) | omega) _ | refine Ext.trans ?_ (by assumption))), Ints.nil _⟩
    · by_cases c2 : 8 < i
      · clear hb
        go_enter Tryd.func32, Tryd.ntmps32
        go_wp2_with fail
        refine (M1.out _ (h.ext (by repeat (first | exact Ext.refl _ | assumption | refine Ext.alloc ?_ _ | refine Ext.drew ?_ | refine Ext.drewN ?_ _ | refine Ext.setCell ?_ (by first | exact Nat.le_refl _ | (simp; done) | omega) _ | refine Ext.trans ?_ (by assumption))))).mono ?_; rintro e w1 ⟨rfl, hx1'⟩
        rw [decide_eq_true H1.out]
        go_wp2_with (go_at_call 70; refine (near_any _ _).mono ?_; rintro e w' ⟨rfl, rfl⟩)
        go_ret
        exact ⟨_, rfl, (by repeat (first | exact Ext.refl _ | assumption | refine Ext.alloc ?_ _ | refine Ext.drew ?_ | refine Ext.drewN ?_ _ | refine Ext.setCell ?_ (by first | exact Nat.le_refl _ | (simp; done) | omega) _ | refine Ext.trans ?_ (by assumption))), Ints.nil _⟩
      · by_cases c3 : x < -65536
        · have g1 : nearB x = false := by unfold nearB; simp; omega
          clear hb
          go_enter Tryd.func32, Tryd.ntmps32
          go_wp2_with fail
          refine (M1.out _ (h.ext (by repeat (first | exact Ext.refl _ | assumption | refine Ext.alloc ?_ _ | refine Ext.drew ?_ | refine Ext.drewN ?_ _ | refine Ext.setCell ?_ (by first | exact Nat.le_refl _ | (simp; done) | omega) _ | refine Ext.trans ?_ (by assumption))))).mono ?_; rintro e w1 ⟨rfl, hx1'⟩
          rw [decide_eq_true H1.out]
          go_wp2_with (go_at_call 70; refine (near_any _ _).mono ?_; rintro e w' ⟨rfl, rfl⟩)
          go_ret
          exact ⟨_, rfl, (by repeat (first | exact Ext.refl _ | assumption | refine Ext.alloc ?_ _ | refine Ext.drew ?_ | refine Ext.drewN ?_ _ | refine Ext.setCell ?_ (by first | exact Nat.le_refl _ | (simp; done) | omega) _ | refine Ext.trans ?_ (by assumption))), Ints.nil _⟩
        · by_cases c4 : 65536 < x
          · have g1 : nearB x = false := by unfold nearB; simp; omega
            clear hb
            go_enter Tryd.func32, Tryd.ntmps32
            go_wp2_with fail
            refine (M1.out _ (h.ext (by repeat (first | exact Ext.refl _ | assumption | refine Ext.alloc ?_ _ | refine Ext.drew ?_ | refine Ext.drewN ?_ _ | refine Ext.setCell ?_ (by first | exact Nat.le_refl _ | (simp; done) | omega) _ | refine Ext.trans ?_ (by assumption))))).mono ?_; rintro e w1 ⟨rfl, hx1'⟩
            rw [decide_eq_true H1.out]
            go_wp2_with (go_at_call 70; refine (near_any _ _).mono ?_; rintro e w' ⟨rfl, rfl⟩)
            go_ret
            exact ⟨_, rfl, (by repeat (first | exact Ext.refl _ | assumption | refine Ext.alloc ?_ _ | refine Ext.drew ?_ | refine Ext.drewN ?_ _ | refine Ext.setCell ?_ (by first | exact Nat.le_refl _ | (simp; done) | omega) _ | refine Ext.trans ?_ (by assumption))), Ints.nil _⟩
          · have g1 : nearB x = true := by unfold nearB; simp; omega
            by_cases c5 : y < -65536
            · have g2 : nearB y = false := by unfold nearB; simp; omega
              clear hb
              go_enter Tryd.func32, Tryd.ntmps32
              go_wp2_with fail
              refine (M1.out _ (h.ext (by repeat (first | exact Ext.refl _ | assumption | refine Ext.alloc ?_ _ | refine Ext.drew ?_ | refine Ext.drewN ?_ _ | refine Ext.setCell ?_ (by first | exact Nat.le_refl _ | (simp; done) | omega) _ | refine Ext.trans ?_ (by assumption))))).mono ?_; rintro e w1 ⟨rfl, hx1'⟩
              rw [decide_eq_true H1.out]
              go_wp2_with (go_at_call 70; refine (near_any _ _).mono ?_; rintro e w' ⟨rfl, rfl⟩)
              go_ret
              exact ⟨_, rfl, (by repeat (first | exact Ext.refl _ | assumption | refine Ext.alloc ?_ _ | refine Ext.drew ?_ | refine Ext.drewN ?_ _ | refine Ext.setCell ?_ (by first | exact Nat.le_refl _ | (simp; done) | omega) _ | refine Ext.trans ?_ (by assumption))), Ints.nil _⟩
            · have c6 : 65536 < y := by omega
              have g2 : nearB y = false := by unfold nearB; simp; omega
              clear hb
              go_enter Tryd.func32, Tryd.ntmps32
              go_wp2_with fail
              refine (M1.out _ (h.ext (by repeat (first | exact Ext.refl _ | assumption | refine Ext.alloc ?_ _ | refine Ext.drew ?_ | refine Ext.drewN ?_ _ | refine Ext.setCell ?_ (by first | exact Nat.le_refl _ | (simp; done) | omega) _ | refine Ext.trans ?_ (by assumption))))).mono ?_; rintro e w1 ⟨rfl, hx1'⟩
              rw [decide_eq_true H1.out]
              go_wp2_with (go_at_call 70; refine (near_any _ _).mono ?_; rintro e w' ⟨rfl, rfl⟩)
              go_ret
              exact ⟨_, rfl, (by repeat (first | exact Ext.refl _ | assumption | refine Ext.alloc ?_ _ | refine Ext.drew ?_ | refine Ext.drewN ?_ _ | refine Ext.setCell ?_ (by first | exact Nat.le_refl _ | (simp; done) | omega) _ | refine Ext.trans ?_ (by assumption))), Ints.nil _⟩
  · have H1 := Lib.hid h1
    clear hm h1
    go_enter Tryd.func32, Tryd.ntmps32
    go_wp2_with fail
    refine (M1.out _ (h.ext (by repeat (first | exact Ext.refl _ | assumption | refine Ext.alloc ?_ _ | refine Ext.drew ?_ | refine Ext.drewN ?_ _ | refine Ext.setCell ?_ (by first | exact Nat.le_refl _ | (simp; done) | omega) _ | refine Ext.trans ?_ (by assumption))))).mono ?_; rintro e w1 ⟨rfl, hx1'⟩
    rw [decide_eq_false H1.out]
    go_wp2
    go_ret
    exact ⟨_, rfl, (by repeat (first | exact Ext.refl _ | assumption | refine Ext.alloc ?_ _ | refine Ext.drew ?_ | refine Ext.drewN ?_ _ | refine Ext.setCell ?_ (by first | exact Nat.le_refl _ | (simp; done) | omega) _ | refine Ext.trans ?_ (by assumption))), Ints.nil _⟩
theorem get_any (W H x y i : Int) (zs : List Int) (a : Option Addr) (n cap : Nat) (w : World) (h : Ints w (.slice a n cap) zs) :
    Calls Tryd.prog 32 #[.agg #[.int .i64 W, .int .i64 H, .slice a n cap], .int .i64 x, .int .i64 y, .int .i64 i] w fun e w' => ∃ u, e = .returned u ∧ Ext w w' ∧ Ints w' u (getL W H zs x y i) := by
  unfold getL
  by_cases ho : getOk W H zs x y i
  · rw [if_pos ho]
    obtain ⟨h1, h2, h3, h4⟩ := ho
    unfold nearB at h3 h4
    simp only [Bool.and_eq_true, decide_eq_true_eq] at h3 h4
    obtain ⟨N, rfl⟩ : ∃ N : Nat, i = (N : Int) := ⟨i.toNat, by omega⟩
    exact get_ok W H x y N zs a n cap w h h1 (by omega) h3 h4
  · rw [if_neg ho]
    exact get_no W H x y i zs a n cap w h ho
set_option maxHeartbeats 2000000 in
set_option maxRecDepth 20000 in
theorem rget_no (W H x y i : Int) (zs : List Int) (a : Option Addr) (n cap : Nat) (w : World) (h : Ints w (.slice a n cap) zs) (hm : ¬ getOk W H zs x y i) :
    Calls Tryd.prog 81 #[.agg #[.int .i64 W, .int .i64 H, .slice a n cap], .int .i64 x, .int .i64 y, .int .i64 i] w fun e w' => ∃ u, e = .returned u ∧ Ext w w' ∧ Ints w' u [] := by
  have M1 := Lib.hid (fun w h => rmay_any W H zs a n cap w h)
  by_cases h1 : may W H zs
  · have H1 := Lib.hid h1
    have hb : ¬ ((1 ≤ i ∧ i ≤ 8) ∧ (-65536 ≤ x ∧ x ≤ 65536) ∧ -65536 ≤ y ∧ y ≤ 65536) := fun ⟨k1, k2, k3⟩ => hm ⟨h1, k1, by unfold nearB; simp; omega, by unfold nearB; simp; omega⟩
    clear hm h1
    by_cases c1 : i < 1
    · clear hb
      go_enter Tryd.func81, Tryd.ntmps81
      go_wp2_with fail
      refine (M1.out _ (h.ext (by repeat (first | exact Ext.refl _ | assumption | refine Ext.alloc ?_ _ | refine Ext.drew ?_ | refine Ext.drewN ?_ _ | refine Ext.setCell ?_ (by first | exact Nat.le_refl _ | (simp; done) | omega) _ | refine Ext.trans ?_ (by assumption))))).mono ?_; rintro e w1 ⟨rfl, hx1'⟩
      rw [decide_eq_true H1.out]
      go_wp2
      go_ret
      exact ⟨_, rfl, (by repeat (first | exact Ext.refl _ | assumption | refine Ext.alloc ?_ _ | refine Ext.drew ?_ | refine Ext.drewN ?_ _ | refine Ext.setCell ?_ (by first | exact Nat.le_refl _ | (simp; done) | omega) _ | refine Ext.trans ?_ (by assumption))), Ints.nil _⟩
    · by_cases c2 : 8 < i
      · clear hb
        go_enter Tryd.func81, Tryd.ntmps81
        go_wp2_with fail
        refine (M1.out _ (h.ext (by repeat (first | exact Ext.refl _ | assumption | refine Ext.alloc ?_ _ | refine Ext.drew ?_ | refine Ext.drewN ?_ _ | refine Ext.setCell ?_ (by first | exact Nat.le_refl _ | (simp; done) | omega) _ | refine Ext.trans ?_ (by assumption))))).mono ?_; rintro e w1 ⟨rfl, hx1'⟩
        rw [decide_eq_true H1.out]
        go_wp2
        go_ret
        exact ⟨_, rfl, (by repeat (first | exact Ext.refl _ | assumption | refine Ext.alloc ?_ _ | refine Ext.drew ?_ | refine Ext.drewN ?_ _ | refine Ext.setCell ?_ (by first | exact Nat.le_refl _ | (simp; done) | omega) _ | refine Ext.trans ?_ (by assumption))), Ints.nil _⟩
      · by_cases c3 : x < -65536
        · have g1 : nearB x = false := by unfold nearB; simp; omega
          clear hb
          go_enter Tryd.func81, Tryd.ntmps81
          go_wp2_with fail
          refine (M1.out _ (h.ext (by repeat (first | exact Ext.refl _ | assumption | refine Ext.alloc ?_ _ | refine Ext.drew ?_ | refine Ext.drewN ?_ _ | refine Ext.setCell ?_ (by first | exact Nat.le_refl _ | (simp; done) | omega) _ | refine Ext.trans ?_ (by assumption))))).mono ?_; rintro e w1 ⟨rfl, hx1'⟩
          rw [decide_eq_true H1.out]
          go_wp2
          go_ret
          exact ⟨_, rfl, (by repeat (first | exact Ext.refl _ | assumption | refine Ext.alloc ?_ _ | refine Ext.drew ?_ | refine Ext.drewN ?_ _ | refine Ext.setCell ?_ (by first | exact Nat.le_refl _ | (simp; done) | omega) _ | refine Ext.trans ?_ (by assumption))), Ints.nil _⟩
        · by_cases c4 : 65536 < x
          · have g1 : nearB x = false := by unfold nearB; simp; omega
            clear hb
            go_enter Tryd.func81, Tryd.ntmps81
            go_wp2_with fail
            refine (M1.out _ (h.ext (by repeat (first | exact Ext.refl _ | assumption | refine Ext.alloc ?_ _ | refine Ext.drew ?_ | refine Ext.drewN ?_ _ | refine Ext.setCell ?_ (by first | exact Nat.le_refl _ | (simp; done) | omega) _ | refine Ext.trans ?_ (by assumption))))).mono ?_; rintro e w1 ⟨rfl, hx1'⟩
            rw [decide_eq_true H1.out]
            go_wp2
            go_ret
            exact ⟨_, rfl, (by repeat (first | exact Ext.refl _ | assumption | refine Ext.alloc ?_ _ | refine Ext.drew ?_ | refine Ext.drewN ?_ _ | refine Ext.setCell ?_ (by first | exact Nat.le_refl _ | (simp; done) | omega) _ | refine Ext.trans ?_ (by assumption))), Ints.nil _⟩
          · have g1 : nearB x = true := by unfold nearB; simp; omega
            by_cases c5 : y < -65536
            · have g2 : nearB y = false := by unfold nearB; simp; omega
              clear hb
              go_enter Tryd.func81, Tryd.ntmps81
              go_wp2_with fail
              refine (M1.out _ (h.ext (by repeat (first | exact Ext.refl _ | assumption | refine Ext.alloc ?_ _ | refine Ext.drew ?_ | refine Ext.drewN ?_ _ | refine Ext.setCell ?_ (by first | exact Nat.le_refl _ | (simp; done) | omega) _ | refine Ext.trans ?_ (by assumption))))).mono ?_; rintro e w1 ⟨rfl, hx1'⟩
              rw [decide_eq_true H1.out]
              go_wp2
              go_ret
              exact ⟨_, rfl, (by repeat (first | exact Ext.refl _ | assumption | refine Ext.alloc ?_ _ | refine Ext.drew ?_ | refine Ext.drewN ?_ _ | refine Ext.setCell ?_ (by first | exact Nat.le_refl _ | (simp; done) | omega) _ | refine Ext.trans ?_ (by assumption))), Ints.nil _⟩
            · have c6 : 65536 < y := by omega
              have g2 : nearB y = false := by unfold nearB; simp; omega
              clear hb
              go_enter Tryd.func81, Tryd.ntmps81
              go_wp2_with fail
              refine (M1.out _ (h.ext (by repeat (first | exact Ext.refl _ | assumption | refine Ext.alloc ?_ _ | refine Ext.drew ?_ | refine Ext.drewN ?_ _ | refine Ext.setCell ?_ (by first | exact Nat.le_refl _ | (simp; done) | omega) _ | refine Ext.trans ?_ (by assumption))))).mono ?_; rintro e w1 ⟨rfl, hx1'⟩
              rw [decide_eq_true H1.out]
              go_wp2
              go_ret
              exact ⟨_, rfl, (by repeat (first | exact Ext.refl _ | assumption | refine Ext.alloc ?_ _ | refine Ext.drew ?_ | refine Ext.drewN ?_ _ | refine Ext.setCell ?_ (by first | exact Nat.le_refl _ | (simp; done) | omega) _ | refine Ext.trans ?_ (by assumption))), Ints.nil _⟩
  · have H1 := Lib.hid h1
    clear hm h1
    go_enter Tryd.func81, Tryd.ntmps81
    go_wp2_with fail
    refine (M1.out _ (h.ext (by repeat (first | exact Ext.refl _ | assumption | refine Ext.alloc ?_ _ | refine Ext.drew ?_ | refine Ext.drewN ?_ _ | refine Ext.setCell ?_ (by first | exact Nat.le_refl _ | (simp; done) | omega) _ | refine Ext.trans ?_ (by assumption))))).mono ?_; rintro e w1 ⟨rfl, hx1'⟩
    rw [decide_eq_false H1.out]
    go_wp2
    go_ret
    exact ⟨_, rfl, (by repeat (first | exact Ext.refl _ | assumption | refine Ext.alloc ?_ _ | refine Ext.drew ?_ | refine Ext.drewN ?_ _ | refine Ext.setCell ?_ (by first | exact Nat.le_refl _ | (simp; done) | omega) _ | refine Ext.trans ?_ (by assumption))), Ints.nil _⟩
theorem rget_any (W H x y i : Int) (zs : List Int) (a : Option Addr) (n cap : Nat) (w : World) (h : Ints w (.slice a n cap) zs) :
    Calls Tryd.prog 81 #[.agg #[.int .i64 W, .int .i64 H, .slice a n cap], .int .i64 x, .int .i64 y, .int .i64 i] w fun e w' => ∃ u, e = .returned u ∧ Ext w w' ∧ Ints w' u (getL W H zs x y i) := by
  unfold getL
  by_cases ho : getOk W H zs x y i
  · rw [if_pos ho]
    obtain ⟨h1, h2, h3, h4⟩ := ho
    unfold nearB at h3 h4
    simp only [Bool.and_eq_true, decide_eq_true_eq] at h3 h4
    obtain ⟨N, rfl⟩ : ∃ N : Nat, i = (N : Int) := ⟨i.toNat, by omega⟩
    exact rget_ok W H x y N zs a n cap w h h1 (by omega) h3 h4
  · rw [if_neg ho]
    exact rget_no W H x y i zs a n cap w h ho
end Go.Proofs.YtmhbmegmlpenkaaDoor

/- What is in a frame: plain. -/
namespace Go.Proofs.YtmhbmegmlpenkaaDoor
set_option linter.unusedVariables false
set_option linter.unusedSimpArgs false

/-- the sum of the first numbers -/
def sumF (f : Nat → Int) : Nat → Int
  | 0 => 0
  | k + 1 => sumF f k + f k
theorem sumF_bound {f : Nat → Int} (h : ∀ j, 0 ≤ f j ∧ f j ≤ 255) (k : Nat) : 0 ≤ sumF f k ∧ sumF f k ≤ 255 * k := by
  induction k with
  | zero => simp [sumF]
  | succ k ih =>
    have := h k
    unfold sumF
    push_cast
    omega
theorem sumF_congr {f g : Nat → Int} {k : Nat} (h : ∀ j, j < k → f j = g j) : sumF f k = sumF g k := by
  induction k with
  | zero => rfl
  | succ k ih => unfold sumF; rw [ih (fun j hj => h j (by omega)), h k (by omega)]
theorem sumF_add (f g : Nat → Int) (k : Nat) : sumF (fun j => f j + g j) k = sumF f k + sumF g k := by
  induction k with
  | zero => rfl
  | succ k ih => unfold sumF; rw [ih]; omega
theorem sumF_zero (k : Nat) : sumF (fun _ => 0) k = 0 := by
  induction k with
  | zero => rfl
  | succ k ih => unfold sumF; rw [ih]; rfl
theorem sumF_le {f g : Nat → Int} {k : Nat} (h : ∀ j, j < k → f j ≤ g j) : sumF f k ≤ sumF g k := by
  induction k with
  | zero => exact Int.le_refl _
  | succ k ih =>
    have h1 := ih (fun j hj => h j (by omega))
    have h2 := h k (by omega)
    unfold sumF
    omega
theorem sumF_split (f : Nat → Int) (a b : Nat) : sumF f (a + b) = sumF f a + sumF (fun j => f (a + j)) b := by
  induction b with
  | zero => simp [sumF]
  | succ b ih => rw [← Nat.add_assoc]; show sumF f (a + b) + f (a + b) = sumF f a + (sumF (fun j => f (a + j)) b + f (a + b)); rw [ih]; omega
theorem sumF_mul (f : Nat → Int) (m n : Nat) : sumF f (m * n) = sumF (fun i => sumF (fun a => f (i * n + a)) n) m := by
  induction m with
  | zero => simp [sumF]
  | succ m ih => rw [Nat.succ_mul, sumF_split, ih]; rfl
theorem sumF_swap (f : Nat → Nat → Int) (m n : Nat) : sumF (fun i => sumF (f i) n) m = sumF (fun j => sumF (fun i => f i j) m) n := by
  induction m with
  | zero => exact (sumF_zero n).symm
  | succ m ih => show sumF (fun i => sumF (f i) n) m + sumF (f m) n = _; rw [ih, ← sumF_add]; rfl
theorem sadF_sum (f g : Nat → Int) (k : Nat) : sadF f g k = sumF (fun j => max (f j - g j) (g j - f j)) k := by
  induction k with
  | zero => rfl
  | succ k ih => unfold sadF sumF; rw [ih]
theorem sadF_at {f g : Nat → Int} {k j : Nat} (h : j < k) : max (f j - g j) (g j - f j) ≤ sadF f g k := by
  induction k with
  | zero => omega
  | succ k ih =>
    have h0 := sadF_pos f g k
    unfold sadF
    by_cases hj : j = k
    · subst hj; omega
    · have := ih (by omega); omega
/-- the mean of 64 samples, rounded -/
def meanF (f : Nat → Int) : Int := (32 + sumF f 64) / 64
theorem meanF_in {f : Nat → Int} (h : ∀ j, 0 ≤ f j ∧ f j ≤ 255) : 0 ≤ meanF f ∧ meanF f ≤ 255 := by
  have := sumF_bound h 64
  unfold meanF
  omega
/-- what is in a square -/
def actF (f : Nat → Int) : Int := sadF f (fun _ => meanF f) 64
theorem actF_in {f : Nat → Int} (h : ∀ j, 0 ≤ f j ∧ f j ≤ 255) : 0 ≤ actF f ∧ actF f ≤ 16320 := by
  refine ⟨sadF_pos _ _ _, ?_⟩
  have := sadF_le h (fun _ => meanF_in h) 64
  exact this
theorem actF_congr {f g : Nat → Int} (h : ∀ j, j < 64 → f j = g j) : actF f = actF g := by
  have hm : meanF f = meanF g := by unfold meanF; rw [sumF_congr h]
  unfold actF
  rw [sadF_sum, sadF_sum, hm]
  exact sumF_congr fun j hj => by rw [h j hj]
/-- squares, row by row -/
def blkF (v : Nat → Nat → Int) (m : Nat) : Nat → Int
  | 0 => 0
  | k + 1 => blkF v m k + v (k % m) (k / m)
theorem blkF_sum (v : Nat → Nat → Int) (m k : Nat) : blkF v m k = sumF (fun q => v (q % m) (q / m)) k := by
  induction k with
  | zero => rfl
  | succ k ih => unfold blkF sumF; rw [ih]
theorem blkF_bound {v : Nat → Nat → Int} (h : ∀ i j, 0 ≤ v i j ∧ v i j ≤ 16320) (m k : Nat) : 0 ≤ blkF v m k ∧ blkF v m k ≤ 16320 * k := by
  induction k with
  | zero => simp [blkF]
  | succ k ih =>
    have := h (k % m) (k / m)
    unfold blkF
    push_cast
    omega
theorem blkF_at (v : Nat → Nat → Int) {m i j : Nat} (hi : i < m) : blkF v m (j * m + i + 1) = blkF v m (j * m + i) + v i j := by
  show _ + v ((j * m + i) % m) ((j * m + i) / m) = _
  have h1 : (j * m + i) % m = i := by rw [Nat.add_comm, Nat.add_mul_mod_self_right, Nat.mod_eq_of_lt hi]
  have h2 : (j * m + i) / m = j := by rw [Nat.add_comm, Nat.add_mul_div_right _ _ (by omega), Nat.div_eq_of_lt hi, Nat.zero_add]
  rw [h1, h2]
/-- the samples of a square of 8 by 8 -/
def sqF (W H : Int) (zs : List Int) (i j : Nat) : Nat → Int := getF W H zs (8 * (i : Int)) (8 * (j : Int)) 8
theorem sqF_in {W H : Int} {zs : List Int} (h : may W H zs) (i j k : Nat) : 0 ≤ sqF W H zs i j k ∧ sqF W H zs i j k ≤ 255 := may_getD h _
def innV (W H : Int) (zs : List Int) (i j : Nat) : Int := actF (sqF W H zs i j)
def outV (W H : Int) (xs : List Int) (W' H' : Int) (ys : List Int) (i j : Nat) : Int := min (actF (sqF W H xs i j)) (sadF (sqF W H xs i j) (sqF W' H' ys i j) 64)
theorem innV_in {W H : Int} {zs : List Int} (h : may W H zs) (i j : Nat) : 0 ≤ innV W H zs i j ∧ innV W H zs i j ≤ 16320 := actF_in (sqF_in h i j)
theorem outV_in {W H W' H' : Int} {xs ys : List Int} (h : may W H xs) (i j : Nat) : 0 ≤ outV W H xs W' H' ys i j ∧ outV W H xs W' H' ys i j ≤ 16320 := by
  have h1 := actF_in (sqF_in h i j)
  have h2 := sadF_pos (sqF W H xs i j) (sqF W' H' ys i j) 64
  unfold outV
  omega
/-- what may be said of one frame -/
def inAns (W H : Int) (zs : List Int) : Fall := if may W H zs then none else form
def inV (W H : Int) (zs : List Int) : Int := if may W H zs then blkF (innV W H zs) (W.toNat / 8) (W.toNat / 8 * (H.toNat / 8)) else 0
def ouV (W H : Int) (xs : List Int) (W' H' : Int) (ys : List Int) : Int := match frAns W H xs W' H' ys with
  | none => blkF (outV W H xs W' H' ys) (W.toNat / 8) (W.toNat / 8 * (H.toNat / 8))
  | some _ => 0
/-- the sides of a frame in squares -/
theorem may_sides {W H : Int} {zs : List Int} (h : may W H zs) : ∃ m p : Nat, W = 8 * (m : Int) ∧ H = 8 * (p : Int) ∧ 1 ≤ m ∧ m ≤ 4 ∧ 1 ≤ p ∧ p ≤ 4 ∧ W.toNat / 8 = m ∧ H.toNat / 8 = p := by
  have h1 := sideB_true h.1
  have h2 := sideB_true h.2.1
  exact ⟨W.toNat / 8, H.toNat / 8, by omega, by omega, by omega, by omega, by omega, by omega, rfl, rfl⟩
end Go.Proofs.YtmhbmegmlpenkaaDoor

/- A result of type kinref.Err, kept in a variable of the call's own. -/
namespace Go.Proofs.YtmhbmegmlpenkaaDoor
set_option linter.unusedVariables false
set_option linter.unusedSimpArgs false
open Go.RowKit Go.Extern.Stop Go.Stop Go.Extern
theorem res_cells {w : World} {B : Nat} {c : Int} (h0 : w.cell? ⟨B, 0, none⟩ = some (.int .i64 0)) (h1 : w.cell? ⟨B, 1, none⟩ = some (.slice none 0 0)) (v : Value) :
    ((w.setCell ⟨B, 0, none⟩ (.int .i64 c)).setCell ⟨B, 1, none⟩ v).cell? ⟨B, 0, none⟩ = some (.int .i64 c) ∧ ((w.setCell ⟨B, 0, none⟩ (.int .i64 c)).setCell ⟨B, 1, none⟩ v).cell? ⟨B, 1, none⟩ = some v := by
  have e0 := World.cell?_setCell_same _ _ (.int .i64 c) h0
  have e1 := (World.cell?_setCell_other w ⟨B, 0, none⟩ ⟨B, 1, none⟩ (.int .i64 c) (by simp)).trans h1
  have e2 := World.cell?_setCell_same _ _ v e1
  have e3 := (World.cell?_setCell_other (w.setCell ⟨B, 0, none⟩ (.int .i64 c)) ⟨B, 1, none⟩ ⟨B, 0, none⟩ v (by simp)).trans e0
  exact ⟨e3, e2⟩
/-- what such a variable holds behind calls -/
def ResAt (w : World) (B : Nat) : Prop := w.cell? ⟨B, 0, none⟩ = some (.int .i64 0) ∧ w.cell? ⟨B, 1, none⟩ = some (.slice none 0 0) ∧ w.frozen? ⟨B, 0, none⟩ = false ∧ w.frozen? ⟨B, 1, none⟩ = false
theorem ResAt.ext {w w' : World} {B : Nat} (h : ResAt w B) (k : Ext w w') : ResAt w' B := by
  obtain ⟨h0, h1, h2, h3⟩ := h
  exact ⟨k.cell h0, k.cell h1, (Below.frozen k (Ext.lt h0)).trans h2, (Below.frozen k (Ext.lt h1)).trans h3⟩
theorem ResAt.new (w : World) : ResAt (w.alloc (.cells #[.int .i64 0, .slice none 0 0] 41)) w.heap.size := by
  refine ⟨?_, ?_, ?_, ?_⟩ <;> simp
theorem ResAt.under {B b : Nat} {w w' : World} (h : ResAt w b) (k : Below B w w') (hb : b < B) : ResAt w' b := by
  obtain ⟨h0, h1, h2, h3⟩ := h
  exact ⟨(Below.cell k (p := ⟨b, 0, none⟩) hb).trans h0, (Below.cell k (p := ⟨b, 1, none⟩) hb).trans h1, (Below.frozen k (p := ⟨b, 0, none⟩) hb).trans h2, (Below.frozen k (p := ⟨b, 1, none⟩) hb).trans h3⟩
end Go.Proofs.YtmhbmegmlpenkaaDoor

/- Two frames in the boxes of a law: their cells. -/
namespace Go.Proofs.YtmhbmegmlpenkaaDoor
set_option linter.unusedVariables false
set_option linter.unusedSimpArgs false
open Go.RowKit Go.Extern.Stop Go.Stop Go.Extern

/-- a frame's three cells -/
def FrBox (w : World) (b : Nat) (W H : Int) (v : Value) : Prop := w.cell? ⟨b, 0, none⟩ = some (.int .i64 W) ∧ w.cell? ⟨b, 1, none⟩ = some (.int .i64 H) ∧ w.cell? ⟨b, 2, none⟩ = some v
theorem FrBox.ext {w w' : World} {b : Nat} {W H : Int} {v : Value} (h : FrBox w b W H v) (k : Ext w w') : FrBox w' b W H v := ⟨k.cell h.1, k.cell h.2.1, k.cell h.2.2⟩
theorem FrBox.new (w : World) (W H : Int) (v : Value) : FrBox (w.alloc (.cells #[.int .i64 W, .int .i64 H, v] 24)) w.heap.size W H v := ⟨by simp, by simp, by simp⟩
theorem FrBox.two (w : World) (W H W' H' : Int) (v v' : Value) :
    FrBox ((w.alloc (.cells #[.int .i64 W, .int .i64 H, v] 24)).alloc (.cells #[.int .i64 W', .int .i64 H', v'] 24)) w.heap.size W H v ∧
    FrBox ((w.alloc (.cells #[.int .i64 W, .int .i64 H, v] 24)).alloc (.cells #[.int .i64 W', .int .i64 H', v'] 24)) (w.heap.size + 1) W' H' v' := by
  refine ⟨(FrBox.new w W H v).ext ((Ext.refl _).alloc _), ?_⟩
  have := FrBox.new (w.alloc (.cells #[.int .i64 W, .int .i64 H, v] 24)) W' H' v'
  simpa using this
end Go.Proofs.YtmhbmegmlpenkaaDoor

/- kinref6.both, Sum, Peak: contracts over this seat's translation. -/
namespace Go.Proofs.YtmhbmegmlpenkaaDoor
set_option linter.unusedVariables false
set_option linter.unusedSimpArgs false
open Go.RowKit Go.Extern.Stop Go.Stop Go.Extern

theorem rfall_plain {w : World} {p : List (ByteArray × Int)} {k c : Int} (h : RErrIs w (some (p, k)) c (.slice none 0 0)) : p = [] ∧ c = k ∧ k ≠ 0 := by
  obtain ⟨h1, h2, h3⟩ := h
  obtain ⟨a, cap, e⟩ := h3.form
  simp only [Value.slice.injEq] at e
  exact ⟨List.eq_nil_of_length_eq_zero e.2.1.symm, h1, h2⟩
/-- the document's error, with no path -/
def BPost (w : World) (f : Fall) (e : Ending) (w' : World) : Prop := ∃ c, e = .returned (.agg #[.int .i64 c, .slice none 0 0]) ∧ Ext w w' ∧ RErrIs w' f c (.slice none 0 0)
set_option maxRecDepth 20000 in
set_option maxHeartbeats 2000000 in
theorem rboth_any (W H W' H' : Int) (xs ys : List Int) (a b : Option Addr) (n m ca cb : Nat) (w : World) (ha : Ints w (.slice a n ca) xs) (hb : Ints w (.slice b m cb) ys) :
    Calls Tryd.prog 99 #[.agg #[.int .i64 W, .int .i64 H, .slice a n ca], .agg #[.int .i64 W', .int .i64 H', .slice b m cb]] w (BPost w (frAns W H xs W' H' ys)) := by
  have M1 := Lib.hid (fun w h => rmay_any W H xs a n ca w h)
  have M2 := Lib.hid (fun w h => rmay_any W' H' ys b m cb w h)
  by_cases h1 : may W H xs
  · have H1 := Lib.hid h1
    by_cases h2 : may W' H' ys
    · have H2 := Lib.hid h2
      by_cases h3 : W = W'
      · by_cases h4 : H = H'
        · have HR : Hid (frAns W H xs W' H' ys = none) := by show _ = _; unfold frAns; rw [if_pos ⟨h1, h2⟩, if_pos ⟨h3, h4⟩]
          have b3 : (W != W') = false := by simpa using h3
          have b4 : (H != H') = false := by simpa using h4
          clear h1 h2 h3 h4
          have FG0 := FrBox.two w W H W' H' (.slice a n ca) (.slice b m cb)
          have RV : ResAt (((w.alloc (.cells #[.int .i64 W, .int .i64 H, .slice a n ca] 24)).alloc (.cells #[.int .i64 W', .int .i64 H', .slice b m cb] 24)).alloc (.cells #[.int .i64 0, .slice none 0 0] 41)) (w.heap.size + 2) := by
            have := ResAt.new ((w.alloc (.cells #[.int .i64 W, .int .i64 H, .slice a n ca] 24)).alloc (.cells #[.int .i64 W', .int .i64 H', .slice b m cb] 24))
            simpa using this
          have FB := FG0.1.ext ((Ext.refl _).alloc (.cells #[.int .i64 0, .slice none 0 0] 41))
          have GB := FG0.2.ext ((Ext.refl _).alloc (.cells #[.int .i64 0, .slice none 0 0] 41))
          clear FG0
          have EB : Ext w (((w.alloc (.cells #[.int .i64 W, .int .i64 H, .slice a n ca] 24)).alloc (.cells #[.int .i64 W', .int .i64 H', .slice b m cb] 24)).alloc (.cells #[.int .i64 0, .slice none 0 0] 41)) := (by repeat (first | exact Ext.refl _ | assumption | refine Ext.alloc ?_ _ | refine Ext.drew ?_ | refine Ext.drewN ?_ _ | refine Ext.setCell ?_ (by first | exact Nat.le_refl _ | (simp; done) | omega) _ | refine Ext.trans ?_ (by assumption)))
          go_enter Tryd.func99, Tryd.ntmps99
          go_wp2_with fail
          revert RV FB GB EB
          generalize ((w.alloc (.cells #[.int .i64 W, .int .i64 H, .slice a n ca] 24)).alloc (.cells #[.int .i64 W', .int .i64 H', .slice b m cb] 24)).alloc (.cells #[.int .i64 0, .slice none 0 0] 41) = w0
          intro RV FB GB EB
          have FH := Lib.hid FB
          have GH := Lib.hid GB
          have RH := Lib.hid RV
          obtain ⟨p0, p1, p2⟩ := FB
          obtain ⟨q0, q1, q2⟩ := GB
          clear RV
          refine (M1.out _ (ha.ext (by repeat (first | exact Ext.refl _ | assumption | refine Ext.alloc ?_ _ | refine Ext.drew ?_ | refine Ext.drewN ?_ _ | refine Ext.setCell ?_ (by first | exact Nat.le_refl _ | (simp; done) | omega) _ | refine Ext.trans ?_ (by assumption))))).mono ?_; rintro e w1 ⟨rfl, hx1⟩
          have FH := Lib.hid (FH.out.ext hx1)
          have GH := Lib.hid (GH.out.ext hx1)
          have RH := Lib.hid (RH.out.ext hx1)
          clear p0 p1 p2 q0 q1 q2
          obtain ⟨p0, p1, p2⟩ := FH.out
          obtain ⟨q0, q1, q2⟩ := GH.out
          rw [decide_eq_true H1.out]
          go_wp2_with fail
          refine (M2.out _ (hb.ext (by repeat (first | exact Ext.refl _ | assumption | refine Ext.alloc ?_ _ | refine Ext.drew ?_ | refine Ext.drewN ?_ _ | refine Ext.setCell ?_ (by first | exact Nat.le_refl _ | (simp; done) | omega) _ | refine Ext.trans ?_ (by assumption))))).mono ?_; rintro e w2 ⟨rfl, hx2⟩
          have FH := Lib.hid (FH.out.ext hx2)
          have GH := Lib.hid (GH.out.ext hx2)
          have RH := Lib.hid (RH.out.ext hx2)
          clear p0 p1 p2 q0 q1 q2
          obtain ⟨p0, p1, p2⟩ := FH.out
          obtain ⟨q0, q1, q2⟩ := GH.out
          rw [decide_eq_true H2.out]
          obtain ⟨r0, r1, f0, f1⟩ := RH.out
          have E9 : Ext w w2 := (by repeat (first | exact Ext.refl _ | assumption | refine Ext.alloc ?_ _ | refine Ext.drew ?_ | refine Ext.drewN ?_ _ | refine Ext.setCell ?_ (by first | exact Nat.le_refl _ | (simp; done) | omega) _ | refine Ext.trans ?_ (by assumption)))
          go_wp2
          obtain ⟨e0, e1⟩ := res_cells (c := 0) r0 r1 (.slice none 0 0)
          exact bodyPost_ret (v := .agg #[.int .i64 0, .slice none 0 0]) (by simp [results, Tryd.results99, go_sem, e0, e1]) rfl ⟨_, rfl, (E9.setCell (p := ⟨w.heap.size + 2, 0, none⟩) (Nat.le_add_right _ 2) _).setCell (p := ⟨w.heap.size + 2, 1, none⟩) (Nat.le_add_right _ 2) _, by rw [HR.out]; exact RErrIs.zero⟩
        · have HR : Hid (frAns W H xs W' H' ys = fit) := by show _ = _; unfold frAns; rw [if_pos ⟨h1, h2⟩, if_neg (fun e => h4 e.2)]
          have b3 : (W != W') = false := by simpa using h3
          have b4 : (H != H') = true := by simpa using h4
          clear h1 h2 h3 h4
          have FG0 := FrBox.two w W H W' H' (.slice a n ca) (.slice b m cb)
          have RV : ResAt (((w.alloc (.cells #[.int .i64 W, .int .i64 H, .slice a n ca] 24)).alloc (.cells #[.int .i64 W', .int .i64 H', .slice b m cb] 24)).alloc (.cells #[.int .i64 0, .slice none 0 0] 41)) (w.heap.size + 2) := by
            have := ResAt.new ((w.alloc (.cells #[.int .i64 W, .int .i64 H, .slice a n ca] 24)).alloc (.cells #[.int .i64 W', .int .i64 H', .slice b m cb] 24))
            simpa using this
          have FB := FG0.1.ext ((Ext.refl _).alloc (.cells #[.int .i64 0, .slice none 0 0] 41))
          have GB := FG0.2.ext ((Ext.refl _).alloc (.cells #[.int .i64 0, .slice none 0 0] 41))
          clear FG0
          have EB : Ext w (((w.alloc (.cells #[.int .i64 W, .int .i64 H, .slice a n ca] 24)).alloc (.cells #[.int .i64 W', .int .i64 H', .slice b m cb] 24)).alloc (.cells #[.int .i64 0, .slice none 0 0] 41)) := (by repeat (first | exact Ext.refl _ | assumption | refine Ext.alloc ?_ _ | refine Ext.drew ?_ | refine Ext.drewN ?_ _ | refine Ext.setCell ?_ (by first | exact Nat.le_refl _ | (simp; done) | omega) _ | refine Ext.trans ?_ (by assumption)))
          go_enter Tryd.func99, Tryd.ntmps99
          go_wp2_with fail
          revert RV FB GB EB
          generalize ((w.alloc (.cells #[.int .i64 W, .int .i64 H, .slice a n ca] 24)).alloc (.cells #[.int .i64 W', .int .i64 H', .slice b m cb] 24)).alloc (.cells #[.int .i64 0, .slice none 0 0] 41) = w0
          intro RV FB GB EB
          have FH := Lib.hid FB
          have GH := Lib.hid GB
          have RH := Lib.hid RV
          obtain ⟨p0, p1, p2⟩ := FB
          obtain ⟨q0, q1, q2⟩ := GB
          clear RV
          refine (M1.out _ (ha.ext (by repeat (first | exact Ext.refl _ | assumption | refine Ext.alloc ?_ _ | refine Ext.drew ?_ | refine Ext.drewN ?_ _ | refine Ext.setCell ?_ (by first | exact Nat.le_refl _ | (simp; done) | omega) _ | refine Ext.trans ?_ (by assumption))))).mono ?_; rintro e w1 ⟨rfl, hx1⟩
          have FH := Lib.hid (FH.out.ext hx1)
          have GH := Lib.hid (GH.out.ext hx1)
          have RH := Lib.hid (RH.out.ext hx1)
          clear p0 p1 p2 q0 q1 q2
          obtain ⟨p0, p1, p2⟩ := FH.out
          obtain ⟨q0, q1, q2⟩ := GH.out
          rw [decide_eq_true H1.out]
          go_wp2_with fail
          refine (M2.out _ (hb.ext (by repeat (first | exact Ext.refl _ | assumption | refine Ext.alloc ?_ _ | refine Ext.drew ?_ | refine Ext.drewN ?_ _ | refine Ext.setCell ?_ (by first | exact Nat.le_refl _ | (simp; done) | omega) _ | refine Ext.trans ?_ (by assumption))))).mono ?_; rintro e w2 ⟨rfl, hx2⟩
          have FH := Lib.hid (FH.out.ext hx2)
          have GH := Lib.hid (GH.out.ext hx2)
          have RH := Lib.hid (RH.out.ext hx2)
          clear p0 p1 p2 q0 q1 q2
          obtain ⟨p0, p1, p2⟩ := FH.out
          obtain ⟨q0, q1, q2⟩ := GH.out
          rw [decide_eq_true H2.out]
          go_wp2_with fail
          refine (fail_any 14 _).mono ?_; rintro e w9 ⟨rfl, hx9⟩
          obtain ⟨r0, r1, f0, f1⟩ := RH.out.ext hx9
          have E9 : Ext w w9 := (by repeat (first | exact Ext.refl _ | assumption | refine Ext.alloc ?_ _ | refine Ext.drew ?_ | refine Ext.drewN ?_ _ | refine Ext.setCell ?_ (by first | exact Nat.le_refl _ | (simp; done) | omega) _ | refine Ext.trans ?_ (by assumption)))
          go_wp2
          obtain ⟨e0, e1⟩ := res_cells (c := 14) r0 r1 (.slice none 0 0)
          exact bodyPost_ret (v := .agg #[.int .i64 14, .slice none 0 0]) (by simp [results, Tryd.results99, go_sem, e0, e1]) rfl ⟨_, rfl, (E9.setCell (p := ⟨w.heap.size + 2, 0, none⟩) (Nat.le_add_right _ 2) _).setCell (p := ⟨w.heap.size + 2, 1, none⟩) (Nat.le_add_right _ 2) _, by rw [HR.out]; exact RErrIs.code (by decide)⟩
      · have HR : Hid (frAns W H xs W' H' ys = fit) := by show _ = _; unfold frAns; rw [if_pos ⟨h1, h2⟩, if_neg (fun e => h3 e.1)]
        have b3 : (W != W') = true := by simpa using h3
        clear h1 h2 h3
        have FG0 := FrBox.two w W H W' H' (.slice a n ca) (.slice b m cb)
        have RV : ResAt (((w.alloc (.cells #[.int .i64 W, .int .i64 H, .slice a n ca] 24)).alloc (.cells #[.int .i64 W', .int .i64 H', .slice b m cb] 24)).alloc (.cells #[.int .i64 0, .slice none 0 0] 41)) (w.heap.size + 2) := by
          have := ResAt.new ((w.alloc (.cells #[.int .i64 W, .int .i64 H, .slice a n ca] 24)).alloc (.cells #[.int .i64 W', .int .i64 H', .slice b m cb] 24))
          simpa using this
        have FB := FG0.1.ext ((Ext.refl _).alloc (.cells #[.int .i64 0, .slice none 0 0] 41))
        have GB := FG0.2.ext ((Ext.refl _).alloc (.cells #[.int .i64 0, .slice none 0 0] 41))
        clear FG0
        have EB : Ext w (((w.alloc (.cells #[.int .i64 W, .int .i64 H, .slice a n ca] 24)).alloc (.cells #[.int .i64 W', .int .i64 H', .slice b m cb] 24)).alloc (.cells #[.int .i64 0, .slice none 0 0] 41)) := (by repeat (first | exact Ext.refl _ | assumption | refine Ext.alloc ?_ _ | refine Ext.drew ?_ | refine Ext.drewN ?_ _ | refine Ext.setCell ?_ (by first | exact Nat.le_refl _ | (simp; done) | omega) _ | refine Ext.trans ?_ (by assumption)))
        go_enter Tryd.func99, Tryd.ntmps99
        go_wp2_with fail
        revert RV FB GB EB
        generalize ((w.alloc (.cells #[.int .i64 W, .int .i64 H, .slice a n ca] 24)).alloc (.cells #[.int .i64 W', .int .i64 H', .slice b m cb] 24)).alloc (.cells #[.int .i64 0, .slice none 0 0] 41) = w0
        intro RV FB GB EB
        have FH := Lib.hid FB
        have GH := Lib.hid GB
        have RH := Lib.hid RV
        obtain ⟨p0, p1, p2⟩ := FB
        obtain ⟨q0, q1, q2⟩ := GB
        clear RV
        refine (M1.out _ (ha.ext (by repeat (first | exact Ext.refl _ | assumption | refine Ext.alloc ?_ _ | refine Ext.drew ?_ | refine Ext.drewN ?_ _ | refine Ext.setCell ?_ (by first | exact Nat.le_refl _ | (simp; done) | omega) _ | refine Ext.trans ?_ (by assumption))))).mono ?_; rintro e w1 ⟨rfl, hx1⟩
        have FH := Lib.hid (FH.out.ext hx1)
        have GH := Lib.hid (GH.out.ext hx1)
        have RH := Lib.hid (RH.out.ext hx1)
        clear p0 p1 p2 q0 q1 q2
        obtain ⟨p0, p1, p2⟩ := FH.out
        obtain ⟨q0, q1, q2⟩ := GH.out
        rw [decide_eq_true H1.out]
        go_wp2_with fail
        refine (M2.out _ (hb.ext (by repeat (first | exact Ext.refl _ | assumption | refine Ext.alloc ?_ _ | refine Ext.drew ?_ | refine Ext.drewN ?_ _ | refine Ext.setCell ?_ (by first | exact Nat.le_refl _ | (simp; done) | omega) _ | refine Ext.trans ?_ (by assumption))))).mono ?_; rintro e w2 ⟨rfl, hx2⟩
        have FH := Lib.hid (FH.out.ext hx2)
        have GH := Lib.hid (GH.out.ext hx2)
        have RH := Lib.hid (RH.out.ext hx2)
        clear p0 p1 p2 q0 q1 q2
        obtain ⟨p0, p1, p2⟩ := FH.out
        obtain ⟨q0, q1, q2⟩ := GH.out
        rw [decide_eq_true H2.out]
        go_wp2_with fail
        refine (fail_any 14 _).mono ?_; rintro e w9 ⟨rfl, hx9⟩
        obtain ⟨r0, r1, f0, f1⟩ := RH.out.ext hx9
        have E9 : Ext w w9 := (by repeat (first | exact Ext.refl _ | assumption | refine Ext.alloc ?_ _ | refine Ext.drew ?_ | refine Ext.drewN ?_ _ | refine Ext.setCell ?_ (by first | exact Nat.le_refl _ | (simp; done) | omega) _ | refine Ext.trans ?_ (by assumption)))
        go_wp2
        obtain ⟨e0, e1⟩ := res_cells (c := 14) r0 r1 (.slice none 0 0)
        exact bodyPost_ret (v := .agg #[.int .i64 14, .slice none 0 0]) (by simp [results, Tryd.results99, go_sem, e0, e1]) rfl ⟨_, rfl, (E9.setCell (p := ⟨w.heap.size + 2, 0, none⟩) (Nat.le_add_right _ 2) _).setCell (p := ⟨w.heap.size + 2, 1, none⟩) (Nat.le_add_right _ 2) _, by rw [HR.out]; exact RErrIs.code (by decide)⟩
    · have HR : Hid (frAns W H xs W' H' ys = form) := by show _ = _; unfold frAns; rw [if_neg (fun e => h2 e.2)]
      have H2 := Lib.hid h2
      clear h1 h2
      have FG0 := FrBox.two w W H W' H' (.slice a n ca) (.slice b m cb)
      have RV : ResAt (((w.alloc (.cells #[.int .i64 W, .int .i64 H, .slice a n ca] 24)).alloc (.cells #[.int .i64 W', .int .i64 H', .slice b m cb] 24)).alloc (.cells #[.int .i64 0, .slice none 0 0] 41)) (w.heap.size + 2) := by
        have := ResAt.new ((w.alloc (.cells #[.int .i64 W, .int .i64 H, .slice a n ca] 24)).alloc (.cells #[.int .i64 W', .int .i64 H', .slice b m cb] 24))
        simpa using this
      have FB := FG0.1.ext ((Ext.refl _).alloc (.cells #[.int .i64 0, .slice none 0 0] 41))
      have GB := FG0.2.ext ((Ext.refl _).alloc (.cells #[.int .i64 0, .slice none 0 0] 41))
      clear FG0
      have EB : Ext w (((w.alloc (.cells #[.int .i64 W, .int .i64 H, .slice a n ca] 24)).alloc (.cells #[.int .i64 W', .int .i64 H', .slice b m cb] 24)).alloc (.cells #[.int .i64 0, .slice none 0 0] 41)) := (by repeat (first | exact Ext.refl _ | assumption | refine Ext.alloc ?_ _ | refine Ext.drew ?_ | refine Ext.drewN ?_ _ | refine Ext.setCell ?_ (by first | exact Nat.le_refl _ | (simp; done) | omega) _ | refine Ext.trans ?_ (by assumption)))
      go_enter Tryd.func99, Tryd.ntmps99
      go_wp2_with fail
      revert RV FB GB EB
      generalize ((w.alloc (.cells #[.int .i64 W, .int .i64 H, .slice a n ca] 24)).alloc (.cells #[.int .i64 W', .int .i64 H', .slice b m cb] 24)).alloc (.cells #[.int .i64 0, .slice none 0 0] 41) = w0
      intro RV FB GB EB
      have FH := Lib.hid FB
      have GH := Lib.hid GB
      have RH := Lib.hid RV
      obtain ⟨p0, p1, p2⟩ := FB
      obtain ⟨q0, q1, q2⟩ := GB
      clear RV
      refine (M1.out _ (ha.ext (by repeat (first | exact Ext.refl _ | assumption | refine Ext.alloc ?_ _ | refine Ext.drew ?_ | refine Ext.drewN ?_ _ | refine Ext.setCell ?_ (by first | exact Nat.le_refl _ | (simp; done) | omega) _ | refine Ext.trans ?_ (by assumption))))).mono ?_; rintro e w1 ⟨rfl, hx1⟩
      have FH := Lib.hid (FH.out.ext hx1)
      have GH := Lib.hid (GH.out.ext hx1)
      have RH := Lib.hid (RH.out.ext hx1)
      clear p0 p1 p2 q0 q1 q2
      obtain ⟨p0, p1, p2⟩ := FH.out
      obtain ⟨q0, q1, q2⟩ := GH.out
      rw [decide_eq_true H1.out]
      go_wp2_with fail
      refine (M2.out _ (hb.ext (by repeat (first | exact Ext.refl _ | assumption | refine Ext.alloc ?_ _ | refine Ext.drew ?_ | refine Ext.drewN ?_ _ | refine Ext.setCell ?_ (by first | exact Nat.le_refl _ | (simp; done) | omega) _ | refine Ext.trans ?_ (by assumption))))).mono ?_; rintro e w2 ⟨rfl, hx2⟩
      have FH := Lib.hid (FH.out.ext hx2)
      have GH := Lib.hid (GH.out.ext hx2)
      have RH := Lib.hid (RH.out.ext hx2)
      clear p0 p1 p2 q0 q1 q2
      obtain ⟨p0, p1, p2⟩ := FH.out
      obtain ⟨q0, q1, q2⟩ := GH.out
      rw [decide_eq_false H2.out]
      go_wp2_with fail
      refine (fail_any 2 _).mono ?_; rintro e w9 ⟨rfl, hx9⟩
      obtain ⟨r0, r1, f0, f1⟩ := RH.out.ext hx9
      have E9 : Ext w w9 := (by repeat (first | exact Ext.refl _ | assumption | refine Ext.alloc ?_ _ | refine Ext.drew ?_ | refine Ext.drewN ?_ _ | refine Ext.setCell ?_ (by first | exact Nat.le_refl _ | (simp; done) | omega) _ | refine Ext.trans ?_ (by assumption)))
      go_wp2
      obtain ⟨e0, e1⟩ := res_cells (c := 2) r0 r1 (.slice none 0 0)
      exact bodyPost_ret (v := .agg #[.int .i64 2, .slice none 0 0]) (by simp [results, Tryd.results99, go_sem, e0, e1]) rfl ⟨_, rfl, (E9.setCell (p := ⟨w.heap.size + 2, 0, none⟩) (Nat.le_add_right _ 2) _).setCell (p := ⟨w.heap.size + 2, 1, none⟩) (Nat.le_add_right _ 2) _, by rw [HR.out]; exact RErrIs.code (by decide)⟩
  · have HR : Hid (frAns W H xs W' H' ys = form) := by show _ = _; unfold frAns; rw [if_neg (fun e => h1 e.1)]
    have H1 := Lib.hid h1
    clear h1
    have FG0 := FrBox.two w W H W' H' (.slice a n ca) (.slice b m cb)
    have RV : ResAt (((w.alloc (.cells #[.int .i64 W, .int .i64 H, .slice a n ca] 24)).alloc (.cells #[.int .i64 W', .int .i64 H', .slice b m cb] 24)).alloc (.cells #[.int .i64 0, .slice none 0 0] 41)) (w.heap.size + 2) := by
      have := ResAt.new ((w.alloc (.cells #[.int .i64 W, .int .i64 H, .slice a n ca] 24)).alloc (.cells #[.int .i64 W', .int .i64 H', .slice b m cb] 24))
      simpa using this
    have FB := FG0.1.ext ((Ext.refl _).alloc (.cells #[.int .i64 0, .slice none 0 0] 41))
    have GB := FG0.2.ext ((Ext.refl _).alloc (.cells #[.int .i64 0, .slice none 0 0] 41))
    clear FG0
    have EB : Ext w (((w.alloc (.cells #[.int .i64 W, .int .i64 H, .slice a n ca] 24)).alloc (.cells #[.int .i64 W', .int .i64 H', .slice b m cb] 24)).alloc (.cells #[.int .i64 0, .slice none 0 0] 41)) := (by repeat (first | exact Ext.refl _ | assumption | refine Ext.alloc ?_ _ | refine Ext.drew ?_ | refine Ext.drewN ?_ _ | refine Ext.setCell ?_ (by first | exact Nat.le_refl _ | (simp; done) | omega) _ | refine Ext.trans ?_ (by assumption)))
    go_enter Tryd.func99, Tryd.ntmps99
    go_wp2_with fail
    revert RV FB GB EB
    generalize ((w.alloc (.cells #[.int .i64 W, .int .i64 H, .slice a n ca] 24)).alloc (.cells #[.int .i64 W', .int .i64 H', .slice b m cb] 24)).alloc (.cells #[.int .i64 0, .slice none 0 0] 41) = w0
    intro RV FB GB EB
    have FH := Lib.hid FB
    have GH := Lib.hid GB
    have RH := Lib.hid RV
    obtain ⟨p0, p1, p2⟩ := FB
    obtain ⟨q0, q1, q2⟩ := GB
    clear RV
    refine (M1.out _ (ha.ext (by repeat (first | exact Ext.refl _ | assumption | refine Ext.alloc ?_ _ | refine Ext.drew ?_ | refine Ext.drewN ?_ _ | refine Ext.setCell ?_ (by first | exact Nat.le_refl _ | (simp; done) | omega) _ | refine Ext.trans ?_ (by assumption))))).mono ?_; rintro e w1 ⟨rfl, hx1⟩
    have FH := Lib.hid (FH.out.ext hx1)
    have GH := Lib.hid (GH.out.ext hx1)
    have RH := Lib.hid (RH.out.ext hx1)
    clear p0 p1 p2 q0 q1 q2
    obtain ⟨p0, p1, p2⟩ := FH.out
    obtain ⟨q0, q1, q2⟩ := GH.out
    rw [decide_eq_false H1.out]
    go_wp2_with fail
    refine (fail_any 2 _).mono ?_; rintro e w9 ⟨rfl, hx9⟩
    obtain ⟨r0, r1, f0, f1⟩ := RH.out.ext hx9
    have E9 : Ext w w9 := (by repeat (first | exact Ext.refl _ | assumption | refine Ext.alloc ?_ _ | refine Ext.drew ?_ | refine Ext.drewN ?_ _ | refine Ext.setCell ?_ (by first | exact Nat.le_refl _ | (simp; done) | omega) _ | refine Ext.trans ?_ (by assumption)))
    go_wp2
    obtain ⟨e0, e1⟩ := res_cells (c := 2) r0 r1 (.slice none 0 0)
    exact bodyPost_ret (v := .agg #[.int .i64 2, .slice none 0 0]) (by simp [results, Tryd.results99, go_sem, e0, e1]) rfl ⟨_, rfl, (E9.setCell (p := ⟨w.heap.size + 2, 0, none⟩) (Nat.le_add_right _ 2) _).setCell (p := ⟨w.heap.size + 2, 1, none⟩) (Nat.le_add_right _ 2) _, by rw [HR.out]; exact RErrIs.code (by decide)⟩
set_option maxRecDepth 20000 in
set_option maxHeartbeats 4000000 in
theorem rsum_any (W H W' H' : Int) (xs ys : List Int) (a b : Option Addr) (n m ca cb : Nat) (w : World) (ha : Ints w (.slice a n ca) xs) (hb : Ints w (.slice b m cb) ys) :
    Calls Tryd.prog 83 #[.agg #[.int .i64 W, .int .i64 H, .slice a n ca], .agg #[.int .i64 W', .int .i64 H', .slice b m cb]] w (RIPost w (sumV W H xs W' H' ys) (frAns W H xs W' H' ys)) := by
  have RT := Lib.hid (fun w h k => rboth_any W H W' H' xs ys a b n m ca cb w h k)
  cases hm : frAns W H xs W' H' ys with
  | some f =>
    obtain ⟨p, k⟩ := f
    have HV : Hid (sumV W H xs W' H' ys = 0) := by show _ = _; unfold sumV; rw [hm]
    rw [hm] at RT
    clear hm
    have FG0 := FrBox.two w W H W' H' (.slice a n ca) (.slice b m cb)
    have RV : ResAt (((w.alloc (.cells #[.int .i64 W, .int .i64 H, .slice a n ca] 24)).alloc (.cells #[.int .i64 W', .int .i64 H', .slice b m cb] 24)).alloc (.cells #[.int .i64 0, .slice none 0 0] 41)) (w.heap.size + 2) := by
      have := ResAt.new ((w.alloc (.cells #[.int .i64 W, .int .i64 H, .slice a n ca] 24)).alloc (.cells #[.int .i64 W', .int .i64 H', .slice b m cb] 24))
      simpa using this
    have FB := FG0.1.ext ((Ext.refl _).alloc (.cells #[.int .i64 0, .slice none 0 0] 41))
    have GB := FG0.2.ext ((Ext.refl _).alloc (.cells #[.int .i64 0, .slice none 0 0] 41))
    clear FG0
    have EB : Ext w (((w.alloc (.cells #[.int .i64 W, .int .i64 H, .slice a n ca] 24)).alloc (.cells #[.int .i64 W', .int .i64 H', .slice b m cb] 24)).alloc (.cells #[.int .i64 0, .slice none 0 0] 41)) := (by repeat (first | exact Ext.refl _ | assumption | refine Ext.alloc ?_ _ | refine Ext.drew ?_ | refine Ext.drewN ?_ _ | refine Ext.setCell ?_ (by first | exact Nat.le_refl _ | (simp; done) | omega) _ | refine Ext.trans ?_ (by assumption)))
    go_enter Tryd.func83, Tryd.ntmps83
    go_wp2_with fail
    revert RV FB GB EB
    generalize ((w.alloc (.cells #[.int .i64 W, .int .i64 H, .slice a n ca] 24)).alloc (.cells #[.int .i64 W', .int .i64 H', .slice b m cb] 24)).alloc (.cells #[.int .i64 0, .slice none 0 0] 41) = w0
    intro RV FB GB EB
    have FH := Lib.hid FB
    have GH := Lib.hid GB
    have RH := Lib.hid RV
    obtain ⟨p0, p1, p2⟩ := FB
    obtain ⟨q0, q1, q2⟩ := GB
    clear RV
    refine (RT.out _ (ha.ext (by repeat (first | exact Ext.refl _ | assumption | refine Ext.alloc ?_ _ | refine Ext.drew ?_ | refine Ext.drewN ?_ _ | refine Ext.setCell ?_ (by first | exact Nat.le_refl _ | (simp; done) | omega) _ | refine Ext.trans ?_ (by assumption)))) (hb.ext (by repeat (first | exact Ext.refl _ | assumption | refine Ext.alloc ?_ _ | refine Ext.drew ?_ | refine Ext.drewN ?_ _ | refine Ext.setCell ?_ (by first | exact Nat.le_refl _ | (simp; done) | omega) _ | refine Ext.trans ?_ (by assumption))))).mono ?_; rintro e w1 ⟨c, rfl, hx1, hr1⟩
    have A1 : Ext w1 (w1.alloc (.cells #[.int .i64 c, .slice none 0 0] 41)) := (Ext.refl w1).alloc _
    have E1 : Ext w (w1.alloc (.cells #[.int .i64 c, .slice none 0 0] 41)) := EB.trans (hx1.trans A1)
    have FH := (FH.out.ext hx1).ext A1
    have GH := (GH.out.ext hx1).ext A1
    have RV := (RH.out.ext hx1).ext A1
    have s0 : (w1.alloc (.cells #[.int .i64 c, .slice none 0 0] 41)).cell? ⟨w1.heap.size, 0, none⟩ = some (.int .i64 c) := by simp
    have s1 : (w1.alloc (.cells #[.int .i64 c, .slice none 0 0] 41)).cell? ⟨w1.heap.size, 1, none⟩ = some (.slice none 0 0) := by simp
    clear p0 p1 p2 q0 q1 q2 RH A1
    go_wp2_with fail
    obtain ⟨B, hB⟩ : ∃ B, B = w1.heap.size := ⟨_, rfl⟩
    rw [← hB] at s0 s1 ⊢
    clear hB EB
    revert E1 FH GH RV s0 s1
    generalize w1.alloc (.cells #[.int .i64 c, .slice none 0 0] 41) = wS
    intro E1 FH GH RV s0 s1
    have FH := Lib.hid FH
    have GH := Lib.hid GH
    clear hx1
    obtain ⟨rfl, rfl, hc⟩ := rfall_plain hr1
    have hc0 : (c == 0) = false := by simpa using hc
    have HC := Lib.hid hc
    clear hc
    refine wp_loop_rounds 1 ?_
    rw [rounds_succ]
    go_wp2_with fail
    refine (ok_any c _ _).mono ?_; rintro e wA ⟨rfl, hxA⟩
    rw [hc0]
    obtain ⟨r0, r1, f0, f1⟩ := RV.ext hxA
    have t0 := hxA.cell s0
    have t1 := hxA.cell s1
    have E9 : Ext w wA := (by repeat (first | exact Ext.refl _ | assumption | refine Ext.alloc ?_ _ | refine Ext.drew ?_ | refine Ext.drewN ?_ _ | refine Ext.setCell ?_ (by first | exact Nat.le_refl _ | (simp; done) | omega) _ | refine Ext.trans ?_ (by assumption)))
    clear RV s0 s1
    go_wp2
    go_region
    go_wp2
    obtain ⟨e0, e1⟩ := res_cells (c := c) r0 r1 (.slice none 0 0)
    exact bodyPost_ret (v := .tuple #[.int .i64 0, .agg #[.int .i64 c, .slice none 0 0]]) (by simp [results, Tryd.results83, go_sem, e0, e1]) rfl ⟨_, _, _, _, by rw [HV.out], ((E9.setCell (p := ⟨w.heap.size + 2, 0, none⟩) (Nat.le_add_right _ 2) _).setCell (p := ⟨w.heap.size + 2, 1, none⟩) (Nat.le_add_right _ 2) _).drew, RErrIs.code HC.out⟩
  | none =>
    obtain ⟨h1, h2, -, -⟩ := frAns_none hm
    have hl := frAns_len hm
    have hlen := may_len h1
    have HX := Lib.hid (may_getD h1)
    have HY := Lib.hid (may_getD h2)
    have HV : Hid (sumV W H xs W' H' ys = sadF (fun i => xs.getD i 0) (fun i => ys.getD i 0) xs.length) := by show _ = _; unfold sumV; rw [hm]
    rw [hm] at RT
    have hn := ha.len
    have hm' := hb.len
    rw [← hn] at HV hlen hl
    rw [← hm'] at hl
    have HN := Lib.hid hn
    have HL := Lib.hid hm'
    have HNM := Lib.hid hl
    clear hl
    have AG := Lib.hid ha.had
    have BG := Lib.hid hb.had
    clear hm h1 h2 hn hm'
    have FG0 := FrBox.two w W H W' H' (.slice a n ca) (.slice b m cb)
    have RV : ResAt (((w.alloc (.cells #[.int .i64 W, .int .i64 H, .slice a n ca] 24)).alloc (.cells #[.int .i64 W', .int .i64 H', .slice b m cb] 24)).alloc (.cells #[.int .i64 0, .slice none 0 0] 41)) (w.heap.size + 2) := by
      have := ResAt.new ((w.alloc (.cells #[.int .i64 W, .int .i64 H, .slice a n ca] 24)).alloc (.cells #[.int .i64 W', .int .i64 H', .slice b m cb] 24))
      simpa using this
    have FB := FG0.1.ext ((Ext.refl _).alloc (.cells #[.int .i64 0, .slice none 0 0] 41))
    have GB := FG0.2.ext ((Ext.refl _).alloc (.cells #[.int .i64 0, .slice none 0 0] 41))
    clear FG0
    have EB : Ext w (((w.alloc (.cells #[.int .i64 W, .int .i64 H, .slice a n ca] 24)).alloc (.cells #[.int .i64 W', .int .i64 H', .slice b m cb] 24)).alloc (.cells #[.int .i64 0, .slice none 0 0] 41)) := (by repeat (first | exact Ext.refl _ | assumption | refine Ext.alloc ?_ _ | refine Ext.drew ?_ | refine Ext.drewN ?_ _ | refine Ext.setCell ?_ (by first | exact Nat.le_refl _ | (simp; done) | omega) _ | refine Ext.trans ?_ (by assumption)))
    go_enter Tryd.func83, Tryd.ntmps83
    go_wp2_with fail
    revert RV FB GB EB
    generalize ((w.alloc (.cells #[.int .i64 W, .int .i64 H, .slice a n ca] 24)).alloc (.cells #[.int .i64 W', .int .i64 H', .slice b m cb] 24)).alloc (.cells #[.int .i64 0, .slice none 0 0] 41) = w0
    intro RV FB GB EB
    have FH := Lib.hid FB
    have GH := Lib.hid GB
    have RH := Lib.hid RV
    obtain ⟨p0, p1, p2⟩ := FB
    obtain ⟨q0, q1, q2⟩ := GB
    clear RV
    refine (RT.out _ (ha.ext (by repeat (first | exact Ext.refl _ | assumption | refine Ext.alloc ?_ _ | refine Ext.drew ?_ | refine Ext.drewN ?_ _ | refine Ext.setCell ?_ (by first | exact Nat.le_refl _ | (simp; done) | omega) _ | refine Ext.trans ?_ (by assumption)))) (hb.ext (by repeat (first | exact Ext.refl _ | assumption | refine Ext.alloc ?_ _ | refine Ext.drew ?_ | refine Ext.drewN ?_ _ | refine Ext.setCell ?_ (by first | exact Nat.le_refl _ | (simp; done) | omega) _ | refine Ext.trans ?_ (by assumption))))).mono ?_; rintro e w1 ⟨c, rfl, hx1, hr1⟩
    have A1 : Ext w1 (w1.alloc (.cells #[.int .i64 c, .slice none 0 0] 41)) := (Ext.refl w1).alloc _
    have E1 : Ext w (w1.alloc (.cells #[.int .i64 c, .slice none 0 0] 41)) := EB.trans (hx1.trans A1)
    have FH := (FH.out.ext hx1).ext A1
    have GH := (GH.out.ext hx1).ext A1
    have RV := (RH.out.ext hx1).ext A1
    have s0 : (w1.alloc (.cells #[.int .i64 c, .slice none 0 0] 41)).cell? ⟨w1.heap.size, 0, none⟩ = some (.int .i64 c) := by simp
    have s1 : (w1.alloc (.cells #[.int .i64 c, .slice none 0 0] 41)).cell? ⟨w1.heap.size, 1, none⟩ = some (.slice none 0 0) := by simp
    clear p0 p1 p2 q0 q1 q2 RH A1
    go_wp2_with fail
    obtain ⟨B, hB⟩ : ∃ B, B = w1.heap.size := ⟨_, rfl⟩
    rw [← hB] at s0 s1 ⊢
    clear hB EB
    revert E1 FH GH RV s0 s1
    generalize w1.alloc (.cells #[.int .i64 c, .slice none 0 0] 41) = wS
    intro E1 FH GH RV s0 s1
    have FH := Lib.hid FH
    have GH := Lib.hid GH
    clear hx1
    obtain ⟨rfl, -⟩ := hr1
    go_loopw [7, 8] (fun sv iv wr => ∃ k : Nat, k ≤ n ∧ iv = .int .i64 k ∧ sv = .int .i64 (sadF (fun i => xs.getD i 0) (fun i => ys.getD i 0) k) ∧ Ext wS wr) (fun _ iv _ => n - (intOf iv).toNat)
    case atStart => exact ⟨0, Nat.zero_le _, rfl, rfl, Ext.refl _⟩
    case round =>
      obtain ⟨k, hk, rfl, rfl, hE⟩ := hrel
      have t0 := hE.cell s0
      have t1 := hE.cell s1
      go_wp2_with fail
      refine (ok_any 0 _ _).mono ?_; rintro e wA ⟨rfl, hxA⟩
      rw [show ((0 : Int) == 0) = true from rfl]
      have hE : Ext wS wA := hE.trans hxA
      obtain ⟨p0, p1, p2⟩ := FH.out.ext hE
      obtain ⟨q0, q1, q2⟩ := GH.out.ext hE
      clear hxA t0 t1
      by_cases hlt : k < n
      · obtain ⟨x, hx'⟩ : ∃ x, xs.getD k 0 = x := ⟨_, rfl⟩
        obtain ⟨y, hy'⟩ : ∃ y, ys.getD k 0 = y := ⟨_, rfl⟩
        obtain ⟨g, off, rfl⟩ := AG.out (by omega)
        have hkm : k < m := by have := HNM.out; omega
        obtain ⟨g', off', rfl⟩ := BG.out (by omega)
        have cx := (E1.trans hE).cell (ha.at (get_of_lt (by rw [← HN.out]; exact hlt)))
        have cy := (E1.trans hE).cell (hb.at (get_of_lt (by rw [← HL.out]; exact hkm)))
        have bx := HX.out k
        have by' := HY.out k
        have b0 := sadF_le HX.out HY.out k
        have b1 := sadF_pos (fun i => xs.getD i 0) (fun i => ys.getD i 0) k
        have HS2 : Hid (sadF (fun i => xs.getD i 0) (fun i => ys.getD i 0) (k + 1) = stepOfsum (sadF (fun i => xs.getD i 0) (fun i => ys.getD i 0) k) x y) := by show _ = _; rw [← hx', ← hy']; rfl
        rw [hx'] at cx bx
        rw [hy'] at cy by'
        clear hx' hy'
        revert b0 b1 HS2
        generalize sadF (fun i => xs.getD i 0) (fun i => ys.getD i 0) k = s
        intro b0 b1 HS2
        have r1 := mx2
        have r3 := mx3
        have e1 : IntKind.i64.wrap (x - y) = x - y := by rw [IntKind.wrap_i64]; omega
        have e2 : IntKind.i64.wrap (y - x) = y - x := by rw [IntKind.wrap_i64]; omega
        have e3 : IntKind.i64.wrap (s + max (x - y) (y - x)) = s + max (x - y) (y - x) := by rw [IntKind.wrap_i64]; omega
        go_wp2
        go_quiet (fail)
        go_wp2
        go_roundw
        case rel => exact ⟨k + 1, by omega, by go_num, by rw [HS2.out]; unfold stepOfsum; congr 1 <;> omega, hE.drewN _⟩
        case measure => simp [intOf]; omega
      · obtain rfl : k = n := by omega
        obtain ⟨r0, r1, f0, f1⟩ := RV.ext hE
        have t0 := hE.cell s0
        have t1 := hE.cell s1
        have E9 := E1.trans hE
        clear s0 s1 RV
        go_wp2
        go_region
        go_wp2
        obtain ⟨e0, e1⟩ := res_cells (c := 0) r0 r1 (.slice none 0 0)
        exact bodyPost_ret (v := .tuple #[.int .i64 (sadF (fun i => xs.getD i 0) (fun i => ys.getD i 0) k), .agg #[.int .i64 0, .slice none 0 0]]) (by simp [results, Tryd.results83, go_sem, e0, e1]) rfl ⟨_, _, _, _, by rw [HV.out], ((E9.setCell (p := ⟨w.heap.size + 2, 0, none⟩) (Nat.le_add_right _ 2) _).setCell (p := ⟨w.heap.size + 2, 1, none⟩) (Nat.le_add_right _ 2) _).drew, RErrIs.zero⟩
end Go.Proofs.YtmhbmegmlpenkaaDoor

/- scene.Unlike, kinref16.Unlike: contracts over this seat's translation. -/
namespace Go.Proofs.YtmhbmegmlpenkaaDoor
set_option linter.unusedVariables false
set_option linter.unusedSimpArgs false
open Go.RowKit Go.Extern.Stop Go.Stop Go.Extern

/-- how unlike two frames are, per 64 samples -/
def unlV (W H : Int) (xs : List Int) (W' H' : Int) (ys : List Int) : Int := match frAns W H xs W' H' ys with
  | none => Int.tdiv (64 * sumV W H xs W' H' ys) (W * H)
  | some _ => 0
theorem sum_small {W H W' H' : Int} {xs ys : List Int} (h : frAns W H xs W' H' ys = none) : 0 ≤ sumV W H xs W' H' ys ∧ sumV W H xs W' H' ys ≤ 255 * (W * H) ∧ 64 ≤ W * H ∧ W * H ≤ 1024 := by
  have e2 : sumV W H xs W' H' ys = sadF (fun i => xs.getD i 0) (fun i => ys.getD i 0) xs.length := by unfold sumV; rw [h]
  obtain ⟨h1, h2, -, -⟩ := frAns_none h
  have b1 := sadF_le (may_getD h1) (may_getD h2) xs.length
  rw [h1.2.2.1] at b1
  rw [e2]
  exact ⟨sadF_pos _ _ _, b1, may_area h1⟩
theorem unl_small {s A : Int} (h0 : 0 ≤ s) (h1 : s ≤ 255 * A) (h2 : 64 ≤ A) : 0 ≤ Int.tdiv (64 * s) A ∧ Int.tdiv (64 * s) A ≤ 16320 := by
  rw [Int.tdiv_eq_ediv_of_nonneg (by omega)]
  refine ⟨Int.ediv_nonneg (by omega) (by omega), ?_⟩
  have : 64 * s ≤ 16320 * A := by omega
  exact Int.ediv_le_of_le_mul (by omega) this
theorem Row.zero {w w' : World} {v : Value} (h : Row w v 0 []) : Row w' v 0 [] := by
  obtain ⟨a, cap, h0, h1, h2, h3, -⟩ := h
  exact ⟨a, cap, h0, h1, h2, h3, fun _ _ _ j u hu => by simp at hu⟩
theorem frAns_path {W H W' H' : Int} {xs ys : List Int} {f : List (ByteArray × Int) × Int} (h : frAns W H xs W' H' ys = some f) : f.1 = [] := by
  unfold frAns form fit at h
  split at h
  · split at h
    · cases h
    · cases h; rfl
  · cases h; rfl
set_option maxRecDepth 20000 in
set_option maxHeartbeats 2000000 in
theorem unlike_any (W H W' H' : Int) (xs ys : List Int) (a b : Option Addr) (n m ca cb : Nat) (w : World) (ha : Ints w (.slice a n ca) xs) (hb : Ints w (.slice b m cb) ys) :
    Calls Tryd.prog 40 #[.agg #[.int .i64 W, .int .i64 H, .slice a n ca], .agg #[.int .i64 W', .int .i64 H', .slice b m cb]] w (IPost w (unlV W H xs W' H' ys) (frAns W H xs W' H' ys)) := by
  have M := Lib.hid (fun w h k => sum_any W H W' H' xs ys a b n m ca cb w h k)
  cases hm : frAns W H xs W' H' ys with
  | some f =>
    have HV : Hid (unlV W H xs W' H' ys = 0) := by show _ = _; unfold unlV; rw [hm]
    rw [hm] at M
    clear hm
    go_enter Tryd.func40, Tryd.ntmps40
    go_wp2_with fail
    refine (M.out _ (ha.ext (by repeat (first | exact Ext.refl _ | assumption | refine Ext.alloc ?_ _ | refine Ext.drew ?_ | refine Ext.drewN ?_ _ | refine Ext.setCell ?_ (by first | exact Nat.le_refl _ | (simp; done) | omega) _ | refine Ext.trans ?_ (by assumption)))) (hb.ext (by repeat (first | exact Ext.refl _ | assumption | refine Ext.alloc ?_ _ | refine Ext.drew ?_ | refine Ext.drewN ?_ _ | refine Ext.setCell ?_ (by first | exact Nat.le_refl _ | (simp; done) | omega) _ | refine Ext.trans ?_ (by assumption))))).mono ?_; rintro e w1 ⟨x, rfl, hx, he⟩
    obtain ⟨t, y, rfl⟩ := he.ne
    go_wp2
    go_ret2
    exact ⟨_, by rw [HV.out]; rfl, (by repeat (first | exact Ext.refl _ | assumption | refine Ext.alloc ?_ _ | refine Ext.drew ?_ | refine Ext.drewN ?_ _ | refine Ext.setCell ?_ (by first | exact Nat.le_refl _ | (simp; done) | omega) _ | refine Ext.trans ?_ (by assumption))), he⟩
  | none =>
    obtain ⟨b1, b2, b3, b4⟩ := sum_small hm
    have b5 := unl_small b1 b2 b3
    have HV : Hid (unlV W H xs W' H' ys = Int.tdiv (64 * sumV W H xs W' H' ys) (W * H)) := by show _ = _; unfold unlV; rw [hm]
    rw [hm] at M
    clear hm
    have HB := FrBox.two w W H W' H' (.slice a n ca) (.slice b m cb)
    revert M HV b1 b2 b5
    generalize sumV W H xs W' H' ys = s
    intro M b1 b2 b5 HV
    obtain ⟨Q, hQ⟩ : ∃ Q, Int.tdiv (64 * s) (W * H) = Q := ⟨_, rfl⟩
    rw [hQ] at HV b5
    have e1 : IntKind.i64.wrap (64 * s) = 64 * s := by rw [IntKind.wrap_i64]; omega
    have e2 : IntKind.i64.wrap (W * H) = W * H := by rw [IntKind.wrap_i64]; omega
    have e3 : IntKind.i64.wrap Q = Q := by rw [IntKind.wrap_i64]; omega
    have e4 : ¬ W * H = 0 := by omega
    have HBB := Lib.hid HB
    clear b1 b2 b3 b4 b5 HB
    go_enter Tryd.func40, Tryd.ntmps40
    go_wp2_with fail
    refine (M.out _ (ha.ext (by repeat (first | exact Ext.refl _ | assumption | refine Ext.alloc ?_ _ | refine Ext.drew ?_ | refine Ext.drewN ?_ _ | refine Ext.setCell ?_ (by first | exact Nat.le_refl _ | (simp; done) | omega) _ | refine Ext.trans ?_ (by assumption)))) (hb.ext (by repeat (first | exact Ext.refl _ | assumption | refine Ext.alloc ?_ _ | refine Ext.drew ?_ | refine Ext.drewN ?_ _ | refine Ext.setCell ?_ (by first | exact Nat.le_refl _ | (simp; done) | omega) _ | refine Ext.trans ?_ (by assumption))))).mono ?_; rintro e w1 ⟨x, rfl, hx, he⟩
    obtain rfl : x = .nilIface := he
    obtain ⟨p0, p1, p2⟩ := HBB.out.1.ext hx
    go_wp2
    go_ret2
    exact ⟨_, by rw [HV.out]; rfl, (by repeat (first | exact Ext.refl _ | assumption | refine Ext.alloc ?_ _ | refine Ext.drew ?_ | refine Ext.drewN ?_ _ | refine Ext.setCell ?_ (by first | exact Nat.le_refl _ | (simp; done) | omega) _ | refine Ext.trans ?_ (by assumption))), rfl⟩
set_option maxRecDepth 20000 in
set_option maxHeartbeats 2000000 in
theorem runlike_any (W H W' H' : Int) (xs ys : List Int) (a b : Option Addr) (n m ca cb : Nat) (w : World) (ha : Ints w (.slice a n ca) xs) (hb : Ints w (.slice b m cb) ys) :
    Calls Tryd.prog 74 #[.agg #[.int .i64 W, .int .i64 H, .slice a n ca], .agg #[.int .i64 W', .int .i64 H', .slice b m cb]] w (RIPost w (unlV W H xs W' H' ys) (frAns W H xs W' H' ys)) := by
  have M := Lib.hid (fun w h k => rsum_any W H W' H' xs ys a b n m ca cb w h k)
  cases hm : frAns W H xs W' H' ys with
  | some f =>
    have HV : Hid (unlV W H xs W' H' ys = 0) := by show _ = _; unfold unlV; rw [hm]
    rw [hm] at M
    have HPF := Lib.hid (frAns_path hm)
    clear hm
    have FG0 := FrBox.two w W H W' H' (.slice a n ca) (.slice b m cb)
    have RV : ResAt (((w.alloc (.cells #[.int .i64 W, .int .i64 H, .slice a n ca] 24)).alloc (.cells #[.int .i64 W', .int .i64 H', .slice b m cb] 24)).alloc (.cells #[.int .i64 0, .slice none 0 0] 41)) (w.heap.size + 2) := by
      have := ResAt.new ((w.alloc (.cells #[.int .i64 W, .int .i64 H, .slice a n ca] 24)).alloc (.cells #[.int .i64 W', .int .i64 H', .slice b m cb] 24))
      simpa using this
    have FB := FG0.1.ext ((Ext.refl _).alloc (.cells #[.int .i64 0, .slice none 0 0] 41))
    have GB := FG0.2.ext ((Ext.refl _).alloc (.cells #[.int .i64 0, .slice none 0 0] 41))
    clear FG0
    have EB : Ext w (((w.alloc (.cells #[.int .i64 W, .int .i64 H, .slice a n ca] 24)).alloc (.cells #[.int .i64 W', .int .i64 H', .slice b m cb] 24)).alloc (.cells #[.int .i64 0, .slice none 0 0] 41)) := (by repeat (first | exact Ext.refl _ | assumption | refine Ext.alloc ?_ _ | refine Ext.drew ?_ | refine Ext.drewN ?_ _ | refine Ext.setCell ?_ (by first | exact Nat.le_refl _ | (simp; done) | omega) _ | refine Ext.trans ?_ (by assumption)))
    go_enter Tryd.func74, Tryd.ntmps74
    go_wp2_with fail
    revert RV FB GB EB
    generalize ((w.alloc (.cells #[.int .i64 W, .int .i64 H, .slice a n ca] 24)).alloc (.cells #[.int .i64 W', .int .i64 H', .slice b m cb] 24)).alloc (.cells #[.int .i64 0, .slice none 0 0] 41) = w0
    intro RV FB GB EB
    have FH := Lib.hid FB
    have RH := Lib.hid RV
    clear RV FB GB
    refine (M.out _ (ha.ext EB) (hb.ext EB)).mono ?_; rintro e w1 ⟨c, d, i, j, rfl, hx1, hr1⟩
    have A1 : Ext w1 (w1.alloc (.cells #[.int .i64 c, .slice d i j] 41)) := (Ext.refl w1).alloc _
    have E1 : Ext w (w1.alloc (.cells #[.int .i64 c, .slice d i j] 41)) := EB.trans (hx1.trans A1)
    have FH := Lib.hid ((FH.out.ext hx1).ext A1)
    have RH := Lib.hid ((RH.out.ext hx1).ext A1)
    have s0 : (w1.alloc (.cells #[.int .i64 c, .slice d i j] 41)).cell? ⟨w1.heap.size, 0, none⟩ = some (.int .i64 c) := by simp
    have s1 : (w1.alloc (.cells #[.int .i64 c, .slice d i j] 41)).cell? ⟨w1.heap.size, 1, none⟩ = some (.slice d i j) := by simp
    have hr1 := hr1.ext A1
    clear EB hx1 A1
    go_wp2_with fail
    revert E1 FH RH s0 s1 hr1
    generalize w1.alloc (.cells #[.int .i64 c, .slice d i j] 41) = wS
    intro E1 FH RH s0 s1 hr1
    refine (ok_any c _ _).mono ?_; rintro e wA ⟨rfl, hxA⟩
    have t0 := hxA.cell s0
    have t1 := hxA.cell s1
    have RA := Lib.hid (RH.out.ext hxA)
    have FA := Lib.hid (FH.out.ext hxA)
    have E9 : Ext w wA := E1.trans hxA
    have hr9 := hr1.ext hxA
    clear s0 s1 FH RH E1 hxA hr1
    have hc0 : (c == 0) = false := by obtain ⟨p, k⟩ := f; obtain ⟨q1, q2, -⟩ := hr9; simpa [q1] using q2
    have HR9 := Lib.hid hr9
    clear hr9
    rw [hc0]
    obtain ⟨r0, r1, f0, f1⟩ := RA.out
    go_wp2
    go_region
    go_wp2
    obtain ⟨e0, e1⟩ := res_cells (c := c) r0 r1 (.slice d i j)
    have EZ := ((E9.setCell (p := ⟨w.heap.size + 2, 0, none⟩) (Nat.le_add_right _ 2) (.int .i64 c)).setCell (p := ⟨w.heap.size + 2, 1, none⟩) (Nat.le_add_right _ 2) (.slice d i j)).drew
    exact bodyPost_ret (v := .tuple #[.int .i64 0, .agg #[.int .i64 c, .slice d i j]]) (by simp [results, Tryd.results74, go_sem, e0, e1]) rfl ⟨_, _, _, _, by rw [HV.out], EZ, by
      obtain ⟨p, k⟩ := f
      obtain ⟨q1, q2, q3⟩ := HR9.out
      obtain rfl : p = [] := HPF.out
      exact ⟨q1, q2, q3.zero⟩⟩
  | none =>
    obtain ⟨b1, b2, b3, b4⟩ := sum_small hm
    have b5 := unl_small b1 b2 b3
    have HV : Hid (unlV W H xs W' H' ys = Int.tdiv (64 * sumV W H xs W' H' ys) (W * H)) := by show _ = _; unfold unlV; rw [hm]
    rw [hm] at M
    clear hm
    revert M HV b1 b2 b5
    generalize sumV W H xs W' H' ys = s
    intro M b1 b2 b5 HV
    obtain ⟨Q, hQ⟩ : ∃ Q, Int.tdiv (64 * s) (W * H) = Q := ⟨_, rfl⟩
    rw [hQ] at HV b5
    have e1 : IntKind.i64.wrap (64 * s) = 64 * s := by rw [IntKind.wrap_i64]; omega
    have e2 : IntKind.i64.wrap (W * H) = W * H := by rw [IntKind.wrap_i64]; omega
    have e3 : IntKind.i64.wrap Q = Q := by rw [IntKind.wrap_i64]; omega
    have e4 : ¬ W * H = 0 := by omega
    clear b1 b2 b3 b4 b5
    have FG0 := FrBox.two w W H W' H' (.slice a n ca) (.slice b m cb)
    have RV : ResAt (((w.alloc (.cells #[.int .i64 W, .int .i64 H, .slice a n ca] 24)).alloc (.cells #[.int .i64 W', .int .i64 H', .slice b m cb] 24)).alloc (.cells #[.int .i64 0, .slice none 0 0] 41)) (w.heap.size + 2) := by
      have := ResAt.new ((w.alloc (.cells #[.int .i64 W, .int .i64 H, .slice a n ca] 24)).alloc (.cells #[.int .i64 W', .int .i64 H', .slice b m cb] 24))
      simpa using this
    have FB := FG0.1.ext ((Ext.refl _).alloc (.cells #[.int .i64 0, .slice none 0 0] 41))
    have GB := FG0.2.ext ((Ext.refl _).alloc (.cells #[.int .i64 0, .slice none 0 0] 41))
    clear FG0
    have EB : Ext w (((w.alloc (.cells #[.int .i64 W, .int .i64 H, .slice a n ca] 24)).alloc (.cells #[.int .i64 W', .int .i64 H', .slice b m cb] 24)).alloc (.cells #[.int .i64 0, .slice none 0 0] 41)) := (by repeat (first | exact Ext.refl _ | assumption | refine Ext.alloc ?_ _ | refine Ext.drew ?_ | refine Ext.drewN ?_ _ | refine Ext.setCell ?_ (by first | exact Nat.le_refl _ | (simp; done) | omega) _ | refine Ext.trans ?_ (by assumption)))
    go_enter Tryd.func74, Tryd.ntmps74
    go_wp2_with fail
    revert RV FB GB EB
    generalize ((w.alloc (.cells #[.int .i64 W, .int .i64 H, .slice a n ca] 24)).alloc (.cells #[.int .i64 W', .int .i64 H', .slice b m cb] 24)).alloc (.cells #[.int .i64 0, .slice none 0 0] 41) = w0
    intro RV FB GB EB
    have FH := Lib.hid FB
    have RH := Lib.hid RV
    clear RV FB GB
    refine (M.out _ (ha.ext EB) (hb.ext EB)).mono ?_; rintro e w1 ⟨c, d, i, j, rfl, hx1, hr1⟩
    have A1 : Ext w1 (w1.alloc (.cells #[.int .i64 c, .slice d i j] 41)) := (Ext.refl w1).alloc _
    have E1 : Ext w (w1.alloc (.cells #[.int .i64 c, .slice d i j] 41)) := EB.trans (hx1.trans A1)
    have FH := Lib.hid ((FH.out.ext hx1).ext A1)
    have RH := Lib.hid ((RH.out.ext hx1).ext A1)
    have s0 : (w1.alloc (.cells #[.int .i64 c, .slice d i j] 41)).cell? ⟨w1.heap.size, 0, none⟩ = some (.int .i64 c) := by simp
    have s1 : (w1.alloc (.cells #[.int .i64 c, .slice d i j] 41)).cell? ⟨w1.heap.size, 1, none⟩ = some (.slice d i j) := by simp
    have hr1 := hr1.ext A1
    clear EB hx1 A1
    go_wp2_with fail
    revert E1 FH RH s0 s1 hr1
    generalize w1.alloc (.cells #[.int .i64 c, .slice d i j] 41) = wS
    intro E1 FH RH s0 s1 hr1
    refine (ok_any c _ _).mono ?_; rintro e wA ⟨rfl, hxA⟩
    have t0 := hxA.cell s0
    have t1 := hxA.cell s1
    have RA := Lib.hid (RH.out.ext hxA)
    have FA := Lib.hid (FH.out.ext hxA)
    have E9 : Ext w wA := E1.trans hxA
    have hr9 := hr1.ext hxA
    clear s0 s1 FH RH E1 hxA hr1
    obtain ⟨rfl, hd⟩ := hr9
    simp only [Value.slice.injEq] at hd
    obtain ⟨rfl, rfl, rfl⟩ := hd
    rw [show ((0 : Int) == 0) = true from rfl]
    obtain ⟨r0, r1, f0, f1⟩ := RA.out
    obtain ⟨p0, p1, p2⟩ := FA.out
    go_wp2
    go_region
    all_goals go_wp2
    all_goals
      obtain ⟨e0, e1⟩ := res_cells (c := 0) r0 r1 (.slice none 0 0)
      have EZ := ((E9.setCell (p := ⟨w.heap.size + 2, 0, none⟩) (Nat.le_add_right _ 2) (.int .i64 0)).setCell (p := ⟨w.heap.size + 2, 1, none⟩) (Nat.le_add_right _ 2) (.slice none 0 0)).drew
      exact bodyPost_ret (v := .tuple #[.int .i64 Q, .agg #[.int .i64 0, .slice none 0 0]]) (by simp [results, Tryd.results74, go_sem, e0, e1]) rfl ⟨_, _, _, _, by rw [HV.out], EZ, RErrIs.zero⟩
end Go.Proofs.YtmhbmegmlpenkaaDoor

/- Lists of frames; kinlaw16.Pix: contracts over this seat's translation. -/
namespace Go.Proofs.YtmhbmegmlpenkaaDoor
set_option linter.unusedVariables false
set_option linter.unusedSimpArgs false
open Go.RowKit Go.Extern.Stop Go.Stop Go.Extern

abbrev Fr := Int × Int × List Int
/-- a frame's cells in a list -/
def FrIn (w : World) (g i : Nat) (f : Fr) : Prop := ∃ ra rn rc, w.cell? ⟨g, i, none⟩ = some (.int .i64 f.1) ∧ w.cell? ⟨g, i + 1, none⟩ = some (.int .i64 f.2.1) ∧ w.cell? ⟨g, i + 2, none⟩ = some (.slice ra rn rc) ∧ Row w (.slice ra rn rc) f.2.2.length (f.2.2.map (Value.int .i64))
/-- a slice value that reads as these frames -/
def Fms (w : World) (v : Value) (L : List Fr) : Prop := ∃ (a : Option Addr) (cap : Nat), v = .slice a L.length cap ∧ (0 < L.length → ∃ g off, a = some ⟨g, off, none⟩ ∧ ∀ q f, L[q]? = some f → FrIn w g (off + q * 3) f)
theorem FrIn.ext {w w' : World} {g i : Nat} {f : Fr} (h : FrIn w g i f) (k : Ext w w') : FrIn w' g i f := by
  obtain ⟨ra, rn, rc, h0, h1, h2, h3⟩ := h
  exact ⟨ra, rn, rc, k.cell h0, k.cell h1, k.cell h2, h3.ext k⟩
theorem Fms.ext {w w' : World} {v : Value} {L : List Fr} (h : Fms w v L) (k : Ext w w') : Fms w' v L := by
  obtain ⟨a, cap, h0, h1⟩ := h
  refine ⟨a, cap, h0, fun hl => ?_⟩
  obtain ⟨g, off, e, h2⟩ := h1 hl
  exact ⟨g, off, e, fun q f hq => (h2 q f hq).ext k⟩
theorem Fms.form {w : World} {v : Value} {L : List Fr} (h : Fms w v L) : ∃ a cap, v = .slice a L.length cap := by
  obtain ⟨a, cap, h0, _⟩ := h
  exact ⟨a, cap, h0⟩
theorem Fms.nil (w : World) : Fms w (.slice none 0 0) [] := ⟨none, 0, rfl, fun h => absurd h (Nat.lt_irrefl _)⟩
theorem Fms.len {w : World} {a : Option Addr} {n cap : Nat} {L : List Fr} (h : Fms w (.slice a n cap) L) : n = L.length := by
  obtain ⟨a', cap', e, _⟩ := h
  simp only [Value.slice.injEq] at e
  exact e.2.1
theorem Fms.had {w : World} {a : Option Addr} {n cap : Nat} {L : List Fr} (h : Fms w (.slice a n cap) L) (hn : 0 < n) : ∃ g off, a = some ⟨g, off, none⟩ := by
  have hl := h.len
  obtain ⟨a', cap', e, h3⟩ := h
  simp only [Value.slice.injEq] at e
  obtain ⟨rfl, -, rfl⟩ := e
  obtain ⟨g, off, e, _⟩ := h3 (by omega)
  exact ⟨g, off, e⟩
theorem Fms.at {w : World} {g off n cap : Nat} {L : List Fr} (h : Fms w (.slice (some ⟨g, off, none⟩) n cap) L) {q : Nat} {f : Fr} (hq : L[q]? = some f) : FrIn w g (off + q * 3) f := by
  have hl := h.len
  obtain ⟨a', cap', e, h3⟩ := h
  simp only [Value.slice.injEq] at e
  obtain ⟨rfl, -, rfl⟩ := e
  obtain ⟨hj, -⟩ := List.getElem?_eq_some_iff.1 hq
  obtain ⟨g', off', e, h4⟩ := h3 (by omega)
  obtain ⟨rfl, rfl⟩ : g = g' ∧ off = off' := by simpa using e
  exact h4 q f hq
/-- the samples of the first k frames, as Pix counts them -/
def pixN (L : List Fr) : Nat → Int
  | 0 => 0
  | k + 1 => pixN L k + min (((L.getD k (0, 0, [])).2.2.length : Nat) : Int) 20001
theorem pixN_bound (L : List Fr) (k : Nat) : 0 ≤ pixN L k ∧ pixN L k ≤ 20001 * k := by
  induction k with
  | zero => simp [pixN]
  | succ k ih => unfold pixN; push_cast; omega
def pixB (L : List Fr) : Bool := decide (L.length ≤ 40) && decide (pixN L (min L.length 40) ≤ 20000)
set_option maxRecDepth 20000 in
set_option maxHeartbeats 2000000 in
theorem pix_any (L : List Fr) (v : Value) (w : World) (h : Fms w v L) (hl : L.length ≤ 1000000) :
    Calls Tryd.prog 34 #[v] w fun e w' => e = .returned (.bool (pixB L)) ∧ Ext w w' := by
  obtain ⟨a, cap, rfl⟩ := h.form
  obtain ⟨n, hn⟩ : ∃ n, n = L.length := ⟨_, rfl⟩
  have HN := Lib.hid hn
  rw [← hn] at h hl ⊢
  have AG := Lib.hid h.had
  clear hn
  have r2 := mn2
  go_enter Tryd.func34, Tryd.ntmps34
  go_wp2
  go_loopw [3, 4] (fun sv iv wr => ∃ k : Nat, k ≤ n ∧ k ≤ 40 ∧ iv = .int .i64 k ∧ sv = .int .i64 (pixN L k) ∧ Ext w wr) (fun _ iv _ => n - (intOf iv).toNat)
  case atStart => exact ⟨0, Nat.zero_le _, by omega, rfl, rfl, Ext.refl _⟩
  case round =>
    obtain ⟨k, hk, hk2, rfl, rfl, hE⟩ := hrel
    have b0 := pixN_bound L k
    by_cases hlt : k < n
    · by_cases h40 : k < 40
      · obtain ⟨g, off, rfl⟩ := AG.out (by omega)
        obtain ⟨f, hf⟩ : ∃ f, L[k]? = some f := ⟨_, List.getElem?_eq_getElem (by rw [← HN.out]; exact hlt)⟩
        obtain ⟨ra, rn, rc, c0, c1, c2, c3⟩ := (h.at hf).ext hE
        obtain ⟨ra', rc', e⟩ := c3.form
        simp only [Value.slice.injEq] at e
        obtain ⟨rfl, rfl, rfl⟩ := e
        have HS : Hid (pixN L (k + 1) = pixN L k + min ((f.2.2.length : Nat) : Int) 20001) := by show pixN L k + _ = _; rw [List.getD, hf]; rfl
        have bl : (0 : Int) ≤ (f.2.2.length : Int) := by omega
        clear c3 hf
        revert HS b0 c2 bl
        generalize pixN L k = s
        generalize f.2.2.length = m
        intro b0 c2 HS bl
        have e1 : IntKind.i64.wrap (s + min (m : Int) 20001) = s + min (m : Int) 20001 := by rw [IntKind.wrap_i64]; omega
        go_wp2
        go_roundw
        case rel => exact ⟨k + 1, by omega, by omega, by go_num, by rw [HS.out], hE⟩
        case measure => simp [intOf]; omega
      · have h41 : ¬ n ≤ 40 := by omega
        have HR : Hid (pixB L = false) := by show _ = _; unfold pixB; rw [← HN.out]; simp [h41]
        have k1 : (40 : Int) < (n : Int) := by omega
        clear h41 b0
        go_wp2
        go_ret
        exact ⟨by rw [HR.out]; rfl, hE⟩
    · have h41 : n ≤ 40 := by omega
      have HR : Hid (pixB L = decide (pixN L k ≤ 20000)) := by show _ = _; unfold pixB; rw [← HN.out, show min n 40 = k by omega]; simp [h41]
      have k1 : (n : Int) ≤ 40 := by omega
      revert HR b0
      generalize pixN L k = s
      intro b0 HR
      clear h41
      by_cases hs : s ≤ 20000
      · have t1 : decide (s ≤ 20000) = true := decide_eq_true hs
        go_wp2
        go_ret
        exact ⟨by rw [HR.out, t1]; rfl, hE⟩
      · have t1 : decide (s ≤ 20000) = false := decide_eq_false hs
        go_wp2
        go_ret
        exact ⟨by rw [HR.out, t1]; rfl, hE⟩
end Go.Proofs.YtmhbmegmlpenkaaDoor

/- plane.New: its contract over this seat's translation. -/
namespace Go.Proofs.YtmhbmegmlpenkaaDoor
set_option linter.unusedVariables false
set_option linter.unusedSimpArgs false
open Go.RowKit Go.Extern.Stop Go.Stop Go.Extern

/-- a frame and an error; the document's -/
def FPost (w : World) (W H : Int) (zs : List Int) (f : Fall) (e : Ending) (w' : World) : Prop := ∃ a n cap x, e = .returned (.tuple #[.agg #[.int .i64 W, .int .i64 H, .slice a n cap], x]) ∧ Ext w w' ∧ Ints w' (.slice a n cap) zs ∧ ErrIs w' f x
def RFPost (w : World) (W H : Int) (zs : List Int) (f : Fall) (e : Ending) (w' : World) : Prop := ∃ a n cap c b m k, e = .returned (.tuple #[.agg #[.int .i64 W, .int .i64 H, .slice a n cap], .agg #[.int .i64 c, .slice b m k]]) ∧ Ext w w' ∧ Ints w' (.slice a n cap) zs ∧ RErrIs w' f c (.slice b m k)
def newOk (W H v : Int) : Bool := sideB W && sideB H && smpB v
theorem new_size {W H : Int} (h : sideB W = true) (k : sideB H = true) : ∃ N : Nat, W * H = (N : Int) ∧ (N = 4 ∨ N = 8 ∨ N = 64 ∨ N = 128 ∨ N = 192 ∨ N = 256 ∨ N = 384 ∨ N = 512 ∨ N = 576 ∨ N = 768 ∨ N = 1024) := by
  refine ⟨(W * H).toNat, ?_, ?_⟩ <;> rcases sideB_cases h with rfl | rfl | rfl | rfl <;> rcases sideB_cases k with rfl | rfl | rfl | rfl <;> decide
end Go.Proofs.YtmhbmegmlpenkaaDoor

/- kinref6.New: its contract over this seat's translation. -/
namespace Go.Proofs.YtmhbmegmlpenkaaDoor
set_option linter.unusedVariables false
set_option linter.unusedSimpArgs false
open Go.RowKit Go.Extern.Stop Go.Stop Go.Extern

theorem frr_cells {w : World} {B C : Nat} (W H c : Int) (v l : Value) (hBC : B ≠ C) (h : w.cell? ⟨B, 0, none⟩ = some (.int .i64 0) ∧ w.cell? ⟨B, 1, none⟩ = some (.int .i64 0) ∧ w.cell? ⟨B, 2, none⟩ = some (.slice none 0 0)) (k0 : w.cell? ⟨C, 0, none⟩ = some (.int .i64 0)) (k1 : w.cell? ⟨C, 1, none⟩ = some (.slice none 0 0)) :
    (((((w.setCell ⟨B, 0, none⟩ (.int .i64 W)).setCell ⟨B, 1, none⟩ (.int .i64 H)).setCell ⟨B, 2, none⟩ v).setCell ⟨C, 0, none⟩ (.int .i64 c)).setCell ⟨C, 1, none⟩ l).cell? ⟨B, 0, none⟩ = some (.int .i64 W) ∧
    (((((w.setCell ⟨B, 0, none⟩ (.int .i64 W)).setCell ⟨B, 1, none⟩ (.int .i64 H)).setCell ⟨B, 2, none⟩ v).setCell ⟨C, 0, none⟩ (.int .i64 c)).setCell ⟨C, 1, none⟩ l).cell? ⟨B, 1, none⟩ = some (.int .i64 H) ∧
    (((((w.setCell ⟨B, 0, none⟩ (.int .i64 W)).setCell ⟨B, 1, none⟩ (.int .i64 H)).setCell ⟨B, 2, none⟩ v).setCell ⟨C, 0, none⟩ (.int .i64 c)).setCell ⟨C, 1, none⟩ l).cell? ⟨B, 2, none⟩ = some v ∧
    (((((w.setCell ⟨B, 0, none⟩ (.int .i64 W)).setCell ⟨B, 1, none⟩ (.int .i64 H)).setCell ⟨B, 2, none⟩ v).setCell ⟨C, 0, none⟩ (.int .i64 c)).setCell ⟨C, 1, none⟩ l).cell? ⟨C, 0, none⟩ = some (.int .i64 c) ∧
    (((((w.setCell ⟨B, 0, none⟩ (.int .i64 W)).setCell ⟨B, 1, none⟩ (.int .i64 H)).setCell ⟨B, 2, none⟩ v).setCell ⟨C, 0, none⟩ (.int .i64 c)).setCell ⟨C, 1, none⟩ l).cell? ⟨C, 1, none⟩ = some l := by
  obtain ⟨a0, a1, a2⟩ := fr_cells W H v h.1 h.2.1 h.2.2
  have o : ∀ (w : World) (i j : Nat) (x : Value), (w.setCell ⟨C, i, none⟩ x).cell? ⟨B, j, none⟩ = w.cell? ⟨B, j, none⟩ := fun w i j x => World.cell?_setCell_other w ⟨C, i, none⟩ ⟨B, j, none⟩ x (by simp [hBC, Ne.symm hBC])
  have o' : ∀ (w : World) (i j : Nat) (x : Value), (w.setCell ⟨B, i, none⟩ x).cell? ⟨C, j, none⟩ = w.cell? ⟨C, j, none⟩ := fun w i j x => World.cell?_setCell_other w ⟨B, i, none⟩ ⟨C, j, none⟩ x (by simp [hBC, Ne.symm hBC])
  obtain ⟨e0, e1⟩ := res_cells (c := c) (w := ((w.setCell ⟨B, 0, none⟩ (.int .i64 W)).setCell ⟨B, 1, none⟩ (.int .i64 H)).setCell ⟨B, 2, none⟩ v) (((o' _ _ _ _).trans ((o' _ _ _ _).trans (o' _ _ _ _))).trans k0) (((o' _ _ _ _).trans ((o' _ _ _ _).trans (o' _ _ _ _))).trans k1) l
  exact ⟨((o _ _ _ _).trans (o _ _ _ _)).trans a0, ((o _ _ _ _).trans (o _ _ _ _)).trans a1, ((o _ _ _ _).trans (o _ _ _ _)).trans a2, e0, e1⟩
/-- a frame's three cells, that may be written -/
def FrHas (w : World) (B : Nat) (W H : Int) (v : Value) : Prop := (w.cell? ⟨B, 0, none⟩ = some (.int .i64 W) ∧ w.cell? ⟨B, 1, none⟩ = some (.int .i64 H) ∧ w.cell? ⟨B, 2, none⟩ = some v) ∧ w.frozen? ⟨B, 0, none⟩ = false ∧ w.frozen? ⟨B, 1, none⟩ = false ∧ w.frozen? ⟨B, 2, none⟩ = false
theorem FrHas.new (w : World) (W H : Int) (v : Value) : FrHas (w.alloc (.cells #[.int .i64 W, .int .i64 H, v] 24)) w.heap.size W H v := by
  refine ⟨⟨by simp, by simp, by simp⟩, by simp, by simp, by simp⟩
theorem FrHas.under {w w' : World} {B D : Nat} {W H : Int} {v : Value} (h : FrHas w B W H v) (k : Below D w w') (hb : B < D) : FrHas w' B W H v := by
  obtain ⟨⟨h0, h1, h2⟩, f0, f1, f2⟩ := h
  exact ⟨⟨(Below.cell k (p := ⟨B, 0, none⟩) hb).trans h0, (Below.cell k (p := ⟨B, 1, none⟩) hb).trans h1, (Below.cell k (p := ⟨B, 2, none⟩) hb).trans h2⟩, (Below.frozen k (p := ⟨B, 0, none⟩) hb).trans f0, (Below.frozen k (p := ⟨B, 1, none⟩) hb).trans f1, (Below.frozen k (p := ⟨B, 2, none⟩) hb).trans f2⟩
theorem FrHas.ext {w w' : World} {B : Nat} {W H : Int} {v : Value} (h : FrHas w B W H v) (k : Ext w w') : FrHas w' B W H v := h.under k (Ext.lt h.1.1)
theorem FrHas.set {w : World} {B : Nat} {W H : Int} {v : Value} (h : FrHas w B W H v) (u : Value) : FrHas (w.setCell ⟨B, 2, none⟩ u) B W H u := by
  obtain ⟨⟨h0, h1, h2⟩, f0, f1, f2⟩ := h
  refine ⟨⟨(World.cell?_setCell_other w ⟨B, 2, none⟩ ⟨B, 0, none⟩ u (by simp)).trans h0, (World.cell?_setCell_other w ⟨B, 2, none⟩ ⟨B, 1, none⟩ u (by simp)).trans h1, World.cell?_setCell_same _ _ u h2⟩, ?_, ?_, ?_⟩
  · simpa using f0
  · simpa using f1
  · simpa using f2
theorem own_slice {w : World} {base n : Nat} {e : TypeId} {s : Nat} {v : Value} {xs : List Value} (h : w.ownsRow base e s v n xs) : ∃ a cap, v = .slice a n cap := by
  obtain ⟨hl, h⟩ := h
  rcases h with ⟨h1, h2⟩ | ⟨g, cap, cur, e, -⟩
  · exact ⟨none, 0, by rw [h1, h2]⟩
  · exact ⟨some ⟨g, 0, none⟩, cap, e⟩
theorem row_setCell {w : World} {base n : Nat} {xs : List Value} {v : Value} (h : w.ownsRow base 3 1 v n xs) (b i : Nat) (hb : b < base) (u : Value) : (w.setCell ⟨b, i, none⟩ u).ownsRow base 3 1 v n xs := ownsRow_setCell_below h (a := ⟨b, i, none⟩) hb u
end Go.Proofs.YtmhbmegmlpenkaaDoor

/- An append of a whole slice to one that the call itself made; kinref.In and kinref.Wrap: contracts over this seat's translation. -/
namespace Go.Proofs.YtmhbmegmlpenkaaDoor
set_option linter.unusedVariables false
set_option linter.unusedSimpArgs false
open Go.RowKit

theorem run_append_none {P : Program} {w : World} (base : Nat) (t ty e : TypeId) (i : TypeInfo) (size : Nat) (ht : P.underlying t = some (.slice e)) (hi : P.info? e = some i)
    (v : Value) (n c : Nat) (xs : List Value) (hown : w.ownsRow base e size v n xs) :
    (Builtin.append_ #[t, t] ty #[v, .slice none 0 c]).run P w = .ok v w := by
  rcases hown.2 with ⟨rfl, rfl⟩ | ⟨g, cap, cur, rfl, _, _, hnc, _⟩
  · simp [Builtin.append_, run_underlying ht, sizeOf, typeInfo, hi, Builtin.lenOf, Builtin.firstCells]
  · simp [Builtin.append_, run_underlying ht, sizeOf, typeInfo, hi, Builtin.lenOf, Builtin.firstCells, hnc, storeCells]

theorem append_row {P : Program} {ops : Array Oper} {rest : List Oper} {o : Oper} {a : Act} {Q : Exit → Act → World → Prop} {W : World} {base : Nat} (hgd : o.guard = none) (s y : Operand) (t : TypeId)
    (ho : o.op = .call { callee := .builtin .append, args := #[s, y], argTypes := #[t, t] })
    (e : TypeId) (i : TypeInfo) (z : Value) (size bytes : Nat) (ht : P.underlying t = some (.slice e)) (hi : P.info? e = some i) (hz : i.zero = some z) (hsize : i.size = size) (hby : i.bytes = bytes) (hzs : z.cells.size = size) (hsz : 0 < size)
    (v : Value) (n : Nat) (xs : List Value) (hs : a.eval s = v) (hown : W.ownsRow base e size v n xs) (u : Value) (m : Nat) (news : List Value) (hx : a.eval y = u) (hr : Row W u m news) (hl : news.length = m * size) (h1 : ∀ x ∈ news, x.oneCell' = true)
    (hb : base ≤ W.heap.size) (h63 : n + m ≤ maxLen) (hbytes : (n + m) * bytes ≤ 140737488355328)
    (h : ∀ v' w', w'.ownsRow base e size v' (n + m) (xs ++ news) → Below base W w' → W.grownBy w' v.ownBlock → wpList P ops Q rest (a.put o.dst v') w') :
    wpList P ops Q (o :: rest) a W := by
  obtain ⟨a0, cap, rfl, hmc, hcm, hsome, hcells⟩ := hr
  cases a0 with
  | none =>
    have hm : m = 0 := by
      rcases Nat.eq_zero_or_pos m with h0 | h0
      · exact h0
      · obtain ⟨g, off, hg⟩ := hsome h0
        cases hg
    subst hm
    obtain rfl : news = [] := List.eq_nil_of_length_eq_zero (by simpa using hl)
    refine wpList_plain hgd fun K hK => ?_
    have hrun := run_append_none (P := P) (w := W) base t o.type e i size ht hi v n cap xs hown
    unfold Oper.wp
    simp [execOp, ho, resolve, invoke, builtin, hs, hx, hrun, Result.andThen]
    exact hK _ _ (h v W (by simpa using hown) (Below.refl _ _) ⟨rfl, rfl, rfl, Nat.le_refl _, fun _ _ _ => rfl⟩)
  | some ad =>
    have hnews : ∀ j x, news[j]? = some x → W.cell? (ad.add j) = some x := fun j x hj => by
      have hm : 0 < m := by
        rcases Nat.eq_zero_or_pos m with h0 | h0
        · subst h0
          obtain rfl : news = [] := List.eq_nil_of_length_eq_zero (by simpa using hl)
          simp at hj
        · exact h0
      obtain ⟨g, off, hg⟩ := hsome hm
      cases hg
      have hadd : (⟨g, off, none⟩ : Addr).add j = ⟨g, off + j, none⟩ := by unfold Addr.add; split <;> simp_all
      rw [hadd]
      exact hcells g off rfl j x hj
    refine wpList_append_own _ hgd s y t ho base e i z size bytes ht hi hz hsize hby hzs hsz v n xs hs hown ad m cap news hx hl hnews h1 h63 hbytes hb ?_
    intro v' w' h2 h3 _
    exact h v' w' h2 (Below.grown (Below.refl base W) h3 hb (fun k hk => (hown.lt k hk).1)) h3

theorem infoRStep : (Tryd.prog.info? 92).map (fun i => (i.zero, i.size, i.bytes)) = some (some (.agg #[.string .empty, .int .i64 0]), 2, 24) := by kernel_rfl
theorem step_one (p : List (ByteArray × Int)) : ∀ x ∈ stepCells p, x.oneCell' = true := by
  induction p with
  | nil => intro x hx; cases hx
  | cons a p ih =>
    obtain ⟨s, n⟩ := a
    intro x hx
    simp only [stepCells, List.mem_cons] at hx
    rcases hx with rfl | rfl | hx
    · rfl
    · rfl
    · exact ih x hx

theorem heap_alloc2 {w1 : World} {o o' : Obj} : ((w1.alloc o).alloc o').heap[w1.heap.size + 1]? = some o' := by
  have := heap_alloc_new (w1.alloc o) o'
  simpa using this
theorem owns_base {w : World} {base b : Nat} {e : TypeId} {size : Nat} {v : Value} {n : Nat} {xs : List Value} (h : w.ownsRow base e size v n xs) (hb : b ≤ base) : w.ownsRow b e size v n xs := by
  obtain ⟨h1, h2⟩ := h
  refine ⟨h1, ?_⟩
  rcases h2 with h2 | ⟨g, cap, cur, hv, hg, r⟩
  · exact Or.inl h2
  · exact Or.inr ⟨g, cap, cur, hv, Nat.le_trans hb hg, r⟩
theorem owns_setCell_ne {w : World} {base : Nat} {e : TypeId} {size : Nat} {v : Value} {n : Nat} {xs : List Value} (h : w.ownsRow base e size v n xs) {p : Addr} (u : Value) (hne : ∀ cs, w.heap[p.block]? ≠ some (.cells cs e (0, 0))) : (w.setCell p u).ownsRow base e size v n xs := by
  obtain ⟨h1, h2⟩ := h
  refine ⟨h1, ?_⟩
  rcases h2 with h2 | ⟨g, cap, cur, hv, hg, hh, r⟩
  · exact Or.inl h2
  · exact Or.inr ⟨g, cap, cur, hv, hg, by rw [Below.heap_setCell _ _ _ _ (fun e => hne cur (by rw [← e]; exact hh))]; exact hh, r⟩
theorem in_facts {w1 w2 : World} {s : ByteArray} {n c : Int}
    (h3 : ((w1.alloc (.cells #[.string s, .int .i64 n] 92)).alloc (.cells #[.int .i64 c, .slice (some ⟨w1.heap.size, 0, none⟩) 1 1] 41)).grownBy w2 (Value.ownBlock (.slice (some ⟨w1.heap.size, 0, none⟩) 1 1))) :
    w2.cell? ⟨w1.heap.size + 1, 0, none⟩ = some (.int .i64 c) ∧ w2.cell? ⟨w1.heap.size + 1, 1, none⟩ = some (.slice (some ⟨w1.heap.size, 0, none⟩) 1 1) ∧ w2.frozen? ⟨w1.heap.size + 1, 1, none⟩ = false ∧ w2.frozen? ⟨w1.heap.size + 1, 0, none⟩ = false ∧ ∀ cs, w2.heap[w1.heap.size + 1]? ≠ some (.cells cs 92 (0, 0)) := by
  refine ⟨?_, ?_, ?_, ?_, ?_⟩
  · exact h3.cell (a := ⟨w1.heap.size + 1, 0, none⟩) (v := .int .i64 c) (by simp) (by simp [Value.ownBlock])
  · exact h3.cell (a := ⟨w1.heap.size + 1, 1, none⟩) (v := .slice (some ⟨w1.heap.size, 0, none⟩) 1 1) (by simp) (by simp [Value.ownBlock])
  · exact (h3.frozen_far ⟨w1.heap.size + 1, 1, none⟩ (by simp) (by simp [Value.ownBlock])).trans (by simp)
  · exact (h3.frozen_far ⟨w1.heap.size + 1, 0, none⟩ (by simp) (by simp [Value.ownBlock])).trans (by simp)
  · intro cs e
    rw [h3.block (w1.heap.size + 1) (by simp) (by simp [Value.ownBlock]), heap_alloc2] at e
    simp at e

set_option maxHeartbeats 1000000 in
set_option maxRecDepth 20000 in
/-- kinref.In of an error -/
theorem refIn_err (s : ByteArray) (n c : Int) (rv : Value) (p : List (ByteArray × Int)) (w : World) (hr : Row w rv p.length (stepCells p)) (hc : c ≠ 0) (hp : p.length ≤ 1000000) :
    Calls Tryd.prog 75 #[.string s, .int .i64 n, .agg #[.int .i64 c, rv]] w fun e w' => ∃ u, e = .returned (.agg #[.int .i64 c, u]) ∧ w'.ownsRow w.heap.size 92 2 u (p.length + 1) (stepCells ((s, n) :: p)) ∧ Ext w w' := by
  have hc0 : (c == 0) = false := by simpa using hc
  have E1 : Ext w (w.alloc (.cells #[.int .i64 c, rv] 41)) := (Ext.refl w).alloc _
  obtain ⟨i0, hi, hz0, hz1, hz2⟩ := info_parts infoRStep
  go_enter Tryd.func75, Tryd.ntmps75
  go_wp2_with fail
  refine (ok_any c rv _).mono ?_; rintro e w1 ⟨rfl, hx⟩
  have b0 := hx.cell (p := ⟨w.heap.size, 0, none⟩) (v := .int .i64 c) (by simp)
  have b1 := hx.cell (p := ⟨w.heap.size, 1, none⟩) (v := rv) (by simp)
  have r0 := hx.cell (p := ⟨w.heap.size + 1, 0, none⟩) (v := .int .i64 0) (by simp)
  have r1 := hx.cell (p := ⟨w.heap.size + 1, 1, none⟩) (v := .slice none 0 0) (by simp)
  have f0 : w1.frozen? ⟨w.heap.size + 1, 0, none⟩ = false := (Below.frozen hx (by simp)).trans (by simp)
  have f1 : w1.frozen? ⟨w.heap.size + 1, 1, none⟩ = false := (Below.frozen hx (by simp)).trans (by simp)
  have hsz : w.heap.size + 1 < w1.heap.size := Ext.lt r0
  have hE : Ext w w1 := (E1.alloc _).trans hx
  have hr1 := hr.ext hE
  have hown := World.ownsRow_lit (e := 92) (base := w1.heap.size) (size := 2) w1 #[.string s, .int .i64 n] 1 (Nat.le_refl _) (by unfold maxLen; omega) rfl
  clear hx hr
  have HC := Lib.hid hc
  clear hc
  have E3 : Ext w1 ((w1.alloc (.cells #[.string s, .int .i64 n] 92)).alloc (.cells #[.int .i64 c, .slice (some ⟨w1.heap.size, 0, none⟩) 1 1] 41)) := ((Ext.refl w1).alloc _).alloc _
  have b1' := E3.cell b1
  have fr0 : ((w1.alloc (.cells #[.string s, .int .i64 n] 92)).alloc (.cells #[.int .i64 c, .slice (some ⟨w1.heap.size, 0, none⟩) 1 1] 41)).frozen? ⟨w.heap.size + 1, 0, none⟩ = false := (Below.frozen E3 (by simp; omega)).trans f0
  have fr1 : ((w1.alloc (.cells #[.string s, .int .i64 n] 92)).alloc (.cells #[.int .i64 c, .slice (some ⟨w1.heap.size, 0, none⟩) 1 1] 41)).frozen? ⟨w.heap.size + 1, 1, none⟩ = false := (Below.frozen E3 (by simp; omega)).trans f1
  have cr0 := E3.cell r0
  have cr1 := E3.cell r1
  clear b1
  go_wp2_with (at_builtin; refine append_row rfl _ _ 39 rfl 92 i0 _ 2 24 Tryd.underlying39 hi hz0 hz1 hz2 rfl (by decide) (.slice (some ⟨w1.heap.size, 0, none⟩) 1 1) 1 [.string s, .int .i64 n] rfl (hown.alloc _) rv p.length (stepCells p) rfl (hr1.ext E3) (stepCells_length p) (step_one p) (by simp; omega) (by unfold maxLen; omega) (by omega) ?_; intro v' w2 h1 h2 h3; obtain ⟨ga, gcap, rfl⟩ := (Row.of_owns h1).form; obtain ⟨g0, g1, g2, g3, g4⟩ := in_facts h3; have q0 := Below.cellv h2 cr0 (by simp; omega); have q1 := Below.cellv h2 cr1 (by simp; omega); have q2 := (Below.frozen h2 (p := ⟨w.heap.size + 1, 0, none⟩) (by simp; omega)).trans fr0; have q3 := (Below.frozen h2 (p := ⟨w.heap.size + 1, 1, none⟩) (by simp; omega)).trans fr1)
  refine bodyPost_ret (v := .agg #[.int .i64 c, .slice ga (1 + p.length) gcap]) ?_ rfl ⟨_, rfl, ?_, ?_⟩
  · have e0 : (w2.setCell ⟨w1.heap.size + 1, 1, none⟩ (.slice ga (1 + p.length) gcap)).cell? ⟨w.heap.size + 1, 0, none⟩ = some (.int .i64 0) := (World.cell?_setCell_other _ _ _ _ (by simp <;> omega)).trans q0
    have e1 : (w2.setCell ⟨w1.heap.size + 1, 1, none⟩ (.slice ga (1 + p.length) gcap)).cell? ⟨w.heap.size + 1, 1, none⟩ = some (.slice none 0 0) := (World.cell?_setCell_other _ _ _ _ (by simp <;> omega)).trans q1
    have e2 := World.cell?_setCell_same _ _ (.int .i64 c) e0
    have e3 := (World.cell?_setCell_other (w2.setCell ⟨w1.heap.size + 1, 1, none⟩ (.slice ga (1 + p.length) gcap)) ⟨w.heap.size + 1, 0, none⟩ ⟨w.heap.size + 1, 1, none⟩ (.int .i64 c) (by simp)).trans e1
    have e4 := World.cell?_setCell_same _ _ (.slice ga (1 + p.length) gcap) e3
    have e5 := (World.cell?_setCell_other ((w2.setCell ⟨w1.heap.size + 1, 1, none⟩ (.slice ga (1 + p.length) gcap)).setCell ⟨w.heap.size + 1, 0, none⟩ (.int .i64 c)) ⟨w.heap.size + 1, 1, none⟩ ⟨w.heap.size + 1, 0, none⟩ (.slice ga (1 + p.length) gcap) (by simp)).trans e2
    simp [results, Tryd.results75, go_sem, e4, e5]
  · rw [show p.length + 1 = 1 + p.length from Nat.add_comm _ _]
    have o1 := owns_setCell_ne h1 (p := ⟨w1.heap.size + 1, 1, none⟩) (.slice ga (1 + p.length) gcap) g4
    have o2 := ownsRow_setCell_below o1 (a := ⟨w.heap.size + 1, 0, none⟩) hsz (.int .i64 c)
    have o3 := ownsRow_setCell_below o2 (a := ⟨w.heap.size + 1, 1, none⟩) hsz (.slice ga (1 + p.length) gcap)
    exact owns_base o3 (show w.heap.size ≤ w1.heap.size by omega)
  · exact ((hE.trans ((E3.of_below h2 (Nat.le_refl _)).setCell (by simp) _)).setCell (by simp) _).setCell (by simp) _

end Go.Proofs.YtmhbmegmlpenkaaDoor

/- kinlaw16.plain; lists of groups; scene.Groups: contracts over this seat's translation. -/
namespace Go.Proofs.YtmhbmegmlpenkaaDoor
set_option linter.unusedVariables false
set_option linter.unusedSimpArgs false
open Go.RowKit Go.Extern.Stop Go.Stop Go.Extern

/-- cells of groups -/
def gcells (G : List (Int × Int)) : List Value := G.flatMap fun p => [.int .i64 p.1, .int .i64 p.2]
theorem gcells_len (G : List (Int × Int)) : (gcells G).length = 2 * G.length := by
  induction G with
  | nil => rfl
  | cons p G ih => simp only [gcells, List.flatMap_cons, List.length_append, List.length_cons, List.length_nil] at ih ⊢; omega
theorem gcells_snoc (G : List (Int × Int)) (a b : Int) : gcells (G ++ [(a, b)]) = gcells G ++ [.int .i64 a, .int .i64 b] := by
  unfold gcells
  rw [List.flatMap_append]
  rfl
theorem gcells_at (G : List (Int × Int)) (a b : Int) : (gcells (G ++ [(a, b)]))[G.length * 2]? = some (.int .i64 a) ∧ (gcells (G ++ [(a, b)]))[G.length * 2 + 1]? = some (.int .i64 b) := by
  have hl := gcells_len G
  rw [gcells_snoc]
  constructor
  · rw [List.getElem?_append_right (by omega), hl, show G.length * 2 - 2 * G.length = 0 by omega]
    rfl
  · rw [List.getElem?_append_right (by omega), hl, show G.length * 2 + 1 - 2 * G.length = 1 by omega]
    rfl
theorem gcells_set (G : List (Int × Int)) (a b c : Int) : (gcells (G ++ [(a, b)])).set (G.length * 2 + 1) (.int .i64 c) = gcells (G ++ [(a, c)]) := by
  have hl := gcells_len G
  rw [gcells_snoc, gcells_snoc, List.set_append, if_neg (by omega), hl, show G.length * 2 + 1 - 2 * G.length = 1 by omega]
  rfl
theorem gcells_one (G : List (Int × Int)) : ∀ x ∈ gcells G, x.oneCell' = true := fun x hx => by
  unfold gcells at hx
  obtain ⟨p, _, hp⟩ := List.mem_flatMap.1 hx
  simp only [List.mem_cons, List.not_mem_nil, or_false] at hp
  rcases hp with rfl | rfl <;> rfl
theorem own2_set {w : World} {base n cap g j : Nat} {e : TypeId} {s : Nat} {xs : List Value} (v : Value) (h : w.ownsRow base e s (.slice (some ⟨g, 0, none⟩) n cap) n xs) :
    (w.setCell ⟨g, j, none⟩ v).ownsRow base e s (.slice (some ⟨g, 0, none⟩) n cap) n (xs.set j v) := by
  obtain ⟨hl, h | ⟨g', cap', cur, e', hb, hg, h1, h2, hs, ht⟩⟩ := h
  · cases h.1
  · simp only [Value.slice.injEq, Option.some.injEq, Addr.mk.injEq, and_true, true_and] at e'
    obtain ⟨rfl, rfl⟩ := e'
    refine ⟨by simpa using hl, Or.inr ⟨g, cap, cur.setIfInBounds j v, rfl, hb, heap_setCell_same w g j cur e v hg, h1, h2, by simpa using hs, ?_⟩⟩
    rw [← ht]
    simp [List.take_set]
theorem own2_cell {w : World} {base n cap g j : Nat} {e : TypeId} {s : Nat} {xs : List Value} {v : Value} (h : w.ownsRow base e s (.slice (some ⟨g, 0, none⟩) n cap) n xs) (hj : xs[j]? = some v) : w.cell? ⟨g, j, none⟩ = some v ∧ w.frozen? ⟨g, j, none⟩ = false := by
  obtain ⟨hl, h | ⟨g', cap', cur, e', hb, hg, h1, h2, hs, ht⟩⟩ := h
  · cases h.1
  · simp only [Value.slice.injEq, Option.some.injEq, Addr.mk.injEq, and_true, true_and] at e'
    obtain ⟨rfl, rfl⟩ := e'
    rw [← ht, List.getElem?_take] at hj
    split at hj
    · constructor
      · unfold World.cell?
        simp only [hg]
        simpa using hj
      · unfold World.frozen?
        simp only [hg]
        simp
    · cases hj
set_option maxRecDepth 20000 in
set_option maxHeartbeats 2000000 in
theorem plain_any (v : Int) (w : World) :
    Calls Tryd.prog 72 #[.int .i64 v] w fun e w' => ∃ a cap, e = .returned (.agg #[.int .i64 8, .int .i64 8, .slice a 64 cap]) ∧ Ext w w' ∧ Ints w' (.slice a 64 cap) (rowL 64 fun _ => v) := by
  have FA0 := FrHas.new w 0 0 (.slice none 0 0)
  have E0 : Ext w (w.alloc (.cells #[.int .i64 0, .int .i64 0, .slice none 0 0] 24)) := (Ext.refl w).alloc _
  have A1 : Ext (w.alloc (.cells #[.int .i64 0, .int .i64 0, .slice none 0 0] 24)) ((w.alloc (.cells #[.int .i64 0, .int .i64 0, .slice none 0 0] 24)).alloc (.cells #[.int .i64 8, .int .i64 8, .slice none 0 0] 24)) := (Ext.refl _).alloc _
  have FB0 : FrHas ((w.alloc (.cells #[.int .i64 0, .int .i64 0, .slice none 0 0] 24)).alloc (.cells #[.int .i64 8, .int .i64 8, .slice none 0 0] 24)) (w.heap.size + 1) 8 8 (.slice none 0 0) := by
    have := FrHas.new (w.alloc (.cells #[.int .i64 0, .int .i64 0, .slice none 0 0] 24)) 8 8 (.slice none 0 0)
    simpa using this
  have HF := Lib.hid (FA0.ext A1)
  have HV := Lib.hid FB0
  have E1 := E0.trans A1
  have hS : w.heap.size + 2 ≤ ((w.alloc (.cells #[.int .i64 0, .int .i64 0, .slice none 0 0] 24)).alloc (.cells #[.int .i64 8, .int .i64 8, .slice none 0 0] 24)).heap.size := by simp
  clear FA0 FB0 E0 A1
  go_enter Tryd.func72, Tryd.ntmps72
  go_wp2_with fail
  go_loopw [4] (fun iv wr => ∃ (k : Nat) (u : Value), k ≤ 64 ∧ iv = .int .i64 k ∧ Hid (wr.ownsRow (w.heap.size + 2) 3 1 u k ((rowL k fun _ => v).map (Value.int .i64))) ∧ Hid (FrHas wr (w.heap.size + 1) 8 8 u) ∧ Hid (FrHas wr w.heap.size 0 0 (.slice none 0 0)) ∧ Ext w wr ∧ w.heap.size + 2 ≤ wr.heap.size) (fun iv _ => 64 - (intOf iv).toNat)
  case atStart => exact ⟨0, _, Nat.zero_le _, rfl, World.ownsRow_nil _ _ _ _, HV, HF, E1, hS⟩
  case round =>
    clear HV HF E1 hS
    obtain ⟨k, u, hk, rfl, HO, HV, HF, E1, hS⟩ := hrel
    obtain ⟨ua, uc, rfl⟩ := own_slice HO.out
    obtain ⟨⟨p0, p1, p2⟩, f0, f1, f2⟩ := HV.out
    by_cases hlt : k < 64
    · go_wp2_with (at_builtin; refine push_int rfl _ _ 22 rfl Tryd.underlying22 _ _ _ _ rfl HO.out (by show Value.slice (some ⟨wr.heap.size, 0, none⟩) 1 1 = _; simp) hS (by omega) ?_; intro v' w7 h1 h2; obtain ⟨va, vc, rfl⟩ := own_slice h1; have HV7 := HV.out.under h2 (Nat.lt_succ_self _); have HF7 := Lib.hid (HF.out.under h2 (by omega)); have HO7 := Lib.hid h1; have E7 : Ext w w7 := E1.of_below h2 (by omega); have hS7 := Nat.le_trans hS h2.size; have HVH := Lib.hid HV7; obtain ⟨⟨c0, c1, c2⟩, j0, j1, j2⟩ := HV7; clear h1 h2)
      go_roundw
      case rel =>
        have sb : Below (w.heap.size + 1) w7 (w7.setCell ⟨w.heap.size + 1, 2, none⟩ (.slice va (k + 1) vc)) := (Below.refl (w.heap.size + 1) w7).setCell (p := ⟨w.heap.size + 1, 2, none⟩) (Nat.le_refl _) _
        refine ⟨k + 1, .slice va (k + 1) vc, by omega, by go_num, ?_, HVH.out.set _, HF7.out.under sb (Nat.lt_succ_self _), E7.setCell (p := ⟨w.heap.size + 1, 2, none⟩) (Nat.le_succ _) _, Nat.le_trans hS7 sb.size⟩
        show World.ownsRow _ _ _ _ _ _ _
        rw [rowL_sn]
        exact row_setCell HO7.out _ _ (Nat.lt_succ_self _) _
      case measure => simp [intOf]; omega
    · obtain rfl : k = 64 := by omega
      obtain ⟨⟨q0, q1, q2⟩, g0, g1, g2⟩ := HF.out
      have HO9 := Lib.hid (row_setCell (row_setCell (row_setCell HO.out w.heap.size 0 (by omega) (.int .i64 8)) w.heap.size 1 (by omega) (.int .i64 8)) w.heap.size 2 (by omega) (.slice ua 64 uc))
      go_wp2
      obtain ⟨e0, e1, e2⟩ := fr_cells 8 8 (.slice ua 64 uc) q0 q1 q2
      exact bodyPost_ret (v := .agg #[.int .i64 8, .int .i64 8, .slice ua 64 uc]) (by simp [results, Tryd.results72, go_sem, e0, e1, e2]) rfl
        ⟨_, _, rfl, ((E1.setCell (p := ⟨w.heap.size, 0, none⟩) (Nat.le_refl _) _).setCell (p := ⟨w.heap.size, 1, none⟩) (Nat.le_refl _) _).setCell (p := ⟨w.heap.size, 2, none⟩) (Nat.le_refl _) _, Ints.of_row HO9.out (by omega)⟩
end Go.Proofs.YtmhbmegmlpenkaaDoor
