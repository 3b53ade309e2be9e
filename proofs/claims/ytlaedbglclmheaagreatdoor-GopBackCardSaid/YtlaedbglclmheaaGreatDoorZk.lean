/- Contracts of this seat: Mat, Cop, RMay, PlA, PlN. -/
import Derived.Test.YtlaedbglclmheaaGreatDoorZb
import Derived.Test.YtlaedbglclmheaaGreatDoorZc
import Derived.Deep.OwnRows
import Derived.Maps.AppendAt
import Derived.Test.YtlaedbglclmheaaGreatDoorZj
import Derived.Test.YtlaedbglclmheaaGreatDoorZh
import Derived.Test.YtlaedbglclmheaaGreatDoorZi
/- Slices of int slices: what they read as; rows of the call's own, several at once. -/
namespace Go.Proofs.YtlaedbglclmheaaGreatDoor
set_option linter.unusedVariables false
set_option linter.unusedSimpArgs false
open Go.RowKit Go.Extern.Stop Go.Stop Go.Extern

/-- a slice value that reads as these rows -/
def Mat (w : World) (v : Value) (L : List (List Int)) : Prop := ∃ (a : Option Addr) (cap : Nat), v = .slice a L.length cap ∧ L.length ≤ cap ∧ cap ≤ maxLen ∧
  (0 < L.length → ∃ g off, a = some ⟨g, off, none⟩ ∧ ∀ q row, L[q]? = some row → ∃ ra rn rc, w.cell? ⟨g, off + q, none⟩ = some (.slice ra rn rc) ∧ Row w (.slice ra rn rc) row.length (row.map (Value.int .i64)))
theorem Mat.ext {w w' : World} {v : Value} {L : List (List Int)} (h : Mat w v L) (k : Ext w w') : Mat w' v L := by
  obtain ⟨a, cap, h0, h1, h2, h3⟩ := h
  refine ⟨a, cap, h0, h1, h2, fun hl => ?_⟩
  obtain ⟨g, off, e, h4⟩ := h3 hl
  refine ⟨g, off, e, fun q row hq => ?_⟩
  obtain ⟨ra, rn, rc, c1, c2⟩ := h4 q row hq
  exact ⟨ra, rn, rc, k.cell c1, c2.ext k⟩
theorem Mat.form {w : World} {v : Value} {L : List (List Int)} (h : Mat w v L) : ∃ a cap, v = .slice a L.length cap := by
  obtain ⟨a, cap, h0, _⟩ := h
  exact ⟨a, cap, h0⟩
theorem Mat.nil (w : World) : Mat w (.slice none 0 0) [] := ⟨none, 0, rfl, Nat.le_refl _, Nat.zero_le _, fun h => absurd h (Nat.lt_irrefl _)⟩
theorem Mat.len {w : World} {a : Option Addr} {n cap : Nat} {L : List (List Int)} (h : Mat w (.slice a n cap) L) : n = L.length := by
  obtain ⟨a', cap', e, _⟩ := h
  simp only [Value.slice.injEq] at e
  exact e.2.1
theorem Mat.had {w : World} {a : Option Addr} {n cap : Nat} {L : List (List Int)} (h : Mat w (.slice a n cap) L) (hn : 0 < n) : ∃ g off, a = some ⟨g, off, none⟩ := by
  have hl := h.len
  obtain ⟨a', cap', e, _, _, h3⟩ := h
  simp only [Value.slice.injEq] at e
  obtain ⟨rfl, -, rfl⟩ := e
  obtain ⟨g, off, e, _⟩ := h3 (by omega)
  exact ⟨g, off, e⟩
theorem Mat.row {w : World} {g off n cap : Nat} {L : List (List Int)} (h : Mat w (.slice (some ⟨g, off, none⟩) n cap) L) {q : Nat} {row : List Int} (hq : L[q]? = some row) :
    ∃ ra rc, w.cell? ⟨g, off + q, none⟩ = some (.slice ra row.length rc) ∧ Row w (.slice ra row.length rc) row.length (row.map (Value.int .i64)) := by
  have hl := h.len
  obtain ⟨a', cap', e, _, _, h3⟩ := h
  simp only [Value.slice.injEq] at e
  obtain ⟨rfl, -, rfl⟩ := e
  obtain ⟨hj, -⟩ := List.getElem?_eq_some_iff.1 hq
  obtain ⟨g', off', e, h4⟩ := h3 (by omega)
  obtain ⟨rfl, rfl⟩ : g = g' ∧ off = off' := by simpa using e
  obtain ⟨ra, rn, rc, c1, c2⟩ := h4 q row hq
  obtain ⟨a, cap, e⟩ := c2.form
  simp only [Value.slice.injEq] at e
  obtain ⟨rfl, rfl, rfl⟩ := e
  exact ⟨_, _, c1, c2⟩
theorem Mat.at {w : World} {g off n cap : Nat} {L : List (List Int)} (h : Mat w (.slice (some ⟨g, off, none⟩) n cap) L) {q : Nat} {row : List Int} (hq : L[q]? = some row) (hl : row.length ≤ 1000000) :
    ∃ ra rn rc, w.cell? ⟨g, off + q, none⟩ = some (.slice ra rn rc) ∧ Ints w (.slice ra rn rc) row := by
  obtain ⟨ra, rc, c1, c2⟩ := h.row hq
  exact ⟨ra, _, rc, c1, c2, by omega⟩

/-- an append of one int to one of several rows -/
theorem push_at {ops : Array Oper} {rest : List Oper} {o : Oper} {a : Act} {Q : Exit → Act → World → Prop} {W : World} {base : Nat} (hgd : o.guard = none) (s y : Operand) (t : TypeId)
    (ho : o.op = .call { callee := .builtin .append, args := #[s, y], argTypes := #[t, t] }) (ht : Tryz.prog.underlying t = some (.slice 3))
    (v : Value) (n : Nat) (xs : List Value) (x : Int) (hs : a.eval s = v) (hown : W.ownsRow base 3 1 v n xs) (hx : a.eval y = .slice (some ⟨W.heap.size, 0, none⟩) 1 1) (hb : base ≤ W.heap.size) (hn : n ≤ 1000000000000)
    (h : ∀ v' w', w'.ownsRow base 3 1 v' (n + 1) (xs ++ [.int .i64 x]) → W.grownBy w' v.ownBlock → (v'.ownBlock = v.ownBlock ∨ v'.ownBlock = some (W.heap.size + 1)) → wpList Tryz.prog ops Q rest (a.put o.dst v') w') :
    wpList Tryz.prog ops Q (o :: rest) a (W.alloc (.cells #[.int .i64 x] 3)) := by
  obtain ⟨i0, hi, hz0, hz1, hz2⟩ := info_parts infoInt
  refine wpList_append_own_at _ hgd s y t ho base 3 i0 (.int .i64 0) 1 8 ht hi hz0 hz1 hz2 rfl (by decide) v n xs hs (hown.alloc _) ⟨W.heap.size, 0, none⟩ 1 1 [.int .i64 x] hx rfl (cell_one_new _ _ _) (one_int _) (by unfold maxLen; omega) (by omega) (by simp; omega) ?_
  intro v' w' h1 h2 h3 h4
  refine h v' w' h1 ⟨h2.os, h2.tape, h2.output, Nat.le_trans (by simp) h2.size, fun k hk hne => ?_⟩ (by simpa using h4)
  exact (h2.block k (by simp; omega) hne).trans (Below.heap_alloc W _ k hk)
/-- likewise, at a step of a region that draws its order -/
theorem step_push_at {ops : Array Oper} {o : Oper} {a : Act} {K : Act → World → Prop} {Q : Exit → Act → World → Prop} {E : Prop} {W : World} {base : Nat} (hgd : o.guard = none) (s y : Operand) (t : TypeId)
    (ho : o.op = .call { callee := .builtin .append, args := #[s, y], argTypes := #[t, t] }) (ht : Tryz.prog.underlying t = some (.slice 3))
    (v : Value) (n : Nat) (xs : List Value) (x : Int) (hs : a.eval s = v) (hown : W.ownsRow base 3 1 v n xs) (hx : a.eval y = .slice (some ⟨W.heap.size, 0, none⟩) 1 1) (hb : base ≤ W.heap.size) (hn : n ≤ 1000000000000)
    (h : ∀ g cap w', w'.ownsRow base 3 1 (.slice (some ⟨g, 0, none⟩) (n + 1) cap) (n + 1) (xs ++ [.int .i64 x]) → W.grownBy w' v.ownBlock → (some g = v.ownBlock ∨ some g = some (W.heap.size + 1)) → K (a.put o.dst (.slice (some ⟨g, 0, none⟩) (n + 1) cap)) w') :
    if Region.wanted o (yielded ops a.tmps) = true then Oper.wp Tryz.prog o a ((W.alloc (.cells #[.int .i64 x] 3)).drew) K Q else E := by
  obtain ⟨i0, hi, hz0, hz1, hz2⟩ := info_parts infoInt
  have hown' : ((W.alloc (.cells #[.int .i64 x] 3)).drew).ownsRow base 3 1 v n xs := (hown.alloc _).drew
  refine step_append_lies _ hgd s y t ho base 3 i0 (.int .i64 0) 1 8 ht hi hz0 hz1 hz2 rfl (by decide) v n xs hs hown' ⟨W.heap.size, 0, none⟩ 1 1 [.int .i64 x] hx rfl (World.news_of_block (cs := #[.int .i64 x]) (t := 3) (fr := (0, 0)) (heap_alloc_new W _)) (one_int _) (by decide) (by unfold maxLen; omega) (by omega) (by simp; omega) (W.heap.size + 1) (by simp) ?_
  intro g cap w' h1 h2 h3 _
  refine h g cap w' h1 ⟨h2.os, h2.tape, h2.output, Nat.le_trans (by simp) h2.size, fun k hk hne => ?_⟩ (by
    rcases h3 with h3 | h3
    · exact Or.inl h3.symm
    · exact Or.inr (by rw [h3]))
  exact (h2.block k (by simp; omega) hne).trans (Below.heap_alloc W _ k hk)
theorem own_grownBy {w w' : World} {base : Nat} {e : TypeId} {size n : Nat} {v : Value} {xs : List Value} {row : Option Nat} (h : w.ownsRow base e size v n xs) (k : w.grownBy w' row) (hne : v.ownBlock = none ∨ v.ownBlock ≠ row) : w'.ownsRow base e size v n xs := by
  obtain ⟨hl, h⟩ := h
  refine ⟨hl, ?_⟩
  rcases h with h | ⟨g, cap, cur, rfl, hb, hg, h⟩
  · exact Or.inl h
  · have hlt : g < w.heap.size := (Array.getElem?_eq_some_iff.1 hg).1
    have e1 : Value.ownBlock (.slice (some ⟨g, 0, none⟩) n cap) = some g := rfl
    rw [e1] at hne
    refine Or.inr ⟨g, cap, cur, rfl, hb, (k.block g hlt ?_).trans hg, h⟩
    rcases hne with hne | hne
    · cases hne
    · exact hne
/-- m rows of the call's own, in a block of its own -/
def RowsAt (w : World) (g m base : Nat) (R : Nat → Value) (Z : Nat → List Int) : Prop :=
  w.rowIs g 49 m R ∧ g < base ∧ base ≤ w.heap.size ∧ (∀ q, q < m → w.ownsRow base 3 1 (R q) (Z q).length ((Z q).map (Value.int .i64))) ∧ ∀ q q', q < m → q' < m → q ≠ q' → (R q).ownBlock = none ∨ (R q).ownBlock ≠ (R q').ownBlock
theorem RowsAt.push {w w' : World} {g m base q : Nat} {R : Nat → Value} {Z : Nat → List Int} {v' : Value} {x : Int} (h : RowsAt w g m base R Z) (hq : q < m)
    (h1 : w'.ownsRow base 3 1 v' ((Z q).length + 1) ((Z q).map (Value.int .i64) ++ [.int .i64 x])) (h2 : w.grownBy w' (R q).ownBlock) (h3 : v'.ownBlock = (R q).ownBlock ∨ v'.ownBlock = some (w.heap.size + 1)) :
    RowsAt (w'.setCell ⟨g, q, none⟩ v') g m base (fun j => if j = q then v' else R j) (fun j => if j = q then Z q ++ [x] else Z j) := by
  obtain ⟨r1, r2, r3, r4, r5⟩ := h
  have gne : some g ≠ (R q).ownBlock := fun e => by have := ((r4 q hq).lt g e.symm).1; omega
  have hgs : g < w.heap.size := r1.lt
  refine ⟨(r1.of_block (h2.block g hgs gne)).set q v', r2, by have := h2.size; simp [World.setCell]; omega, fun j hj => ?_, fun i j hi hj hij => ?_⟩
  · by_cases hjq : j = q
    · subst hjq
      simp only [if_pos]
      rw [List.length_append, List.map_append]
      exact ownsRow_setCell_below h1 (a := ⟨g, j, none⟩) r2 _
    · simp only [if_neg hjq]
      exact ownsRow_setCell_below (own_grownBy (r4 j hj) h2 (r5 j q hj hq hjq)) (a := ⟨g, q, none⟩) r2 _
  · have lt : ∀ k, k < m → (R k).ownBlock ≠ some (w.heap.size + 1) := fun k hk e => by have := ((r4 k hk).lt _ e).2; omega
    by_cases h1 : i = q
    · subst h1
      have h2 : ¬ j = i := fun e => hij e.symm
      simp only [if_pos, if_neg h2]
      rcases h3 with h3 | h3
      · rw [h3]; exact r5 i j hi hj hij
      · rw [h3]; exact Or.inr (fun e => lt j hj e.symm)
    · by_cases h2 : j = q
      · subst h2
        simp only [if_pos, if_neg h1]
        rcases h3 with h3 | h3
        · rw [h3]; exact r5 i j hi hj hij
        · rw [h3]; exact Or.inr (lt i hi)
      · simp only [if_neg h1, if_neg h2]
        exact r5 i j hi hj hij
theorem RowsAt.mat {w : World} {g m base : Nat} {R : Nat → Value} {Z : Nat → List Int} (h : RowsAt w g m base R Z) (hm : m ≤ 1000000) (hz : ∀ q, q < m → (Z q).length ≤ 1000000) : Mat w (.slice (some ⟨g, 0, none⟩) m m) ((List.range m).map Z) := by
  obtain ⟨r1, r2, r3, r4, r5⟩ := h
  refine ⟨some ⟨g, 0, none⟩, m, by simp, by simp, by unfold maxLen; omega, fun _ => ⟨g, 0, rfl, fun q row hq => ?_⟩⟩
  rw [List.getElem?_map] at hq
  obtain ⟨j, hj, rfl⟩ := Option.map_eq_some_iff.1 hq
  obtain ⟨hlt, e⟩ := List.getElem?_eq_some_iff.1 hj
  simp at hlt e
  subst e
  have hi := Ints.of_owns (r4 q hlt) (by have := hz q hlt; omega)
  obtain ⟨a, cap, e⟩ := hi.form
  refine ⟨a, _, cap, ?_, by rw [← e]; exact hi.1⟩
  rw [← e]
  simpa using r1.cell hlt
end Go.Proofs.YtlaedbglclmheaaGreatDoor

/- slices.Repeat's row as one of the call's own; the builtin copy, that leaves all other blocks. -/
namespace Go.Proofs.YtlaedbglclmheaaGreatDoor
set_option linter.unusedVariables false
set_option linter.unusedSimpArgs false
open Go.RowKit Go.Extern.Stop Go.Stop Go.Extern

/-- made by Repeat, at the lengths that are asked for -/
def RepPost (w : World) (N : Nat) (x : Int) (e : Ending) (w' : World) : Prop := ∃ g, e = .returned (.slice (some ⟨g, 0, none⟩) N N) ∧ Ext w w' ∧ w'.ownsRow w.heap.size 3 1 (.slice (some ⟨g, 0, none⟩) N N) N ((rowL N fun _ => x).map (Value.int .i64)) ∧ w.heap.size ≤ g ∧ g < w'.heap.size
theorem rep_key (M : Nat) (x : Int) (v : Value) (w : World) (ha : Ints w v [x]) (h1 : 1 ≤ M) (h2 : M ≤ 1024) (hm : ∀ W, Calls Tryz.prog 156 #[.int .u64 1, .int .u64 (M : Int)] W fun e w' => e = .returned (.tuple #[.int .u64 0, .int .u64 (M : Int)]) ∧ W = w') :
    Calls Tryz.prog 137 #[v, .int .i64 (M : Int)] w (RepPost w M x) :=
  (rep_walk M x v w ha h1 h2 hm).mono fun e w' ⟨u, he, hx, ho, G, hG⟩ => by
    subst hG
    obtain ⟨hb, hs⟩ := ho.lt G rfl
    exact ⟨G, he, hx, ho, hb, hs⟩
theorem rep_sz (M : Nat) (hM : M = 4 ∨ M = 8 ∨ M = 64 ∨ M = 128 ∨ M = 192 ∨ M = 256 ∨ M = 384 ∨ M = 512 ∨ M = 576 ∨ M = 768 ∨ M = 1024) (x : Int) (v : Value) (w : World) (ha : Ints w v [x]) :
    Calls Tryz.prog 137 #[v, .int .i64 (M : Int)] w (RepPost w M x) := by
  rcases hM with rfl | rfl | rfl | rfl | rfl | rfl | rfl | rfl | rfl | rfl | rfl
  · exact rep_key 4 x v w ha (by decide) (by decide) (fun W => mul_4 W)
  · exact rep_key 8 x v w ha (by decide) (by decide) (fun W => mul_8 W)
  · exact rep_key 64 x v w ha (by decide) (by decide) (fun W => mul_64 W)
  · exact rep_key 128 x v w ha (by decide) (by decide) (fun W => mul_128 W)
  · exact rep_key 192 x v w ha (by decide) (by decide) (fun W => mul_192 W)
  · exact rep_key 256 x v w ha (by decide) (by decide) (fun W => mul_256 W)
  · exact rep_key 384 x v w ha (by decide) (by decide) (fun W => mul_384 W)
  · exact rep_key 512 x v w ha (by decide) (by decide) (fun W => mul_512 W)
  · exact rep_key 576 x v w ha (by decide) (by decide) (fun W => mul_576 W)
  · exact rep_key 768 x v w ha (by decide) (by decide) (fun W => mul_768 W)
  · exact rep_key 1024 x v w ha (by decide) (by decide) (fun W => mul_1024 W)
theorem grownBy_setRow (w : World) (g : Nat) (cs : Array Value) : w.grownBy (w.setRow g cs) (some g) :=
  ⟨rfl, rfl, rfl, by simp [World.setRow], fun k _ hne => setRow_other w g k cs (fun e => hne (by rw [e]))⟩
theorem copy_keep {P : Program} {w : World} {ops : Array Oper} {rest : List Oper} {o : Oper} {a : Act} {Q : Exit → Act → World → Prop} (hgd : o.guard = none) (d s : Operand) (dT sT : TypeId)
    (ho : o.op = .call { callee := .builtin .copy, args := #[d, s], argTypes := #[dT, sT] }) (elem : TypeId) (hu : P.underlying dT = some (.slice elem)) (hsz : (P.info? elem).map (·.size) = some 1)
    (g off dLen dCap : Nat) (ad : Addr) (sLen sCap : Nat) (hd : a.eval d = .slice (some ⟨g, off, none⟩) dLen dCap) (hs : a.eval s = .slice (some ad) sLen sCap)
    (cur : List Value) (t : TypeId) (hg : w.heap[g]? = some (.cells cur.toArray t (0, 0))) (cs : List Value) (hn : cs.length = Nat.min sLen dLen)
    (hsrc : ∀ j v, cs[j]? = some v → w.cell? (ad.add j) = some v) (hfit : off + cs.length ≤ cur.length) (h1 : ∀ v ∈ cs, v.oneCell' = true)
    (h : ∀ w', Hid (w'.heap[g]? = some (.cells (splice cur off cs).toArray t (0, 0))) → w.grownBy w' (some g) → wpList P ops Q rest (a.put o.dst (goInt cs.length)) w') :
    wpList P ops Q (o :: rest) a w := by
  refine wpList_copy_own hgd d s dT sT ho elem hu hsz g off dLen dCap ad sLen sCap hd hs cur.toArray t hg cs hn hsrc (by simpa using hfit) h1 ?_
  exact h _ (show _ = _ by simpa [splice] using setRow_heap w g _ _ t _ hg) (grownBy_setRow _ _ _)
/-- what a copy reads, out of a list that came in -/
theorem read_row {w : World} {g off n cap k N : Nat} {zs : List Int} {f : Nat → Int} (h : Ints w (.slice (some ⟨g, off, none⟩) n cap) zs) (hk : k + N ≤ n) (hf : ∀ j, j < N → f j = zs.getD (k + j) 0) :
    ∀ j v, ((rowL N f).map (Value.int .i64))[j]? = some v → w.cell? ((⟨g, off + k, none⟩ : Addr).add j) = some v := fun j v hv => by
  have hadd : (⟨g, off + k, none⟩ : Addr).add j = ⟨g, off + (k + j), none⟩ := by unfold Addr.add; split <;> simp_all [Nat.add_assoc]
  rw [List.getElem?_map] at hv
  obtain ⟨y, hy, rfl⟩ := Option.map_eq_some_iff.1 hv
  have hj : j < N := by
    have := (List.getElem?_eq_some_iff.1 hy).1
    rwa [rowL_length] at this
  rw [rowL_get hj] at hy
  cases hy
  rw [hadd, hf j hj]
  exact h.at (get_of_lt (by rw [← h.len]; omega))
theorem ones_row (N : Nat) (f : Nat → Int) : ∀ u ∈ (rowL N f).map (Value.int .i64), u.oneCell' = true := fun u hu => by
  obtain ⟨y, _, rfl⟩ := List.mem_map.1 hu
  rfl
/-- a splice that covers all -/
theorem splice_all {α : Type} {L cs : List α} (h : cs.length = L.length) : splice L 0 cs = cs := by
  unfold splice
  simp [h]
theorem rowL_cg {N : Nat} {f g : Nat → Int} (h : ∀ j, j < N → f j = g j) : rowL N f = rowL N g := by
  unfold rowL
  exact List.map_congr_left fun j hj => h j (List.mem_range.1 hj)
theorem rowL_sn (k : Nat) (f : Nat → Int) : (rowL (k + 1) f).map (Value.int .i64) = (rowL k f).map (Value.int .i64) ++ [.int .i64 (f k)] := by
  unfold rowL
  rw [List.range_succ, List.map_append, List.map_append]
  rfl
end Go.Proofs.YtlaedbglclmheaaGreatDoor

/- kinref6.May: its contract over this seat's translation. -/
namespace Go.Proofs.YtlaedbglclmheaaGreatDoor
set_option linter.unusedVariables false
set_option linter.unusedSimpArgs false
open Go.RowKit Go.Extern.Stop Go.Stop Go.Extern

theorem place_in {W H x y : Int} {n : Nat} (hW : W ≤ 32) (hH : H ≤ 32) (hn : (n : Int) = W * H) (hx : x < W) (hy : y < H) : 0 ≤ x → 0 ≤ y → 0 ≤ y * W ∧ y * W ≤ 100000 ∧ y * W + x < n := fun h1 h2 => by
  have a1 : 0 ≤ y * W := Int.mul_nonneg h2 (by omega)
  have a2 : (y + 1) * W ≤ H * W := Int.mul_le_mul_of_nonneg_right (by omega) (by omega)
  have a3 : H * W ≤ 32 * 32 := Int.mul_le_mul hH hW (by omega) (by omega)
  have a4 : (y + 1) * W = y * W + W := by rw [Int.add_mul, Int.one_mul]
  have a5 : W * H = H * W := Int.mul_comm _ _
  omega
end Go.Proofs.YtlaedbglclmheaaGreatDoor

/- slices.Equal, plane.Same, at, At, New; kinref6.at, At; kinlaw6.few: contracts over this seat's translation. -/
namespace Go.Proofs.YtlaedbglclmheaaGreatDoor
set_option linter.unusedVariables false
set_option linter.unusedSimpArgs false
open Go.RowKit Go.Extern.Stop Go.Stop Go.Extern

/-- are two frames valid and the same -/
def sameB (W H : Int) (xs : List Int) (W' H' : Int) (ys : List Int) : Bool := decide (may W H xs) && (decide (W = W') && (decide (H = H') && decide (xs = ys)))
/-- the nearest place inside -/
def clampI (v n : Int) : Int := max 0 (min v (n - 1))
theorem clampI_in {v n : Int} (h : 1 ≤ n) : 0 ≤ clampI v n ∧ clampI v n < n := by unfold clampI; omega
/-- the sample at a place; beyond an edge, the one at the edge -/
def atV (W H : Int) (zs : List Int) (x y : Int) : Int := zs.getD (clampI y H * W + clampI x W).toNat 0
theorem at_place {W H : Int} {zs : List Int} (h : may W H zs) (x y : Int) : ∃ k : Nat, clampI y H * W + clampI x W = (k : Int) ∧ k < zs.length ∧ 0 ≤ clampI y H * W ∧ clampI y H * W ≤ 100000 ∧ (k : Int) ≤ 100000 ∧ 0 ≤ clampI x W ∧ clampI x W ≤ 31 := by
  have hW := sideB_true h.1
  have hH := sideB_true h.2.1
  have c1 := clampI_in (v := x) (n := W) (by omega)
  have c2 := clampI_in (v := y) (n := H) (by omega)
  obtain ⟨a1, a2, a3⟩ := place_in hW.2.1 hH.2.1 h.2.2.1 c1.2 c2.2 c1.1 c2.1
  have hml := may_len h
  exact ⟨(clampI y H * W + clampI x W).toNat, by omega, by omega, a1, a2, by omega, c1.1, by omega⟩
set_option maxRecDepth 20000 in
set_option maxHeartbeats 2000000 in
theorem at_any (W H x y : Int) (zs : List Int) (a : Option Addr) (n cap : Nat) (w : World) (h : Ints w (.slice a n cap) zs) (hm : may W H zs) :
    Calls Tryz.prog 201 #[.agg #[.int .i64 W, .int .i64 H, .slice a n cap], .int .i64 x, .int .i64 y] w fun e w' => e = .returned (.int .i64 (atV W H zs x y)) ∧ Ext w w' := by
  obtain ⟨k, hk, hk1, b1, b2, b3, b4, b5⟩ := at_place hm x y
  have hW := sideB_true hm.1
  have hH := sideB_true hm.2.1
  have hl := h.len
  obtain ⟨g, off, rfl⟩ := h.had (by omega)
  have E1 : Ext w (w.alloc (.cells #[.int .i64 W, .int .i64 H, .slice (some ⟨g, off, none⟩) n cap] 99)) := (Ext.refl w).alloc _
  have c1 := E1.cell (h.at (get_of_lt hk1))
  have p0 : (w.alloc (.cells #[.int .i64 W, .int .i64 H, .slice (some ⟨g, off, none⟩) n cap] 99)).cell? ⟨w.heap.size, 0, none⟩ = some (.int .i64 W) := by simp
  have p1 : (w.alloc (.cells #[.int .i64 W, .int .i64 H, .slice (some ⟨g, off, none⟩) n cap] 99)).cell? ⟨w.heap.size, 1, none⟩ = some (.int .i64 H) := by simp
  have p2 : (w.alloc (.cells #[.int .i64 W, .int .i64 H, .slice (some ⟨g, off, none⟩) n cap] 99)).cell? ⟨w.heap.size, 2, none⟩ = some (.slice (some ⟨g, off, none⟩) n cap) := by simp
  have HR : Hid (atV W H zs x y = zs.getD k 0) := by show _ = _; unfold atV; rw [hk]; rfl
  revert c1 HR
  generalize zs.getD k 0 = z
  intro c1 HR
  have r1 := mx2
  have r2 := mn2
  obtain ⟨cx, hcx⟩ : ∃ cx, cx = clampI x W := ⟨_, rfl⟩
  obtain ⟨cy, hcy⟩ : ∃ cy, cy = clampI y H := ⟨_, rfl⟩
  rw [← hcx, ← hcy] at hk
  rw [← hcy] at b1 b2
  rw [← hcx] at b4 b5
  have f1 : max 0 (min y (H - 1)) = cy := by rw [hcy]; unfold clampI; omega
  have f2 : max 0 (min x (W - 1)) = cx := by rw [hcx]; unfold clampI; omega
  have e1 : IntKind.i64.wrap (W - 1) = W - 1 := by rw [IntKind.wrap_i64]; omega
  have e2 : IntKind.i64.wrap (H - 1) = H - 1 := by rw [IntKind.wrap_i64]; omega
  have e3 : IntKind.i64.wrap (cy * W) = cy * W := by rw [IntKind.wrap_i64]; omega
  have e4 : IntKind.i64.wrap (cy * W + cx) = (k : Int) := by rw [IntKind.wrap_i64]; omega
  have k1 : (0 : Int) ≤ (k : Int) ∧ (k : Int) < (n : Int) := by omega
  clear hcx hcy hk hm hl hk1 hW hH b1 b2 b3 b4 b5
  go_enter Tryz.func201, Tryz.ntmps201
  go_wp2
  go_region
  all_goals go_wp2
  all_goals go_ret
  all_goals exact ⟨by rw [HR.out]; rfl, E1.drew⟩
def atA (W H : Int) (zs : List Int) (x y : Int) : Int := if may W H zs then atV W H zs x y else 0
end Go.Proofs.YtlaedbglclmheaaGreatDoor

/- plane.New: its contract over this seat's translation. -/
namespace Go.Proofs.YtlaedbglclmheaaGreatDoor
set_option linter.unusedVariables false
set_option linter.unusedSimpArgs false
open Go.RowKit Go.Extern.Stop Go.Stop Go.Extern

/-- a frame and an error; the document's -/
def NwPost (w : World) (W H : Int) (zs : List Int) (f : Fall) (e : Ending) (w' : World) : Prop := ∃ a n cap x, e = .returned (.tuple #[.agg #[.int .i64 W, .int .i64 H, .slice a n cap], x]) ∧ Ext w w' ∧ Ints w' (.slice a n cap) zs ∧ ErrIs w' f x
def RFPost (w : World) (W H : Int) (zs : List Int) (f : Fall) (e : Ending) (w' : World) : Prop := ∃ a n cap c b m k, e = .returned (.tuple #[.agg #[.int .i64 W, .int .i64 H, .slice a n cap], .agg #[.int .i64 c, .slice b m k]]) ∧ Ext w w' ∧ Ints w' (.slice a n cap) zs ∧ RErrIs w' f c (.slice b m k)
def newOk (W H v : Int) : Bool := sideB W && sideB H && smpB v
theorem new_size {W H : Int} (h : sideB W = true) (k : sideB H = true) : ∃ N : Nat, W * H = (N : Int) ∧ (N = 4 ∨ N = 8 ∨ N = 64 ∨ N = 128 ∨ N = 192 ∨ N = 256 ∨ N = 384 ∨ N = 512 ∨ N = 576 ∨ N = 768 ∨ N = 1024) := by
  refine ⟨(W * H).toNat, ?_, ?_⟩ <;> rcases sideB_cases h with rfl | rfl | rfl | rfl <;> rcases sideB_cases k with rfl | rfl | rfl | rfl <;> decide
set_option maxRecDepth 20000 in
set_option maxHeartbeats 400000 in
theorem new_ok (W H v : Int) (w : World) (h : newOk W H v = true) :
    Calls Tryz.prog 108 #[.int .i64 W, .int .i64 H, .int .i64 v] w (NwPost w W H (rowL (W * H).toNat fun _ => v) none) := by
  unfold newOk at h
  simp only [Bool.and_eq_true] at h
  obtain ⟨⟨s1, s2⟩, s3⟩ := h
  obtain ⟨N, hN, hNs⟩ := new_size s1 s2
  have R := Lib.hid (fun u W' k => rep_sz N hNs v u W' k)
  have HT : Hid ((W * H).toNat = N) := by show _ = _; omega
  have hb := side_area s1 s2
  have e1 : IntKind.i64.wrap (W * H) = (N : Int) := by rw [IntKind.wrap_i64]; omega
  have HNl : Hid (N ≤ 1024) := by show _ ≤ _; omega
  have F0 := Lib.hid (FrAt.new w)
  have A0 : Ext w (w.alloc (.cells #[.int .i64 0, .int .i64 0, .slice none 0 0] 99)) := (Ext.refl w).alloc _
  have L1 : Ints ((w.alloc (.cells #[.int .i64 0, .int .i64 0, .slice none 0 0] 99)).alloc (.cells #[.int .i64 v] 3)) (.slice (some ⟨w.heap.size + 1, 0, none⟩) 1 1) [v] := by
    have := Ints.liti (w.alloc (.cells #[.int .i64 0, .int .i64 0, .slice none 0 0] 99)) [v] (by simp)
    simpa using this
  clear hN hNs hb
  go_enter Tryz.func108, Tryz.ntmps108
  go_wp2_with (first | (go_at_call 135; refine (side_any _ _).mono ?_; rintro e w' ⟨rfl, rfl⟩) | (go_at_call 136; refine (smp_any _ _).mono ?_; rintro e w' ⟨rfl, rfl⟩))
  refine (R.out _ _ L1).mono ?_; rintro e w2 ⟨g, rfl, hx2, ho2, hb2, hs2⟩
  have A2 := (((Ext.refl (w.alloc (.cells #[.int .i64 0, .int .i64 0, .slice none 0 0] 99))).alloc (.cells #[.int .i64 v] 3))).trans hx2
  obtain ⟨⟨r0, r1, r2⟩, f0, f1, f2⟩ := F0.out.ext A2
  have E2 : Ext w w2 := A0.trans A2
  have ho3 := own_mono (b := w.heap.size + 1) ho2 (by simp)
  have ho := ownsRow_setCell_below (ownsRow_setCell_below (ownsRow_setCell_below ho3 (a := ⟨w.heap.size, 0, none⟩) (Nat.lt_succ_self _) (.int .i64 W)) (a := ⟨w.heap.size, 1, none⟩) (Nat.lt_succ_self _) (.int .i64 H)) (a := ⟨w.heap.size, 2, none⟩) (Nat.lt_succ_self _) (.slice (some ⟨g, 0, none⟩) N N)
  have HO := Lib.hid ho
  clear ho ho2 ho3 hx2 A0 A2
  go_wp2
  obtain ⟨g0, g1, g2⟩ := fr_cells W H (.slice (some ⟨g, 0, none⟩) N N) r0 r1 r2
  exact bodyPost_ret (v := .tuple #[.agg #[.int .i64 W, .int .i64 H, .slice (some ⟨g, 0, none⟩) N N], .nilIface]) (by simp [results, Tryz.results108, go_sem, g0, g1, g2]) rfl ⟨_, _, _, _, rfl, ((E2.setCell (p := ⟨w.heap.size, 0, none⟩) (Nat.le_refl _) _).setCell (p := ⟨w.heap.size, 1, none⟩) (Nat.le_refl _) _).setCell (p := ⟨w.heap.size, 2, none⟩) (Nat.le_refl _) _, by rw [HT.out]; exact Ints.of_row HO.out (by have := HNl.out; omega), rfl⟩
set_option maxRecDepth 20000 in
set_option maxHeartbeats 2000000 in
theorem new_no (W H v : Int) (w : World) (h : newOk W H v = false) :
    Calls Tryz.prog 108 #[.int .i64 W, .int .i64 H, .int .i64 v] w (NwPost w 0 0 [] range) := by
  unfold newOk at h
  cases s1 : sideB W with
  | false =>
    clear h
    have F0 := FrAt.new w
    have A0 : Ext w (w.alloc (.cells #[.int .i64 0, .int .i64 0, .slice none 0 0] 99)) := (Ext.refl w).alloc _
    obtain ⟨⟨r0, r1, r2⟩, f0, f1, f2⟩ := F0
    go_enter Tryz.func108, Tryz.ntmps108
    go_wp2_with (first | (go_at_call 135; refine (side_any _ _).mono ?_; rintro e w' ⟨rfl, rfl⟩) | (go_at_call 136; refine (smp_any _ _).mono ?_; rintro e w' ⟨rfl, rfl⟩))
    exact bodyPost_ret (v := .tuple #[.agg #[.int .i64 0, .int .i64 0, .slice none 0 0], .iface 35 (.int .i64 3)]) (by simp [results, Tryz.results108, go_sem, r0, r1, r2]) rfl ⟨_, _, _, _, rfl, A0, Ints.nil _, ErrIs.code (by decide)⟩
  | true =>
    cases s2 : sideB H with
    | false =>
      clear h
      have F0 := FrAt.new w
      have A0 : Ext w (w.alloc (.cells #[.int .i64 0, .int .i64 0, .slice none 0 0] 99)) := (Ext.refl w).alloc _
      obtain ⟨⟨r0, r1, r2⟩, f0, f1, f2⟩ := F0
      go_enter Tryz.func108, Tryz.ntmps108
      go_wp2_with (first | (go_at_call 135; refine (side_any _ _).mono ?_; rintro e w' ⟨rfl, rfl⟩) | (go_at_call 136; refine (smp_any _ _).mono ?_; rintro e w' ⟨rfl, rfl⟩))
      exact bodyPost_ret (v := .tuple #[.agg #[.int .i64 0, .int .i64 0, .slice none 0 0], .iface 35 (.int .i64 3)]) (by simp [results, Tryz.results108, go_sem, r0, r1, r2]) rfl ⟨_, _, _, _, rfl, A0, Ints.nil _, ErrIs.code (by decide)⟩
    | true =>
      obtain s3 : smpB v = false := by rw [s1, s2] at h; simpa using h
      clear h
      have F0 := FrAt.new w
      have A0 : Ext w (w.alloc (.cells #[.int .i64 0, .int .i64 0, .slice none 0 0] 99)) := (Ext.refl w).alloc _
      obtain ⟨⟨r0, r1, r2⟩, f0, f1, f2⟩ := F0
      go_enter Tryz.func108, Tryz.ntmps108
      go_wp2_with (first | (go_at_call 135; refine (side_any _ _).mono ?_; rintro e w' ⟨rfl, rfl⟩) | (go_at_call 136; refine (smp_any _ _).mono ?_; rintro e w' ⟨rfl, rfl⟩))
      exact bodyPost_ret (v := .tuple #[.agg #[.int .i64 0, .int .i64 0, .slice none 0 0], .iface 35 (.int .i64 3)]) (by simp [results, Tryz.results108, go_sem, r0, r1, r2]) rfl ⟨_, _, _, _, rfl, A0, Ints.nil _, ErrIs.code (by decide)⟩
end Go.Proofs.YtlaedbglclmheaaGreatDoor
