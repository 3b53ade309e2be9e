/- slices.Repeat's row as one of the call's own; the builtin copy, that leaves all other blocks. -/
import Derived.Test.YtkighedghgcdjaaDoorRep
import Derived.Test.YtkighedghgcdjaaDoorMat
import Derived.Test.YtkighedghgcdjaaDoorBlk
namespace Go.Proofs.YtkighedghgcdjaaDoor
set_option linter.unusedVariables false
set_option linter.unusedSimpArgs false
open Go.RowKit Go.Extern.Stop Go.Stop Go.Extern

theorem own_mono {w : World} {base b n : Nat} {e : TypeId} {s : Nat} {v : Value} {xs : List Value} (h : w.ownsRow base e s v n xs) (hb : b ≤ base) : w.ownsRow b e s v n xs := by
  obtain ⟨hl, h⟩ := h
  refine ⟨hl, ?_⟩
  rcases h with h | ⟨g, cap, cur, e, hg, h⟩
  · exact Or.inl h
  · exact Or.inr ⟨g, cap, cur, e, Nat.le_trans hb hg, h⟩
/-- made by Repeat, at the lengths that are asked for -/
def RepPost (w : World) (N : Nat) (x : Int) (e : Ending) (w' : World) : Prop := ∃ g, e = .returned (.slice (some ⟨g, 0, none⟩) N N) ∧ Ext w w' ∧ w'.ownsRow w.heap.size 3 1 (.slice (some ⟨g, 0, none⟩) N N) N ((rowL N fun _ => x).map (Value.int .i64)) ∧ w.heap.size ≤ g ∧ g < w'.heap.size
theorem rep_key (M : Nat) (x : Int) (v : Value) (w : World) (ha : Ints w v [x]) (h1 : 1 ≤ M) (h2 : M ≤ 1024) (hm : ∀ W, Calls Tryd.prog 76 #[.int .u64 1, .int .u64 (M : Int)] W fun e w' => e = .returned (.tuple #[.int .u64 0, .int .u64 (M : Int)]) ∧ W = w') :
    Calls Tryd.prog 54 #[v, .int .i64 (M : Int)] w (RepPost w M x) :=
  (rep_walk M x v w ha h1 h2 hm).mono fun e w' ⟨u, he, hx, ho, G, hG⟩ => by
    subst hG
    obtain ⟨hb, hs⟩ := ho.lt G rfl
    exact ⟨G, he, hx, ho, hb, hs⟩
theorem rep_sz (M : Nat) (hM : M = 4 ∨ M = 8 ∨ M = 64 ∨ M = 128 ∨ M = 192 ∨ M = 256 ∨ M = 384 ∨ M = 512 ∨ M = 576 ∨ M = 768 ∨ M = 1024) (x : Int) (v : Value) (w : World) (ha : Ints w v [x]) :
    Calls Tryd.prog 54 #[v, .int .i64 (M : Int)] w (RepPost w M x) := by
  rcases hM with rfl | rfl | rfl | rfl | rfl | rfl | rfl | rfl | rfl | rfl | rfl
  · exact rep_key 4 x v w ha (by decide) (by decide) (fun W => mul_4 W)
  · exact rep_key 8 x v w ha (by decide) (by decide) (fun W => mul_8 W)
  · exact rep_key 64 x v w ha (by decide) (by decide) (fun W => mul_64 W)
  · exact rep_key 128 x v w ha (by decide) (by decide) (fun W => mul_128 W)
  · exact rep_key 192 x v w ha (by decide) (by decide) (fun W => mul_192 W)
  · exact rep_key 256 x v w ha (by decide) (by decide) (fun W => mul_256 W)
  · exact rep_key 384 x v w ha (by decide) (by decide) (fun W => mul_384 W)
  · exact rep_key 512 x v w ha (by decide) (by decide) (fun W => mul_512 W)
  · exact rep_key 576 x v w ha (by decide) (by decide) (fun W => mul_576 W)
  · exact rep_key 768 x v w ha (by decide) (by decide) (fun W => mul_768 W)
  · exact rep_key 1024 x v w ha (by decide) (by decide) (fun W => mul_1024 W)
theorem grownBy_setRow (w : World) (g : Nat) (cs : Array Value) : w.grownBy (w.setRow g cs) (some g) :=
  ⟨rfl, rfl, rfl, by simp [World.setRow], fun k _ hne => setRow_other w g k cs (fun e => hne (by rw [e]))⟩
theorem copy_keep {P : Program} {w : World} {ops : Array Oper} {rest : List Oper} {o : Oper} {a : Act} {Q : Exit → Act → World → Prop} (hgd : o.guard = none) (d s : Operand) (dT sT : TypeId)
    (ho : o.op = .call { callee := .builtin .copy, args := #[d, s], argTypes := #[dT, sT] }) (elem : TypeId) (hu : P.underlying dT = some (.slice elem)) (hsz : (P.info? elem).map (·.size) = some 1)
    (g off dLen dCap : Nat) (ad : Addr) (sLen sCap : Nat) (hd : a.eval d = .slice (some ⟨g, off, none⟩) dLen dCap) (hs : a.eval s = .slice (some ad) sLen sCap)
    (cur : List Value) (t : TypeId) (hg : w.heap[g]? = some (.cells cur.toArray t (0, 0))) (cs : List Value) (hn : cs.length = Nat.min sLen dLen)
    (hsrc : ∀ j v, cs[j]? = some v → w.cell? (ad.add j) = some v) (hfit : off + cs.length ≤ cur.length) (h1 : ∀ v ∈ cs, v.oneCell' = true)
    (h : ∀ w', Hid (w'.heap[g]? = some (.cells (splice cur off cs).toArray t (0, 0))) → w.grownBy w' (some g) → wpList P ops Q rest (a.put o.dst (goInt cs.length)) w') :
    wpList P ops Q (o :: rest) a w := by
  refine wpList_copy_own hgd d s dT sT ho elem hu hsz g off dLen dCap ad sLen sCap hd hs cur.toArray t hg cs hn hsrc (by simpa using hfit) h1 ?_
  exact h _ (show _ = _ by simpa [splice] using setRow_heap w g _ _ t _ hg) (grownBy_setRow _ _ _)
/-- what a copy reads, out of a list that came in -/
theorem read_row {w : World} {g off n cap k N : Nat} {zs : List Int} {f : Nat → Int} (h : Ints w (.slice (some ⟨g, off, none⟩) n cap) zs) (hk : k + N ≤ n) (hf : ∀ j, j < N → f j = zs.getD (k + j) 0) :
    ∀ j v, ((rowL N f).map (Value.int .i64))[j]? = some v → w.cell? ((⟨g, off + k, none⟩ : Addr).add j) = some v := fun j v hv => by
  have hadd : (⟨g, off + k, none⟩ : Addr).add j = ⟨g, off + (k + j), none⟩ := by unfold Addr.add; split <;> simp_all [Nat.add_assoc]
  rw [List.getElem?_map] at hv
  obtain ⟨y, hy, rfl⟩ := Option.map_eq_some_iff.1 hv
  have hj : j < N := by
    have := (List.getElem?_eq_some_iff.1 hy).1
    rwa [rowL_length] at this
  rw [rowL_get hj] at hy
  cases hy
  rw [hadd, hf j hj]
  exact h.at (get_of_lt (by rw [← h.len]; omega))
theorem ones_row (N : Nat) (f : Nat → Int) : ∀ u ∈ (rowL N f).map (Value.int .i64), u.oneCell' = true := fun u hu => by
  obtain ⟨y, _, rfl⟩ := List.mem_map.1 hu
  rfl
/-- a splice that covers all -/
theorem splice_all {α : Type} {L cs : List α} (h : cs.length = L.length) : splice L 0 cs = cs := by
  unfold splice
  simp [h]
theorem rowL_cg {N : Nat} {f g : Nat → Int} (h : ∀ j, j < N → f j = g j) : rowL N f = rowL N g := by
  unfold rowL
  exact List.map_congr_left fun j hj => h j (List.mem_range.1 hj)
theorem rowL_sn (k : Nat) (f : Nat → Int) : (rowL (k + 1) f).map (Value.int .i64) = (rowL k f).map (Value.int .i64) ++ [.int .i64 (f k)] := by
  unfold rowL
  rw [List.range_succ, List.map_append, List.map_append]
  rfl
end Go.Proofs.YtkighedghgcdjaaDoor
