/- kinlaw16.plain; lists of groups; scene.Groups: contracts over this seat's translation. -/
import Derived.Test.YtkighedghgcdjaaDoorFms
import Derived.Test.YtkighedghgcdjaaDoorRNew
import Derived.Test.YtkighedghgcdjaaDoorAppRow
import Derived.Deep.RegionHeld3
import Derived.Laws.Rows
namespace Go.Proofs.YtkighedghgcdjaaDoor
set_option linter.unusedVariables false
set_option linter.unusedSimpArgs false
open Go.RowKit Go.Extern.Stop Go.Stop Go.Extern

/-- cells of groups -/
def gcells (G : List (Int × Int)) : List Value := G.flatMap fun p => [.int .i64 p.1, .int .i64 p.2]
theorem gcells_len (G : List (Int × Int)) : (gcells G).length = 2 * G.length := by
  induction G with
  | nil => rfl
  | cons p G ih => simp only [gcells, List.flatMap_cons, List.length_append, List.length_cons, List.length_nil] at ih ⊢; omega
theorem gcells_snoc (G : List (Int × Int)) (a b : Int) : gcells (G ++ [(a, b)]) = gcells G ++ [.int .i64 a, .int .i64 b] := by
  unfold gcells
  rw [List.flatMap_append]
  rfl
theorem gcells_at (G : List (Int × Int)) (a b : Int) : (gcells (G ++ [(a, b)]))[G.length * 2]? = some (.int .i64 a) ∧ (gcells (G ++ [(a, b)]))[G.length * 2 + 1]? = some (.int .i64 b) := by
  have hl := gcells_len G
  rw [gcells_snoc]
  constructor
  · rw [List.getElem?_append_right (by omega), hl, show G.length * 2 - 2 * G.length = 0 by omega]
    rfl
  · rw [List.getElem?_append_right (by omega), hl, show G.length * 2 + 1 - 2 * G.length = 1 by omega]
    rfl
theorem gcells_set (G : List (Int × Int)) (a b c : Int) : (gcells (G ++ [(a, b)])).set (G.length * 2 + 1) (.int .i64 c) = gcells (G ++ [(a, c)]) := by
  have hl := gcells_len G
  rw [gcells_snoc, gcells_snoc, List.set_append, if_neg (by omega), hl, show G.length * 2 + 1 - 2 * G.length = 1 by omega]
  rfl
theorem gcells_one (G : List (Int × Int)) : ∀ x ∈ gcells G, x.oneCell' = true := fun x hx => by
  unfold gcells at hx
  obtain ⟨p, _, hp⟩ := List.mem_flatMap.1 hx
  simp only [List.mem_cons, List.not_mem_nil, or_false] at hp
  rcases hp with rfl | rfl <;> rfl
theorem own2_set {w : World} {base n cap g j : Nat} {e : TypeId} {s : Nat} {xs : List Value} (v : Value) (h : w.ownsRow base e s (.slice (some ⟨g, 0, none⟩) n cap) n xs) :
    (w.setCell ⟨g, j, none⟩ v).ownsRow base e s (.slice (some ⟨g, 0, none⟩) n cap) n (xs.set j v) := by
  obtain ⟨hl, h | ⟨g', cap', cur, e', hb, hg, h1, h2, hs, ht⟩⟩ := h
  · cases h.1
  · simp only [Value.slice.injEq, Option.some.injEq, Addr.mk.injEq, and_true, true_and] at e'
    obtain ⟨rfl, rfl⟩ := e'
    refine ⟨by simpa using hl, Or.inr ⟨g, cap, cur.setIfInBounds j v, rfl, hb, heap_setCell_same w g j cur e v hg, h1, h2, by simpa using hs, ?_⟩⟩
    rw [← ht]
    simp [List.take_set]
theorem own2_cell {w : World} {base n cap g j : Nat} {e : TypeId} {s : Nat} {xs : List Value} {v : Value} (h : w.ownsRow base e s (.slice (some ⟨g, 0, none⟩) n cap) n xs) (hj : xs[j]? = some v) : w.cell? ⟨g, j, none⟩ = some v ∧ w.frozen? ⟨g, j, none⟩ = false := by
  obtain ⟨hl, h | ⟨g', cap', cur, e', hb, hg, h1, h2, hs, ht⟩⟩ := h
  · cases h.1
  · simp only [Value.slice.injEq, Option.some.injEq, Addr.mk.injEq, and_true, true_and] at e'
    obtain ⟨rfl, rfl⟩ := e'
    rw [← ht, List.getElem?_take] at hj
    split at hj
    · constructor
      · unfold World.cell?
        simp only [hg]
        simpa using hj
      · unfold World.frozen?
        simp only [hg]
        simp
    · cases hj
set_option maxRecDepth 20000 in
set_option maxHeartbeats 2000000 in
theorem plain_any (v : Int) (w : World) :
    Calls Tryd.prog 73 #[.int .i64 v] w fun e w' => ∃ a cap, e = .returned (.agg #[.int .i64 8, .int .i64 8, .slice a 64 cap]) ∧ Ext w w' ∧ Ints w' (.slice a 64 cap) (rowL 64 fun _ => v) := by
  have FA0 := FrHas.new w 0 0 (.slice none 0 0)
  have E0 : Ext w (w.alloc (.cells #[.int .i64 0, .int .i64 0, .slice none 0 0] 24)) := (Ext.refl w).alloc _
  have A1 : Ext (w.alloc (.cells #[.int .i64 0, .int .i64 0, .slice none 0 0] 24)) ((w.alloc (.cells #[.int .i64 0, .int .i64 0, .slice none 0 0] 24)).alloc (.cells #[.int .i64 8, .int .i64 8, .slice none 0 0] 24)) := (Ext.refl _).alloc _
  have FB0 : FrHas ((w.alloc (.cells #[.int .i64 0, .int .i64 0, .slice none 0 0] 24)).alloc (.cells #[.int .i64 8, .int .i64 8, .slice none 0 0] 24)) (w.heap.size + 1) 8 8 (.slice none 0 0) := by
    have := FrHas.new (w.alloc (.cells #[.int .i64 0, .int .i64 0, .slice none 0 0] 24)) 8 8 (.slice none 0 0)
    simpa using this
  have HF := Lib.hid (FA0.ext A1)
  have HV := Lib.hid FB0
  have E1 := E0.trans A1
  have hS : w.heap.size + 2 ≤ ((w.alloc (.cells #[.int .i64 0, .int .i64 0, .slice none 0 0] 24)).alloc (.cells #[.int .i64 8, .int .i64 8, .slice none 0 0] 24)).heap.size := by simp
  clear FA0 FB0 E0 A1
  go_enter Tryd.func73, Tryd.ntmps73
  go_wp2_with fail
  go_loopw [4] (fun iv wr => ∃ (k : Nat) (u : Value), k ≤ 64 ∧ iv = .int .i64 k ∧ Hid (wr.ownsRow (w.heap.size + 2) 3 1 u k ((rowL k fun _ => v).map (Value.int .i64))) ∧ Hid (FrHas wr (w.heap.size + 1) 8 8 u) ∧ Hid (FrHas wr w.heap.size 0 0 (.slice none 0 0)) ∧ Ext w wr ∧ w.heap.size + 2 ≤ wr.heap.size) (fun iv _ => 64 - (intOf iv).toNat)
  case atStart => exact ⟨0, _, Nat.zero_le _, rfl, World.ownsRow_nil _ _ _ _, HV, HF, E1, hS⟩
  case round =>
    clear HV HF E1 hS
    obtain ⟨k, u, hk, rfl, HO, HV, HF, E1, hS⟩ := hrel
    obtain ⟨ua, uc, rfl⟩ := own_slice HO.out
    obtain ⟨⟨p0, p1, p2⟩, f0, f1, f2⟩ := HV.out
    by_cases hlt : k < 64
    · go_wp2_with (at_builtin; refine push_int rfl _ _ 22 rfl Tryd.underlying22 _ _ _ _ rfl HO.out (by show Value.slice (some ⟨wr.heap.size, 0, none⟩) 1 1 = _; simp) hS (by omega) ?_; intro v' w7 h1 h2; obtain ⟨va, vc, rfl⟩ := own_slice h1; have HV7 := HV.out.under h2 (Nat.lt_succ_self _); have HF7 := Lib.hid (HF.out.under h2 (by omega)); have HO7 := Lib.hid h1; have E7 : Ext w w7 := E1.of_below h2 (by omega); have hS7 := Nat.le_trans hS h2.size; have HVH := Lib.hid HV7; obtain ⟨⟨c0, c1, c2⟩, j0, j1, j2⟩ := HV7; clear h1 h2)
      go_roundw
      case rel =>
        have sb : Below (w.heap.size + 1) w7 (w7.setCell ⟨w.heap.size + 1, 2, none⟩ (.slice va (k + 1) vc)) := (Below.refl (w.heap.size + 1) w7).setCell (p := ⟨w.heap.size + 1, 2, none⟩) (Nat.le_refl _) _
        refine ⟨k + 1, .slice va (k + 1) vc, by omega, by go_num, ?_, HVH.out.set _, HF7.out.under sb (Nat.lt_succ_self _), E7.setCell (p := ⟨w.heap.size + 1, 2, none⟩) (Nat.le_succ _) _, Nat.le_trans hS7 sb.size⟩
        show World.ownsRow _ _ _ _ _ _ _
        rw [rowL_sn]
        exact row_setCell HO7.out _ _ (Nat.lt_succ_self _) _
      case measure => simp [intOf]; omega
    · obtain rfl : k = 64 := by omega
      obtain ⟨⟨q0, q1, q2⟩, g0, g1, g2⟩ := HF.out
      have HO9 := Lib.hid (row_setCell (row_setCell (row_setCell HO.out w.heap.size 0 (by omega) (.int .i64 8)) w.heap.size 1 (by omega) (.int .i64 8)) w.heap.size 2 (by omega) (.slice ua 64 uc))
      go_wp2
      obtain ⟨e0, e1, e2⟩ := fr_cells 8 8 (.slice ua 64 uc) q0 q1 q2
      exact bodyPost_ret (v := .agg #[.int .i64 8, .int .i64 8, .slice ua 64 uc]) (by simp [results, Tryd.results73, go_sem, e0, e1, e2]) rfl
        ⟨_, _, rfl, ((E1.setCell (p := ⟨w.heap.size, 0, none⟩) (Nat.le_refl _) _).setCell (p := ⟨w.heap.size, 1, none⟩) (Nat.le_refl _) _).setCell (p := ⟨w.heap.size, 2, none⟩) (Nat.le_refl _) _, Ints.of_row HO9.out (by omega)⟩
end Go.Proofs.YtkighedghgcdjaaDoor
