/- An append of one int to a slice that the call itself made: the law in the form that the walks of this seat take. -/
import Derived.Test.YtckhilnjkckabaaDoorCopy
import Derived.Maps.AppendAt
namespace Go.Proofs.YtckhilnjkckabaaDoor
set_option linter.unusedVariables false
set_option linter.unusedSimpArgs false
open Go.RowKit

theorem push_int {ops : Array Oper} {rest : List Oper} {o : Oper} {a : Act} {Q : Exit → Act → World → Prop} {W : World} {base : Nat} (hgd : o.guard = none) (s y : Operand) (t : TypeId)
    (ho : o.op = .call { callee := .builtin .append, args := #[s, y], argTypes := #[t, t] }) (ht : Tryd.prog.underlying t = some (.slice 3))
    (v : Value) (n : Nat) (xs : List Value) (x : Int) (hs : a.eval s = v) (hown : W.ownsRow base 3 1 v n xs) (hx : a.eval y = .slice (some ⟨W.heap.size, 0, none⟩) 1 1) (hb : base ≤ W.heap.size) (hn : n ≤ 1000000000000)
    (h : ∀ v' w', w'.ownsRow base 3 1 v' (n + 1) (xs ++ [.int .i64 x]) → Below base W w' → wpList Tryd.prog ops Q rest (a.put o.dst v') w') :
    wpList Tryd.prog ops Q (o :: rest) a (W.alloc (.cells #[.int .i64 x] 3)) := by
  obtain ⟨i0, hi, hz0, hz1, hz2⟩ := info_parts infoInt
  refine wpList_append_own _ hgd s y t ho base 3 i0 (.int .i64 0) 1 8 ht hi hz0 hz1 hz2 rfl (by decide) v n xs hs (hown.alloc _) ⟨W.heap.size, 0, none⟩ 1 1 [.int .i64 x] hx rfl (cell_one_new _ _ _) (one_int _) (by unfold maxLen; omega) (by omega) (by simp; omega) ?_
  intro v' w' h1 h2 _
  exact h v' w' h1 (Below.grown ((Below.refl base W).alloc hb _) h2 (by simp; omega) (fun k hk => (hown.lt k hk).1))
theorem Ext.of_below {w a b : World} {B : Nat} (h : Ext w a) (k : Below B a b) (hB : w.heap.size ≤ B) : Ext w b := Below.trans h (Below.mono k hB)
theorem Below.cellv {B : Nat} {a b : World} (k : Below B a b) {p : Addr} {v : Value} (h : a.cell? p = some v) (hp : p.block < B) : b.cell? p = some v := (Below.cell k hp).trans h
end Go.Proofs.YtckhilnjkckabaaDoor
