/- errors.As at a *Fault and fault.Path: contracts over this seat's translation. -/
import Derived.Test.YtgohlhgapboijaaDoorErr2
import Derived.StillTailTactics
import Derived.Deep.QuietTactic
import Derived.BigQuiet
namespace Go.Proofs.YtgohlhgapboijaaDoor
set_option linter.unusedVariables false
set_option linter.unusedSimpArgs false
open Go.RowKit Go.Extern.Stop Go.Stop Go.Extern

set_option maxHeartbeats 2000000 in
/-- errors.As, asked for a *fault.Fault: the error is one -/
theorem As_fault (b : Nat) (old : Value) (t : Addr) (w : World) (hg : EtIs w) (ht : w.cell? t = some old) (hf : w.frozen? t = false) :
    Calls Tryd.prog 22 #[.iface 38 (.pointer (some ⟨b, 0, none⟩)), .iface 40 (.pointer (some t))] w
      fun ev w' => ev = .returned (.bool true) ∧ ∃ w1, Ext w w1 ∧ w' = w1.setCell t (.pointer (some ⟨b, 0, none⟩)) := by
  have xVO := ex2
  have xTy := ex6
  have xIN := ex7
  have xKd := ex8
  have xEl := ex9
  have xIm := ex10
  have vPC := valueOfPF
  have tyPC := typePF
  have mK := methodKind
  have mE := methodElem
  have mI := methodImplements
  have kPC := kindPF
  have kC := kindOfF
  have ePC := elemPF
  have iC := implF
  have E1 : Ext w (w.alloc (.cells #[.pointer (some t)] 40)) := (Ext.refl w).alloc _
  have E2 := E1.alloc (.cells #[.pointer (some ⟨4, 40, none⟩), .pointer (some ⟨w.heap.size, 0, none⟩), .int .u64 150] 85)
  have n8 := isNilPF ⟨w.heap.size, 0, none⟩ t ((w.alloc (.cells #[.pointer (some t)] 40)).alloc (.cells #[.pointer (some ⟨4, 40, none⟩), .pointer (some ⟨w.heap.size, 0, none⟩), .int .u64 150] 85)) (by simp)
  have hg2 := E2.cell hg
  go_enter Tryd.func22, Tryd.ntmps22
  go_wp2_with (go_at_call 47; refine (as_fault b old t ⟨w.heap.size, 0, none⟩ _ (by simp) (E2.cell ht) ((Below.frozen E2 (Ext.lt ht)).trans hf)).mono ?_; rintro e w' ⟨rfl, w1, hx, rfl⟩)
  go_ret
  exact ⟨rfl, w1, E2.trans hx, rfl⟩

set_option maxHeartbeats 2000000 in
theorem As_fault_no (c : Int) (t : Addr) (w : World) (hg : EtIs w) :
    Calls Tryd.prog 22 #[.iface 23 (.int .i64 c), .iface 40 (.pointer (some t))] w
      fun ev w' => ev = .returned (.bool false) ∧ Ext w w' := by
  have xVO := ex2
  have xTy := ex6
  have xIN := ex7
  have xKd := ex8
  have xEl := ex9
  have xIm := ex10
  have vPC := valueOfPF
  have tyPC := typePF
  have mK := methodKind
  have mE := methodElem
  have mI := methodImplements
  have kPC := kindPF
  have kC := kindOfF
  have ePC := elemPF
  have iC := implF
  have E1 : Ext w (w.alloc (.cells #[.pointer (some t)] 40)) := (Ext.refl w).alloc _
  have E2 := E1.alloc (.cells #[.pointer (some ⟨4, 40, none⟩), .pointer (some ⟨w.heap.size, 0, none⟩), .int .u64 150] 85)
  have n8 := isNilPF ⟨w.heap.size, 0, none⟩ t ((w.alloc (.cells #[.pointer (some t)] 40)).alloc (.cells #[.pointer (some ⟨4, 40, none⟩), .pointer (some ⟨w.heap.size, 0, none⟩), .int .u64 150] 85)) (by simp)
  have hg2 := E2.cell hg
  go_enter Tryd.func22, Tryd.ntmps22
  go_wp2_with (go_at_call 47; refine (as_fault_no c t ⟨w.heap.size, 0, none⟩ _).mono ?_; rintro e w' ⟨rfl, hx⟩)
  go_ret
  exact ⟨rfl, E2.trans hx⟩

theorem ownsRow_ext {w w' : World} {base : Nat} {e : TypeId} {size : Nat} {v : Value} {n : Nat} {xs : List Value} (h : w.ownsRow base e size v n xs) (k : Ext w w') : w'.ownsRow base e size v n xs := by
  obtain ⟨h1, h2⟩ := h
  refine ⟨h1, ?_⟩
  rcases h2 with h2 | ⟨g, cap, cur, hv, hg, hh, r⟩
  · exact Or.inl h2
  · exact Or.inr ⟨g, cap, cur, hv, hg, by rw [k.block (Array.getElem?_eq_some_iff.1 hh).1]; exact hh, r⟩

/-- the cells of steps -/
def stepCells : List (ByteArray × Int) → List Value
  | [] => []
  | (s, n) :: p => .string s :: .int .i64 n :: stepCells p
theorem stepCells_append (p q : List (ByteArray × Int)) : stepCells (p ++ q) = stepCells p ++ stepCells q := by
  induction p with
  | nil => rfl
  | cons x p ih => obtain ⟨s, n⟩ := x; simp [stepCells, ih]
theorem stepCells_length (p : List (ByteArray × Int)) : (stepCells p).length = p.length * 2 := by
  induction p with
  | nil => rfl
  | cons x p ih => obtain ⟨s, n⟩ := x; simp [stepCells, ih]; omega

theorem infoStep : (Tryd.prog.info? 34).map (fun i => (i.zero, i.size, i.bytes)) = some (some (.agg #[.string .empty, .int .i64 0]), 2, 24) := by kernel_rfl

end Go.Proofs.YtgohlhgapboijaaDoor
