/- fault.Of, fault.In, errors.As at a *Fault: contracts over this seat's translation. -/
import Derived.Test.YtgohlhgapboijaaDoorErr
namespace Go.Proofs.YtgohlhgapboijaaDoor
set_option linter.unusedVariables false
set_option linter.unusedSimpArgs false
open Go.RowKit Go.Extern.Stop Go.Stop Go.Extern

theorem setCell_cell {w : World} {p : Addr} {v : Value} (h : w.cell? p = some v) (u : Value) : (w.setCell p u).cell? p = some u := World.cell?_setCell_same w p u h

/-- fault.Of -/
theorem of_nil (w : World) : Calls Tryd.prog 17 #[.nilIface] w fun e w' => e = .returned (.int .i64 0) ∧ Ext w w' := by
  go_enter Tryd.func17, Tryd.ntmps17
  go_wp2
  go_ret
  exact ⟨rfl, Ext.refl w⟩
set_option maxHeartbeats 1000000 in
theorem of_err (p : List (ByteArray × Int)) (c : Int) (v : Value) (w : World) (hg : EtIs w) (he : IsErr w p c v) :
    Calls Tryd.prog 17 #[v] w fun e w' => e = .returned (.int .i64 c) ∧ Ext w w' := by
  have E1 : Ext w (w.alloc (.cells #[.int .i64 0] 23)) := (Ext.refl w).alloc _
  obtain ⟨tx, vx, hne⟩ := he.ne_nil
  subst hne
  go_enter Tryd.func17, Tryd.ntmps17
  go_wp2_with (go_at_call 22; refine (As_code p c _ (.int .i64 0) ⟨w.heap.size, 0, none⟩ _ (hg.ext E1) (he.ext E1) (by simp) (by simp)).mono ?_; rintro e w' ⟨rfl, w1, hx, rfl⟩; have hcl := setCell_cell (hx.cell (show (w.alloc (.cells #[.int .i64 0] 23)).cell? ⟨w.heap.size, 0, none⟩ = some (.int .i64 0) by simp)) (.int .i64 c))
  go_ret
  exact ⟨rfl, (E1.trans hx).setCell (Nat.le_refl _) _⟩

/-- fault.In -/
theorem in_nil (s : ByteArray) (n : Int) (w : World) : Calls Tryd.prog 25 #[.string s, .int .i64 n, .nilIface] w fun e w' => e = .returned .nilIface ∧ Ext w w' := by
  go_enter Tryd.func25, Tryd.ntmps25
  go_wp2
  go_ret
  exact ⟨rfl, Ext.refl w⟩
theorem in_err (s : ByteArray) (n : Int) (p : List (ByteArray × Int)) (c : Int) (v : Value) (w : World) (he : IsErr w p c v) :
    Calls Tryd.prog 25 #[.string s, .int .i64 n, v] w fun e w' => ∃ u, e = .returned u ∧ Ext w w' ∧ IsErr w' ((s, n) :: p) c u := by
  obtain ⟨tx, vx, hne⟩ := he.ne_nil
  subst hne
  have E1 : Ext w (w.alloc (.cells #[.string s, .int .i64 n, .iface tx vx] 42)) := (Ext.refl w).alloc _
  go_enter Tryd.func25, Tryd.ntmps25
  go_wp2
  go_ret
  exact ⟨_, rfl, E1, w.heap.size, _, rfl, by simp, by simp, by simp, he.ext E1⟩

set_option maxHeartbeats 2000000 in
/-- errors.as, asked for a *fault.Fault -/
theorem as_fault (b : Nat) (old : Value) (t a : Addr) (w : World) (ha : w.cell? a = some (.pointer (some t))) (ht : w.cell? t = some old) (hf : w.frozen? t = false) :
    Calls Tryd.prog 47 #[.iface 38 (.pointer (some ⟨b, 0, none⟩)), .iface 40 (.pointer (some t)), .agg #[.pointer (some ⟨4, 40, none⟩), .pointer (some a), .int .u64 150], .iface 116 (.agg #[.pointer (some ⟨4, 38, none⟩)])] w
      fun ev w' => ev = .returned (.bool true) ∧ ∃ w1, Ext w w1 ∧ w' = w1.setCell t (.pointer (some ⟨b, 0, none⟩)) := by
  have xTO := ex1
  have xVO := ex2
  have xAs := ex3
  have xEl := ex4
  have xSet := ex5
  have tOF := typeOfF
  have mA := methodAssignableTo
  have aFF := assignFF
  have vF := valueOfF
  have hE : Ext w (w.alloc (.cells #[.pointer (some ⟨4, 40, none⟩), .pointer (some a), .int .u64 150] 85)) := (Ext.refl w).alloc _
  have el := elemVPF a t ((w.alloc (.cells #[.pointer (some ⟨4, 40, none⟩), .pointer (some a), .int .u64 150] 85))) (hE.cell ha)
  have st := setF t ⟨w.heap.size + 1, 0, none⟩ ⟨b, 0, none⟩ old ((w.alloc (.cells #[.pointer (some ⟨4, 40, none⟩), .pointer (some a), .int .u64 150] 85)).alloc (.cells #[.pointer (some ⟨b, 0, none⟩)] 38)) (by rw [World.cell?_alloc_at _ _ _ _ (by simp)]; rfl) ((hE.alloc _).cell ht) ((Below.frozen (hE.alloc _) (Ext.lt ht)).trans hf)
  go_enter Tryd.func47, Tryd.ntmps47
  go_wp2
  refine wp_loop_rounds 1 ?_
  rw [rounds_succ]
  go_wp2
  go_ret
  exact ⟨rfl, _, hE.alloc _, rfl⟩

set_option maxHeartbeats 2000000 in
theorem as_fault_no (c : Int) (t a : Addr) (w : World) :
    Calls Tryd.prog 47 #[.iface 23 (.int .i64 c), .iface 40 (.pointer (some t)), .agg #[.pointer (some ⟨4, 40, none⟩), .pointer (some a), .int .u64 150], .iface 116 (.agg #[.pointer (some ⟨4, 38, none⟩)])] w
      fun ev w' => ev = .returned (.bool false) ∧ Ext w w' := by
  have xTO := ex1
  have xAs := ex3
  have tOC := typeOfC
  have mA := methodAssignableTo
  have aCF := assignCF
  have nAC := noAsC
  have nUC := noUnwrapC
  have nUsC := noUnwrapsC
  have hE : Ext w (w.alloc (.cells #[.pointer (some ⟨4, 40, none⟩), .pointer (some a), .int .u64 150] 85)) := (Ext.refl w).alloc _
  go_enter Tryd.func47, Tryd.ntmps47
  go_wp2
  refine wp_loop_rounds 1 ?_
  rw [rounds_succ]
  go_wp2
  go_ret
  exact ⟨rfl, hE⟩
end Go.Proofs.YtgohlhgapboijaaDoor
