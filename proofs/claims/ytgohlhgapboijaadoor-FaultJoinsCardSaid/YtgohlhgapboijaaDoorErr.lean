/- Errors as the program makes them (a code, wrapped by any number of Faults), and what errors.As, fault.Of, fault.Path and fault.In answer for them: contracts over this seat's translation. -/
import Derived.Test.YtgohlhgapboijaaDoorErrFacts
import Derived.Deep.LoopGhost
import Derived.Lib.Hide
namespace Go.Proofs.YtgohlhgapboijaaDoor
set_option linter.unusedVariables false
set_option linter.unusedSimpArgs false
open Go.RowKit Go.Extern.Stop Go.Stop Go.Extern

/-- nothing that was there has changed -/
def Ext (w w' : World) : Prop := Below w.heap.size w w'
theorem Ext.refl (w : World) : Ext w w := Below.refl _ _
theorem Ext.size {w w' : World} (h : Ext w w') : w.heap.size ≤ w'.heap.size := Below.size h
theorem Ext.trans {a b c : World} (h : Ext a b) (k : Ext b c) : Ext a c := Below.trans h (Below.mono k h.size)
theorem Ext.alloc {a w : World} (h : Ext a w) (o : Obj) : Ext a (w.alloc o) := Below.alloc h h.size o
theorem Ext.drew {a w : World} (h : Ext a w) : Ext a w.drew := Below.drew h
theorem Ext.setCell {a w : World} (h : Ext a w) {p : Addr} (hp : a.heap.size ≤ p.block) (u : Value) : Ext a (w.setCell p u) := Below.setCell h hp u
theorem Ext.lt {w : World} {p : Addr} {v : Value} (h : w.cell? p = some v) : p.block < w.heap.size := World.block_lt_of_cell? w p h
theorem Ext.cell {w w' : World} (h : Ext w w') {p : Addr} {v : Value} (hp : w.cell? p = some v) : w'.cell? p = some v := (Below.cell h (Ext.lt hp)).trans hp
theorem Ext.block {w w' : World} (h : Ext w w') {k : Nat} (hk : k < w.heap.size) : w'.heap[k]? = w.heap[k]? := Below.block h k hk

/-- an error: a code, wrapped by Faults of these steps, the outermost first -/
def IsErr (w : World) : List (ByteArray × Int) → Int → Value → Prop
  | [], c, v => v = .iface 23 (.int .i64 c)
  | (s, n) :: p, c, v => ∃ b u, v = .iface 38 (.pointer (some ⟨b, 0, none⟩)) ∧ w.cell? ⟨b, 0, none⟩ = some (.string s) ∧ w.cell? ⟨b, 1, none⟩ = some (.int .i64 n) ∧ w.cell? ⟨b, 2, none⟩ = some u ∧ IsErr w p c u
theorem IsErr.ext {w w' : World} (h : Ext w w') : ∀ {p : List (ByteArray × Int)} {c : Int} {v : Value}, IsErr w p c v → IsErr w' p c v
  | [], _, _, hv => hv
  | (_, _) :: _, _, _, ⟨b, u, hv, h0, h1, h2, hu⟩ => ⟨b, u, hv, h.cell h0, h.cell h1, h.cell h2, hu.ext h⟩
theorem IsErr.ne_nil {w : World} {p : List (ByteArray × Int)} {c : Int} {v : Value} (h : IsErr w p c v) : ∃ t x, v = .iface t x := by
  cases p with
  | nil => exact ⟨_, _, h⟩
  | cons a p => obtain ⟨b, u, hv, _⟩ := h; exact ⟨_, _, hv⟩

/-- (*fault.Fault).Unwrap -/
theorem unwrap_any (b : Nat) (u : Value) (w : World) (h : w.cell? ⟨b, 2, none⟩ = some u) :
    Calls Tryd.prog 27 #[.pointer (some ⟨b, 0, none⟩)] w fun e w' => e = .returned u ∧ w = w' := by
  go_enter Tryd.func27, Tryd.ntmps27
  go_wp2
  go_ret
  exact ⟨rfl, rfl⟩

set_option maxHeartbeats 2000000 in
/-- errors.as, asked for an api.Code -/
theorem as_code (p : List (ByteArray × Int)) (c : Int) (e old : Value) (t a : Addr) (w : World) (he : IsErr w p c e) (ha : w.cell? a = some (.pointer (some t))) (ht : w.cell? t = some old) (hf : w.frozen? t = false) :
    Calls Tryd.prog 47 #[e, .iface 69 (.pointer (some t)), .agg #[.pointer (some ⟨4, 69, none⟩), .pointer (some a), .int .u64 150], .iface 116 (.agg #[.pointer (some ⟨4, 23, none⟩)])] w
      fun ev w' => ev = .returned (.bool true) ∧ ∃ w1, Ext w w1 ∧ w' = w1.setCell t (.int .i64 c) := by
  have xTO := ex1
  have xVO := ex2
  have xAs := ex3
  have xEl := ex4
  have xSet := ex5
  have tOC := typeOfC
  have tOF := typeOfF
  have mA := methodAssignableTo
  have aCC := assignCC
  have aFC := assignFC
  have vC := valueOfC
  have nAC := noAsC
  have nAF := noAsF
  have uF := unwrapF
  have nF := nilAheadF
  have mU := methodUnwrapF
  have hE : Ext w (w.alloc (.cells #[.pointer (some ⟨4, 69, none⟩), .pointer (some a), .int .u64 150] 85)) := (Ext.refl w).alloc _
  go_enter Tryd.func47, Tryd.ntmps47
  go_wp2
  go_loopg [0] (p.length) (fun k u wr => ∃ q, q.length = k ∧ IsErr w q c u ∧ wr = w.alloc (.cells #[.pointer (some ⟨4, 69, none⟩), .pointer (some a), .int .u64 150] 85))
  case atStart => exact ⟨p, rfl, he, rfl⟩
  case round =>
    obtain ⟨q, hq, hu, hwr⟩ := hrel
    cases q with
    | nil =>
      have hu' : _ = Value.iface 23 (.int .i64 c) := hu
      subst hu'
      subst hwr
      have el := elemVPC a t ((w.alloc (.cells #[.pointer (some ⟨4, 69, none⟩), .pointer (some a), .int .u64 150] 85))) (hE.cell ha)
      have st := setC t ⟨w.heap.size + 1, 0, none⟩ c old ((w.alloc (.cells #[.pointer (some ⟨4, 69, none⟩), .pointer (some a), .int .u64 150] 85)).alloc (.cells #[.int .i64 c] 23)) (by rw [World.cell?_alloc_at _ _ _ _ (by simp)]; rfl) ((hE.alloc _).cell ht) ((Below.frozen (hE.alloc _) (Ext.lt ht)).trans hf)
      go_wp2
      go_ret
      exact ⟨rfl, _, hE.alloc _, rfl⟩
    | cons x q =>
      obtain ⟨s, n⟩ := x
      obtain ⟨b, u', hv, _, _, h2, hu'⟩ := hu
      obtain ⟨tx, vx, hne⟩ := hu'.ne_nil
      subst hv
      subst hwr
      subst hne
      have HQ := Lib.hid hq
      clear hq
      go_wp2_with (go_at_call 27; refine (unwrap_any b _ _ (hE.cell h2)).mono ?_; rintro e w' ⟨rfl, rfl⟩)
      go_roundg (q.length)
      case measure => have := HQ.out; simp at this; omega
      case rel => exact ⟨q, rfl, hu', rfl⟩

/-- what the row lists: the handle of the type error lies in errors.errorType -/
def EtIs (w : World) : Prop := w.cell? ⟨0, 0, none⟩ = some (.iface 116 (.agg #[.pointer (some ⟨4, 27, none⟩)]))
theorem EtIs.ext {w w' : World} (h : EtIs w) (e : Ext w w') : EtIs w' := e.cell h

set_option maxHeartbeats 2000000 in
/-- errors.As, asked for an api.Code -/
theorem As_code (p : List (ByteArray × Int)) (c : Int) (e old : Value) (t : Addr) (w : World) (hg : EtIs w) (he : IsErr w p c e) (ht : w.cell? t = some old) (hf : w.frozen? t = false) :
    Calls Tryd.prog 22 #[e, .iface 69 (.pointer (some t))] w
      fun ev w' => ev = .returned (.bool true) ∧ ∃ w1, Ext w w1 ∧ w' = w1.setCell t (.int .i64 c) := by
  have xVO := ex2
  have xTy := ex6
  have xIN := ex7
  have xKd := ex8
  have xEl := ex9
  have xIm := ex10
  have vPC := valueOfPC
  have tyPC := typePC
  have mK := methodKind
  have mE := methodElem
  have mI := methodImplements
  have kPC := kindPC
  have kC := kindOfC
  have ePC := elemPC
  have iC := implC
  have E1 : Ext w (w.alloc (.cells #[.pointer (some t)] 69)) := (Ext.refl w).alloc _
  have E2 := E1.alloc (.cells #[.pointer (some ⟨4, 69, none⟩), .pointer (some ⟨w.heap.size, 0, none⟩), .int .u64 150] 85)
  have n8 := isNilPC ⟨w.heap.size, 0, none⟩ t ((w.alloc (.cells #[.pointer (some t)] 69)).alloc (.cells #[.pointer (some ⟨4, 69, none⟩), .pointer (some ⟨w.heap.size, 0, none⟩), .int .u64 150] 85)) (by simp)
  have hg2 := E2.cell hg
  obtain ⟨tx, vx, hne⟩ := he.ne_nil
  subst hne
  go_enter Tryd.func22, Tryd.ntmps22
  go_wp2_with (go_at_call 47; refine (as_code p c _ old t ⟨w.heap.size, 0, none⟩ _ (he.ext E2) (by simp) (E2.cell ht) ((Below.frozen E2 (Ext.lt ht)).trans hf)).mono ?_; rintro e w' ⟨rfl, w1, hx, rfl⟩)
  go_ret
  exact ⟨rfl, w1, E2.trans hx, rfl⟩
end Go.Proofs.YtgohlhgapboijaaDoor
