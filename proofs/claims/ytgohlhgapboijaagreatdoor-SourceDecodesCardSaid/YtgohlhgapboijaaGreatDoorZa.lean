/- Contracts of this seat: Err, Err2, Err3, Err4. -/
import Derived.Test.YtgohlhgapboijaaGreatDoorErrFacts
import Derived.Deep.LoopGhost
import Derived.Lib.Hide
import Derived.StillTailTactics
import Derived.Deep.QuietTactic
import Derived.BigQuiet
import Derived.Deep.AppendLies
import Derived.Deep.RegionHeld3
/- Errors as the program makes them (a code, wrapped by any number of Faults), and what errors.As, fault.Of, fault.Path and fault.In answer for them: contracts over this seat's translation. -/
namespace Go.Proofs.YtgohlhgapboijaaGreatDoor
set_option linter.unusedVariables false
set_option linter.unusedSimpArgs false
open Go.RowKit Go.Extern.Stop Go.Stop Go.Extern

/-- nothing that was there has changed -/
def Ext (w w' : World) : Prop := Below w.heap.size w w'
theorem Ext.refl (w : World) : Ext w w := Below.refl _ _
theorem Ext.size {w w' : World} (h : Ext w w') : w.heap.size ≤ w'.heap.size := Below.size h
theorem Ext.trans {a b c : World} (h : Ext a b) (k : Ext b c) : Ext a c := Below.trans h (Below.mono k h.size)
theorem Ext.alloc {a w : World} (h : Ext a w) (o : Obj) : Ext a (w.alloc o) := Below.alloc h h.size o
theorem Ext.drew {a w : World} (h : Ext a w) : Ext a w.drew := Below.drew h
theorem Ext.setCell {a w : World} (h : Ext a w) {p : Addr} (hp : a.heap.size ≤ p.block) (u : Value) : Ext a (w.setCell p u) := Below.setCell h hp u
theorem Ext.lt {w : World} {p : Addr} {v : Value} (h : w.cell? p = some v) : p.block < w.heap.size := World.block_lt_of_cell? w p h
theorem Ext.cell {w w' : World} (h : Ext w w') {p : Addr} {v : Value} (hp : w.cell? p = some v) : w'.cell? p = some v := (Below.cell h (Ext.lt hp)).trans hp
theorem Ext.block {w w' : World} (h : Ext w w') {k : Nat} (hk : k < w.heap.size) : w'.heap[k]? = w.heap[k]? := Below.block h k hk

/-- an error: a code, wrapped by Faults of these steps, the outermost first -/
def IsErr (w : World) : List (ByteArray × Int) → Int → Value → Prop
  | [], c, v => v = .iface 31 (.int .i64 c)
  | (s, n) :: p, c, v => ∃ b u, v = .iface 109 (.pointer (some ⟨b, 0, none⟩)) ∧ w.cell? ⟨b, 0, none⟩ = some (.string s) ∧ w.cell? ⟨b, 1, none⟩ = some (.int .i64 n) ∧ w.cell? ⟨b, 2, none⟩ = some u ∧ IsErr w p c u
theorem IsErr.ext {w w' : World} (h : Ext w w') : ∀ {p : List (ByteArray × Int)} {c : Int} {v : Value}, IsErr w p c v → IsErr w' p c v
  | [], _, _, hv => hv
  | (_, _) :: _, _, _, ⟨b, u, hv, h0, h1, h2, hu⟩ => ⟨b, u, hv, h.cell h0, h.cell h1, h.cell h2, hu.ext h⟩
theorem IsErr.ne_nil {w : World} {p : List (ByteArray × Int)} {c : Int} {v : Value} (h : IsErr w p c v) : ∃ t x, v = .iface t x := by
  cases p with
  | nil => exact ⟨_, _, h⟩
  | cons a p => obtain ⟨b, u, hv, _⟩ := h; exact ⟨_, _, hv⟩

/-- (*fault.Fault).Unwrap -/
theorem unwrap_any (b : Nat) (u : Value) (w : World) (h : w.cell? ⟨b, 2, none⟩ = some u) :
    Calls Tryz.prog 125 #[.pointer (some ⟨b, 0, none⟩)] w fun e w' => e = .returned u ∧ w = w' := by
  go_enter Tryz.func125, Tryz.ntmps125
  go_wp2
  go_ret
  exact ⟨rfl, rfl⟩

set_option maxHeartbeats 2000000 in
/-- errors.as, asked for an api.Code -/
theorem as_code (p : List (ByteArray × Int)) (c : Int) (e old : Value) (t a : Addr) (w : World) (he : IsErr w p c e) (ha : w.cell? a = some (.pointer (some t))) (ht : w.cell? t = some old) (hf : w.frozen? t = false) :
    Calls Tryz.prog 83 #[e, .iface 108 (.pointer (some t)), .agg #[.pointer (some ⟨4, 108, none⟩), .pointer (some a), .int .u64 150], .iface 144 (.agg #[.pointer (some ⟨4, 31, none⟩)])] w
      fun ev w' => ev = .returned (.bool true) ∧ ∃ w1, Ext w w1 ∧ w' = w1.setCell t (.int .i64 c) := by
  have xTO := ex1
  have xVO := ex2
  have xAs := ex3
  have xEl := ex4
  have xSet := ex5
  have tOC := typeOfC
  have tOF := typeOfF
  have mA := methodAssignableTo
  have aCC := assignCC
  have aFC := assignFC
  have vC := valueOfC
  have nAC := noAsC
  have nAF := noAsF
  have uF := unwrapF
  have nF := nilAheadF
  have mU := methodUnwrapF
  have hE : Ext w (w.alloc (.cells #[.pointer (some ⟨4, 108, none⟩), .pointer (some a), .int .u64 150] 131)) := (Ext.refl w).alloc _
  go_enter Tryz.func83, Tryz.ntmps83
  go_wp2
  go_loopg [0] (p.length) (fun k u wr => ∃ q, q.length = k ∧ IsErr w q c u ∧ wr = w.alloc (.cells #[.pointer (some ⟨4, 108, none⟩), .pointer (some a), .int .u64 150] 131))
  case atStart => exact ⟨p, rfl, he, rfl⟩
  case round =>
    obtain ⟨q, hq, hu, hwr⟩ := hrel
    cases q with
    | nil =>
      have hu' : _ = Value.iface 31 (.int .i64 c) := hu
      subst hu'
      subst hwr
      have el := elemVPC a t ((w.alloc (.cells #[.pointer (some ⟨4, 108, none⟩), .pointer (some a), .int .u64 150] 131))) (hE.cell ha)
      have st := setC t ⟨w.heap.size + 1, 0, none⟩ c old ((w.alloc (.cells #[.pointer (some ⟨4, 108, none⟩), .pointer (some a), .int .u64 150] 131)).alloc (.cells #[.int .i64 c] 31)) (by rw [World.cell?_alloc_at _ _ _ _ (by simp)]; rfl) ((hE.alloc _).cell ht) ((Below.frozen (hE.alloc _) (Ext.lt ht)).trans hf)
      go_wp2
      go_ret
      exact ⟨rfl, _, hE.alloc _, rfl⟩
    | cons x q =>
      obtain ⟨s, n⟩ := x
      obtain ⟨b, u', hv, _, _, h2, hu'⟩ := hu
      obtain ⟨tx, vx, hne⟩ := hu'.ne_nil
      subst hv
      subst hwr
      subst hne
      have HQ := Lib.hid hq
      clear hq
      go_wp2_with (go_at_call 125; refine (unwrap_any b _ _ (hE.cell h2)).mono ?_; rintro e w' ⟨rfl, rfl⟩)
      go_roundg (q.length)
      case measure => have := HQ.out; simp at this; omega
      case rel => exact ⟨q, rfl, hu', rfl⟩

/-- what the row lists: the handle of the type error lies in errors.errorType -/
def EtIs (w : World) : Prop := w.cell? ⟨0, 0, none⟩ = some (.iface 144 (.agg #[.pointer (some ⟨4, 28, none⟩)]))
theorem EtIs.ext {w w' : World} (h : EtIs w) (e : Ext w w') : EtIs w' := e.cell h

set_option maxHeartbeats 2000000 in
/-- errors.As, asked for an api.Code -/
theorem As_code (p : List (ByteArray × Int)) (c : Int) (e old : Value) (t : Addr) (w : World) (hg : EtIs w) (he : IsErr w p c e) (ht : w.cell? t = some old) (hf : w.frozen? t = false) :
    Calls Tryz.prog 59 #[e, .iface 108 (.pointer (some t))] w
      fun ev w' => ev = .returned (.bool true) ∧ ∃ w1, Ext w w1 ∧ w' = w1.setCell t (.int .i64 c) := by
  have xVO := ex2
  have xTy := ex6
  have xIN := ex7
  have xKd := ex8
  have xEl := ex9
  have xIm := ex10
  have vPC := valueOfPC
  have tyPC := typePC
  have mK := methodKind
  have mE := methodElem
  have mI := methodImplements
  have kPC := kindPC
  have kC := kindOfC
  have ePC := elemPC
  have iC := implC
  have E1 : Ext w (w.alloc (.cells #[.pointer (some t)] 108)) := (Ext.refl w).alloc _
  have E2 := E1.alloc (.cells #[.pointer (some ⟨4, 108, none⟩), .pointer (some ⟨w.heap.size, 0, none⟩), .int .u64 150] 131)
  have n8 := isNilPC ⟨w.heap.size, 0, none⟩ t ((w.alloc (.cells #[.pointer (some t)] 108)).alloc (.cells #[.pointer (some ⟨4, 108, none⟩), .pointer (some ⟨w.heap.size, 0, none⟩), .int .u64 150] 131)) (by simp)
  have hg2 := E2.cell hg
  obtain ⟨tx, vx, hne⟩ := he.ne_nil
  subst hne
  go_enter Tryz.func59, Tryz.ntmps59
  go_wp2_with (go_at_call 83; refine (as_code p c _ old t ⟨w.heap.size, 0, none⟩ _ (he.ext E2) (by simp) (E2.cell ht) ((Below.frozen E2 (Ext.lt ht)).trans hf)).mono ?_; rintro e w' ⟨rfl, w1, hx, rfl⟩)
  go_ret
  exact ⟨rfl, w1, E2.trans hx, rfl⟩
end Go.Proofs.YtgohlhgapboijaaGreatDoor

/- fault.Of, fault.In, errors.As at a *Fault: contracts over this seat's translation. -/
namespace Go.Proofs.YtgohlhgapboijaaGreatDoor
set_option linter.unusedVariables false
set_option linter.unusedSimpArgs false
open Go.RowKit Go.Extern.Stop Go.Stop Go.Extern

theorem setCell_cell {w : World} {p : Addr} {v : Value} (h : w.cell? p = some v) (u : Value) : (w.setCell p u).cell? p = some u := World.cell?_setCell_same w p u h

/-- fault.Of -/
theorem of_nil (w : World) : Calls Tryz.prog 30 #[.nilIface] w fun e w' => e = .returned (.int .i64 0) ∧ Ext w w' := by
  go_enter Tryz.func30, Tryz.ntmps30
  go_wp2
  go_ret
  exact ⟨rfl, Ext.refl w⟩
set_option maxHeartbeats 1000000 in
theorem of_err (p : List (ByteArray × Int)) (c : Int) (v : Value) (w : World) (hg : EtIs w) (he : IsErr w p c v) :
    Calls Tryz.prog 30 #[v] w fun e w' => e = .returned (.int .i64 c) ∧ Ext w w' := by
  have E1 : Ext w (w.alloc (.cells #[.int .i64 0] 31)) := (Ext.refl w).alloc _
  obtain ⟨tx, vx, hne⟩ := he.ne_nil
  subst hne
  go_enter Tryz.func30, Tryz.ntmps30
  go_wp2_with (go_at_call 59; refine (As_code p c _ (.int .i64 0) ⟨w.heap.size, 0, none⟩ _ (hg.ext E1) (he.ext E1) (by simp) (by simp)).mono ?_; rintro e w' ⟨rfl, w1, hx, rfl⟩; have hcl := setCell_cell (hx.cell (show (w.alloc (.cells #[.int .i64 0] 31)).cell? ⟨w.heap.size, 0, none⟩ = some (.int .i64 0) by simp)) (.int .i64 c))
  go_ret
  exact ⟨rfl, (E1.trans hx).setCell (Nat.le_refl _) _⟩

/-- fault.In -/
theorem in_nil (s : ByteArray) (n : Int) (w : World) : Calls Tryz.prog 34 #[.string s, .int .i64 n, .nilIface] w fun e w' => e = .returned .nilIface ∧ Ext w w' := by
  go_enter Tryz.func34, Tryz.ntmps34
  go_wp2
  go_ret
  exact ⟨rfl, Ext.refl w⟩
theorem in_err (s : ByteArray) (n : Int) (p : List (ByteArray × Int)) (c : Int) (v : Value) (w : World) (he : IsErr w p c v) :
    Calls Tryz.prog 34 #[.string s, .int .i64 n, v] w fun e w' => ∃ u, e = .returned u ∧ Ext w w' ∧ IsErr w' ((s, n) :: p) c u := by
  obtain ⟨tx, vx, hne⟩ := he.ne_nil
  subst hne
  have E1 : Ext w (w.alloc (.cells #[.string s, .int .i64 n, .iface tx vx] 112)) := (Ext.refl w).alloc _
  go_enter Tryz.func34, Tryz.ntmps34
  go_wp2
  go_ret
  exact ⟨_, rfl, E1, w.heap.size, _, rfl, by simp, by simp, by simp, he.ext E1⟩

set_option maxHeartbeats 2000000 in
/-- errors.as, asked for a *fault.Fault -/
theorem as_fault (b : Nat) (old : Value) (t a : Addr) (w : World) (ha : w.cell? a = some (.pointer (some t))) (ht : w.cell? t = some old) (hf : w.frozen? t = false) :
    Calls Tryz.prog 83 #[.iface 109 (.pointer (some ⟨b, 0, none⟩)), .iface 110 (.pointer (some t)), .agg #[.pointer (some ⟨4, 110, none⟩), .pointer (some a), .int .u64 150], .iface 144 (.agg #[.pointer (some ⟨4, 109, none⟩)])] w
      fun ev w' => ev = .returned (.bool true) ∧ ∃ w1, Ext w w1 ∧ w' = w1.setCell t (.pointer (some ⟨b, 0, none⟩)) := by
  have xTO := ex1
  have xVO := ex2
  have xAs := ex3
  have xEl := ex4
  have xSet := ex5
  have tOF := typeOfF
  have mA := methodAssignableTo
  have aFF := assignFF
  have vF := valueOfF
  have hE : Ext w (w.alloc (.cells #[.pointer (some ⟨4, 110, none⟩), .pointer (some a), .int .u64 150] 131)) := (Ext.refl w).alloc _
  have el := elemVPF a t ((w.alloc (.cells #[.pointer (some ⟨4, 110, none⟩), .pointer (some a), .int .u64 150] 131))) (hE.cell ha)
  have st := setF t ⟨w.heap.size + 1, 0, none⟩ ⟨b, 0, none⟩ old ((w.alloc (.cells #[.pointer (some ⟨4, 110, none⟩), .pointer (some a), .int .u64 150] 131)).alloc (.cells #[.pointer (some ⟨b, 0, none⟩)] 109)) (by rw [World.cell?_alloc_at _ _ _ _ (by simp)]; rfl) ((hE.alloc _).cell ht) ((Below.frozen (hE.alloc _) (Ext.lt ht)).trans hf)
  go_enter Tryz.func83, Tryz.ntmps83
  go_wp2
  refine wp_loop_rounds 1 ?_
  rw [rounds_succ]
  go_wp2
  go_ret
  exact ⟨rfl, _, hE.alloc _, rfl⟩

set_option maxHeartbeats 2000000 in
theorem as_fault_no (c : Int) (t a : Addr) (w : World) :
    Calls Tryz.prog 83 #[.iface 31 (.int .i64 c), .iface 110 (.pointer (some t)), .agg #[.pointer (some ⟨4, 110, none⟩), .pointer (some a), .int .u64 150], .iface 144 (.agg #[.pointer (some ⟨4, 109, none⟩)])] w
      fun ev w' => ev = .returned (.bool false) ∧ Ext w w' := by
  have xTO := ex1
  have xAs := ex3
  have tOC := typeOfC
  have mA := methodAssignableTo
  have aCF := assignCF
  have nAC := noAsC
  have nUC := noUnwrapC
  have nUsC := noUnwrapsC
  have hE : Ext w (w.alloc (.cells #[.pointer (some ⟨4, 110, none⟩), .pointer (some a), .int .u64 150] 131)) := (Ext.refl w).alloc _
  go_enter Tryz.func83, Tryz.ntmps83
  go_wp2
  refine wp_loop_rounds 1 ?_
  rw [rounds_succ]
  go_wp2
  go_ret
  exact ⟨rfl, hE⟩
end Go.Proofs.YtgohlhgapboijaaGreatDoor

/- errors.As at a *Fault and fault.Path: contracts over this seat's translation. -/
namespace Go.Proofs.YtgohlhgapboijaaGreatDoor
set_option linter.unusedVariables false
set_option linter.unusedSimpArgs false
open Go.RowKit Go.Extern.Stop Go.Stop Go.Extern

set_option maxHeartbeats 2000000 in
/-- errors.As, asked for a *fault.Fault: the error is one -/
theorem As_fault (b : Nat) (old : Value) (t : Addr) (w : World) (hg : EtIs w) (ht : w.cell? t = some old) (hf : w.frozen? t = false) :
    Calls Tryz.prog 59 #[.iface 109 (.pointer (some ⟨b, 0, none⟩)), .iface 110 (.pointer (some t))] w
      fun ev w' => ev = .returned (.bool true) ∧ ∃ w1, Ext w w1 ∧ w' = w1.setCell t (.pointer (some ⟨b, 0, none⟩)) := by
  have xVO := ex2
  have xTy := ex6
  have xIN := ex7
  have xKd := ex8
  have xEl := ex9
  have xIm := ex10
  have vPC := valueOfPF
  have tyPC := typePF
  have mK := methodKind
  have mE := methodElem
  have mI := methodImplements
  have kPC := kindPF
  have kC := kindOfF
  have ePC := elemPF
  have iC := implF
  have E1 : Ext w (w.alloc (.cells #[.pointer (some t)] 110)) := (Ext.refl w).alloc _
  have E2 := E1.alloc (.cells #[.pointer (some ⟨4, 110, none⟩), .pointer (some ⟨w.heap.size, 0, none⟩), .int .u64 150] 131)
  have n8 := isNilPF ⟨w.heap.size, 0, none⟩ t ((w.alloc (.cells #[.pointer (some t)] 110)).alloc (.cells #[.pointer (some ⟨4, 110, none⟩), .pointer (some ⟨w.heap.size, 0, none⟩), .int .u64 150] 131)) (by simp)
  have hg2 := E2.cell hg
  go_enter Tryz.func59, Tryz.ntmps59
  go_wp2_with (go_at_call 83; refine (as_fault b old t ⟨w.heap.size, 0, none⟩ _ (by simp) (E2.cell ht) ((Below.frozen E2 (Ext.lt ht)).trans hf)).mono ?_; rintro e w' ⟨rfl, w1, hx, rfl⟩)
  go_ret
  exact ⟨rfl, w1, E2.trans hx, rfl⟩

set_option maxHeartbeats 2000000 in
theorem As_fault_no (c : Int) (t : Addr) (w : World) (hg : EtIs w) :
    Calls Tryz.prog 59 #[.iface 31 (.int .i64 c), .iface 110 (.pointer (some t))] w
      fun ev w' => ev = .returned (.bool false) ∧ Ext w w' := by
  have xVO := ex2
  have xTy := ex6
  have xIN := ex7
  have xKd := ex8
  have xEl := ex9
  have xIm := ex10
  have vPC := valueOfPF
  have tyPC := typePF
  have mK := methodKind
  have mE := methodElem
  have mI := methodImplements
  have kPC := kindPF
  have kC := kindOfF
  have ePC := elemPF
  have iC := implF
  have E1 : Ext w (w.alloc (.cells #[.pointer (some t)] 110)) := (Ext.refl w).alloc _
  have E2 := E1.alloc (.cells #[.pointer (some ⟨4, 110, none⟩), .pointer (some ⟨w.heap.size, 0, none⟩), .int .u64 150] 131)
  have n8 := isNilPF ⟨w.heap.size, 0, none⟩ t ((w.alloc (.cells #[.pointer (some t)] 110)).alloc (.cells #[.pointer (some ⟨4, 110, none⟩), .pointer (some ⟨w.heap.size, 0, none⟩), .int .u64 150] 131)) (by simp)
  have hg2 := E2.cell hg
  go_enter Tryz.func59, Tryz.ntmps59
  go_wp2_with (go_at_call 83; refine (as_fault_no c t ⟨w.heap.size, 0, none⟩ _).mono ?_; rintro e w' ⟨rfl, hx⟩)
  go_ret
  exact ⟨rfl, E2.trans hx⟩

theorem ownsRow_ext {w w' : World} {base : Nat} {e : TypeId} {size : Nat} {v : Value} {n : Nat} {xs : List Value} (h : w.ownsRow base e size v n xs) (k : Ext w w') : w'.ownsRow base e size v n xs := by
  obtain ⟨h1, h2⟩ := h
  refine ⟨h1, ?_⟩
  rcases h2 with h2 | ⟨g, cap, cur, hv, hg, hh, r⟩
  · exact Or.inl h2
  · exact Or.inr ⟨g, cap, cur, hv, hg, by rw [k.block (Array.getElem?_eq_some_iff.1 hh).1]; exact hh, r⟩

/-- the cells of steps -/
def stepCells : List (ByteArray × Int) → List Value
  | [] => []
  | (s, n) :: p => .string s :: .int .i64 n :: stepCells p
theorem stepCells_append (p q : List (ByteArray × Int)) : stepCells (p ++ q) = stepCells p ++ stepCells q := by
  induction p with
  | nil => rfl
  | cons x p ih => obtain ⟨s, n⟩ := x; simp [stepCells, ih]
theorem stepCells_length (p : List (ByteArray × Int)) : (stepCells p).length = p.length * 2 := by
  induction p with
  | nil => rfl
  | cons x p ih => obtain ⟨s, n⟩ := x; simp [stepCells, ih]; omega

theorem infoStep : (Tryz.prog.info? 70).map (fun i => (i.zero, i.size, i.bytes)) = some (some (.agg #[.string .empty, .int .i64 0]), 2, 24) := by kernel_rfl

end Go.Proofs.YtgohlhgapboijaaGreatDoor

/- fault.Path: its contract over this seat's translation. -/
namespace Go.Proofs.YtgohlhgapboijaaGreatDoor
set_option linter.unusedVariables false
set_option linter.unusedSimpArgs false
open Go.RowKit Go.Extern.Stop Go.Stop Go.Extern

set_option maxHeartbeats 4000000 in
set_option maxRecDepth 100000 in
/-- fault.Path -/
theorem path_err (p : List (ByteArray × Int)) (c : Int) (v : Value) (w : World) (hg : EtIs w) (he : IsErr w p c v) (hp : p.length ≤ 1000000) :
    Calls Tryz.prog 31 #[v] w fun e w' => ∃ u, e = .returned u ∧ Ext w w' ∧ w'.ownsRow (w.heap.size + 1) 70 2 u p.length (stepCells p) := by
  obtain ⟨i0, hi, hz0, hz1, hz2⟩ := info_parts infoStep
  go_enter Tryz.func31, Tryz.ntmps31
  go_wp2
  go_loopg [0, 3] (p.length) (fun k u pv wr => ∃ d q, p = d ++ q ∧ q.length = k ∧ IsErr w q c u ∧ wr.ownsRow (w.heap.size + 1) 70 2 pv d.length (stepCells d) ∧ Ext w wr ∧ (∃ x, wr.cell? ⟨w.heap.size, 0, none⟩ = some x) ∧ wr.frozen? ⟨w.heap.size, 0, none⟩ = false)
  case atStart => exact ⟨[], p, rfl, rfl, he, World.ownsRow_nil _ _ _ _, (Ext.refl w).alloc _, ⟨_, by simp; rfl⟩, by simp⟩
  case round =>
    obtain ⟨d, q, hpd, hq, hu, hown, hE, ⟨x, hx⟩, hf⟩ := hrel
    have HP := Lib.hid hpd
    have HQ := Lib.hid hq
    clear hpd hq
    cases q with
    | nil =>
      have hu' : _ = Value.iface 31 (.int .i64 c) := hu
      subst hu'
      go_wp2_with (go_at_call 59; refine (As_fault_no c ⟨w.heap.size, 0, none⟩ _ (hg.ext hE)).mono ?_; rintro e w' ⟨rfl, hx1⟩)
      go_ret
      have hd := HP.out
      simp only [List.append_nil] at hd
      subst hd
      exact ⟨_, rfl, hE.trans hx1, ownsRow_ext hown hx1⟩
    | cons y q =>
      obtain ⟨s, n⟩ := y
      obtain ⟨b, u', hv, h0, h1, h2, hu'⟩ := hu
      subst hv
      go_wp2_with (go_at_call 59; refine (As_fault b x ⟨w.heap.size, 0, none⟩ _ (hg.ext hE) hx hf).mono ?_; rintro e w' ⟨rfl, w1, hx1, rfl⟩; have hcl := setCell_cell (hx1.cell hx) (.pointer (some ⟨b, 0, none⟩)))
      have HE : Ext w (w1.setCell ⟨w.heap.size, 0, none⟩ (.pointer (some ⟨b, 0, none⟩))) := (hE.trans hx1).setCell (Nat.le_refl _) _
      have k0 := HE.cell h0
      have k1 := HE.cell h1
      have k2 := HE.cell h2
      have hfr : (w1.setCell ⟨w.heap.size, 0, none⟩ (.pointer (some ⟨b, 0, none⟩))).frozen? ⟨w.heap.size, 0, none⟩ = false := by
        rw [World.frozen?_setCell]; exact (Below.frozen hx1 (Ext.lt hx)).trans hf
      have hown1 : (w1.setCell ⟨w.heap.size, 0, none⟩ (.pointer (some ⟨b, 0, none⟩))).ownsRow (w.heap.size + 1) 70 2 _ d.length (stepCells d) := ownsRow_setCell_below (ownsRow_ext hown hx1) (Nat.lt_succ_self _) _
      clear hown hx1 hf hx h1 hE
      revert hcl HE k0 k1 k2 hfr hown1
      generalize w1.setCell ⟨w.heap.size, 0, none⟩ (.pointer (some ⟨b, 0, none⟩)) = w2
      intro hcl HE k0 k1 k2 hfr hown1
      have hsz := HE.size
      have hB1 : w.heap.size < w2.heap.size := Ext.lt hcl
      have hlen := stepCells_length d
      have hdl : d.length + 1 ≤ 1000000 := by have := HP.out; rw [this] at hp; simp at hp; omega
      have hb1 : b < w.heap.size := Ext.lt (p := ⟨b, 0, none⟩) h0
      have hnb : ∀ k, Value.ownBlock _ = some k → w.heap.size + 1 ≤ k := fun k hk => (hown1.lt k hk).1
      have hz := h2
      clear h0 h2
      go_region_held3 (fun w' => w'.cell? ⟨w.heap.size, 0, none⟩ = some (.pointer (some ⟨b, 0, none⟩)) ∧ w'.cell? ⟨b, 0, none⟩ = some (.string s) ∧ w'.cell? ⟨b, 1, none⟩ = some (.int .i64 n))
        (first
          | go_keep
          | (go_split_ands
             refine ⟨?_, ?_, ?_⟩
             · (rw [hgrow.cell_far _ (by simp; omega) (fun e => by have := hnb _ e.symm; simp at this; omega)]; assumption)
             · (rw [hgrow.cell_far _ (by simp; omega) (fun e => by have := hnb _ e.symm; simp at this; omega)]; assumption)
             · (rw [hgrow.cell_far _ (by simp; omega) (fun e => by have := hnb _ e.symm; simp at this; omega)]; assumption)))
        ((refine step_append_lies _ (by rfl) _ _ _ (by rfl) (w.heap.size + 1) 70 i0 _ 2 24 Tryz.underlying67 hi hz0 hz1 hz2 rfl (by omega) _ d.length (stepCells d) (by rfl) ((hown1.alloc _).drew)
            ⟨w2.heap.size, 0, none⟩ 1 1 [.string s, .int .i64 n] (by rfl) (by rfl) (World.news_of_block (cs := #[.string s, .int .i64 n]) (t := 70) (fr := (0, 0)) (heap_alloc_new w2 _)) (by simp [Value.oneCell'])
            (by omega) (by unfold maxLen; omega) (by omega) (by simp; omega) (w2.heap.size + 1) (by simp) ?_; intro gg cap w3 hown3 hgrow hat hlt))
      have HE3 : Ext w w3 := Below.grown ((HE.alloc _).drew) hgrow (by simp; omega) (fun k hk => by have := hnb k hk; omega)
      have kB : w3.cell? ⟨w.heap.size, 0, none⟩ = some (.pointer (some ⟨b, 0, none⟩)) := by
        rw [hgrow.cell_far _ (by simp; omega) (fun e => by have := hnb _ e.symm; simp at this; omega), World.cell?_drew, World.cell?_alloc_lt w2 _ ⟨w.heap.size, 0, none⟩ hB1]; exact hcl
      have kF : w3.frozen? ⟨w.heap.size, 0, none⟩ = false := by
        rw [hgrow.frozen_far _ (by simp; omega) (fun e => by have := hnb _ e.symm; simp at this; omega), World.frozen?_drew, World.frozen?_alloc_old w2 _ ⟨w.heap.size, 0, none⟩ (Nat.ne_of_lt hB1)]; exact hfr
      have k3 : w3.cell? ⟨b, 2, none⟩ = some u' := HE3.cell hz
      go_wp2
      go_roundg (q.length)
      case measure => have := HQ.out; simp at this; omega
      case rel => exact ⟨d ++ [(s, n)], q, by rw [HP.out]; simp, rfl, hu', by rw [stepCells_append, List.length_append]; exact hown3, HE3, ⟨_, kB⟩, kF⟩
end Go.Proofs.YtgohlhgapboijaaGreatDoor
