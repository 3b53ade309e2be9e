/- Contracts of this seat: Err, Err2, Err3, Err4, Same, Fail, Ints, Copy, Push, Kp, Fall. -/
import Derived.Test.YtlaedbglclmheaaGreatDoorErrFacts
import Derived.Deep.LoopGhost
import Derived.Lib.Hide
import Derived.StillTailTactics
import Derived.Deep.QuietTactic
import Derived.BigQuiet
import Derived.Deep.AppendLies
import Derived.Deep.RegionHeld3
import Derived.Maps.AppendAt
/- Errors as the program makes them (a code, wrapped by any number of Faults), and what errors.As, fault.Of, fault.Path and fault.In answer for them: contracts over this seat's translation. -/
namespace Go.Proofs.YtlaedbglclmheaaGreatDoor
set_option linter.unusedVariables false
set_option linter.unusedSimpArgs false
open Go.RowKit Go.Extern.Stop Go.Stop Go.Extern

/-- nothing that was there has changed -/
def Ext (w w' : World) : Prop := Below w.heap.size w w'
theorem Ext.refl (w : World) : Ext w w := Below.refl _ _
theorem Ext.size {w w' : World} (h : Ext w w') : w.heap.size ≤ w'.heap.size := Below.size h
theorem Ext.trans {a b c : World} (h : Ext a b) (k : Ext b c) : Ext a c := Below.trans h (Below.mono k h.size)
theorem Ext.alloc {a w : World} (h : Ext a w) (o : Obj) : Ext a (w.alloc o) := Below.alloc h h.size o
theorem Ext.drew {a w : World} (h : Ext a w) : Ext a w.drew := Below.drew h
theorem Ext.setCell {a w : World} (h : Ext a w) {p : Addr} (hp : a.heap.size ≤ p.block) (u : Value) : Ext a (w.setCell p u) := Below.setCell h hp u
theorem Ext.lt {w : World} {p : Addr} {v : Value} (h : w.cell? p = some v) : p.block < w.heap.size := World.block_lt_of_cell? w p h
theorem Ext.cell {w w' : World} (h : Ext w w') {p : Addr} {v : Value} (hp : w.cell? p = some v) : w'.cell? p = some v := (Below.cell h (Ext.lt hp)).trans hp
theorem Ext.block {w w' : World} (h : Ext w w') {k : Nat} (hk : k < w.heap.size) : w'.heap[k]? = w.heap[k]? := Below.block h k hk

/-- an error: a code, wrapped by Faults of these steps, the outermost first -/
def IsErr (w : World) : List (ByteArray × Int) → Int → Value → Prop
  | [], c, v => v = .iface 35 (.int .i64 c)
  | (s, n) :: p, c, v => ∃ b u, v = .iface 173 (.pointer (some ⟨b, 0, none⟩)) ∧ w.cell? ⟨b, 0, none⟩ = some (.string s) ∧ w.cell? ⟨b, 1, none⟩ = some (.int .i64 n) ∧ w.cell? ⟨b, 2, none⟩ = some u ∧ IsErr w p c u
theorem IsErr.ext {w w' : World} (h : Ext w w') : ∀ {p : List (ByteArray × Int)} {c : Int} {v : Value}, IsErr w p c v → IsErr w' p c v
  | [], _, _, hv => hv
  | (_, _) :: _, _, _, ⟨b, u, hv, h0, h1, h2, hu⟩ => ⟨b, u, hv, h.cell h0, h.cell h1, h.cell h2, hu.ext h⟩
theorem IsErr.ne_nil {w : World} {p : List (ByteArray × Int)} {c : Int} {v : Value} (h : IsErr w p c v) : ∃ t x, v = .iface t x := by
  cases p with
  | nil => exact ⟨_, _, h⟩
  | cons a p => obtain ⟨b, u, hv, _⟩ := h; exact ⟨_, _, hv⟩

/-- (*fault.Fault).Unwrap -/
theorem unwrap_any (b : Nat) (u : Value) (w : World) (h : w.cell? ⟨b, 2, none⟩ = some u) :
    Calls Tryz.prog 287 #[.pointer (some ⟨b, 0, none⟩)] w fun e w' => e = .returned u ∧ w = w' := by
  go_enter Tryz.func287, Tryz.ntmps287
  go_wp2
  go_ret
  exact ⟨rfl, rfl⟩

set_option maxHeartbeats 2000000 in
/-- errors.as, asked for an api.Code -/
theorem as_code (p : List (ByteArray × Int)) (c : Int) (e old : Value) (t a : Addr) (w : World) (he : IsErr w p c e) (ha : w.cell? a = some (.pointer (some t))) (ht : w.cell? t = some old) (hf : w.frozen? t = false) :
    Calls Tryz.prog 131 #[e, .iface 172 (.pointer (some t)), .agg #[.pointer (some ⟨4, 172, none⟩), .pointer (some a), .int .u64 150], .iface 251 (.agg #[.pointer (some ⟨4, 35, none⟩)])] w
      fun ev w' => ev = .returned (.bool true) ∧ ∃ w1, Ext w w1 ∧ w' = w1.setCell t (.int .i64 c) := by
  have xTO := ex1
  have xVO := ex2
  have xAs := ex3
  have xEl := ex4
  have xSet := ex5
  have tOC := typeOfC
  have tOF := typeOfF
  have mA := methodAssignableTo
  have aCC := assignCC
  have aFC := assignFC
  have vC := valueOfC
  have nAC := noAsC
  have nAF := noAsF
  have uF := unwrapF
  have nF := nilAheadF
  have mU := methodUnwrapF
  have hE : Ext w (w.alloc (.cells #[.pointer (some ⟨4, 172, none⟩), .pointer (some a), .int .u64 150] 211)) := (Ext.refl w).alloc _
  go_enter Tryz.func131, Tryz.ntmps131
  go_wp2
  go_loopg [0] (p.length) (fun k u wr => ∃ q, q.length = k ∧ IsErr w q c u ∧ wr = w.alloc (.cells #[.pointer (some ⟨4, 172, none⟩), .pointer (some a), .int .u64 150] 211))
  case atStart => exact ⟨p, rfl, he, rfl⟩
  case round =>
    obtain ⟨q, hq, hu, hwr⟩ := hrel
    cases q with
    | nil =>
      have hu' : _ = Value.iface 35 (.int .i64 c) := hu
      subst hu'
      subst hwr
      have el := elemVPC a t ((w.alloc (.cells #[.pointer (some ⟨4, 172, none⟩), .pointer (some a), .int .u64 150] 211))) (hE.cell ha)
      have st := setC t ⟨w.heap.size + 1, 0, none⟩ c old ((w.alloc (.cells #[.pointer (some ⟨4, 172, none⟩), .pointer (some a), .int .u64 150] 211)).alloc (.cells #[.int .i64 c] 35)) (by rw [World.cell?_alloc_at _ _ _ _ (by simp)]; rfl) ((hE.alloc _).cell ht) ((Below.frozen (hE.alloc _) (Ext.lt ht)).trans hf)
      go_wp2
      go_ret
      exact ⟨rfl, _, hE.alloc _, rfl⟩
    | cons x q =>
      obtain ⟨s, n⟩ := x
      obtain ⟨b, u', hv, _, _, h2, hu'⟩ := hu
      obtain ⟨tx, vx, hne⟩ := hu'.ne_nil
      subst hv
      subst hwr
      subst hne
      have HQ := Lib.hid hq
      clear hq
      go_wp2_with (go_at_call 287; refine (unwrap_any b _ _ (hE.cell h2)).mono ?_; rintro e w' ⟨rfl, rfl⟩)
      go_roundg (q.length)
      case measure => have := HQ.out; simp at this; omega
      case rel => exact ⟨q, rfl, hu', rfl⟩

/-- what the row lists: the handle of the type error lies in errors.errorType -/
def EtIs (w : World) : Prop := w.cell? ⟨1, 0, none⟩ = some (.iface 251 (.agg #[.pointer (some ⟨4, 32, none⟩)]))
theorem EtIs.ext {w w' : World} (h : EtIs w) (e : Ext w w') : EtIs w' := e.cell h

set_option maxHeartbeats 2000000 in
/-- errors.As, asked for an api.Code -/
theorem As_code (p : List (ByteArray × Int)) (c : Int) (e old : Value) (t : Addr) (w : World) (hg : EtIs w) (he : IsErr w p c e) (ht : w.cell? t = some old) (hf : w.frozen? t = false) :
    Calls Tryz.prog 100 #[e, .iface 172 (.pointer (some t))] w
      fun ev w' => ev = .returned (.bool true) ∧ ∃ w1, Ext w w1 ∧ w' = w1.setCell t (.int .i64 c) := by
  have xVO := ex2
  have xTy := ex6
  have xIN := ex7
  have xKd := ex8
  have xEl := ex9
  have xIm := ex10
  have vPC := valueOfPC
  have tyPC := typePC
  have mK := methodKind
  have mE := methodElem
  have mI := methodImplements
  have kPC := kindPC
  have kC := kindOfC
  have ePC := elemPC
  have iC := implC
  have E1 : Ext w (w.alloc (.cells #[.pointer (some t)] 172)) := (Ext.refl w).alloc _
  have E2 := E1.alloc (.cells #[.pointer (some ⟨4, 172, none⟩), .pointer (some ⟨w.heap.size, 0, none⟩), .int .u64 150] 211)
  have n8 := isNilPC ⟨w.heap.size, 0, none⟩ t ((w.alloc (.cells #[.pointer (some t)] 172)).alloc (.cells #[.pointer (some ⟨4, 172, none⟩), .pointer (some ⟨w.heap.size, 0, none⟩), .int .u64 150] 211)) (by simp)
  have hg2 := E2.cell hg
  obtain ⟨tx, vx, hne⟩ := he.ne_nil
  subst hne
  go_enter Tryz.func100, Tryz.ntmps100
  go_wp2_with (go_at_call 131; refine (as_code p c _ old t ⟨w.heap.size, 0, none⟩ _ (he.ext E2) (by simp) (E2.cell ht) ((Below.frozen E2 (Ext.lt ht)).trans hf)).mono ?_; rintro e w' ⟨rfl, w1, hx, rfl⟩)
  go_ret
  exact ⟨rfl, w1, E2.trans hx, rfl⟩
end Go.Proofs.YtlaedbglclmheaaGreatDoor

/- fault.Of, fault.In, errors.As at a *Fault: contracts over this seat's translation. -/
namespace Go.Proofs.YtlaedbglclmheaaGreatDoor
set_option linter.unusedVariables false
set_option linter.unusedSimpArgs false
open Go.RowKit Go.Extern.Stop Go.Stop Go.Extern

theorem setCell_cell {w : World} {p : Addr} {v : Value} (h : w.cell? p = some v) (u : Value) : (w.setCell p u).cell? p = some u := World.cell?_setCell_same w p u h

/-- fault.Of -/
theorem of_nil (w : World) : Calls Tryz.prog 58 #[.nilIface] w fun e w' => e = .returned (.int .i64 0) ∧ Ext w w' := by
  go_enter Tryz.func58, Tryz.ntmps58
  go_wp2
  go_ret
  exact ⟨rfl, Ext.refl w⟩
set_option maxHeartbeats 1000000 in
theorem of_err (p : List (ByteArray × Int)) (c : Int) (v : Value) (w : World) (hg : EtIs w) (he : IsErr w p c v) :
    Calls Tryz.prog 58 #[v] w fun e w' => e = .returned (.int .i64 c) ∧ Ext w w' := by
  have E1 : Ext w (w.alloc (.cells #[.int .i64 0] 35)) := (Ext.refl w).alloc _
  obtain ⟨tx, vx, hne⟩ := he.ne_nil
  subst hne
  go_enter Tryz.func58, Tryz.ntmps58
  go_wp2_with (go_at_call 100; refine (As_code p c _ (.int .i64 0) ⟨w.heap.size, 0, none⟩ _ (hg.ext E1) (he.ext E1) (by simp) (by simp)).mono ?_; rintro e w' ⟨rfl, w1, hx, rfl⟩; have hcl := setCell_cell (hx.cell (show (w.alloc (.cells #[.int .i64 0] 35)).cell? ⟨w.heap.size, 0, none⟩ = some (.int .i64 0) by simp)) (.int .i64 c))
  go_ret
  exact ⟨rfl, (E1.trans hx).setCell (Nat.le_refl _) _⟩

/-- fault.In -/
theorem in_nil (s : ByteArray) (n : Int) (w : World) : Calls Tryz.prog 93 #[.string s, .int .i64 n, .nilIface] w fun e w' => e = .returned .nilIface ∧ Ext w w' := by
  go_enter Tryz.func93, Tryz.ntmps93
  go_wp2
  go_ret
  exact ⟨rfl, Ext.refl w⟩
theorem in_err (s : ByteArray) (n : Int) (p : List (ByteArray × Int)) (c : Int) (v : Value) (w : World) (he : IsErr w p c v) :
    Calls Tryz.prog 93 #[.string s, .int .i64 n, v] w fun e w' => ∃ u, e = .returned u ∧ Ext w w' ∧ IsErr w' ((s, n) :: p) c u := by
  obtain ⟨tx, vx, hne⟩ := he.ne_nil
  subst hne
  have E1 : Ext w (w.alloc (.cells #[.string s, .int .i64 n, .iface tx vx] 176)) := (Ext.refl w).alloc _
  go_enter Tryz.func93, Tryz.ntmps93
  go_wp2
  go_ret
  exact ⟨_, rfl, E1, w.heap.size, _, rfl, by simp, by simp, by simp, he.ext E1⟩

set_option maxHeartbeats 2000000 in
/-- errors.as, asked for a *fault.Fault -/
theorem as_fault (b : Nat) (old : Value) (t a : Addr) (w : World) (ha : w.cell? a = some (.pointer (some t))) (ht : w.cell? t = some old) (hf : w.frozen? t = false) :
    Calls Tryz.prog 131 #[.iface 173 (.pointer (some ⟨b, 0, none⟩)), .iface 174 (.pointer (some t)), .agg #[.pointer (some ⟨4, 174, none⟩), .pointer (some a), .int .u64 150], .iface 251 (.agg #[.pointer (some ⟨4, 173, none⟩)])] w
      fun ev w' => ev = .returned (.bool true) ∧ ∃ w1, Ext w w1 ∧ w' = w1.setCell t (.pointer (some ⟨b, 0, none⟩)) := by
  have xTO := ex1
  have xVO := ex2
  have xAs := ex3
  have xEl := ex4
  have xSet := ex5
  have tOF := typeOfF
  have mA := methodAssignableTo
  have aFF := assignFF
  have vF := valueOfF
  have hE : Ext w (w.alloc (.cells #[.pointer (some ⟨4, 174, none⟩), .pointer (some a), .int .u64 150] 211)) := (Ext.refl w).alloc _
  have el := elemVPF a t ((w.alloc (.cells #[.pointer (some ⟨4, 174, none⟩), .pointer (some a), .int .u64 150] 211))) (hE.cell ha)
  have st := setF t ⟨w.heap.size + 1, 0, none⟩ ⟨b, 0, none⟩ old ((w.alloc (.cells #[.pointer (some ⟨4, 174, none⟩), .pointer (some a), .int .u64 150] 211)).alloc (.cells #[.pointer (some ⟨b, 0, none⟩)] 173)) (by rw [World.cell?_alloc_at _ _ _ _ (by simp)]; rfl) ((hE.alloc _).cell ht) ((Below.frozen (hE.alloc _) (Ext.lt ht)).trans hf)
  go_enter Tryz.func131, Tryz.ntmps131
  go_wp2
  refine wp_loop_rounds 1 ?_
  rw [rounds_succ]
  go_wp2
  go_ret
  exact ⟨rfl, _, hE.alloc _, rfl⟩

set_option maxHeartbeats 2000000 in
theorem as_fault_no (c : Int) (t a : Addr) (w : World) :
    Calls Tryz.prog 131 #[.iface 35 (.int .i64 c), .iface 174 (.pointer (some t)), .agg #[.pointer (some ⟨4, 174, none⟩), .pointer (some a), .int .u64 150], .iface 251 (.agg #[.pointer (some ⟨4, 173, none⟩)])] w
      fun ev w' => ev = .returned (.bool false) ∧ Ext w w' := by
  have xTO := ex1
  have xAs := ex3
  have tOC := typeOfC
  have mA := methodAssignableTo
  have aCF := assignCF
  have nAC := noAsC
  have nUC := noUnwrapC
  have nUsC := noUnwrapsC
  have hE : Ext w (w.alloc (.cells #[.pointer (some ⟨4, 174, none⟩), .pointer (some a), .int .u64 150] 211)) := (Ext.refl w).alloc _
  go_enter Tryz.func131, Tryz.ntmps131
  go_wp2
  refine wp_loop_rounds 1 ?_
  rw [rounds_succ]
  go_wp2
  go_ret
  exact ⟨rfl, hE⟩
end Go.Proofs.YtlaedbglclmheaaGreatDoor

/- errors.As at a *Fault and fault.Path: contracts over this seat's translation. -/
namespace Go.Proofs.YtlaedbglclmheaaGreatDoor
set_option linter.unusedVariables false
set_option linter.unusedSimpArgs false
open Go.RowKit Go.Extern.Stop Go.Stop Go.Extern

set_option maxHeartbeats 2000000 in
/-- errors.As, asked for a *fault.Fault: the error is one -/
theorem As_fault (b : Nat) (old : Value) (t : Addr) (w : World) (hg : EtIs w) (ht : w.cell? t = some old) (hf : w.frozen? t = false) :
    Calls Tryz.prog 100 #[.iface 173 (.pointer (some ⟨b, 0, none⟩)), .iface 174 (.pointer (some t))] w
      fun ev w' => ev = .returned (.bool true) ∧ ∃ w1, Ext w w1 ∧ w' = w1.setCell t (.pointer (some ⟨b, 0, none⟩)) := by
  have xVO := ex2
  have xTy := ex6
  have xIN := ex7
  have xKd := ex8
  have xEl := ex9
  have xIm := ex10
  have vPC := valueOfPF
  have tyPC := typePF
  have mK := methodKind
  have mE := methodElem
  have mI := methodImplements
  have kPC := kindPF
  have kC := kindOfF
  have ePC := elemPF
  have iC := implF
  have E1 : Ext w (w.alloc (.cells #[.pointer (some t)] 174)) := (Ext.refl w).alloc _
  have E2 := E1.alloc (.cells #[.pointer (some ⟨4, 174, none⟩), .pointer (some ⟨w.heap.size, 0, none⟩), .int .u64 150] 211)
  have n8 := isNilPF ⟨w.heap.size, 0, none⟩ t ((w.alloc (.cells #[.pointer (some t)] 174)).alloc (.cells #[.pointer (some ⟨4, 174, none⟩), .pointer (some ⟨w.heap.size, 0, none⟩), .int .u64 150] 211)) (by simp)
  have hg2 := E2.cell hg
  go_enter Tryz.func100, Tryz.ntmps100
  go_wp2_with (go_at_call 131; refine (as_fault b old t ⟨w.heap.size, 0, none⟩ _ (by simp) (E2.cell ht) ((Below.frozen E2 (Ext.lt ht)).trans hf)).mono ?_; rintro e w' ⟨rfl, w1, hx, rfl⟩)
  go_ret
  exact ⟨rfl, w1, E2.trans hx, rfl⟩

set_option maxHeartbeats 2000000 in
theorem As_fault_no (c : Int) (t : Addr) (w : World) (hg : EtIs w) :
    Calls Tryz.prog 100 #[.iface 35 (.int .i64 c), .iface 174 (.pointer (some t))] w
      fun ev w' => ev = .returned (.bool false) ∧ Ext w w' := by
  have xVO := ex2
  have xTy := ex6
  have xIN := ex7
  have xKd := ex8
  have xEl := ex9
  have xIm := ex10
  have vPC := valueOfPF
  have tyPC := typePF
  have mK := methodKind
  have mE := methodElem
  have mI := methodImplements
  have kPC := kindPF
  have kC := kindOfF
  have ePC := elemPF
  have iC := implF
  have E1 : Ext w (w.alloc (.cells #[.pointer (some t)] 174)) := (Ext.refl w).alloc _
  have E2 := E1.alloc (.cells #[.pointer (some ⟨4, 174, none⟩), .pointer (some ⟨w.heap.size, 0, none⟩), .int .u64 150] 211)
  have n8 := isNilPF ⟨w.heap.size, 0, none⟩ t ((w.alloc (.cells #[.pointer (some t)] 174)).alloc (.cells #[.pointer (some ⟨4, 174, none⟩), .pointer (some ⟨w.heap.size, 0, none⟩), .int .u64 150] 211)) (by simp)
  have hg2 := E2.cell hg
  go_enter Tryz.func100, Tryz.ntmps100
  go_wp2_with (go_at_call 131; refine (as_fault_no c t ⟨w.heap.size, 0, none⟩ _).mono ?_; rintro e w' ⟨rfl, hx⟩)
  go_ret
  exact ⟨rfl, E2.trans hx⟩

theorem ownsRow_ext {w w' : World} {base : Nat} {e : TypeId} {size : Nat} {v : Value} {n : Nat} {xs : List Value} (h : w.ownsRow base e size v n xs) (k : Ext w w') : w'.ownsRow base e size v n xs := by
  obtain ⟨h1, h2⟩ := h
  refine ⟨h1, ?_⟩
  rcases h2 with h2 | ⟨g, cap, cur, hv, hg, hh, r⟩
  · exact Or.inl h2
  · exact Or.inr ⟨g, cap, cur, hv, hg, by rw [k.block (Array.getElem?_eq_some_iff.1 hh).1]; exact hh, r⟩

/-- the cells of steps -/
def stepCells : List (ByteArray × Int) → List Value
  | [] => []
  | (s, n) :: p => .string s :: .int .i64 n :: stepCells p
theorem stepCells_append (p q : List (ByteArray × Int)) : stepCells (p ++ q) = stepCells p ++ stepCells q := by
  induction p with
  | nil => rfl
  | cons x p ih => obtain ⟨s, n⟩ := x; simp [stepCells, ih]
theorem stepCells_length (p : List (ByteArray × Int)) : (stepCells p).length = p.length * 2 := by
  induction p with
  | nil => rfl
  | cons x p ih => obtain ⟨s, n⟩ := x; simp [stepCells, ih]; omega

theorem infoStep : (Tryz.prog.info? 119).map (fun i => (i.zero, i.size, i.bytes)) = some (some (.agg #[.string .empty, .int .i64 0]), 2, 24) := by kernel_rfl

end Go.Proofs.YtlaedbglclmheaaGreatDoor

/- fault.Path: its contract over this seat's translation. -/
namespace Go.Proofs.YtlaedbglclmheaaGreatDoor
set_option linter.unusedVariables false
set_option linter.unusedSimpArgs false
open Go.RowKit Go.Extern.Stop Go.Stop Go.Extern

set_option maxHeartbeats 4000000 in
set_option maxRecDepth 100000 in
/-- fault.Path -/
theorem path_err (p : List (ByteArray × Int)) (c : Int) (v : Value) (w : World) (hg : EtIs w) (he : IsErr w p c v) (hp : p.length ≤ 1000000) :
    Calls Tryz.prog 59 #[v] w fun e w' => ∃ u, e = .returned u ∧ Ext w w' ∧ w'.ownsRow (w.heap.size + 1) 119 2 u p.length (stepCells p) := by
  obtain ⟨i0, hi, hz0, hz1, hz2⟩ := info_parts infoStep
  go_enter Tryz.func59, Tryz.ntmps59
  go_wp2
  go_loopg [0, 3] (p.length) (fun k u pv wr => ∃ d q, p = d ++ q ∧ q.length = k ∧ IsErr w q c u ∧ wr.ownsRow (w.heap.size + 1) 119 2 pv d.length (stepCells d) ∧ Ext w wr ∧ (∃ x, wr.cell? ⟨w.heap.size, 0, none⟩ = some x) ∧ wr.frozen? ⟨w.heap.size, 0, none⟩ = false)
  case atStart => exact ⟨[], p, rfl, rfl, he, World.ownsRow_nil _ _ _ _, (Ext.refl w).alloc _, ⟨_, by simp; rfl⟩, by simp⟩
  case round =>
    obtain ⟨d, q, hpd, hq, hu, hown, hE, ⟨x, hx⟩, hf⟩ := hrel
    have HP := Lib.hid hpd
    have HQ := Lib.hid hq
    clear hpd hq
    cases q with
    | nil =>
      have hu' : _ = Value.iface 35 (.int .i64 c) := hu
      subst hu'
      go_wp2_with (go_at_call 100; refine (As_fault_no c ⟨w.heap.size, 0, none⟩ _ (hg.ext hE)).mono ?_; rintro e w' ⟨rfl, hx1⟩)
      go_ret
      have hd := HP.out
      simp only [List.append_nil] at hd
      subst hd
      exact ⟨_, rfl, hE.trans hx1, ownsRow_ext hown hx1⟩
    | cons y q =>
      obtain ⟨s, n⟩ := y
      obtain ⟨b, u', hv, h0, h1, h2, hu'⟩ := hu
      subst hv
      go_wp2_with (go_at_call 100; refine (As_fault b x ⟨w.heap.size, 0, none⟩ _ (hg.ext hE) hx hf).mono ?_; rintro e w' ⟨rfl, w1, hx1, rfl⟩; have hcl := setCell_cell (hx1.cell hx) (.pointer (some ⟨b, 0, none⟩)))
      have HE : Ext w (w1.setCell ⟨w.heap.size, 0, none⟩ (.pointer (some ⟨b, 0, none⟩))) := (hE.trans hx1).setCell (Nat.le_refl _) _
      have k0 := HE.cell h0
      have k1 := HE.cell h1
      have k2 := HE.cell h2
      have hfr : (w1.setCell ⟨w.heap.size, 0, none⟩ (.pointer (some ⟨b, 0, none⟩))).frozen? ⟨w.heap.size, 0, none⟩ = false := by
        rw [World.frozen?_setCell]; exact (Below.frozen hx1 (Ext.lt hx)).trans hf
      have hown1 : (w1.setCell ⟨w.heap.size, 0, none⟩ (.pointer (some ⟨b, 0, none⟩))).ownsRow (w.heap.size + 1) 119 2 _ d.length (stepCells d) := ownsRow_setCell_below (ownsRow_ext hown hx1) (Nat.lt_succ_self _) _
      clear hown hx1 hf hx h1 hE
      revert hcl HE k0 k1 k2 hfr hown1
      generalize w1.setCell ⟨w.heap.size, 0, none⟩ (.pointer (some ⟨b, 0, none⟩)) = w2
      intro hcl HE k0 k1 k2 hfr hown1
      have hsz := HE.size
      have hB1 : w.heap.size < w2.heap.size := Ext.lt hcl
      have hlen := stepCells_length d
      have hdl : d.length + 1 ≤ 1000000 := by have := HP.out; rw [this] at hp; simp at hp; omega
      have hb1 : b < w.heap.size := Ext.lt (p := ⟨b, 0, none⟩) h0
      have hnb : ∀ k, Value.ownBlock _ = some k → w.heap.size + 1 ≤ k := fun k hk => (hown1.lt k hk).1
      have hz := h2
      clear h0 h2
      go_region_held3 (fun w' => w'.cell? ⟨w.heap.size, 0, none⟩ = some (.pointer (some ⟨b, 0, none⟩)) ∧ w'.cell? ⟨b, 0, none⟩ = some (.string s) ∧ w'.cell? ⟨b, 1, none⟩ = some (.int .i64 n))
        (first
          | go_keep
          | (go_split_ands
             refine ⟨?_, ?_, ?_⟩
             · (rw [hgrow.cell_far _ (by simp; omega) (fun e => by have := hnb _ e.symm; simp at this; omega)]; assumption)
             · (rw [hgrow.cell_far _ (by simp; omega) (fun e => by have := hnb _ e.symm; simp at this; omega)]; assumption)
             · (rw [hgrow.cell_far _ (by simp; omega) (fun e => by have := hnb _ e.symm; simp at this; omega)]; assumption)))
        ((refine step_append_lies _ (by rfl) _ _ _ (by rfl) (w.heap.size + 1) 119 i0 _ 2 24 Tryz.underlying116 hi hz0 hz1 hz2 rfl (by omega) _ d.length (stepCells d) (by rfl) ((hown1.alloc _).drew)
            ⟨w2.heap.size, 0, none⟩ 1 1 [.string s, .int .i64 n] (by rfl) (by rfl) (World.news_of_block (cs := #[.string s, .int .i64 n]) (t := 119) (fr := (0, 0)) (heap_alloc_new w2 _)) (by simp [Value.oneCell'])
            (by omega) (by unfold maxLen; omega) (by omega) (by simp; omega) (w2.heap.size + 1) (by simp) ?_; intro gg cap w3 hown3 hgrow hat hlt))
      have HE3 : Ext w w3 := Below.grown ((HE.alloc _).drew) hgrow (by simp; omega) (fun k hk => by have := hnb k hk; omega)
      have kB : w3.cell? ⟨w.heap.size, 0, none⟩ = some (.pointer (some ⟨b, 0, none⟩)) := by
        rw [hgrow.cell_far _ (by simp; omega) (fun e => by have := hnb _ e.symm; simp at this; omega), World.cell?_drew, World.cell?_alloc_lt w2 _ ⟨w.heap.size, 0, none⟩ hB1]; exact hcl
      have kF : w3.frozen? ⟨w.heap.size, 0, none⟩ = false := by
        rw [hgrow.frozen_far _ (by simp; omega) (fun e => by have := hnb _ e.symm; simp at this; omega), World.frozen?_drew, World.frozen?_alloc_old w2 _ ⟨w.heap.size, 0, none⟩ (Nat.ne_of_lt hB1)]; exact hfr
      have k3 : w3.cell? ⟨b, 2, none⟩ = some u' := HE3.cell hz
      go_wp2
      go_roundg (q.length)
      case measure => have := HQ.out; simp at this; omega
      case rel => exact ⟨d ++ [(s, n)], q, by rw [HP.out]; simp, rfl, hu', by rw [stepCells_append, List.length_append]; exact hown3, HE3, ⟨_, kB⟩, kF⟩
end Go.Proofs.YtlaedbglclmheaaGreatDoor

/- kinsame.Err: an error held against the document's: its contract over this seat's translation. -/
namespace Go.Proofs.YtlaedbglclmheaaGreatDoor
set_option linter.unusedVariables false
set_option linter.unusedSimpArgs false
open Go.RowKit Go.Extern.Stop Go.Stop Go.Extern

theorem Ext.drewN {a w : World} (h : Ext a w) (n : Nat) : Ext a (w.drewN n) := by
  have h' : Below a.heap.size a w := h
  exact ⟨h'.os, h'.tape, h'.output, h'.size, h'.block⟩

/-- a slice value that reads as these cells -/
def Row (w : World) (v : Value) (n : Nat) (cells : List Value) : Prop :=
  ∃ (a : Option Addr) (cap : Nat), v = .slice a n cap ∧ n ≤ cap ∧ cap ≤ maxLen ∧ (0 < n → ∃ g off, a = some ⟨g, off, none⟩) ∧ ∀ g off, a = some ⟨g, off, none⟩ → ∀ j u, cells[j]? = some u → w.cell? ⟨g, off + j, none⟩ = some u
theorem Row.ext {w w' : World} {v : Value} {n : Nat} {cells : List Value} (h : Row w v n cells) (k : Ext w w') : Row w' v n cells := by
  obtain ⟨a, cap, h0, h1, h2, h3, h4⟩ := h
  exact ⟨a, cap, h0, h1, h2, h3, fun g off ha j u hj => k.cell (h4 g off ha j u hj)⟩
theorem Row.nil (w : World) : Row w (.slice none 0 0) 0 [] := ⟨none, 0, rfl, Nat.le_refl _, Nat.zero_le _, fun h => absurd h (Nat.lt_irrefl _), fun _ _ h => by cases h⟩
theorem Row.of_owns {w : World} {base : Nat} {e : TypeId} {size : Nat} {v : Value} {n : Nat} {xs : List Value} (h : w.ownsRow base e size v n xs) : Row w v n xs := by
  obtain ⟨hl, h⟩ := h
  rcases h with ⟨hv, hn⟩ | ⟨g, cap, cur, hv, hb, hg, hnc, hcm, hcs, ht⟩
  · subst hn
    obtain rfl : xs = [] := List.eq_nil_of_length_eq_zero (by simpa using hl)
    subst hv
    exact Row.nil w
  · refine ⟨_, cap, hv, hnc, hcm, fun _ => ⟨g, 0, rfl⟩, fun g' off' ha j u hj => ?_⟩
    simp only [Option.some.injEq, Addr.mk.injEq, and_true] at ha
    obtain ⟨rfl, rfl⟩ := ha
    rw [Nat.zero_add, cell_of_row w g j cur e (0, 0) hg]
    rw [← ht, List.getElem?_take] at hj
    split at hj
    · simpa using hj
    · cases hj
theorem Row.at {w : World} {g off n cap : Nat} {cells : List Value} (h : Row w (.slice (some ⟨g, off, none⟩) n cap) n cells) {j : Nat} {u : Value} (hj : cells[j]? = some u) : w.cell? ⟨g, off + j, none⟩ = some u := by
  obtain ⟨a, cap', h0, _, _, _, h4⟩ := h
  simp only [Value.slice.injEq] at h0
  exact h4 g off h0.1.symm j u hj
theorem Row.some {w : World} {v : Value} {n : Nat} {cells : List Value} (h : Row w v n cells) (hn : 0 < n) : ∃ g off cap, v = .slice (some ⟨g, off, none⟩) n cap ∧ n ≤ cap ∧ cap ≤ maxLen := by
  obtain ⟨a, cap, h0, h1, h2, h3, _⟩ := h
  obtain ⟨g, off, ha⟩ := h3 hn
  subst ha
  exact ⟨g, off, cap, h0, h1, h2⟩
theorem Row.form {w : World} {v : Value} {n : Nat} {cells : List Value} (h : Row w v n cells) : ∃ a cap, v = .slice a n cap := by
  obtain ⟨a, cap, h0, _⟩ := h
  exact ⟨a, cap, h0⟩
theorem stepCells_get (p : List (ByteArray × Int)) (i : Nat) (s : ByteArray) (n : Int) (h : p[i]? = some (s, n)) : (stepCells p)[i * 2]? = some (.string s) ∧ (stepCells p)[i * 2 + 1]? = some (.int .i64 n) := by
  induction p generalizing i with
  | nil => simp at h
  | cons x p ih =>
    obtain ⟨s', n'⟩ := x
    cases i with
    | zero => simp at h; obtain ⟨rfl, rfl⟩ := h; exact ⟨rfl, rfl⟩
    | succ i =>
      have := ih i (by simpa using h)
      rw [show (i + 1) * 2 = i * 2 + 2 from by omega]
      exact this

/-- (kinref.Err).OK -/
theorem ok_any (c : Int) (r : Value) (w : World) :
    Calls Tryz.prog 57 #[.agg #[.int .i64 c, r]] w fun e w' => e = .returned (.bool (c == 0)) ∧ Ext w w' := by
  have E1 : Ext w (w.alloc (.cells #[.int .i64 c, r] 38)) := (Ext.refl w).alloc _
  go_enter Tryz.func57, Tryz.ntmps57
  go_wp2
  go_ret
  exact ⟨rfl, E1⟩

theorem path_nil (w : World) (hg : EtIs w) : Calls Tryz.prog 59 #[.nilIface] w fun e w' => e = .returned (.slice none 0 0) ∧ Ext w w' := by
  have E1 : Ext w (w.alloc (.cells #[.pointer none] 173)) := (Ext.refl w).alloc _
  have nil : ∀ (t : Value) (W : World), Calls Tryz.prog 100 #[.nilIface, t] W fun e w' => e = .returned (.bool false) ∧ W = w' := fun t W => by
    go_enter Tryz.func100, Tryz.ntmps100
    go_wp2
    go_ret
    exact ⟨rfl, rfl⟩
  go_enter Tryz.func59, Tryz.ntmps59
  go_wp2
  refine wp_loop_rounds 1 ?_
  rw [rounds_succ]
  go_wp2_with (go_at_call 100; refine (nil _ _).mono ?_; rintro e w' ⟨rfl, rfl⟩)
  go_ret
  exact ⟨rfl, E1⟩

set_option maxHeartbeats 2000000 in
/-- kinsame.Err: no error, as there is none -/
theorem same_nil (w : World) (hg : EtIs w) :
    Calls Tryz.prog 19 #[.nilIface, .agg #[.int .i64 0, .slice none 0 0]] w fun e w' => e = .returned (.bool true) ∧ Ext w w' := by
  have E1 : Ext w (w.alloc (.cells #[.int .i64 0, .slice none 0 0] 38)) := (Ext.refl w).alloc _
  go_enter Tryz.func19, Tryz.ntmps19
  go_wp2_with fail
  go_region_held3 (fun w' => w'.cell? ⟨w.heap.size, 0, none⟩ = some (.int .i64 0) ∧ w'.cell? ⟨w.heap.size, 1, none⟩ = some (.slice none 0 0) ∧ Ext w w')
    (first | assumption | (exact ⟨by simp, by simp, E1⟩) | (exact ⟨by simp, by simp, E1.drew⟩) | (go_split_ands; exact ⟨hx.cell (by assumption), hx.cell (by assumption), Ext.trans (by assumption) hx⟩))
    (first | (go_at_call 57; refine (ok_any _ _ _).mono ?_; rintro e w' ⟨rfl, hx⟩) | (go_at_call 58; refine (of_nil _).mono ?_; rintro e w' ⟨rfl, hx⟩))
  obtain ⟨_, hc1, hE⟩ : _ ∧ _ ∧ Ext w _ := by assumption
  go_wp2_with (go_at_call 59; refine (path_nil _ (hg.ext hE)).mono ?_; rintro e w' ⟨rfl, hx⟩; have hc2 := hx.cell hc1)
  refine wp_loop_rounds 1 ?_
  rw [rounds_succ]
  go_wp2
  go_ret
  exact ⟨rfl, hE.trans hx⟩

set_option maxHeartbeats 4000000 in
set_option maxRecDepth 100000 in
/-- kinsame.Err: the document's error, a code alone -/
theorem same_code (c : Int) (v rv : Value) (w : World) (hg : EtIs w) (he : IsErr w [] c v) (hr : Row w rv 0 []) (hc : c ≠ 0) :
    Calls Tryz.prog 19 #[v, .agg #[.int .i64 c, rv]] w fun e w' => e = .returned (.bool true) ∧ Ext w w' := by
  obtain ⟨ra, rcap, rfl⟩ := hr.form
  have E1 : Ext w (w.alloc (.cells #[.int .i64 c, .slice ra 0 rcap] 38)) := (Ext.refl w).alloc _
  obtain ⟨tx, vx, hne⟩ := he.ne_nil
  subst hne
  have hc0 : (c == 0) = false := by simpa using hc
  go_enter Tryz.func19, Tryz.ntmps19
  go_wp2_with fail
  go_region_held3 (fun w' => w'.cell? ⟨w.heap.size, 0, none⟩ = some (.int .i64 c) ∧ w'.cell? ⟨w.heap.size, 1, none⟩ = some (.slice ra 0 rcap) ∧ Ext w w')
    (first | assumption | (exact ⟨by simp, by simp, E1⟩) | (exact ⟨by simp, by simp, E1.drew⟩) | (go_split_ands; exact ⟨hx.cell (by assumption), hx.cell (by assumption), Ext.trans (by assumption) hx⟩))
    (first | (go_at_call 57; refine (ok_any _ _ _).mono ?_; rintro e w' ⟨rfl, hx⟩) | (go_at_call 58; obtain ⟨_, _, hE1⟩ : _ ∧ _ ∧ Ext w _ := (by assumption); refine (of_err [] c _ _ (hg.ext hE1) (he.ext hE1)).mono ?_; rintro e w' ⟨rfl, hx⟩))
  obtain ⟨_, hc1, hE⟩ : _ ∧ _ ∧ Ext w _ := by assumption
  go_wp2_with (go_at_call 59; refine (path_err [] c _ _ (hg.ext hE) (he.ext hE) (by simp)).mono ?_; rintro e w' ⟨pu, rfl, hx, hown⟩; have hc2 := hx.cell hc1; obtain ⟨pa, pcap, rfl⟩ := (Row.of_owns hown).form)
  refine wp_loop_rounds 1 ?_
  rw [rounds_succ]
  go_wp2
  go_ret
  exact ⟨rfl, hE.trans hx⟩

set_option maxHeartbeats 4000000 in
set_option maxRecDepth 100000 in
/-- kinsame.Err: the document's error, wrapped -/
theorem same_path (p : List (ByteArray × Int)) (c : Int) (v rv : Value) (w : World) (hg : EtIs w) (he : IsErr w p c v) (hr : Row w rv p.length (stepCells p)) (hc : c ≠ 0) (hp0 : 0 < p.length) (hp : p.length ≤ 1000000) :
    Calls Tryz.prog 19 #[v, .agg #[.int .i64 c, rv]] w fun e w' => e = .returned (.bool true) ∧ Ext w w' := by
  obtain ⟨rg, roff, rcap, rfl, hr1, hr2⟩ := hr.some hp0
  have E1 : Ext w (w.alloc (.cells #[.int .i64 c, .slice (some ⟨rg, roff, none⟩) p.length rcap] 38)) := (Ext.refl w).alloc _
  obtain ⟨tx, vx, hne⟩ := he.ne_nil
  subst hne
  have hc0 : (c == 0) = false := by simpa using hc
  obtain ⟨n, hn⟩ : ∃ n, n = p.length := ⟨_, rfl⟩
  rw [← hn] at hr hr1 hp hp0 ⊢ E1
  have HN := Lib.hid hn
  clear hn
  unfold maxLen at hr2
  go_enter Tryz.func19, Tryz.ntmps19
  go_wp2_with fail
  go_region_held3 (fun w' => w'.cell? ⟨w.heap.size, 0, none⟩ = some (.int .i64 c) ∧ w'.cell? ⟨w.heap.size, 1, none⟩ = some (.slice (some ⟨rg, roff, none⟩) n rcap) ∧ Ext w w')
    (first | assumption | (exact ⟨by simp, by simp, E1⟩) | (exact ⟨by simp, by simp, E1.drew⟩) | (go_split_ands; exact ⟨hx.cell (by assumption), hx.cell (by assumption), Ext.trans (by assumption) hx⟩))
    (first | (go_at_call 57; refine (ok_any _ _ _).mono ?_; rintro e w' ⟨rfl, hx⟩) | (go_at_call 58; obtain ⟨_, _, hE1⟩ : _ ∧ _ ∧ Ext w _ := (by assumption); refine (of_err p c _ _ (hg.ext hE1) (he.ext hE1)).mono ?_; rintro e w' ⟨rfl, hx⟩))
  obtain ⟨_, hc1, hE⟩ : _ ∧ _ ∧ Ext w _ := by assumption
  go_wp2_with (go_at_call 59; refine (path_err p c _ _ (hg.ext hE) (he.ext hE) (by rw [← HN.out]; exact hp)).mono ?_; rintro e w' ⟨pu, rfl, hx, hown⟩; have hc2 := hx.cell hc1; rw [← HN.out] at hown; obtain ⟨pg, poff, pcap, rfl, hp1, hp2⟩ := (Row.of_owns hown).some hp0)
  unfold maxLen at hp2
  have R := Row.of_owns hown
  clear hown
  have hrx := (hr.ext hE).ext hx
  have hEx := hE.trans hx
  clear hE hx hc1 hr hg he E1
  go_loopw [6] (fun i wr => ∃ k : Nat, k ≤ n ∧ i = .int .i64 k ∧ Ext w wr ∧ Row wr (.slice (some ⟨pg, poff, none⟩) n pcap) n (stepCells p) ∧ Row wr (.slice (some ⟨rg, roff, none⟩) n rcap) n (stepCells p) ∧ wr.cell? ⟨w.heap.size, 1, none⟩ = some (.slice (some ⟨rg, roff, none⟩) n rcap)) (fun i _ => n - (intOf i).toNat)
  case atStart => exact ⟨0, Nat.zero_le _, rfl, hEx, R, hrx, hc2⟩
  case round =>
    obtain ⟨k, hk, rfl, hE, R1, R2, hb⟩ := hrel
    by_cases hlt : k < n
    · obtain ⟨⟨s, m⟩, hkx⟩ : ∃ x, p[k]? = some x := ⟨_, List.getElem?_eq_getElem (by rw [← HN.out]; exact hlt)⟩
      obtain ⟨g0, g1⟩ := stepCells_get p k s m hkx
      have p0 := R1.at g0
      have p1 := R1.at g1
      have r0 := R2.at g0
      have r1 := R2.at g1
      rw [← Nat.add_assoc] at p1 r1
      clear hkx g0 g1 R
      go_wp2
      go_quiet (fail)
      go_wp2
      go_roundw
      case rel => exact ⟨k + 1, by omega, by go_num, hE.drewN _, R1, R2, by simpa using hb⟩
      case measure => simp [intOf]; omega
    · go_wp2
      go_ret
      exact ⟨rfl, hE⟩

/-- kinsame.Err: the document's error -/
theorem same_err (p : List (ByteArray × Int)) (c : Int) (v rv : Value) (w : World) (hg : EtIs w) (he : IsErr w p c v) (hr : Row w rv p.length (stepCells p)) (hc : c ≠ 0) (hp : p.length ≤ 1000000) :
    Calls Tryz.prog 19 #[v, .agg #[.int .i64 c, rv]] w fun e w' => e = .returned (.bool true) ∧ Ext w w' := by
  cases p with
  | nil => exact same_code c v rv w hg he hr hc
  | cons x p => exact same_path (x :: p) c v rv w hg he hr hc (by simp) hp
end Go.Proofs.YtlaedbglclmheaaGreatDoor

/- kinref.Fail: its contract over this seat's translation. -/
namespace Go.Proofs.YtlaedbglclmheaaGreatDoor
set_option linter.unusedVariables false
set_option linter.unusedSimpArgs false
open Go.RowKit Go.Extern.Stop Go.Stop Go.Extern
theorem fail_any (c : Int) (w : World) :
    Calls Tryz.prog 49 #[.int .i64 c] w fun e w' => e = .returned (.agg #[.int .i64 c, .slice none 0 0]) ∧ Ext w w' := by
  go_enter Tryz.func49, Tryz.ntmps49
  go_wp2
  exact bodyPost_ret (v := .agg #[.int .i64 c, .slice none 0 0]) (by simp [results, Tryz.results49, go_sem]) rfl ⟨rfl, by repeat (first | exact Ext.refl _ | apply Ext.alloc | apply Ext.setCell (ha := by simp))⟩
end Go.Proofs.YtlaedbglclmheaaGreatDoor

/- Slices of ints that are read: kinref.Ints and kinref.Within, their contracts over this seat's translation. -/
namespace Go.Proofs.YtlaedbglclmheaaGreatDoor
set_option linter.unusedVariables false
set_option linter.unusedSimpArgs false
open Go.RowKit Go.Extern.Stop Go.Stop Go.Extern

/-- a slice value that reads as these ints -/
def Ints (w : World) (v : Value) (zs : List Int) : Prop := Row w v zs.length (zs.map (Value.int .i64)) ∧ zs.length ≤ 4611686018427387903
theorem Ints.ext {w w' : World} {v : Value} {zs : List Int} (h : Ints w v zs) (k : Ext w w') : Ints w' v zs := ⟨h.1.ext k, h.2⟩
theorem Ints.form {w : World} {v : Value} {zs : List Int} (h : Ints w v zs) : ∃ a cap, v = .slice a zs.length cap := h.1.form
theorem Ints.addr {w : World} {v : Value} {zs : List Int} (h : Ints w v zs) (hn : 0 < zs.length) : ∃ g off cap, v = .slice (some ⟨g, off, none⟩) zs.length cap ∧ zs.length ≤ cap ∧ cap ≤ maxLen := h.1.some hn
theorem Ints.len {w : World} {a : Option Addr} {n cap : Nat} {zs : List Int} (h : Ints w (.slice a n cap) zs) : n = zs.length := by
  obtain ⟨a', cap', e⟩ := h.form
  simp only [Value.slice.injEq] at e
  exact e.2.1
theorem Ints.had {w : World} {a : Option Addr} {n cap : Nat} {zs : List Int} (h : Ints w (.slice a n cap) zs) (hn : 0 < n) : ∃ g off, a = some ⟨g, off, none⟩ := by
  obtain ⟨⟨a', cap', e, _, _, h3, _⟩, _⟩ := h
  simp only [Value.slice.injEq] at e
  obtain ⟨rfl, rfl, rfl⟩ := e
  exact h3 hn
theorem Ints.caps {w : World} {a : Option Addr} {n cap : Nat} {zs : List Int} (h : Ints w (.slice a n cap) zs) : n ≤ cap ∧ cap ≤ maxLen := by
  obtain ⟨⟨a', cap', e, h1, h2, _⟩, _⟩ := h
  simp only [Value.slice.injEq] at e
  obtain ⟨rfl, rfl, rfl⟩ := e
  exact ⟨h1, h2⟩
theorem Ints.at {w : World} {g off n cap : Nat} {zs : List Int} (h : Ints w (.slice (some ⟨g, off, none⟩) n cap) zs) {j : Nat} {x : Int} (hj : zs[j]? = some x) : w.cell? ⟨g, off + j, none⟩ = some (.int .i64 x) := by
  obtain ⟨⟨a, cap', h0, _, _, _, h4⟩, _⟩ := h
  simp only [Value.slice.injEq] at h0
  exact h4 g off h0.1.symm j _ (by simp [hj])
theorem Ints.of_owns {w : World} {base : Nat} {v : Value} {n : Nat} {zs : List Int} (h : w.ownsRow base 3 1 v n (zs.map (Value.int .i64))) (hl : zs.length ≤ 4611686018427387903) : Ints w v zs := by
  have hn : n = zs.length := by have := h.1; simp at this; omega
  subst hn
  exact ⟨Row.of_owns h, hl⟩
theorem Ints.nil (w : World) : Ints w (.slice none 0 0) [] := ⟨Row.nil w, by simp⟩

theorem eq_of_gets {xs ys : List Int} (hl : xs.length = ys.length) (h : ∀ j, j < xs.length → xs[j]? = ys[j]?) : xs = ys := by
  apply List.ext_getElem?
  intro j
  by_cases hj : j < xs.length
  · exact h j hj
  · rw [List.getElem?_eq_none (by omega), List.getElem?_eq_none (by omega)]

set_option maxRecDepth 20000 in
set_option maxHeartbeats 1000000 in
theorem ints_same (xs ys : List Int) (va vb : Value) (w : World) (ha : Ints w va xs) (hb : Ints w vb ys) :
    Calls Tryz.prog 21 #[va, vb] w fun e w' => e = .returned (.bool (decide (xs = ys))) ∧ Ext w w' := by
  obtain ⟨n, hn⟩ : ∃ n, n = xs.length := ⟨_, rfl⟩
  obtain ⟨m, hm⟩ : ∃ m, m = ys.length := ⟨_, rfl⟩
  have hle := ha.2
  have hle' := hb.2
  by_cases hnm : n = m
  · by_cases hz : n = 0
    · obtain ⟨a, cap, rfl⟩ := ha.form
      obtain ⟨b, cap', rfl⟩ := hb.form
      obtain rfl : xs = [] := List.eq_nil_of_length_eq_zero (by omega)
      obtain rfl : ys = [] := List.eq_nil_of_length_eq_zero (by omega)
      clear ha hb hnm hz hn hm
      go_enter Tryz.func21, Tryz.ntmps21
      go_wp2
      refine wp_loop_rounds 1 ?_
      rw [rounds_succ]
      go_wp2
      go_ret
      exact ⟨rfl, Ext.refl w⟩
    · obtain ⟨g, off, cap, rfl, c1, c2⟩ := ha.addr (by omega)
      obtain ⟨g', off', cap', rfl, c1', c2'⟩ := hb.addr (by omega)
      rw [← hn] at ha hle c1 ⊢
      rw [← hm, ← hnm] at hb c1' ⊢
      rw [← hnm] at hm
      have HN := Lib.hid hn
      have HM := Lib.hid hm
      unfold maxLen at c2 c2'
      clear hn hm hnm hle' m
      go_enter Tryz.func21, Tryz.ntmps21
      go_wp2
      go_loopw [5] (fun i wr => ∃ k : Nat, k ≤ n ∧ i = .int .i64 k ∧ Ext w wr ∧ Hid (∀ j, j < k → xs[j]? = ys[j]?)) (fun i _ => n - (intOf i).toNat)
      case atStart => exact ⟨0, Nat.zero_le _, rfl, Ext.refl w, fun j hj => absurd hj (Nat.not_lt_zero _)⟩
      case round =>
        obtain ⟨k, hk, rfl, hE, HJ⟩ := hrel
        by_cases hlt : k < n
        · obtain ⟨x, hx⟩ : ∃ x, xs[k]? = some x := ⟨_, List.getElem?_eq_getElem (by rw [← HN.out]; exact hlt)⟩
          obtain ⟨y, hy⟩ : ∃ y, ys[k]? = some y := ⟨_, List.getElem?_eq_getElem (by rw [← HM.out]; exact hlt)⟩
          have cx := hE.cell (ha.at hx)
          have cy := hE.cell (hb.at hy)
          have HX := Lib.hid hx
          have HY := Lib.hid hy
          clear hx hy
          by_cases hxy : x = y
          · subst hxy
            go_wp2
            go_quiet (fail)
            go_wp2
            go_roundw
            case rel => exact ⟨k + 1, by omega, by go_num, hE.drewN _, fun j hj => by
              by_cases hjk : j = k
              · subst hjk; rw [HX.out, HY.out]
              · exact HJ.out j (by omega)⟩
            case measure => simp [intOf]; omega
          · have hne : (x != y) = true := by simpa using hxy
            have hne2 : (x == y) = false := by simpa using hxy
            go_wp2
            go_quiet (fail)
            go_wp2
            go_ret
            refine ⟨?_, hE.drewN _⟩
            have : xs ≠ ys := fun e => by
              have h1 := HX.out
              rw [e, HY.out] at h1
              exact hxy (Option.some.inj h1).symm
            simp [this]
        · go_wp2
          go_ret
          refine ⟨?_, hE⟩
          have : xs = ys := eq_of_gets (by rw [← HN.out, ← HM.out]) (fun j hj => HJ.out j (by rw [← HN.out] at hj; omega))
          simp [this]
  · obtain ⟨a, cap, rfl⟩ := ha.form
    obtain ⟨b, cap', rfl⟩ := hb.form
    have hne : ((xs.length : Int) != (ys.length : Int)) = true := by simp; omega
    have hxy : xs ≠ ys := fun e => hnm (by rw [hn, hm, e])
    have HXY := Lib.hid hxy
    clear hnm hn hm hxy ha hb
    go_enter Tryz.func21, Tryz.ntmps21
    go_wp2
    go_ret
    exact ⟨by simp [HXY.out], Ext.refl w⟩
def within (lo hi : Int) (zs : List Int) : Prop := ∀ x ∈ zs, lo ≤ x ∧ x ≤ hi
instance (lo hi : Int) (zs : List Int) : Decidable (within lo hi zs) := by unfold within; exact inferInstance
theorem within_of_gets {lo hi : Int} {zs : List Int} (h : ∀ j x, j < zs.length → zs[j]? = some x → lo ≤ x ∧ x ≤ hi) : within lo hi zs := fun x hx => by
  obtain ⟨j, hj, e⟩ := List.mem_iff_getElem.1 hx
  exact h j x hj (by rw [List.getElem?_eq_getElem hj, e])
theorem within.at {lo hi : Int} {zs : List Int} (h : within lo hi zs) {j : Nat} {x : Int} (hj : zs[j]? = some x) : lo ≤ x ∧ x ≤ hi := h x (List.mem_of_getElem? hj)

set_option maxRecDepth 20000 in
set_option maxHeartbeats 1000000 in
theorem within_any (zs : List Int) (lo hi : Int) (v : Value) (w : World) (ha : Ints w v zs) :
    Calls Tryz.prog 138 #[v, .int .i64 lo, .int .i64 hi] w fun e w' => e = .returned (.bool (decide (within lo hi zs))) ∧ Ext w w' := by
  obtain ⟨n, hn⟩ : ∃ n, n = zs.length := ⟨_, rfl⟩
  have hle := ha.2
  by_cases hz : n = 0
  · obtain ⟨a, cap, rfl⟩ := ha.form
    obtain rfl : zs = [] := List.eq_nil_of_length_eq_zero (by omega)
    clear ha hz hn
    go_enter Tryz.func138, Tryz.ntmps138
    go_wp2
    refine wp_loop_rounds 1 ?_
    rw [rounds_succ]
    go_wp2
    go_ret
    exact ⟨by simp [within], Ext.refl w⟩
  · obtain ⟨g, off, cap, rfl, c1, c2⟩ := ha.addr (by omega)
    rw [← hn] at ha hle c1 ⊢
    have HN := Lib.hid hn
    unfold maxLen at c2
    clear hn
    go_enter Tryz.func138, Tryz.ntmps138
    go_wp2
    go_loop [7] (fun i => ∃ k : Nat, k ≤ n ∧ i = .int .i64 k ∧ Hid (∀ j x, j < k → zs[j]? = some x → lo ≤ x ∧ x ≤ hi)) (fun i => n - (intOf i).toNat)
    case atStart => exact ⟨0, Nat.zero_le _, rfl, fun j _ hj => absurd hj (Nat.not_lt_zero _)⟩
    case round =>
      obtain ⟨k, hk, rfl, HJ⟩ := hrel
      by_cases hlt : k < n
      · obtain ⟨x, hx⟩ : ∃ x, zs[k]? = some x := ⟨_, List.getElem?_eq_getElem (by rw [← HN.out]; exact hlt)⟩
        have cx := ha.at hx
        have HX := Lib.hid hx
        clear hx
        by_cases h1 : x < lo
        · go_wp2
          go_ret
          refine ⟨?_, Ext.refl w⟩
          have : ¬ within lo hi zs := fun hw => by have := (hw.at HX.out).1; omega
          simp [this]
        · by_cases h2 : hi < x
          · go_wp2
            go_ret
            refine ⟨?_, Ext.refl w⟩
            have : ¬ within lo hi zs := fun hw => by have := (hw.at HX.out).2; omega
            simp [this]
          · go_wp2
            go_round
            case rel => exact ⟨k + 1, by omega, by go_num, fun j y hj hy => by
              by_cases hjk : j = k
              · subst hjk
                have : x = y := Option.some.inj (HX.out.symm.trans hy)
                omega
              · exact HJ.out j y (by omega) hy⟩
            case measure => simp [intOf]; omega
      · go_wp2
        go_ret
        refine ⟨?_, Ext.refl w⟩
        have : within lo hi zs := within_of_gets fun j x hj hx => HJ.out j x (by rw [← HN.out] at hj; omega) hx
        simp [this]
end Go.Proofs.YtlaedbglclmheaaGreatDoor

/- kinref.CopyInts: its contract over this seat's translation; what an append of one int does to a slice of the call's own. -/
namespace Go.Proofs.YtlaedbglclmheaaGreatDoor
set_option linter.unusedVariables false
set_option linter.unusedSimpArgs false
open Go.RowKit Go.Extern.Stop Go.Stop Go.Extern

theorem infoInt : (Tryz.prog.info? 3).map (fun i => (i.zero, i.size, i.bytes)) = some (some (.int .i64 0), 1, 8) := by kernel_rfl

theorem news_of_ints {w : World} {g off n cap : Nat} {zs : List Int} (h : Ints w (.slice (some ⟨g, off, none⟩) n cap) zs) : ∀ j u, (zs.map (Value.int .i64))[j]? = some u → w.cell? ((⟨g, off, none⟩ : Addr).add j) = some u := fun j u hu => by
  have hadd : (⟨g, off, none⟩ : Addr).add j = ⟨g, off + j, none⟩ := by unfold Addr.add; split <;> simp_all
  rw [List.getElem?_map] at hu
  obtain ⟨x, hx, rfl⟩ := Option.map_eq_some_iff.1 hu
  rw [hadd]
  exact h.at hx
theorem ints_one (zs : List Int) : ∀ u ∈ zs.map (Value.int .i64), u.oneCell' = true := fun u hu => by
  obtain ⟨x, _, rfl⟩ := List.mem_map.1 hu
  rfl

theorem one_int (x : Int) : ∀ u ∈ [Value.int .i64 x], u.oneCell' = true := fun u hu => by
  obtain rfl := List.mem_singleton.1 hu
  rfl
theorem drop_of_get {α : Type} {zs : List α} {k : Nat} {x : α} (h : zs[k]? = some x) : zs.drop k = x :: zs.drop (k + 1) := by
  obtain ⟨hk, e⟩ := List.getElem?_eq_some_iff.1 h
  rw [List.drop_eq_getElem_cons hk, e]
theorem take_of_get {α : Type} {zs : List α} {k : Nat} {x : α} (h : zs[k]? = some x) : zs.take (k + 1) = zs.take k ++ [x] := by
  obtain ⟨hk, e⟩ := List.getElem?_eq_some_iff.1 h
  rw [List.take_succ_eq_append_getElem hk, e]
end Go.Proofs.YtlaedbglclmheaaGreatDoor

/- An append of one int to a slice that the call itself made: the law in the form that the walks of this seat take. -/
namespace Go.Proofs.YtlaedbglclmheaaGreatDoor
set_option linter.unusedVariables false
set_option linter.unusedSimpArgs false
open Go.RowKit

theorem push_int {ops : Array Oper} {rest : List Oper} {o : Oper} {a : Act} {Q : Exit → Act → World → Prop} {W : World} {base : Nat} (hgd : o.guard = none) (s y : Operand) (t : TypeId)
    (ho : o.op = .call { callee := .builtin .append, args := #[s, y], argTypes := #[t, t] }) (ht : Tryz.prog.underlying t = some (.slice 3))
    (v : Value) (n : Nat) (xs : List Value) (x : Int) (hs : a.eval s = v) (hown : W.ownsRow base 3 1 v n xs) (hx : a.eval y = .slice (some ⟨W.heap.size, 0, none⟩) 1 1) (hb : base ≤ W.heap.size) (hn : n ≤ 1000000000000)
    (h : ∀ v' w', w'.ownsRow base 3 1 v' (n + 1) (xs ++ [.int .i64 x]) → Below base W w' → wpList Tryz.prog ops Q rest (a.put o.dst v') w') :
    wpList Tryz.prog ops Q (o :: rest) a (W.alloc (.cells #[.int .i64 x] 3)) := by
  obtain ⟨i0, hi, hz0, hz1, hz2⟩ := info_parts infoInt
  refine wpList_append_own _ hgd s y t ho base 3 i0 (.int .i64 0) 1 8 ht hi hz0 hz1 hz2 rfl (by decide) v n xs hs (hown.alloc _) ⟨W.heap.size, 0, none⟩ 1 1 [.int .i64 x] hx rfl (cell_one_new _ _ _) (one_int _) (by unfold maxLen; omega) (by omega) (by simp; omega) ?_
  intro v' w' h1 h2 _
  exact h v' w' h1 (Below.grown ((Below.refl base W).alloc hb _) h2 (by simp; omega) (fun k hk => (hown.lt k hk).1))
theorem Ext.of_below {w a b : World} {B : Nat} (h : Ext w a) (k : Below B a b) (hB : w.heap.size ≤ B) : Ext w b := Below.trans h (Below.mono k hB)
theorem Below.cellv {B : Nat} {a b : World} (k : Below B a b) {p : Addr} {v : Value} (h : a.cell? p = some v) (hp : p.block < B) : b.cell? p = some v := (Below.cell k hp).trans h
/-- likewise, at a step of a region that draws its order -/
theorem step_push {ops : Array Oper} {o : Oper} {a : Act} {K : Act → World → Prop} {Q : Exit → Act → World → Prop} {E : Prop} {W : World} {base : Nat} (hgd : o.guard = none) (s y : Operand) (t : TypeId)
    (ho : o.op = .call { callee := .builtin .append, args := #[s, y], argTypes := #[t, t] }) (ht : Tryz.prog.underlying t = some (.slice 3))
    (v : Value) (n : Nat) (xs : List Value) (x : Int) (hs : a.eval s = v) (hown : W.ownsRow base 3 1 v n xs) (hx : a.eval y = .slice (some ⟨W.heap.size, 0, none⟩) 1 1) (hb : base ≤ W.heap.size) (hn : n ≤ 1000000000000)
    (h : ∀ g cap w', w'.ownsRow base 3 1 (.slice (some ⟨g, 0, none⟩) (n + 1) cap) (n + 1) (xs ++ [.int .i64 x]) → Below base W w' → W.grownBy w' v.ownBlock → K (a.put o.dst (.slice (some ⟨g, 0, none⟩) (n + 1) cap)) w') :
    if Region.wanted o (yielded ops a.tmps) = true then Oper.wp Tryz.prog o a ((W.alloc (.cells #[.int .i64 x] 3)).drew) K Q else E := by
  obtain ⟨i0, hi, hz0, hz1, hz2⟩ := info_parts infoInt
  have hown' : ((W.alloc (.cells #[.int .i64 x] 3)).drew).ownsRow base 3 1 v n xs := (hown.alloc _).drew
  refine step_append_lies _ hgd s y t ho base 3 i0 (.int .i64 0) 1 8 ht hi hz0 hz1 hz2 rfl (by decide) v n xs hs hown' ⟨W.heap.size, 0, none⟩ 1 1 [.int .i64 x] hx rfl (World.news_of_block (cs := #[.int .i64 x]) (t := 3) (fr := (0, 0)) (heap_alloc_new W _)) (one_int _) (by decide) (by unfold maxLen; omega) (by omega) (by simp; omega) (W.heap.size + 1) (by simp) ?_
  intro g cap w' h1 h2 _ _
  refine h g cap w' h1 (Below.grown (((Below.refl base W).alloc hb _).drew) h2 (by simp; omega) (fun k hk => (hown.lt k hk).1)) ⟨h2.os, h2.tape, h2.output, Nat.le_trans (by simp) h2.size, fun k hk hne => ?_⟩
  exact (h2.block k (by simp; omega) hne).trans (Below.heap_alloc W _ k hk)
end Go.Proofs.YtlaedbglclmheaaGreatDoor

/- A world in which all blocks but one stay. -/
namespace Go.Proofs.YtlaedbglclmheaaGreatDoor
set_option linter.unusedVariables false
set_option linter.unusedSimpArgs false
open Go.RowKit Go.Extern.Stop Go.Stop Go.Extern

/-- all that was there stays, but for one block -/
def Kp (b : Nat) (w w' : World) : Prop := World.grownBy w w' (some b)
theorem Kp.refl (b : Nat) (w : World) : Kp b w w := ⟨rfl, rfl, rfl, Nat.le_refl _, fun _ _ _ => rfl⟩
theorem Kp.size {b : Nat} {w w' : World} (h : Kp b w w') : w.heap.size ≤ w'.heap.size := World.grownBy.size h
theorem Kp.block {b : Nat} {w w' : World} (h : Kp b w w') {k : Nat} (hk : k < w.heap.size) (hb : k ≠ b) : w'.heap[k]? = w.heap[k]? := World.grownBy.block h k hk (fun e => hb (Option.some.inj e))
theorem Kp.trans {b : Nat} {u v w : World} (h : Kp b u v) (k : Kp b v w) : Kp b u w :=
  ⟨(World.grownBy.os k).trans (World.grownBy.os h), (World.grownBy.tape k).trans (World.grownBy.tape h), (World.grownBy.output k).trans (World.grownBy.output h), Nat.le_trans h.size k.size, fun i hi hn => (World.grownBy.block k i (Nat.lt_of_lt_of_le hi h.size) hn).trans (World.grownBy.block h i hi hn)⟩
theorem Kp.of_ext {b : Nat} {w w' : World} (h : Ext w w') : Kp b w w' := ⟨Below.os h, Below.tape h, Below.output h, h.size, fun _ hi _ => h.block hi⟩
theorem Kp.ext {b : Nat} {u v w : World} (h : Kp b u v) (k : Ext v w) : Kp b u w := h.trans (Kp.of_ext k)
theorem Kp.set {b : Nat} {u v : World} (h : Kp b u v) (o : Nat) (x : Value) : Kp b u (v.setCell ⟨b, o, none⟩ x) :=
  h.trans ⟨rfl, rfl, rfl, by simp, fun i _ hn => Below.heap_setCell v ⟨b, o, none⟩ x i (fun e => hn (by rw [e]))⟩
theorem Kp.cell {b : Nat} {w w' : World} (h : Kp b w w') {p : Addr} {v : Value} (hp : w.cell? p = some v) (hb : p.block ≠ b) : w'.cell? p = some v :=
  (World.cell?_of_block (h.block (Ext.lt hp) hb)).trans hp
theorem Kp.frozen {b : Nat} {w w' : World} (h : Kp b w w') {p : Addr} (hp : p.block < w.heap.size) (hb : p.block ≠ b) : w'.frozen? p = w.frozen? p :=
  World.frozen?_of_block (h.block hp hb)
/-- what lay there before the block -/
theorem Kp.out {b : Nat} {u v w : World} (h : Ext u v) (k : Kp b v w) (hb : u.heap.size ≤ b) : Ext u w :=
  Below.trans (c := w) h ⟨World.grownBy.os k, World.grownBy.tape k, World.grownBy.output k, k.size, fun i hi => k.block (Nat.lt_of_lt_of_le hi h.size) (by omega)⟩
end Go.Proofs.YtlaedbglclmheaaGreatDoor

/- What a call answers beside its value: nothing, or a code behind a path; the program's error and the document's, held against one another. -/
namespace Go.Proofs.YtlaedbglclmheaaGreatDoor
set_option linter.unusedVariables false
set_option linter.unusedSimpArgs false
open Go.RowKit Go.Extern.Stop Go.Stop Go.Extern

/-- none, or a path and a code -/
abbrev Fall := Option (List (ByteArray × Int) × Int)
def Fall.okay : Fall → Prop
  | none => True
  | some (p, c) => c ≠ 0 ∧ p.length ≤ 1000000
def ErrIs (w : World) (f : Fall) (x : Value) : Prop := match f with
  | none => x = .nilIface
  | some (p, c) => IsErr w p c x ∧ c ≠ 0 ∧ p.length ≤ 1000000
def RErrIs (w : World) (f : Fall) (c : Int) (v : Value) : Prop := match f with
  | none => c = 0 ∧ v = .slice none 0 0
  | some (p, k) => c = k ∧ k ≠ 0 ∧ Row w v p.length (stepCells p)
theorem ErrIs.ext {w w' : World} {f : Fall} {x : Value} (h : ErrIs w f x) (k : Ext w w') : ErrIs w' f x := by
  cases f with
  | none => exact h
  | some a => exact ⟨h.1.ext k, h.2⟩
theorem RErrIs.ext {w w' : World} {f : Fall} {c : Int} {x : Value} (h : RErrIs w f c x) (k : Ext w w') : RErrIs w' f c x := by
  cases f with
  | none => exact h
  | some a => exact ⟨h.1, h.2.1, h.2.2.ext k⟩
theorem ErrIs.code {w : World} {c : Int} (h : c ≠ 0) : ErrIs w (some ([], c)) (.iface 35 (.int .i64 c)) := ⟨rfl, h, by simp⟩
theorem RErrIs.code {w : World} {c : Int} (h : c ≠ 0) : RErrIs w (some ([], c)) c (.slice none 0 0) := ⟨rfl, h, Row.nil w⟩
theorem RErrIs.zero {w : World} : RErrIs w none 0 (.slice none 0 0) := ⟨rfl, rfl⟩
theorem ErrIs.ne {w : World} {a : List (ByteArray × Int) × Int} {x : Value} (h : ErrIs w (some a) x) : ∃ t v, x = .iface t v := h.1.ne_nil

/-- kinsame.Err of two that tell the same -/
theorem same_fall (f : Fall) (x v : Value) (c : Int) (w : World) (hg : EtIs w) (h : ErrIs w f x) (k : RErrIs w f c v) :
    Calls Tryz.prog 19 #[x, .agg #[.int .i64 c, v]] w fun e w' => e = .returned (.bool true) ∧ Ext w w' := by
  cases f with
  | none =>
    obtain rfl := h
    obtain ⟨rfl, rfl⟩ := k
    exact same_nil w hg
  | some a =>
    obtain ⟨p, c'⟩ := a
    obtain ⟨h1, h2, h3⟩ := h
    obtain ⟨rfl, -, k3⟩ := k
    exact same_err p c x v w hg h1 k3 h2 h3

/-- an int and an error; the document's -/
def IPost (w : World) (n : Int) (f : Fall) (e : Ending) (w' : World) : Prop := ∃ x, e = .returned (.tuple #[.int .i64 n, x]) ∧ Ext w w' ∧ ErrIs w' f x
def RIPost (w : World) (n : Int) (f : Fall) (e : Ending) (w' : World) : Prop := ∃ c a m k, e = .returned (.tuple #[.int .i64 n, .agg #[.int .i64 c, .slice a m k]]) ∧ Ext w w' ∧ RErrIs w' f c (.slice a m k)
/-- an error alone -/
def EPost (w : World) (f : Fall) (e : Ending) (w' : World) : Prop := ∃ x, e = .returned x ∧ Ext w w' ∧ ErrIs w' f x
def REPost (w : World) (f : Fall) (e : Ending) (w' : World) : Prop := ∃ c a m k, e = .returned (.agg #[.int .i64 c, .slice a m k]) ∧ Ext w w' ∧ RErrIs w' f c (.slice a m k)
/-- ints and an error -/
def ZPost (w : World) (zs : List Int) (f : Fall) (e : Ending) (w' : World) : Prop := ∃ u x, e = .returned (.tuple #[u, x]) ∧ Ext w w' ∧ Ints w' u zs ∧ ErrIs w' f x
def RZPost (w : World) (zs : List Int) (f : Fall) (e : Ending) (w' : World) : Prop := ∃ u c a m k, e = .returned (.tuple #[u, .agg #[.int .i64 c, .slice a m k]]) ∧ Ext w w' ∧ Ints w' u zs ∧ RErrIs w' f c (.slice a m k)
/-- a variable that holds the document's error -/
theorem evar (w : World) (c : Int) (a : Option Addr) (m k : Nat) {W : World} (h : Ext (w.alloc (.cells #[.int .i64 c, .slice a m k] 38)) W) :
    W.cell? ⟨w.heap.size, 0, none⟩ = some (.int .i64 c) ∧ W.cell? ⟨w.heap.size, 1, none⟩ = some (.slice a m k) := ⟨h.cell (by simp), h.cell (by simp)⟩
end Go.Proofs.YtlaedbglclmheaaGreatDoor
