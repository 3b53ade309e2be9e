/- Contracts of this seat: Err, Err2, Err3, Err4, Same, Fail. -/
import Derived.Test.YtcekpngkfldgkaaGreatDoorXErrFacts
import Derived.Deep.LoopGhost
import Derived.Lib.Hide
import Derived.StillTailTactics
import Derived.Deep.QuietTactic
import Derived.BigQuiet
import Derived.Deep.AppendLies
import Derived.Deep.RegionHeld3
namespace Go.Proofs.YtcekpngkfldgkaaGreatDoor
set_option linter.unusedVariables false
set_option linter.unusedSimpArgs false
open Go.RowKit Go.Extern.Stop Go.Stop Go.Extern
def Ext (w w' : World) : Prop := Below w.heap.size w w'
theorem Ext.refl (w : World) : Ext w w := Below.refl _ _
theorem Ext.size {w w' : World} (h : Ext w w') : w.heap.size ≤ w'.heap.size := Below.size h
theorem Ext.trans {a b c : World} (h : Ext a b) (k : Ext b c) : Ext a c := Below.trans h (Below.mono k h.size)
theorem Ext.alloc {a w : World} (h : Ext a w) (o : Obj) : Ext a (w.alloc o) := Below.alloc h h.size o
theorem Ext.drew {a w : World} (h : Ext a w) : Ext a w.drew := Below.drew h
theorem Ext.setCell {a w : World} (h : Ext a w) {p : Addr} (hp : a.heap.size ≤ p.block) (u : Value) : Ext a (w.setCell p u) := Below.setCell h hp u
theorem Ext.lt {w : World} {p : Addr} {v : Value} (h : w.cell? p = some v) : p.block < w.heap.size := World.block_lt_of_cell? w p h
theorem Ext.cell {w w' : World} (h : Ext w w') {p : Addr} {v : Value} (hp : w.cell? p = some v) : w'.cell? p = some v := (Below.cell h (Ext.lt hp)).trans hp
theorem Ext.block {w w' : World} (h : Ext w w') {k : Nat} (hk : k < w.heap.size) : w'.heap[k]? = w.heap[k]? := Below.block h k hk
def IsErr (w : World) : List (ByteArray × Int) → Int → Value → Prop
 | [], c, v => v = .iface 40 (.int .i64 c)
 | (s, n) :: p, c, v => ∃ b u, v = .iface 117 (.pointer (some ⟨b, 0, none⟩)) ∧ w.cell? ⟨b, 0, none⟩ = some (.string s) ∧ w.cell? ⟨b, 1, none⟩ = some (.int .i64 n) ∧ w.cell? ⟨b, 2, none⟩ = some u ∧ IsErr w p c u
theorem IsErr.ext {w w' : World} (h : Ext w w') : ∀ {p : List (ByteArray × Int)} {c : Int} {v : Value}, IsErr w p c v → IsErr w' p c v
 | [], _, _, hv => hv
 | (_, _) :: _, _, _, ⟨b, u, hv, h0, h1, h2, hu⟩ => ⟨b, u, hv, h.cell h0, h.cell h1, h.cell h2, hu.ext h⟩
theorem IsErr.ne_nil {w : World} {p : List (ByteArray × Int)} {c : Int} {v : Value} (h : IsErr w p c v) : ∃ t x, v = .iface t x := by
 cases p with
 | nil => exact ⟨_, _, h⟩
 | cons a p => obtain ⟨b, u, hv, _⟩ := h; exact ⟨_, _, hv⟩
theorem unwrap_any (b : Nat) (u : Value) (w : World) (h : w.cell? ⟨b, 2, none⟩ = some u) :
 Calls Tryz.prog 200 #[.pointer (some ⟨b, 0, none⟩)] w fun e w' => e = .returned u ∧ w = w' := by
 go_enter Tryz.func200, Tryz.ntmps200
 go_wp2
 go_ret
 exact ⟨rfl, rfl⟩
set_option maxHeartbeats 2000000 in
theorem as_code (p : List (ByteArray × Int)) (c : Int) (e old : Value) (t a : Addr) (w : World) (he : IsErr w p c e) (ha : w.cell? a = some (.pointer (some t))) (ht : w.cell? t = some old) (hf : w.frozen? t = false) :
 Calls Tryz.prog 87 #[e, .iface 106 (.pointer (some t)), .agg #[.pointer (some ⟨1, 106, none⟩), .pointer (some a), .int .u64 150], .iface 193 (.agg #[.pointer (some ⟨1, 40, none⟩)])] w
  fun ev w' => ev = .returned (.bool true) ∧ ∃ w1, Ext w w1 ∧ w' = w1.setCell t (.int .i64 c) := by
 have xTO := ex1
 have xVO := ex2
 have xAs := ex3
 have xEl := ex4
 have xSet := ex5
 have tOC := typeOfC
 have tOF := typeOfF
 have mA := methodAssignableTo
 have aCC := assignCC
 have aFC := assignFC
 have vC := valueOfC
 have nAC := noAsC
 have nAF := noAsF
 have uF := unwrapF
 have nF := nilAheadF
 have mU := methodUnwrapF
 have hE : Ext w (w.alloc (.cells #[.pointer (some ⟨1, 106, none⟩), .pointer (some a), .int .u64 150] 141)) := (Ext.refl w).alloc _
 go_enter Tryz.func87, Tryz.ntmps87
 go_wp2
 go_loopg [0] (p.length) (fun k u wr => ∃ q, q.length = k ∧ IsErr w q c u ∧ wr = w.alloc (.cells #[.pointer (some ⟨1, 106, none⟩), .pointer (some a), .int .u64 150] 141))
 case atStart => exact ⟨p, rfl, he, rfl⟩
 case round =>
  obtain ⟨q, hq, hu, hwr⟩ := hrel
  cases q with
  | nil =>
    have hu' : _ = Value.iface 40 (.int .i64 c) := hu
    subst hu'
    subst hwr
    have el := elemVPC a t ((w.alloc (.cells #[.pointer (some ⟨1, 106, none⟩), .pointer (some a), .int .u64 150] 141))) (hE.cell ha)
    have st := setC t ⟨w.heap.size + 1, 0, none⟩ c old ((w.alloc (.cells #[.pointer (some ⟨1, 106, none⟩), .pointer (some a), .int .u64 150] 141)).alloc (.cells #[.int .i64 c] 40)) (by rw [World.cell?_alloc_at _ _ _ _ (by simp)]; rfl) ((hE.alloc _).cell ht) ((Below.frozen (hE.alloc _) (Ext.lt ht)).trans hf)
    go_wp2
    go_ret
    exact ⟨rfl, _, hE.alloc _, rfl⟩
  | cons x q =>
    obtain ⟨s, n⟩ := x
    obtain ⟨b, u', hv, _, _, h2, hu'⟩ := hu
    obtain ⟨tx, vx, hne⟩ := hu'.ne_nil
    subst hv
    subst hwr
    subst hne
    have HQ := Lib.hid hq
    clear hq
    go_wp2_with (go_at_call 200; refine (unwrap_any b _ _ (hE.cell h2)).mono ?_; rintro e w' ⟨rfl, rfl⟩)
    go_roundg (q.length)
    case measure => have := HQ.out; simp at this; omega
    case rel => exact ⟨q, rfl, hu', rfl⟩
def EtIs (w : World) : Prop := w.cell? ⟨0, 0, none⟩ = some (.iface 193 (.agg #[.pointer (some ⟨1, 37, none⟩)]))
theorem EtIs.ext {w w' : World} (h : EtIs w) (e : Ext w w') : EtIs w' := e.cell h
set_option maxHeartbeats 2000000 in
theorem As_code (p : List (ByteArray × Int)) (c : Int) (e old : Value) (t : Addr) (w : World) (hg : EtIs w) (he : IsErr w p c e) (ht : w.cell? t = some old) (hf : w.frozen? t = false) :
 Calls Tryz.prog 57 #[e, .iface 106 (.pointer (some t))] w
  fun ev w' => ev = .returned (.bool true) ∧ ∃ w1, Ext w w1 ∧ w' = w1.setCell t (.int .i64 c) := by
 have xVO := ex2
 have xTy := ex6
 have xIN := ex7
 have xKd := ex8
 have xEl := ex9
 have xIm := ex10
 have vPC := valueOfPC
 have tyPC := typePC
 have mK := methodKind
 have mE := methodElem
 have mI := methodImplements
 have kPC := kindPC
 have kC := kindOfC
 have ePC := elemPC
 have iC := implC
 have E1 : Ext w (w.alloc (.cells #[.pointer (some t)] 106)) := (Ext.refl w).alloc _
 have E2 := E1.alloc (.cells #[.pointer (some ⟨1, 106, none⟩), .pointer (some ⟨w.heap.size, 0, none⟩), .int .u64 150] 141)
 have n8 := isNilPC ⟨w.heap.size, 0, none⟩ t ((w.alloc (.cells #[.pointer (some t)] 106)).alloc (.cells #[.pointer (some ⟨1, 106, none⟩), .pointer (some ⟨w.heap.size, 0, none⟩), .int .u64 150] 141)) (by simp)
 have hg2 := E2.cell hg
 obtain ⟨tx, vx, hne⟩ := he.ne_nil
 subst hne
 go_enter Tryz.func57, Tryz.ntmps57
 go_wp2_with (go_at_call 87; refine (as_code p c _ old t ⟨w.heap.size, 0, none⟩ _ (he.ext E2) (by simp) (E2.cell ht) ((Below.frozen E2 (Ext.lt ht)).trans hf)).mono ?_; rintro e w' ⟨rfl, w1, hx, rfl⟩)
 go_ret
 exact ⟨rfl, w1, E2.trans hx, rfl⟩
theorem setCell_cell {w : World} {p : Addr} {v : Value} (h : w.cell? p = some v) (u : Value) : (w.setCell p u).cell? p = some u := World.cell?_setCell_same w p u h
theorem of_nil (w : World) : Calls Tryz.prog 27 #[.nilIface] w fun e w' => e = .returned (.int .i64 0) ∧ Ext w w' := by
 go_enter Tryz.func27, Tryz.ntmps27
 go_wp2
 go_ret
 exact ⟨rfl, Ext.refl w⟩
set_option maxHeartbeats 1000000 in
theorem of_err (p : List (ByteArray × Int)) (c : Int) (v : Value) (w : World) (hg : EtIs w) (he : IsErr w p c v) :
 Calls Tryz.prog 27 #[v] w fun e w' => e = .returned (.int .i64 c) ∧ Ext w w' := by
 have E1 : Ext w (w.alloc (.cells #[.int .i64 0] 40)) := (Ext.refl w).alloc _
 obtain ⟨tx, vx, hne⟩ := he.ne_nil
 subst hne
 go_enter Tryz.func27, Tryz.ntmps27
 go_wp2_with (go_at_call 57; refine (As_code p c _ (.int .i64 0) ⟨w.heap.size, 0, none⟩ _ (hg.ext E1) (he.ext E1) (by simp) (by simp)).mono ?_; rintro e w' ⟨rfl, w1, hx, rfl⟩; have hcl := setCell_cell (hx.cell (show (w.alloc (.cells #[.int .i64 0] 40)).cell? ⟨w.heap.size, 0, none⟩ = some (.int .i64 0) by simp)) (.int .i64 c))
 go_ret
 exact ⟨rfl, (E1.trans hx).setCell (Nat.le_refl _) _⟩
set_option maxHeartbeats 2000000 in
theorem as_fault (b : Nat) (old : Value) (t a : Addr) (w : World) (ha : w.cell? a = some (.pointer (some t))) (ht : w.cell? t = some old) (hf : w.frozen? t = false) :
 Calls Tryz.prog 87 #[.iface 117 (.pointer (some ⟨b, 0, none⟩)), .iface 118 (.pointer (some t)), .agg #[.pointer (some ⟨1, 118, none⟩), .pointer (some a), .int .u64 150], .iface 193 (.agg #[.pointer (some ⟨1, 117, none⟩)])] w
  fun ev w' => ev = .returned (.bool true) ∧ ∃ w1, Ext w w1 ∧ w' = w1.setCell t (.pointer (some ⟨b, 0, none⟩)) := by
 have xTO := ex1
 have xVO := ex2
 have xAs := ex3
 have xEl := ex4
 have xSet := ex5
 have tOF := typeOfF
 have mA := methodAssignableTo
 have aFF := assignFF
 have vF := valueOfF
 have hE : Ext w (w.alloc (.cells #[.pointer (some ⟨1, 118, none⟩), .pointer (some a), .int .u64 150] 141)) := (Ext.refl w).alloc _
 have el := elemVPF a t ((w.alloc (.cells #[.pointer (some ⟨1, 118, none⟩), .pointer (some a), .int .u64 150] 141))) (hE.cell ha)
 have st := setF t ⟨w.heap.size + 1, 0, none⟩ ⟨b, 0, none⟩ old ((w.alloc (.cells #[.pointer (some ⟨1, 118, none⟩), .pointer (some a), .int .u64 150] 141)).alloc (.cells #[.pointer (some ⟨b, 0, none⟩)] 117)) (by rw [World.cell?_alloc_at _ _ _ _ (by simp)]; rfl) ((hE.alloc _).cell ht) ((Below.frozen (hE.alloc _) (Ext.lt ht)).trans hf)
 go_enter Tryz.func87, Tryz.ntmps87
 go_wp2
 refine wp_loop_rounds 1 ?_
 rw [rounds_succ]
 go_wp2
 go_ret
 exact ⟨rfl, _, hE.alloc _, rfl⟩
set_option maxHeartbeats 2000000 in
theorem as_fault_no (c : Int) (t a : Addr) (w : World) :
 Calls Tryz.prog 87 #[.iface 40 (.int .i64 c), .iface 118 (.pointer (some t)), .agg #[.pointer (some ⟨1, 118, none⟩), .pointer (some a), .int .u64 150], .iface 193 (.agg #[.pointer (some ⟨1, 117, none⟩)])] w
  fun ev w' => ev = .returned (.bool false) ∧ Ext w w' := by
 have xTO := ex1
 have xAs := ex3
 have tOC := typeOfC
 have mA := methodAssignableTo
 have aCF := assignCF
 have nAC := noAsC
 have nUC := noUnwrapC
 have nUsC := noUnwrapsC
 have hE : Ext w (w.alloc (.cells #[.pointer (some ⟨1, 118, none⟩), .pointer (some a), .int .u64 150] 141)) := (Ext.refl w).alloc _
 go_enter Tryz.func87, Tryz.ntmps87
 go_wp2
 refine wp_loop_rounds 1 ?_
 rw [rounds_succ]
 go_wp2
 go_ret
 exact ⟨rfl, hE⟩
set_option maxHeartbeats 2000000 in
theorem As_fault (b : Nat) (old : Value) (t : Addr) (w : World) (hg : EtIs w) (ht : w.cell? t = some old) (hf : w.frozen? t = false) :
 Calls Tryz.prog 57 #[.iface 117 (.pointer (some ⟨b, 0, none⟩)), .iface 118 (.pointer (some t))] w
  fun ev w' => ev = .returned (.bool true) ∧ ∃ w1, Ext w w1 ∧ w' = w1.setCell t (.pointer (some ⟨b, 0, none⟩)) := by
 have xVO := ex2
 have xTy := ex6
 have xIN := ex7
 have xKd := ex8
 have xEl := ex9
 have xIm := ex10
 have vPC := valueOfPF
 have tyPC := typePF
 have mK := methodKind
 have mE := methodElem
 have mI := methodImplements
 have kPC := kindPF
 have kC := kindOfF
 have ePC := elemPF
 have iC := implF
 have E1 : Ext w (w.alloc (.cells #[.pointer (some t)] 118)) := (Ext.refl w).alloc _
 have E2 := E1.alloc (.cells #[.pointer (some ⟨1, 118, none⟩), .pointer (some ⟨w.heap.size, 0, none⟩), .int .u64 150] 141)
 have n8 := isNilPF ⟨w.heap.size, 0, none⟩ t ((w.alloc (.cells #[.pointer (some t)] 118)).alloc (.cells #[.pointer (some ⟨1, 118, none⟩), .pointer (some ⟨w.heap.size, 0, none⟩), .int .u64 150] 141)) (by simp)
 have hg2 := E2.cell hg
 go_enter Tryz.func57, Tryz.ntmps57
 go_wp2_with (go_at_call 87; refine (as_fault b old t ⟨w.heap.size, 0, none⟩ _ (by simp) (E2.cell ht) ((Below.frozen E2 (Ext.lt ht)).trans hf)).mono ?_; rintro e w' ⟨rfl, w1, hx, rfl⟩)
 go_ret
 exact ⟨rfl, w1, E2.trans hx, rfl⟩
set_option maxHeartbeats 2000000 in
theorem As_fault_no (c : Int) (t : Addr) (w : World) (hg : EtIs w) :
 Calls Tryz.prog 57 #[.iface 40 (.int .i64 c), .iface 118 (.pointer (some t))] w
  fun ev w' => ev = .returned (.bool false) ∧ Ext w w' := by
 have xVO := ex2
 have xTy := ex6
 have xIN := ex7
 have xKd := ex8
 have xEl := ex9
 have xIm := ex10
 have vPC := valueOfPF
 have tyPC := typePF
 have mK := methodKind
 have mE := methodElem
 have mI := methodImplements
 have kPC := kindPF
 have kC := kindOfF
 have ePC := elemPF
 have iC := implF
 have E1 : Ext w (w.alloc (.cells #[.pointer (some t)] 118)) := (Ext.refl w).alloc _
 have E2 := E1.alloc (.cells #[.pointer (some ⟨1, 118, none⟩), .pointer (some ⟨w.heap.size, 0, none⟩), .int .u64 150] 141)
 have n8 := isNilPF ⟨w.heap.size, 0, none⟩ t ((w.alloc (.cells #[.pointer (some t)] 118)).alloc (.cells #[.pointer (some ⟨1, 118, none⟩), .pointer (some ⟨w.heap.size, 0, none⟩), .int .u64 150] 141)) (by simp)
 have hg2 := E2.cell hg
 go_enter Tryz.func57, Tryz.ntmps57
 go_wp2_with (go_at_call 87; refine (as_fault_no c t ⟨w.heap.size, 0, none⟩ _).mono ?_; rintro e w' ⟨rfl, hx⟩)
 go_ret
 exact ⟨rfl, E2.trans hx⟩
theorem ownsRow_ext {w w' : World} {base : Nat} {e : TypeId} {size : Nat} {v : Value} {n : Nat} {xs : List Value} (h : w.ownsRow base e size v n xs) (k : Ext w w') : w'.ownsRow base e size v n xs := by
 obtain ⟨h1, h2⟩ := h
 refine ⟨h1, ?_⟩
 rcases h2 with h2 | ⟨g, cap, cur, hv, hg, hh, r⟩
 · exact Or.inl h2
 · exact Or.inr ⟨g, cap, cur, hv, hg, by rw [k.block (Array.getElem?_eq_some_iff.1 hh).1]; exact hh, r⟩
def stepCells : List (ByteArray × Int) → List Value
 | [] => []
 | (s, n) :: p => .string s :: .int .i64 n :: stepCells p
theorem stepCells_append (p q : List (ByteArray × Int)) : stepCells (p ++ q) = stepCells p ++ stepCells q := by
 induction p with
 | nil => rfl
 | cons x p ih => obtain ⟨s, n⟩ := x; simp [stepCells, ih]
theorem stepCells_length (p : List (ByteArray × Int)) : (stepCells p).length = p.length * 2 := by
 induction p with
 | nil => rfl
 | cons x p ih => obtain ⟨s, n⟩ := x; simp [stepCells, ih]; omega
theorem infoStep : (Tryz.prog.info? 84).map (fun i => (i.zero, i.size, i.bytes)) = some (some (.agg #[.string .empty, .int .i64 0]), 2, 24) := by kernel_rfl
set_option maxHeartbeats 4000000 in
set_option maxRecDepth 100000 in
theorem path_err (p : List (ByteArray × Int)) (c : Int) (v : Value) (w : World) (hg : EtIs w) (he : IsErr w p c v) (hp : p.length ≤ 1000000) :
 Calls Tryz.prog 42 #[v] w fun e w' => ∃ u, e = .returned u ∧ Ext w w' ∧ w'.ownsRow (w.heap.size + 1) 84 2 u p.length (stepCells p) := by
 obtain ⟨i0, hi, hz0, hz1, hz2⟩ := info_parts infoStep
 go_enter Tryz.func42, Tryz.ntmps42
 go_wp2
 go_loopg [0, 3] (p.length) (fun k u pv wr => ∃ d q, p = d ++ q ∧ q.length = k ∧ IsErr w q c u ∧ wr.ownsRow (w.heap.size + 1) 84 2 pv d.length (stepCells d) ∧ Ext w wr ∧ (∃ x, wr.cell? ⟨w.heap.size, 0, none⟩ = some x) ∧ wr.frozen? ⟨w.heap.size, 0, none⟩ = false)
 case atStart => exact ⟨[], p, rfl, rfl, he, World.ownsRow_nil _ _ _ _, (Ext.refl w).alloc _, ⟨_, by simp; rfl⟩, by simp⟩
 case round =>
  obtain ⟨d, q, hpd, hq, hu, hown, hE, ⟨x, hx⟩, hf⟩ := hrel
  have HP := Lib.hid hpd
  have HQ := Lib.hid hq
  clear hpd hq
  cases q with
  | nil =>
    have hu' : _ = Value.iface 40 (.int .i64 c) := hu
    subst hu'
    go_wp2_with (go_at_call 57; refine (As_fault_no c ⟨w.heap.size, 0, none⟩ _ (hg.ext hE)).mono ?_; rintro e w' ⟨rfl, hx1⟩)
    go_ret
    have hd := HP.out
    simp only [List.append_nil] at hd
    subst hd
    exact ⟨_, rfl, hE.trans hx1, ownsRow_ext hown hx1⟩
  | cons y q =>
    obtain ⟨s, n⟩ := y
    obtain ⟨b, u', hv, h0, h1, h2, hu'⟩ := hu
    subst hv
    go_wp2_with (go_at_call 57; refine (As_fault b x ⟨w.heap.size, 0, none⟩ _ (hg.ext hE) hx hf).mono ?_; rintro e w' ⟨rfl, w1, hx1, rfl⟩; have hcl := setCell_cell (hx1.cell hx) (.pointer (some ⟨b, 0, none⟩)))
    have HE : Ext w (w1.setCell ⟨w.heap.size, 0, none⟩ (.pointer (some ⟨b, 0, none⟩))) := (hE.trans hx1).setCell (Nat.le_refl _) _
    have k0 := HE.cell h0
    have k1 := HE.cell h1
    have k2 := HE.cell h2
    have hfr : (w1.setCell ⟨w.heap.size, 0, none⟩ (.pointer (some ⟨b, 0, none⟩))).frozen? ⟨w.heap.size, 0, none⟩ = false := by
     rw [World.frozen?_setCell]; exact (Below.frozen hx1 (Ext.lt hx)).trans hf
    have hown1 : (w1.setCell ⟨w.heap.size, 0, none⟩ (.pointer (some ⟨b, 0, none⟩))).ownsRow (w.heap.size + 1) 84 2 _ d.length (stepCells d) := ownsRow_setCell_below (ownsRow_ext hown hx1) (Nat.lt_succ_self _) _
    clear hown hx1 hf hx h1 hE
    revert hcl HE k0 k1 k2 hfr hown1
    generalize w1.setCell ⟨w.heap.size, 0, none⟩ (.pointer (some ⟨b, 0, none⟩)) = w2
    intro hcl HE k0 k1 k2 hfr hown1
    have hsz := HE.size
    have hB1 : w.heap.size < w2.heap.size := Ext.lt hcl
    have hlen := stepCells_length d
    have hdl : d.length + 1 ≤ 1000000 := by have := HP.out; rw [this] at hp; simp at hp; omega
    have hb1 : b < w.heap.size := Ext.lt (p := ⟨b, 0, none⟩) h0
    have hnb : ∀ k, Value.ownBlock _ = some k → w.heap.size + 1 ≤ k := fun k hk => (hown1.lt k hk).1
    have hz := h2
    clear h0 h2
    go_region_held3 (fun w' => w'.cell? ⟨w.heap.size, 0, none⟩ = some (.pointer (some ⟨b, 0, none⟩)) ∧ w'.cell? ⟨b, 0, none⟩ = some (.string s) ∧ w'.cell? ⟨b, 1, none⟩ = some (.int .i64 n))
     (first
       | go_keep
       | (go_split_ands
          refine ⟨?_, ?_, ?_⟩
          · (rw [hgrow.cell_far _ (by simp; omega) (fun e => by have := hnb _ e.symm; simp at this; omega)]; assumption)
          · (rw [hgrow.cell_far _ (by simp; omega) (fun e => by have := hnb _ e.symm; simp at this; omega)]; assumption)
          · (rw [hgrow.cell_far _ (by simp; omega) (fun e => by have := hnb _ e.symm; simp at this; omega)]; assumption)))
     ((refine step_append_lies _ (by rfl) _ _ _ (by rfl) (w.heap.size + 1) 84 i0 _ 2 24 Tryz.underlying81 hi hz0 hz1 hz2 rfl (by omega) _ d.length (stepCells d) (by rfl) ((hown1.alloc _).drew)
        ⟨w2.heap.size, 0, none⟩ 1 1 [.string s, .int .i64 n] (by rfl) (by rfl) (World.news_of_block (cs := #[.string s, .int .i64 n]) (t := 84) (fr := (0, 0)) (heap_alloc_new w2 _)) (by simp [Value.oneCell'])
        (by omega) (by unfold maxLen; omega) (by omega) (by simp; omega) (w2.heap.size + 1) (by simp) ?_; intro gg cap w3 hown3 hgrow hat hlt))
    have HE3 : Ext w w3 := Below.grown ((HE.alloc _).drew) hgrow (by simp; omega) (fun k hk => by have := hnb k hk; omega)
    have kB : w3.cell? ⟨w.heap.size, 0, none⟩ = some (.pointer (some ⟨b, 0, none⟩)) := by
     rw [hgrow.cell_far _ (by simp; omega) (fun e => by have := hnb _ e.symm; simp at this; omega), World.cell?_drew, World.cell?_alloc_lt w2 _ ⟨w.heap.size, 0, none⟩ hB1]; exact hcl
    have kF : w3.frozen? ⟨w.heap.size, 0, none⟩ = false := by
     rw [hgrow.frozen_far _ (by simp; omega) (fun e => by have := hnb _ e.symm; simp at this; omega), World.frozen?_drew, World.frozen?_alloc_old w2 _ ⟨w.heap.size, 0, none⟩ (Nat.ne_of_lt hB1)]; exact hfr
    have k3 : w3.cell? ⟨b, 2, none⟩ = some u' := HE3.cell hz
    go_wp2
    go_roundg (q.length)
    case measure => have := HQ.out; simp at this; omega
    case rel => exact ⟨d ++ [(s, n)], q, by rw [HP.out]; simp, rfl, hu', by rw [stepCells_append, List.length_append]; exact hown3, HE3, ⟨_, kB⟩, kF⟩
theorem Ext.drewN {a w : World} (h : Ext a w) (n : Nat) : Ext a (w.drewN n) := by
 have h' : Below a.heap.size a w := h
 exact ⟨h'.os, h'.tape, h'.output, h'.size, h'.block⟩
def Row (w : World) (v : Value) (n : Nat) (cells : List Value) : Prop :=
 ∃ (a : Option Addr) (cap : Nat), v = .slice a n cap ∧ n ≤ cap ∧ cap ≤ maxLen ∧ (0 < n → ∃ g off, a = some ⟨g, off, none⟩) ∧ ∀ g off, a = some ⟨g, off, none⟩ → ∀ j u, cells[j]? = some u → w.cell? ⟨g, off + j, none⟩ = some u
theorem Row.ext {w w' : World} {v : Value} {n : Nat} {cells : List Value} (h : Row w v n cells) (k : Ext w w') : Row w' v n cells := by
 obtain ⟨a, cap, h0, h1, h2, h3, h4⟩ := h
 exact ⟨a, cap, h0, h1, h2, h3, fun g off ha j u hj => k.cell (h4 g off ha j u hj)⟩
theorem Row.nil (w : World) : Row w (.slice none 0 0) 0 [] := ⟨none, 0, rfl, Nat.le_refl _, Nat.zero_le _, fun h => absurd h (Nat.lt_irrefl _), fun _ _ h => by cases h⟩
theorem Row.of_owns {w : World} {base : Nat} {e : TypeId} {size : Nat} {v : Value} {n : Nat} {xs : List Value} (h : w.ownsRow base e size v n xs) : Row w v n xs := by
 obtain ⟨hl, h⟩ := h
 rcases h with ⟨hv, hn⟩ | ⟨g, cap, cur, hv, hb, hg, hnc, hcm, hcs, ht⟩
 · subst hn
   obtain rfl : xs = [] := List.eq_nil_of_length_eq_zero (by simpa using hl)
   subst hv
   exact Row.nil w
 · refine ⟨_, cap, hv, hnc, hcm, fun _ => ⟨g, 0, rfl⟩, fun g' off' ha j u hj => ?_⟩
   simp only [Option.some.injEq, Addr.mk.injEq, and_true] at ha
   obtain ⟨rfl, rfl⟩ := ha
   rw [Nat.zero_add, cell_of_row w g j cur e (0, 0) hg]
   rw [← ht, List.getElem?_take] at hj
   split at hj
   · simpa using hj
   · cases hj
theorem Row.at {w : World} {g off n cap : Nat} {cells : List Value} (h : Row w (.slice (some ⟨g, off, none⟩) n cap) n cells) {j : Nat} {u : Value} (hj : cells[j]? = some u) : w.cell? ⟨g, off + j, none⟩ = some u := by
 obtain ⟨a, cap', h0, _, _, _, h4⟩ := h
 simp only [Value.slice.injEq] at h0
 exact h4 g off h0.1.symm j u hj
theorem Row.some {w : World} {v : Value} {n : Nat} {cells : List Value} (h : Row w v n cells) (hn : 0 < n) : ∃ g off cap, v = .slice (some ⟨g, off, none⟩) n cap ∧ n ≤ cap ∧ cap ≤ maxLen := by
 obtain ⟨a, cap, h0, h1, h2, h3, _⟩ := h
 obtain ⟨g, off, ha⟩ := h3 hn
 subst ha
 exact ⟨g, off, cap, h0, h1, h2⟩
theorem Row.form {w : World} {v : Value} {n : Nat} {cells : List Value} (h : Row w v n cells) : ∃ a cap, v = .slice a n cap := by
 obtain ⟨a, cap, h0, _⟩ := h
 exact ⟨a, cap, h0⟩
theorem stepCells_get (p : List (ByteArray × Int)) (i : Nat) (s : ByteArray) (n : Int) (h : p[i]? = some (s, n)) : (stepCells p)[i * 2]? = some (.string s) ∧ (stepCells p)[i * 2 + 1]? = some (.int .i64 n) := by
 induction p generalizing i with
 | nil => simp at h
 | cons x p ih =>
   obtain ⟨s', n'⟩ := x
   cases i with
   | zero => simp at h; obtain ⟨rfl, rfl⟩ := h; exact ⟨rfl, rfl⟩
   | succ i =>
     have := ih i (by simpa using h)
     rw [show (i + 1) * 2 = i * 2 + 2 from by omega]
     exact this
theorem ok_any (c : Int) (r : Value) (w : World) :
 Calls Tryz.prog 39 #[.agg #[.int .i64 c, r]] w fun e w' => e = .returned (.bool (c == 0)) ∧ Ext w w' := by
 have E1 : Ext w (w.alloc (.cells #[.int .i64 c, r] 43)) := (Ext.refl w).alloc _
 go_enter Tryz.func39, Tryz.ntmps39
 go_wp2
 go_ret
 exact ⟨rfl, E1⟩
theorem path_nil (w : World) (hg : EtIs w) : Calls Tryz.prog 42 #[.nilIface] w fun e w' => e = .returned (.slice none 0 0) ∧ Ext w w' := by
 have E1 : Ext w (w.alloc (.cells #[.pointer none] 117)) := (Ext.refl w).alloc _
 have nil : ∀ (t : Value) (W : World), Calls Tryz.prog 57 #[.nilIface, t] W fun e w' => e = .returned (.bool false) ∧ W = w' := fun t W => by
  go_enter Tryz.func57, Tryz.ntmps57
  go_wp2
  go_ret
  exact ⟨rfl, rfl⟩
 go_enter Tryz.func42, Tryz.ntmps42
 go_wp2
 refine wp_loop_rounds 1 ?_
 rw [rounds_succ]
 go_wp2_with (go_at_call 57; refine (nil _ _).mono ?_; rintro e w' ⟨rfl, rfl⟩)
 go_ret
 exact ⟨rfl, E1⟩
set_option maxHeartbeats 2000000 in
theorem same_nil (w : World) (hg : EtIs w) :
 Calls Tryz.prog 17 #[.nilIface, .agg #[.int .i64 0, .slice none 0 0]] w fun e w' => e = .returned (.bool true) ∧ Ext w w' := by
 have E1 : Ext w (w.alloc (.cells #[.int .i64 0, .slice none 0 0] 43)) := (Ext.refl w).alloc _
 go_enter Tryz.func17, Tryz.ntmps17
 go_wp2_with fail
 go_region_held3 (fun w' => w'.cell? ⟨w.heap.size, 0, none⟩ = some (.int .i64 0) ∧ w'.cell? ⟨w.heap.size, 1, none⟩ = some (.slice none 0 0) ∧ Ext w w')
  (first | assumption | (exact ⟨by simp, by simp, E1⟩) | (exact ⟨by simp, by simp, E1.drew⟩) | (go_split_ands; exact ⟨hx.cell (by assumption), hx.cell (by assumption), Ext.trans (by assumption) hx⟩))
  (first | (go_at_call 39; refine (ok_any _ _ _).mono ?_; rintro e w' ⟨rfl, hx⟩) | (go_at_call 27; refine (of_nil _).mono ?_; rintro e w' ⟨rfl, hx⟩))
 obtain ⟨_, hc1, hE⟩ : _ ∧ _ ∧ Ext w _ := by assumption
 go_wp2_with (go_at_call 42; refine (path_nil _ (hg.ext hE)).mono ?_; rintro e w' ⟨rfl, hx⟩; have hc2 := hx.cell hc1)
 refine wp_loop_rounds 1 ?_
 rw [rounds_succ]
 go_wp2
 go_ret
 exact ⟨rfl, hE.trans hx⟩
set_option maxHeartbeats 4000000 in
set_option maxRecDepth 100000 in
theorem same_code (c : Int) (v rv : Value) (w : World) (hg : EtIs w) (he : IsErr w [] c v) (hr : Row w rv 0 []) (hc : c ≠ 0) :
 Calls Tryz.prog 17 #[v, .agg #[.int .i64 c, rv]] w fun e w' => e = .returned (.bool true) ∧ Ext w w' := by
 obtain ⟨ra, rcap, rfl⟩ := hr.form
 have E1 : Ext w (w.alloc (.cells #[.int .i64 c, .slice ra 0 rcap] 43)) := (Ext.refl w).alloc _
 obtain ⟨tx, vx, hne⟩ := he.ne_nil
 subst hne
 have hc0 : (c == 0) = false := by simpa using hc
 go_enter Tryz.func17, Tryz.ntmps17
 go_wp2_with fail
 go_region_held3 (fun w' => w'.cell? ⟨w.heap.size, 0, none⟩ = some (.int .i64 c) ∧ w'.cell? ⟨w.heap.size, 1, none⟩ = some (.slice ra 0 rcap) ∧ Ext w w')
  (first | assumption | (exact ⟨by simp, by simp, E1⟩) | (exact ⟨by simp, by simp, E1.drew⟩) | (go_split_ands; exact ⟨hx.cell (by assumption), hx.cell (by assumption), Ext.trans (by assumption) hx⟩))
  (first | (go_at_call 39; refine (ok_any _ _ _).mono ?_; rintro e w' ⟨rfl, hx⟩) | (go_at_call 27; obtain ⟨_, _, hE1⟩ : _ ∧ _ ∧ Ext w _ := (by assumption); refine (of_err [] c _ _ (hg.ext hE1) (he.ext hE1)).mono ?_; rintro e w' ⟨rfl, hx⟩))
 obtain ⟨_, hc1, hE⟩ : _ ∧ _ ∧ Ext w _ := by assumption
 go_wp2_with (go_at_call 42; refine (path_err [] c _ _ (hg.ext hE) (he.ext hE) (by simp)).mono ?_; rintro e w' ⟨pu, rfl, hx, hown⟩; have hc2 := hx.cell hc1; obtain ⟨pa, pcap, rfl⟩ := (Row.of_owns hown).form)
 refine wp_loop_rounds 1 ?_
 rw [rounds_succ]
 go_wp2
 go_ret
 exact ⟨rfl, hE.trans hx⟩
set_option maxHeartbeats 4000000 in
set_option maxRecDepth 100000 in
theorem same_path (p : List (ByteArray × Int)) (c : Int) (v rv : Value) (w : World) (hg : EtIs w) (he : IsErr w p c v) (hr : Row w rv p.length (stepCells p)) (hc : c ≠ 0) (hp0 : 0 < p.length) (hp : p.length ≤ 1000000) :
 Calls Tryz.prog 17 #[v, .agg #[.int .i64 c, rv]] w fun e w' => e = .returned (.bool true) ∧ Ext w w' := by
 obtain ⟨rg, roff, rcap, rfl, hr1, hr2⟩ := hr.some hp0
 have E1 : Ext w (w.alloc (.cells #[.int .i64 c, .slice (some ⟨rg, roff, none⟩) p.length rcap] 43)) := (Ext.refl w).alloc _
 obtain ⟨tx, vx, hne⟩ := he.ne_nil
 subst hne
 have hc0 : (c == 0) = false := by simpa using hc
 obtain ⟨n, hn⟩ : ∃ n, n = p.length := ⟨_, rfl⟩
 rw [← hn] at hr hr1 hp hp0 ⊢ E1
 have HN := Lib.hid hn
 clear hn
 unfold maxLen at hr2
 go_enter Tryz.func17, Tryz.ntmps17
 go_wp2_with fail
 go_region_held3 (fun w' => w'.cell? ⟨w.heap.size, 0, none⟩ = some (.int .i64 c) ∧ w'.cell? ⟨w.heap.size, 1, none⟩ = some (.slice (some ⟨rg, roff, none⟩) n rcap) ∧ Ext w w')
  (first | assumption | (exact ⟨by simp, by simp, E1⟩) | (exact ⟨by simp, by simp, E1.drew⟩) | (go_split_ands; exact ⟨hx.cell (by assumption), hx.cell (by assumption), Ext.trans (by assumption) hx⟩))
  (first | (go_at_call 39; refine (ok_any _ _ _).mono ?_; rintro e w' ⟨rfl, hx⟩) | (go_at_call 27; obtain ⟨_, _, hE1⟩ : _ ∧ _ ∧ Ext w _ := (by assumption); refine (of_err p c _ _ (hg.ext hE1) (he.ext hE1)).mono ?_; rintro e w' ⟨rfl, hx⟩))
 obtain ⟨_, hc1, hE⟩ : _ ∧ _ ∧ Ext w _ := by assumption
 go_wp2_with (go_at_call 42; refine (path_err p c _ _ (hg.ext hE) (he.ext hE) (by rw [← HN.out]; exact hp)).mono ?_; rintro e w' ⟨pu, rfl, hx, hown⟩; have hc2 := hx.cell hc1; rw [← HN.out] at hown; obtain ⟨pg, poff, pcap, rfl, hp1, hp2⟩ := (Row.of_owns hown).some hp0)
 unfold maxLen at hp2
 have R := Row.of_owns hown
 clear hown
 have hrx := (hr.ext hE).ext hx
 have hEx := hE.trans hx
 clear hE hx hc1 hr hg he E1
 go_loopw [6] (fun i wr => ∃ k : Nat, k ≤ n ∧ i = .int .i64 k ∧ Ext w wr ∧ Row wr (.slice (some ⟨pg, poff, none⟩) n pcap) n (stepCells p) ∧ Row wr (.slice (some ⟨rg, roff, none⟩) n rcap) n (stepCells p) ∧ wr.cell? ⟨w.heap.size, 1, none⟩ = some (.slice (some ⟨rg, roff, none⟩) n rcap)) (fun i _ => n - (intOf i).toNat)
 case atStart => exact ⟨0, Nat.zero_le _, rfl, hEx, R, hrx, hc2⟩
 case round =>
  obtain ⟨k, hk, rfl, hE, R1, R2, hb⟩ := hrel
  by_cases hlt : k < n
  · obtain ⟨⟨s, m⟩, hkx⟩ : ∃ x, p[k]? = some x := ⟨_, List.getElem?_eq_getElem (by rw [← HN.out]; exact hlt)⟩
    obtain ⟨g0, g1⟩ := stepCells_get p k s m hkx
    have p0 := R1.at g0
    have p1 := R1.at g1
    have r0 := R2.at g0
    have r1 := R2.at g1
    rw [← Nat.add_assoc] at p1 r1
    clear hkx g0 g1 R
    go_wp2
    go_quiet (fail)
    go_wp2
    go_roundw
    case rel => exact ⟨k + 1, by omega, by go_num, hE.drewN _, R1, R2, by simpa using hb⟩
    case measure => simp [intOf]; omega
  · go_wp2
    go_ret
    exact ⟨rfl, hE⟩
theorem same_err (p : List (ByteArray × Int)) (c : Int) (v rv : Value) (w : World) (hg : EtIs w) (he : IsErr w p c v) (hr : Row w rv p.length (stepCells p)) (hc : c ≠ 0) (hp : p.length ≤ 1000000) :
 Calls Tryz.prog 17 #[v, .agg #[.int .i64 c, rv]] w fun e w' => e = .returned (.bool true) ∧ Ext w w' := by
 cases p with
 | nil => exact same_code c v rv w hg he hr hc
 | cons x p => exact same_path (x :: p) c v rv w hg he hr hc (by simp) hp
theorem fail_any (c : Int) (w : World) :
 Calls Tryz.prog 30 #[.int .i64 c] w fun e w' => e = .returned (.agg #[.int .i64 c, .slice none 0 0]) ∧ Ext w w' := by
 go_enter Tryz.func30, Tryz.ntmps30
 go_wp2
 exact bodyPost_ret (v := .agg #[.int .i64 c, .slice none 0 0]) (by simp [results, Tryz.results30, go_sem]) rfl ⟨rfl, by repeat (first | exact Ext.refl _ | apply Ext.alloc | apply Ext.setCell (ha := by simp))⟩
end Go.Proofs.YtcekpngkfldgkaaGreatDoor