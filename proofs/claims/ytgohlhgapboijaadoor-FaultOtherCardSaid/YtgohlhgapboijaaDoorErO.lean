/- An error that has no code (errors.New), wrapped by Faults: what errors.As, errors.Is, fault.Of and fault.Path say of it. -/
import Derived.Test.YtgohlhgapboijaaDoorF2
import Derived.LaidEqlPtr
namespace Go.Proofs.YtgohlhgapboijaaDoor
set_option linter.unusedVariables false
set_option linter.unusedSimpArgs false
open Go.RowKit Go.Extern.Stop Go.Stop Go.Extern

/-- Faults of these steps around such an error -/
def IsErrO (o : Addr) (w : World) : List (ByteArray × Int) → Value → Prop
  | [], v => v = .iface 94 (.pointer (some o))
  | (s, n) :: p, v => ∃ b u, v = .iface 38 (.pointer (some ⟨b, 0, none⟩)) ∧ w.cell? ⟨b, 0, none⟩ = some (.string s) ∧ w.cell? ⟨b, 1, none⟩ = some (.int .i64 n) ∧ w.cell? ⟨b, 2, none⟩ = some u ∧ IsErrO o w p u
theorem IsErrO.ext {o : Addr} {w w' : World} (h : Ext w w') : ∀ {p : List (ByteArray × Int)} {v : Value}, IsErrO o w p v → IsErrO o w' p v
  | [], _, hv => hv
  | (_, _) :: _, _, ⟨b, u, hv, h0, h1, h2, hu⟩ => ⟨b, u, hv, h.cell h0, h.cell h1, h.cell h2, hu.ext h⟩
theorem IsErrO.ne_nil {o : Addr} {w : World} {p : List (ByteArray × Int)} {v : Value} (h : IsErrO o w p v) : ∃ t x, v = .iface t x := by
  cases p with
  | nil => exact ⟨_, _, h⟩
  | cons a p => obtain ⟨b, u, hv, _⟩ := h; exact ⟨_, _, hv⟩
theorem typeOfO (v : Value) (w : World) : (ReflectliteType.typeOf #[.iface 94 v]).run Tryd.prog w = .ok (.iface 116 (.agg #[.pointer (some ⟨4, 94, none⟩)])) w := by kernel_rfl
theorem assignOC (w : World) : (ReflectliteType.relation "AssignableTo" ReflectliteType.assignableTo #[.agg #[.pointer (some ⟨4, 94, none⟩)], .iface 116 (.agg #[.pointer (some ⟨4, 23, none⟩)])]).run Tryd.prog w = .ok (.bool false) w := by kernel_rfl
theorem assignOF (w : World) : (ReflectliteType.relation "AssignableTo" ReflectliteType.assignableTo #[.agg #[.pointer (some ⟨4, 94, none⟩)], .iface 116 (.agg #[.pointer (some ⟨4, 38, none⟩)])]).run Tryd.prog w = .ok (.bool false) w := by kernel_rfl
theorem noAsO (v : Value) (xT : TypeId) (w : World) : (Instr.typeAssert (.iface 94 v) xT 126 true).run Tryd.prog w = .ok (.tuple #[.nilIface, .bool false]) w := run_typeAssert_lacksB Tryd.underlying126 (by kernel_rfl) (by kernel_rfl) v xT w
theorem noUnwrapO (v : Value) (xT : TypeId) (w : World) : (Instr.typeAssert (.iface 94 v) xT 92 true).run Tryd.prog w = .ok (.tuple #[.nilIface, .bool false]) w := run_typeAssert_lacksB Tryd.underlying92 (by kernel_rfl) (by kernel_rfl) v xT w
theorem noUnwrapsO (v : Value) (xT : TypeId) (w : World) : (Instr.typeAssert (.iface 94 v) xT 121 true).run Tryd.prog w = .ok (.tuple #[.nilIface, .bool false]) w := run_typeAssert_lacksB Tryd.underlying121 (by kernel_rfl) (by kernel_rfl) v xT w
theorem noIsO (v : Value) (xT : TypeId) (w : World) : (Instr.typeAssert (.iface 94 v) xT 118 true).run Tryd.prog w = .ok (.tuple #[.nilIface, .bool false]) w := run_typeAssert_lacksB Tryd.underlying118 (by kernel_rfl) (by kernel_rfl) v xT w
theorem comparableO (w : World) : ((ReflectliteType.method cmpF) #[.agg #[.pointer (some ⟨4, 94, none⟩)]]).run Tryd.prog w = .ok (.bool true) w := by kernel_rfl
theorem infoPO : (Tryd.prog.info? 94).map (·.comparable) = some true := by kernel_rfl
theorem infoO : (Tryd.prog.info? 96).map (·.size) = some 1 := by kernel_rfl
theorem eqFO (v u : Value) (w : World) : (binOp .eql 27 (.iface 38 v) (.iface 94 u)).run Tryd.prog w = .ok (.bool false) w := by
  have h : ∀ n : Nat, (Op.equalIn (n + 2) 27 (.iface 38 v) (.iface 94 u)).run Tryd.prog w = .ok false w := fun n => by
    simp [Op.equalIn, run_underlying Tryd.underlying27]
  simp only [binOp]
  simp [Op.equal, Op.maxDepth, h 9998]
theorem eqOC (v u : Value) (w : World) : (binOp .eql 27 (.iface 94 v) (.iface 23 u)).run Tryd.prog w = .ok (.bool false) w := by
  have h : ∀ n : Nat, (Op.equalIn (n + 2) 27 (.iface 94 v) (.iface 23 u)).run Tryd.prog w = .ok false w := fun n => by
    simp [Op.equalIn, run_underlying Tryd.underlying27]
  simp only [binOp]
  simp [Op.equal, Op.maxDepth, h 9998]
theorem eqOO (a : Addr) (w : World) : (binOp .eql 27 (.iface 94 (.pointer (some a))) (.iface 94 (.pointer (some a)))).run Tryd.prog w = .ok (.bool true) w := by
  obtain ⟨i, hi, hc⟩ := Option.map_eq_some_iff.1 infoPO
  obtain ⟨j, hj, hjs⟩ := Option.map_eq_some_iff.1 infoO
  have hp : ∀ d : Nat, (Op.equalIn (d + 1) 94 (.pointer (some a)) (.pointer (some a))).run Tryd.prog w = .ok true w := fun d => by
    simp [Op.equalIn, run_underlying Tryd.underlying94, sizeOf, typeInfo, hj, run_sameAddr_same]
  have h : ∀ n : Nat, (Op.equalIn (n + 2) 27 (.iface 94 (.pointer (some a))) (.iface 94 (.pointer (some a)))).run Tryd.prog w = .ok true w := fun n => by
    rw [Op.equalIn.eq_def]
    simp [run_underlying Tryd.underlying27, typeInfo, hi, hc, hp n]
  simp only [binOp]
  simp [Op.equal, Op.maxDepth, h 9998]
/-- errors.New -/
theorem new_any (s : ByteArray) (w : World) : Calls Tryd.prog 24 #[.string s] w fun e w' => e = .returned (.iface 94 (.pointer (some ⟨w.heap.size, 0, none⟩))) ∧ Ext w w' := by
  go_enter Tryd.func24, Tryd.ntmps24
  go_wp2
  go_ret
  exact ⟨rfl, (Ext.refl w).alloc _⟩
theorem inO (o : Addr) (s : ByteArray) (n : Int) (p : List (ByteArray × Int)) (v : Value) (w : World) (he : IsErrO o w p v) :
    Calls Tryd.prog 25 #[.string s, .int .i64 n, v] w fun e w' => ∃ u, e = .returned u ∧ Ext w w' ∧ IsErrO o w' ((s, n) :: p) u := by
  obtain ⟨tx, vx, hne⟩ := he.ne_nil
  subst hne
  have E1 : Ext w (w.alloc (.cells #[.string s, .int .i64 n, .iface tx vx] 42)) := (Ext.refl w).alloc _
  go_enter Tryd.func25, Tryd.ntmps25
  go_wp2
  go_ret
  exact ⟨_, rfl, E1, w.heap.size, _, rfl, by simp, by simp, by simp, he.ext E1⟩
set_option maxHeartbeats 2000000 in
/-- errors.as, asked for an api.Code -/
theorem as_codeO (o : Addr) (p : List (ByteArray × Int)) (e : Value) (t a : Addr) (w : World) (he : IsErrO o w p e) :
    Calls Tryd.prog 47 #[e, .iface 69 (.pointer (some t)), .agg #[.pointer (some ⟨4, 69, none⟩), .pointer (some a), .int .u64 150], .iface 116 (.agg #[.pointer (some ⟨4, 23, none⟩)])] w
      fun ev w' => ev = .returned (.bool false) ∧ Ext w w' := by
  have xTO := ex1
  have xAs := ex3
  have tOO := typeOfO
  have tOF := typeOfF
  have mA := methodAssignableTo
  have aOC := assignOC
  have aFC := assignFC
  have nAO := noAsO
  have nUO := noUnwrapO
  have nUsO := noUnwrapsO
  have nAF := noAsF
  have uF := unwrapF
  have nF := nilAheadF
  have mU := methodUnwrapF
  have hE : Ext w (w.alloc (.cells #[.pointer (some ⟨4, 69, none⟩), .pointer (some a), .int .u64 150] 85)) := (Ext.refl w).alloc _
  go_enter Tryd.func47, Tryd.ntmps47
  go_wp2
  go_loopg [0] (p.length) (fun k u wr => ∃ q, q.length = k ∧ IsErrO o w q u ∧ wr = w.alloc (.cells #[.pointer (some ⟨4, 69, none⟩), .pointer (some a), .int .u64 150] 85))
  case atStart => exact ⟨p, rfl, he, rfl⟩
  case round =>
    obtain ⟨q, hq, hu, hwr⟩ := hrel
    cases q with
    | nil =>
      have hu' : _ = Value.iface 94 (.pointer (some o)) := hu
      subst hu'
      subst hwr
      go_wp2
      go_ret
      exact ⟨rfl, hE⟩
    | cons x q =>
      obtain ⟨s, n⟩ := x
      obtain ⟨b, u', hv, _, _, h2, hu'⟩ := hu
      obtain ⟨tx, vx, hne⟩ := hu'.ne_nil
      subst hv
      subst hwr
      subst hne
      have HQ := Lib.hid hq
      clear hq
      go_wp2_with (go_at_call 27; refine (unwrap_any b _ _ (hE.cell h2)).mono ?_; rintro e w' ⟨rfl, rfl⟩)
      go_roundg (q.length)
      case measure => have := HQ.out; simp at this; omega
      case rel => exact ⟨q, rfl, hu', rfl⟩
set_option maxHeartbeats 2000000 in
/-- errors.As, asked for an api.Code -/
theorem As_codeO (o : Addr) (p : List (ByteArray × Int)) (e : Value) (t : Addr) (w : World) (hg : EtIs w) (he : IsErrO o w p e) :
    Calls Tryd.prog 22 #[e, .iface 69 (.pointer (some t))] w
      fun ev w' => ev = .returned (.bool false) ∧ Ext w w' := by
  have xVO := ex2
  have xTy := ex6
  have xIN := ex7
  have xKd := ex8
  have xEl := ex9
  have xIm := ex10
  have vPC := valueOfPC
  have tyPC := typePC
  have mK := methodKind
  have mE := methodElem
  have mI := methodImplements
  have kPC := kindPC
  have kC := kindOfC
  have ePC := elemPC
  have iC := implC
  have E1 : Ext w (w.alloc (.cells #[.pointer (some t)] 69)) := (Ext.refl w).alloc _
  have E2 := E1.alloc (.cells #[.pointer (some ⟨4, 69, none⟩), .pointer (some ⟨w.heap.size, 0, none⟩), .int .u64 150] 85)
  have n8 := isNilPC ⟨w.heap.size, 0, none⟩ t ((w.alloc (.cells #[.pointer (some t)] 69)).alloc (.cells #[.pointer (some ⟨4, 69, none⟩), .pointer (some ⟨w.heap.size, 0, none⟩), .int .u64 150] 85)) (by simp)
  have hg2 := E2.cell hg
  obtain ⟨tx, vx, hne⟩ := he.ne_nil
  subst hne
  go_enter Tryd.func22, Tryd.ntmps22
  go_wp2_with (go_at_call 47; refine (as_codeO o p _ t ⟨w.heap.size, 0, none⟩ _ (he.ext E2)).mono ?_; rintro e w' ⟨rfl, hx⟩)
  go_ret
  exact ⟨rfl, E2.trans hx⟩
set_option maxHeartbeats 1000000 in
theorem ofO (o : Addr) (p : List (ByteArray × Int)) (v : Value) (w : World) (hg : EtIs w) (he : IsErrO o w p v) :
    Calls Tryd.prog 17 #[v] w fun e w' => e = .returned (.int .i64 15) ∧ Ext w w' := by
  have E1 : Ext w (w.alloc (.cells #[.int .i64 0] 23)) := (Ext.refl w).alloc _
  obtain ⟨tx, vx, hne⟩ := he.ne_nil
  subst hne
  go_enter Tryd.func17, Tryd.ntmps17
  go_wp2_with (go_at_call 22; refine (As_codeO o p _ ⟨w.heap.size, 0, none⟩ _ (hg.ext E1) (he.ext E1)).mono ?_; rintro e w' ⟨rfl, hx⟩)
  go_ret
  exact ⟨rfl, E1.trans hx⟩
set_option maxHeartbeats 2000000 in
theorem as_faultO (o t a : Addr) (w : World) :
    Calls Tryd.prog 47 #[.iface 94 (.pointer (some o)), .iface 40 (.pointer (some t)), .agg #[.pointer (some ⟨4, 40, none⟩), .pointer (some a), .int .u64 150], .iface 116 (.agg #[.pointer (some ⟨4, 38, none⟩)])] w
      fun ev w' => ev = .returned (.bool false) ∧ Ext w w' := by
  have xTO := ex1
  have xAs := ex3
  have tOO := typeOfO
  have mA := methodAssignableTo
  have aOF := assignOF
  have nAO := noAsO
  have nUO := noUnwrapO
  have nUsO := noUnwrapsO
  have hE : Ext w (w.alloc (.cells #[.pointer (some ⟨4, 40, none⟩), .pointer (some a), .int .u64 150] 85)) := (Ext.refl w).alloc _
  go_enter Tryd.func47, Tryd.ntmps47
  go_wp2
  refine wp_loop_rounds 1 ?_
  rw [rounds_succ]
  go_wp2
  go_ret
  exact ⟨rfl, hE⟩
set_option maxHeartbeats 2000000 in
theorem As_faultO (o t : Addr) (w : World) (hg : EtIs w) :
    Calls Tryd.prog 22 #[.iface 94 (.pointer (some o)), .iface 40 (.pointer (some t))] w
      fun ev w' => ev = .returned (.bool false) ∧ Ext w w' := by
  have xVO := ex2
  have xTy := ex6
  have xIN := ex7
  have xKd := ex8
  have xEl := ex9
  have xIm := ex10
  have vPC := valueOfPF
  have tyPC := typePF
  have mK := methodKind
  have mE := methodElem
  have mI := methodImplements
  have kPC := kindPF
  have kC := kindOfF
  have ePC := elemPF
  have iC := implF
  have E1 : Ext w (w.alloc (.cells #[.pointer (some t)] 40)) := (Ext.refl w).alloc _
  have E2 := E1.alloc (.cells #[.pointer (some ⟨4, 40, none⟩), .pointer (some ⟨w.heap.size, 0, none⟩), .int .u64 150] 85)
  have n8 := isNilPF ⟨w.heap.size, 0, none⟩ t ((w.alloc (.cells #[.pointer (some t)] 40)).alloc (.cells #[.pointer (some ⟨4, 40, none⟩), .pointer (some ⟨w.heap.size, 0, none⟩), .int .u64 150] 85)) (by simp)
  have hg2 := E2.cell hg
  go_enter Tryd.func22, Tryd.ntmps22
  go_wp2_with (go_at_call 47; refine (as_faultO o t ⟨w.heap.size, 0, none⟩ _).mono ?_; rintro e w' ⟨rfl, hx⟩)
  go_ret
  exact ⟨rfl, E2.trans hx⟩
set_option maxHeartbeats 4000000 in
set_option maxRecDepth 100000 in
/-- fault.Path of Faults around such an error -/
theorem pathO (o : Addr) (p : List (ByteArray × Int)) (v : Value) (w : World) (hg : EtIs w) (he : IsErrO o w p v) (hp : p.length ≤ 1000000) :
    Calls Tryd.prog 16 #[v] w fun e w' => ∃ u, e = .returned u ∧ Ext w w' ∧ w'.ownsRow (w.heap.size + 1) 34 2 u p.length (stepCells p) := by
  obtain ⟨i0, hi, hz0, hz1, hz2⟩ := info_parts infoStep
  go_enter Tryd.func16, Tryd.ntmps16
  go_wp2
  go_loopg [0, 3] (p.length) (fun k u pv wr => ∃ d q, p = d ++ q ∧ q.length = k ∧ IsErrO o w q u ∧ wr.ownsRow (w.heap.size + 1) 34 2 pv d.length (stepCells d) ∧ Ext w wr ∧ (∃ x, wr.cell? ⟨w.heap.size, 0, none⟩ = some x) ∧ wr.frozen? ⟨w.heap.size, 0, none⟩ = false)
  case atStart => exact ⟨[], p, rfl, rfl, he, World.ownsRow_nil _ _ _ _, (Ext.refl w).alloc _, ⟨_, by simp; rfl⟩, by simp⟩
  case round =>
    obtain ⟨d, q, hpd, hq, hu, hown, hE, ⟨x, hx⟩, hf⟩ := hrel
    have HP := Lib.hid hpd
    have HQ := Lib.hid hq
    clear hpd hq
    cases q with
    | nil =>
      have hu' : _ = Value.iface 94 (.pointer (some o)) := hu
      subst hu'
      go_wp2_with (go_at_call 22; refine (As_faultO o ⟨w.heap.size, 0, none⟩ _ (hg.ext hE)).mono ?_; rintro e w' ⟨rfl, hx1⟩)
      go_ret
      have hd := HP.out
      simp only [List.append_nil] at hd
      subst hd
      exact ⟨_, rfl, hE.trans hx1, ownsRow_ext hown hx1⟩
    | cons y q =>
      obtain ⟨s, n⟩ := y
      obtain ⟨b, u', hv, h0, h1, h2, hu'⟩ := hu
      subst hv
      go_wp2_with (go_at_call 22; refine (As_fault b x ⟨w.heap.size, 0, none⟩ _ (hg.ext hE) hx hf).mono ?_; rintro e w' ⟨rfl, w1, hx1, rfl⟩; have hcl := setCell_cell (hx1.cell hx) (.pointer (some ⟨b, 0, none⟩)))
      have HE : Ext w (w1.setCell ⟨w.heap.size, 0, none⟩ (.pointer (some ⟨b, 0, none⟩))) := (hE.trans hx1).setCell (Nat.le_refl _) _
      have k0 := HE.cell h0
      have k1 := HE.cell h1
      have k2 := HE.cell h2
      have hfr : (w1.setCell ⟨w.heap.size, 0, none⟩ (.pointer (some ⟨b, 0, none⟩))).frozen? ⟨w.heap.size, 0, none⟩ = false := by
        rw [World.frozen?_setCell]; exact (Below.frozen hx1 (Ext.lt hx)).trans hf
      have hown1 : (w1.setCell ⟨w.heap.size, 0, none⟩ (.pointer (some ⟨b, 0, none⟩))).ownsRow (w.heap.size + 1) 34 2 _ d.length (stepCells d) := ownsRow_setCell_below (ownsRow_ext hown hx1) (Nat.lt_succ_self _) _
      clear hown hx1 hf hx h1 hE
      revert hcl HE k0 k1 k2 hfr hown1
      generalize w1.setCell ⟨w.heap.size, 0, none⟩ (.pointer (some ⟨b, 0, none⟩)) = w2
      intro hcl HE k0 k1 k2 hfr hown1
      have hsz := HE.size
      have hB1 : w.heap.size < w2.heap.size := Ext.lt hcl
      have hlen := stepCells_length d
      have hdl : d.length + 1 ≤ 1000000 := by have := HP.out; rw [this] at hp; simp at hp; omega
      have hb1 : b < w.heap.size := Ext.lt (p := ⟨b, 0, none⟩) h0
      have hnb : ∀ k, Value.ownBlock _ = some k → w.heap.size + 1 ≤ k := fun k hk => (hown1.lt k hk).1
      have hz := h2
      clear h0 h2
      go_region_held3 (fun w' => w'.cell? ⟨w.heap.size, 0, none⟩ = some (.pointer (some ⟨b, 0, none⟩)) ∧ w'.cell? ⟨b, 0, none⟩ = some (.string s) ∧ w'.cell? ⟨b, 1, none⟩ = some (.int .i64 n))
        (first
          | go_keep
          | (go_split_ands
             refine ⟨?_, ?_, ?_⟩
             · (rw [hgrow.cell_far _ (by simp; omega) (fun e => by have := hnb _ e.symm; simp at this; omega)]; assumption)
             · (rw [hgrow.cell_far _ (by simp; omega) (fun e => by have := hnb _ e.symm; simp at this; omega)]; assumption)
             · (rw [hgrow.cell_far _ (by simp; omega) (fun e => by have := hnb _ e.symm; simp at this; omega)]; assumption)))
        ((refine step_append_lies _ (by rfl) _ _ _ (by rfl) (w.heap.size + 1) 34 i0 _ 2 24 Tryd.underlying22 hi hz0 hz1 hz2 rfl (by omega) _ d.length (stepCells d) (by rfl) ((hown1.alloc _).drew)
            ⟨w2.heap.size, 0, none⟩ 1 1 [.string s, .int .i64 n] (by rfl) (by rfl) (World.news_of_block (cs := #[.string s, .int .i64 n]) (t := 34) (fr := (0, 0)) (heap_alloc_new w2 _)) (by simp [Value.oneCell'])
            (by omega) (by unfold maxLen; omega) (by omega) (by simp; omega) (w2.heap.size + 1) (by simp) ?_; intro gg cap w3 hown3 hgrow hat hlt))
      have HE3 : Ext w w3 := Below.grown ((HE.alloc _).drew) hgrow (by simp; omega) (fun k hk => by have := hnb k hk; omega)
      have kB : w3.cell? ⟨w.heap.size, 0, none⟩ = some (.pointer (some ⟨b, 0, none⟩)) := by
        rw [hgrow.cell_far _ (by simp; omega) (fun e => by have := hnb _ e.symm; simp at this; omega), World.cell?_drew, World.cell?_alloc_lt w2 _ ⟨w.heap.size, 0, none⟩ hB1]; exact hcl
      have kF : w3.frozen? ⟨w.heap.size, 0, none⟩ = false := by
        rw [hgrow.frozen_far _ (by simp; omega) (fun e => by have := hnb _ e.symm; simp at this; omega), World.frozen?_drew, World.frozen?_alloc_old w2 _ ⟨w.heap.size, 0, none⟩ (Nat.ne_of_lt hB1)]; exact hfr
      have k3 : w3.cell? ⟨b, 2, none⟩ = some u' := HE3.cell hz
      go_wp2
      go_roundg (q.length)
      case measure => have := HQ.out; simp at this; omega
      case rel => exact ⟨d ++ [(s, n)], q, by rw [HP.out]; simp, rfl, hu', by rw [stepCells_append, List.length_append]; exact hown3, HE3, ⟨_, kB⟩, kF⟩
set_option maxHeartbeats 4000000 in
set_option maxRecDepth 100000 in
/-- errors.is, asked for the error itself -/
theorem is_O (o : Addr) (p : List (ByteArray × Int)) (e : Value) (w : World) (he : IsErrO o w p e) :
    Calls Tryd.prog 43 #[e, .iface 94 (.pointer (some o)), .bool true] w fun e w' => e = .returned (.bool true) ∧ w = w' := by
  have nIF := noIsF
  have uF := unwrapF
  have nF := nilAheadF
  have mU := methodUnwrapF
  have eOO := eqOO
  have eFO := eqFO
  go_enter Tryd.func43, Tryd.ntmps43
  go_wp2
  go_loopg [0] (p.length) (fun k u wr => ∃ q, q.length = k ∧ IsErrO o w q u ∧ wr = w)
  case atStart => exact ⟨p, rfl, he, rfl⟩
  case round =>
    obtain ⟨q, hq, hu, hwr⟩ := hrel
    cases q with
    | nil =>
      have hu' : _ = Value.iface 94 (.pointer (some o)) := hu
      subst hu'
      subst hwr
      go_wp2
      go_ret
      exact ⟨rfl, rfl⟩
    | cons x q =>
      obtain ⟨s, n⟩ := x
      obtain ⟨b, u', hv, _, _, h2, hu'⟩ := hu
      obtain ⟨tx, vx, hne⟩ := hu'.ne_nil
      subst hv
      subst hwr
      subst hne
      have HQ := Lib.hid hq
      clear hq
      go_wp2_with (go_at_call 27; refine (unwrap_any b _ _ h2).mono ?_; rintro e w' ⟨rfl, rfl⟩)
      go_roundg (q.length)
      case measure => have := HQ.out; simp at this; omega
      case rel => exact ⟨q, rfl, hu', rfl⟩
set_option maxHeartbeats 4000000 in
set_option maxRecDepth 100000 in
theorem Is_O (o : Addr) (p : List (ByteArray × Int)) (e : Value) (w : World) (he : IsErrO o w p e) :
    Calls Tryd.prog 20 #[e, .iface 94 (.pointer (some o))] w fun e w' => e = .returned (.bool true) ∧ w = w' := by
  have xTO := ex1
  have tOO := typeOfO
  have mC := methodComparable
  have xC := exComparable
  have cO := comparableO
  have HE := Lib.hid he
  obtain ⟨tx, vx, rfl⟩ := he.ne_nil
  clear he
  go_enter Tryd.func20, Tryd.ntmps20
  go_wp2_with (go_at_call 43; fail)
  refine (is_O o p _ _ HE.out).mono ?_; rintro e w' ⟨rfl, rfl⟩
  go_wp2
  go_ret
  exact ⟨rfl, rfl⟩
set_option maxHeartbeats 4000000 in
set_option maxRecDepth 100000 in
/-- errors.is, asked for a code -/
theorem is_codeO (o : Addr) (p : List (ByteArray × Int)) (d : Int) (e : Value) (w : World) (he : IsErrO o w p e) :
    Calls Tryd.prog 43 #[e, .iface 23 (.int .i64 d), .bool true] w fun e w' => e = .returned (.bool false) ∧ w = w' := by
  have nIO := noIsO
  have nUO := noUnwrapO
  have nUsO := noUnwrapsO
  have nIF := noIsF
  have uF := unwrapF
  have nF := nilAheadF
  have mU := methodUnwrapF
  have eOC := eqOC
  have eFC := eqFC
  go_enter Tryd.func43, Tryd.ntmps43
  go_wp2
  go_loopg [0] (p.length) (fun k u wr => ∃ q, q.length = k ∧ IsErrO o w q u ∧ wr = w)
  case atStart => exact ⟨p, rfl, he, rfl⟩
  case round =>
    obtain ⟨q, hq, hu, hwr⟩ := hrel
    cases q with
    | nil =>
      have hu' : _ = Value.iface 94 (.pointer (some o)) := hu
      subst hu'
      subst hwr
      go_wp2
      go_ret
      exact ⟨rfl, rfl⟩
    | cons x q =>
      obtain ⟨s, n⟩ := x
      obtain ⟨b, u', hv, _, _, h2, hu'⟩ := hu
      obtain ⟨tx, vx, hne⟩ := hu'.ne_nil
      subst hv
      subst hwr
      subst hne
      have HQ := Lib.hid hq
      clear hq
      go_wp2_with (go_at_call 27; refine (unwrap_any b _ _ h2).mono ?_; rintro e w' ⟨rfl, rfl⟩)
      go_roundg (q.length)
      case measure => have := HQ.out; simp at this; omega
      case rel => exact ⟨q, rfl, hu', rfl⟩
set_option maxHeartbeats 4000000 in
set_option maxRecDepth 100000 in
theorem fisO (o : Addr) (p : List (ByteArray × Int)) (d : Int) (e : Value) (w : World) (he : IsErrO o w p e) :
    Calls Tryd.prog 21 #[e, .int .i64 d] w fun e w' => e = .returned (.bool false) ∧ w = w' := by
  have xTO := ex1
  have tOC := typeOfC
  have mC := methodComparable
  have xC := exComparable
  have cC := comparableC
  have HE := Lib.hid he
  obtain ⟨tx, vx, rfl⟩ := he.ne_nil
  clear he
  have Is1 : Hid (∀ W, W = w → Calls Tryd.prog 20 #[.iface tx vx, .iface 23 (.int .i64 d)] W fun e w' => e = .returned (.bool false) ∧ W = w') := by
    rintro W rfl
    go_enter Tryd.func20, Tryd.ntmps20
    go_wp2_with (go_at_call 43; fail)
    refine (is_codeO o p d _ _ HE.out).mono ?_; rintro e w' ⟨rfl, rfl⟩
    go_wp2
    go_ret
    exact ⟨rfl, rfl⟩
  clear xTO tOC mC xC cC
  go_enter Tryd.func21, Tryd.ntmps21
  go_wp2_with fail
  refine (Is1.out _ rfl).mono ?_; rintro e w' ⟨rfl, rfl⟩
  go_wp2
  go_ret
  exact ⟨rfl, rfl⟩
end Go.Proofs.YtgohlhgapboijaaDoor
