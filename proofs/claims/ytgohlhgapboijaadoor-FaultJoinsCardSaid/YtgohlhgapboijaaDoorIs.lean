/- errors.Is and fault.Is, asked for a code. -/
import Derived.Test.YtgohlhgapboijaaDoorFt3
namespace Go.Proofs.YtgohlhgapboijaaDoor
set_option linter.unusedVariables false
set_option linter.unusedSimpArgs false
open Go.RowKit Go.Extern.Stop Go.Stop Go.Extern

theorem methodComparable (h : Value) (w : World) : (Go.method 289 116 (.agg #[h]) "Comparable").run Tryd.prog w = .ok (128, .agg #[h]) w := by kernel_rfl
def cmpF : TypeId → Sem Value := fun t => do Rtype.noPackHeld "Comparable" t; pure (.bool (← typeInfo t).comparable)
theorem exComparable (args : Array Value) (w : World) : (callFunc 128 args).run Tryd.prog w = (((ReflectliteType.method cmpF) args).run Tryd.prog w).andThen fun v w' => .ok (.value v) w' :=
  @run_callFunc_extern Tryd.prog 128 _ (ReflectliteType.method cmpF) Tryd.func128 (by kernel_rfl) (by kernel_rfl) (by kernel_rfl) (by kernel_rfl) args w
theorem comparableC (w : World) : ((ReflectliteType.method cmpF) #[.agg #[.pointer (some ⟨4, 23, none⟩)]]).run Tryd.prog w = .ok (.bool true) w := by kernel_rfl
theorem infoCode : (Tryd.prog.info? 23).map (·.comparable) = some true := by kernel_rfl
theorem eqCC (c d : Int) (w : World) : (binOp .eql 27 (.iface 23 (.int .i64 c)) (.iface 23 (.int .i64 d))).run Tryd.prog w = .ok (.bool (c == d)) w := by
  obtain ⟨i, hi, hc⟩ := Option.map_eq_some_iff.1 infoCode
  have h : ∀ n : Nat, (Op.equalIn (n + 2) 27 (.iface 23 (.int .i64 c)) (.iface 23 (.int .i64 d))).run Tryd.prog w = .ok (c == d) w := fun n => by
    simp [Op.equalIn, run_underlying Tryd.underlying27, run_underlying Tryd.underlying23, typeInfo, hi, hc]
  simp only [binOp]
  simp [Op.equal, Op.maxDepth, h 9998]
theorem eqFC (v : Value) (d : Int) (w : World) : (binOp .eql 27 (.iface 38 v) (.iface 23 (.int .i64 d))).run Tryd.prog w = .ok (.bool false) w := by
  have h : ∀ n : Nat, (Op.equalIn (n + 2) 27 (.iface 38 v) (.iface 23 (.int .i64 d))).run Tryd.prog w = .ok false w := fun n => by
    simp [Op.equalIn, run_underlying Tryd.underlying27]
  simp only [binOp]
  simp [Op.equal, Op.maxDepth, h 9998]
theorem noIsC (v : Value) (xT : TypeId) (w : World) : (Instr.typeAssert (.iface 23 v) xT 118 true).run Tryd.prog w = .ok (.tuple #[.nilIface, .bool false]) w := run_typeAssert_lacksB Tryd.underlying118 (by kernel_rfl) (by kernel_rfl) v xT w
theorem noIsF (v : Value) (xT : TypeId) (w : World) : (Instr.typeAssert (.iface 38 v) xT 118 true).run Tryd.prog w = .ok (.tuple #[.nilIface, .bool false]) w := run_typeAssert_lacksB Tryd.underlying118 (by kernel_rfl) (by kernel_rfl) v xT w
set_option maxHeartbeats 4000000 in
set_option maxRecDepth 100000 in
/-- errors.is, asked for a code -/
theorem is_code (p : List (ByteArray × Int)) (c d : Int) (e : Value) (w : World) (he : IsErr w p c e) :
    Calls Tryd.prog 43 #[e, .iface 23 (.int .i64 d), .bool true] w fun e w' => e = .returned (.bool (c == d)) ∧ w = w' := by
  have nIC := noIsC
  have nIF := noIsF
  have nUC := noUnwrapC
  have nUsC := noUnwrapsC
  have uF := unwrapF
  have nF := nilAheadF
  have mU := methodUnwrapF
  have eCC := eqCC
  have eFC := eqFC
  go_enter Tryd.func43, Tryd.ntmps43
  go_wp2
  go_loopg [0] (p.length) (fun k u wr => ∃ q, q.length = k ∧ IsErr w q c u ∧ wr = w)
  case atStart => exact ⟨p, rfl, he, rfl⟩
  case round =>
    obtain ⟨q, hq, hu, hwr⟩ := hrel
    cases q with
    | nil =>
      have hu' : _ = Value.iface 23 (.int .i64 c) := hu
      subst hu'
      subst hwr
      obtain ⟨b, hb⟩ : ∃ b, (c == d) = b := ⟨_, rfl⟩
      have e1 := eCC c d wr
      rw [hb] at e1
      have HB := Lib.hid hb
      clear eCC hb
      cases b with
      | true =>
        go_wp2
        go_ret
        exact ⟨by rw [HB.out]; rfl, rfl⟩
      | false =>
        go_wp2
        go_ret
        exact ⟨by rw [HB.out]; rfl, rfl⟩
    | cons x q =>
      obtain ⟨s, n⟩ := x
      obtain ⟨b, u', hv, _, _, h2, hu'⟩ := hu
      obtain ⟨tx, vx, hne⟩ := hu'.ne_nil
      subst hv
      subst hwr
      subst hne
      have HQ := Lib.hid hq
      clear hq
      go_wp2_with (go_at_call 27; refine (unwrap_any b _ _ h2).mono ?_; rintro e w' ⟨rfl, rfl⟩)
      go_roundg (q.length)
      case measure => have := HQ.out; simp at this; omega
      case rel => exact ⟨q, rfl, hu', rfl⟩
set_option maxHeartbeats 4000000 in
set_option maxRecDepth 100000 in
/-- errors.Is, asked for a code -/
theorem Is_code (p : List (ByteArray × Int)) (c d : Int) (e : Value) (w : World) (he : IsErr w p c e) :
    Calls Tryd.prog 20 #[e, .iface 23 (.int .i64 d)] w fun e w' => e = .returned (.bool (c == d)) ∧ w = w' := by
  have xTO := ex1
  have tOC := typeOfC
  have mC := methodComparable
  have xC := exComparable
  have cC := comparableC
  have HE := Lib.hid he
  obtain ⟨tx, vx, rfl⟩ := he.ne_nil
  clear he
  go_enter Tryd.func20, Tryd.ntmps20
  go_wp2_with (go_at_call 43; fail)
  refine (is_code p c d _ _ HE.out).mono ?_; rintro e w' ⟨rfl, rfl⟩
  go_wp2
  go_ret
  exact ⟨rfl, rfl⟩
/-- fault.Is -/
theorem fis_any (p : List (ByteArray × Int)) (c d : Int) (e : Value) (w : World) (he : IsErr w p c e) :
    Calls Tryd.prog 21 #[e, .int .i64 d] w fun e w' => e = .returned (.bool (c == d)) ∧ w = w' := by
  have HE := Lib.hid he
  obtain ⟨tx, vx, rfl⟩ := he.ne_nil
  clear he
  go_enter Tryd.func21, Tryd.ntmps21
  go_wp2_with fail
  refine (Is_code p c d _ _ HE.out).mono ?_; rintro e w' ⟨rfl, rfl⟩
  go_wp2
  go_ret
  exact ⟨rfl, rfl⟩
theorem fis_nil (d : Int) (w : World) : Calls Tryd.prog 21 #[.nilIface, .int .i64 d] w fun e w' => e = .returned (.bool (decide (d = 0))) ∧ w = w' := by
  go_enter Tryd.func21, Tryd.ntmps21
  go_wp2
  go_ret
  exact ⟨rfl, rfl⟩
end Go.Proofs.YtgohlhgapboijaaDoor
