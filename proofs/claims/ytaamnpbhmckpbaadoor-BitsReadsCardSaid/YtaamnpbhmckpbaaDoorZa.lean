/- Contracts of this seat: ErrFacts, Err, Err2, Err3, Err4, Same, Fail, Ints, Fall, Mm, Fr, AnyB, BMath, Copy, WOwn, Push, Blk, Fr2, In, In2, EdR, CpF, Rep, Mat. -/
import Derived.Test.YtaamnpbhmckpbaaDoorProg
import Derived.WalkKit
import Derived.LaidEql
import Derived.Stop.Asserts
import Derived.RowKitTokens
import Derived.Deep.LoopGhost
import Derived.Lib.Hide
import Derived.StillTailTactics
import Derived.Deep.QuietTactic
import Derived.BigQuiet
import Derived.Deep.AppendLies
import Derived.Deep.RegionHeld3
import Derived.Test.YtaamnpbhmckpbaaDoorCards
import Derived.Sort.WalkC
import Derived.Lib.OwnBridge
import Derived.Maps.AppendAt
import Derived.BigRegion
import Derived.Deep.RegionWith
import Derived.Laws.CopyOwn
import Derived.WalkSpells
import Derived.Deep.RegionLaw
import Derived.Deep.OwnRows
/- Facts of this seat on the model's entries for internal/reflectlite, at the types api.Code and fault.Fault: what errors.As asks. -/
namespace Go.Proofs.YtaamnpbhmckpbaaDoor
set_option linter.unusedVariables false
set_option linter.unusedSimpArgs false
open Go.RowKit Go.Extern.Stop Go.Stop Go.Extern

theorem rlm (z : Sem Value) (f : TypeId → Addr → Nat → Nat → Sem Value) (v : Value) :
    ReflectliteValue.method z f #[v] = (do match ← ReflectliteValue.parts v with | none => z | some (t, a, fl) => f t a fl (fl % 32)) := rfl
theorem rls (v x : Value) : ReflectliteValue.set #[v, x] = (do
    let (some (dst, a, fl), some (src, b, _)) := (← ReflectliteValue.parts v, ← ReflectliteValue.parts x)
      | unsupported (.noEntry "extern/(internal/reflectlite.Value).Set.zeroValue")
    if fl / ReflectliteValue.flagAddr % 2 == 0 then unsupported (.noEntry "extern/(internal/reflectlite.Value).Set.unaddressable")
    let val ← loadVar src b
    if ← Rtype.directlyAssignable dst src then storeVar dst a val
    else if ← Rtype.implements dst src then
      if (← Rtype.kind src) == 20 then
        match val with
        | .nilIface => unsupported (.noEntry "extern/reflectlite: a nil value of one interface type handed on as a value of another")
        | _ => storeVar dst a val
      else storeVar dst a (.iface src val)
    else panicString ("reflectlite.Set: value of type " ++ (← Rtype.spelt src) ++ " is not assignable to type " ++ (← Rtype.spelt dst))
    pure (.tuple #[])) := rfl

theorem methodKind (h : Value) (w : World) : (Go.method 280 139 (.agg #[h]) "Kind").run Tryd.prog w = .ok (110, h) w := by kernel_rfl
theorem methodElem (h : Value) (w : World) : (Go.method 280 139 (.agg #[h]) "Elem").run Tryd.prog w = .ok (122, .agg #[h]) w := by kernel_rfl
theorem methodImplements (h : Value) (w : World) : (Go.method 280 139 (.agg #[h]) "Implements").run Tryd.prog w = .ok (123, .agg #[h]) w := by kernel_rfl
theorem methodAssignableTo (h : Value) (w : World) : (Go.method 280 139 (.agg #[h]) "AssignableTo").run Tryd.prog w = .ok (120, .agg #[h]) w := by kernel_rfl
theorem typeOfC (v : Value) (w : World) : (ReflectliteType.typeOf #[.iface 36 v]).run Tryd.prog w = .ok (.iface 139 (.agg #[.pointer (some ⟨1, 36, none⟩)])) w := by kernel_rfl
theorem typeOfF (v : Value) (w : World) : (ReflectliteType.typeOf #[.iface 118 v]).run Tryd.prog w = .ok (.iface 139 (.agg #[.pointer (some ⟨1, 118, none⟩)])) w := by kernel_rfl
theorem kindOfC (w : World) : ((ReflectliteType.abiMethod fun t => (fun a : Nat => Value.int IntKind.u8 (a : Int)) <$> Rtype.kind t) #[.pointer (some ⟨1, 36, none⟩)]).run Tryd.prog w = .ok (.int .u8 2) w := by kernel_rfl
theorem kindOfF (w : World) : ((ReflectliteType.abiMethod fun t => (fun a : Nat => Value.int IntKind.u8 (a : Int)) <$> Rtype.kind t) #[.pointer (some ⟨1, 118, none⟩)]).run Tryd.prog w = .ok (.int .u8 22) w := by kernel_rfl
theorem implC (w : World) : (ReflectliteType.relation "Implements" ReflectliteType.implements_ #[.agg #[.pointer (some ⟨1, 36, none⟩)], .iface 139 (.agg #[.pointer (some ⟨1, 34, none⟩)])]).run Tryd.prog w = .ok (.bool true) w := by kernel_rfl
theorem implF (w : World) : (ReflectliteType.relation "Implements" ReflectliteType.implements_ #[.agg #[.pointer (some ⟨1, 118, none⟩)], .iface 139 (.agg #[.pointer (some ⟨1, 34, none⟩)])]).run Tryd.prog w = .ok (.bool true) w := by kernel_rfl
theorem assignCC (w : World) : (ReflectliteType.relation "AssignableTo" ReflectliteType.assignableTo #[.agg #[.pointer (some ⟨1, 36, none⟩)], .iface 139 (.agg #[.pointer (some ⟨1, 36, none⟩)])]).run Tryd.prog w = .ok (.bool true) w := by kernel_rfl
theorem assignCF (w : World) : (ReflectliteType.relation "AssignableTo" ReflectliteType.assignableTo #[.agg #[.pointer (some ⟨1, 36, none⟩)], .iface 139 (.agg #[.pointer (some ⟨1, 118, none⟩)])]).run Tryd.prog w = .ok (.bool false) w := by kernel_rfl
theorem assignFC (w : World) : (ReflectliteType.relation "AssignableTo" ReflectliteType.assignableTo #[.agg #[.pointer (some ⟨1, 118, none⟩)], .iface 139 (.agg #[.pointer (some ⟨1, 36, none⟩)])]).run Tryd.prog w = .ok (.bool false) w := by kernel_rfl
theorem assignFF (w : World) : (ReflectliteType.relation "AssignableTo" ReflectliteType.assignableTo #[.agg #[.pointer (some ⟨1, 118, none⟩)], .iface 139 (.agg #[.pointer (some ⟨1, 118, none⟩)])]).run Tryd.prog w = .ok (.bool true) w := by kernel_rfl

/-! the target *api.Code -/
theorem valueOfPC (t : Addr) (w : World) : (ReflectliteValue.unpack (.iface 117 (.pointer (some t)))).run Tryd.prog w
    = .ok (.agg #[.pointer (some ⟨1, 117, none⟩), .pointer (some ⟨w.heap.size, 0, none⟩), .int .u64 150]) (w.alloc (.cells #[.pointer (some t)] 117)) := by kernel_rfl
theorem typePC (a : Addr) (w : World) : (ReflectliteValue.methodAny (ReflectliteValue.valueError "reflectlite.Value.Type" 0) (fun t _ _ _ => ReflectliteType.toType t) #[.agg #[.pointer (some ⟨1, 117, none⟩), .pointer (some a), .int .u64 150]]).run Tryd.prog w
    = .ok (.iface 139 (.agg #[.pointer (some ⟨1, 117, none⟩)])) w := by kernel_rfl
theorem kindPC (w : World) : ((ReflectliteType.abiMethod fun t => (fun a : Nat => Value.int IntKind.u8 (a : Int)) <$> Rtype.kind t) #[.pointer (some ⟨1, 117, none⟩)]).run Tryd.prog w = .ok (.int .u8 22) w := by kernel_rfl
theorem partsPC (a : Addr) (w : World) : (ReflectliteValue.parts (.agg #[.pointer (some ⟨1, 117, none⟩), .pointer (some a), .int .u64 150])).run Tryd.prog w = .ok (some (117, a, 150)) w := by kernel_rfl
theorem isNilPC (a p : Addr) (W : World) (ha : W.cell? a = some (.pointer (some p))) :
    (ReflectliteValue.method (ReflectliteValue.valueError "reflectlite.Value.IsNil" 0) ReflectliteValue.isNil #[.agg #[.pointer (some ⟨1, 117, none⟩), .pointer (some a), .int .u64 150]]).run Tryd.prog W = .ok (.bool false) W := by
  rw [rlm]
  simp only [Sem.run_bind, partsPC, Result.andThen]
  simp [ReflectliteValue.isNil, loadVar, isAgg, underlying, Tryd.underlying117, ha, Result.andThen]
theorem elemPC (w : World) : (ReflectliteType.method ReflectliteType.elem #[.agg #[.pointer (some ⟨1, 117, none⟩)]]).run Tryd.prog w = .ok (.iface 139 (.agg #[.pointer (some ⟨1, 36, none⟩)])) w := by kernel_rfl
theorem valueOfC (c : Int) (w : World) : (ReflectliteValue.unpack (.iface 36 (.int .i64 c))).run Tryd.prog w
    = .ok (.agg #[.pointer (some ⟨1, 36, none⟩), .pointer (some ⟨w.heap.size, 0, none⟩), .int .u64 130]) (w.alloc (.cells #[.int .i64 c] 36)) := by kernel_rfl
theorem elemOfPC (w : World) : (Rtype.elem? 117).run Tryd.prog w = .ok (some 36) w := by kernel_rfl
theorem mkC (p : Addr) (w : World) : (ReflectliteValue.mk 36 p ReflectliteValue.flagAddr).run Tryd.prog w = .ok (.agg #[.pointer (some ⟨1, 36, none⟩), .pointer (some p), .int .u64 386]) w := by kernel_rfl
theorem elemVPC (a p : Addr) (W : World) (ha : W.cell? a = some (.pointer (some p))) :
    (ReflectliteValue.method (ReflectliteValue.valueError "reflectlite.Value.Elem" 0) ReflectliteValue.elem #[.agg #[.pointer (some ⟨1, 117, none⟩), .pointer (some a), .int .u64 150]]).run Tryd.prog W
      = .ok (.agg #[.pointer (some ⟨1, 36, none⟩), .pointer (some p), .int .u64 386]) W := by
  rw [rlm]
  simp only [Sem.run_bind, partsPC, Result.andThen]
  simp [ReflectliteValue.elem, loadVar, isAgg, underlying, Tryd.underlying117, ha, Result.andThen, elemOfPC, mkC]
theorem partsCa (a : Addr) (w : World) : (ReflectliteValue.parts (.agg #[.pointer (some ⟨1, 36, none⟩), .pointer (some a), .int .u64 386])).run Tryd.prog w = .ok (some (36, a, 386)) w := by kernel_rfl
theorem partsC (a : Addr) (w : World) : (ReflectliteValue.parts (.agg #[.pointer (some ⟨1, 36, none⟩), .pointer (some a), .int .u64 130])).run Tryd.prog w = .ok (some (36, a, 130)) w := by kernel_rfl
theorem directC (w : World) : (Rtype.directlyAssignable 36 36).run Tryd.prog w = .ok true w := by kernel_rfl
theorem sizeC (w : World) : (sizeOf 36).run Tryd.prog w = .ok 1 w := by kernel_rfl
theorem setC (ta b : Addr) (c : Int) (old : Value) (W : World) (hb : W.cell? b = some (.int .i64 c)) (ht : W.cell? ta = some old) (hf : W.frozen? ta = false) :
    (ReflectliteValue.set #[.agg #[.pointer (some ⟨1, 36, none⟩), .pointer (some ta), .int .u64 386], .agg #[.pointer (some ⟨1, 36, none⟩), .pointer (some b), .int .u64 130]]).run Tryd.prog W
      = .ok (.tuple #[]) (W.setCell ta (.int .i64 c)) := by
  rw [rls]
  simp only [Sem.run_bind, partsCa, partsC, Result.andThen]
  simp [ReflectliteValue.flagAddr, loadVar, isAgg, underlying, Tryd.underlying36, hb, Result.andThen, directC, storeVar, Value.cells, storeCells, Addr.add]
  rw [run_store Tryd.prog W ta _ _ (by rfl)]
  simp [ht, hf]

/-! the target **fault.Fault -/
theorem valueOfPF (t : Addr) (w : World) : (ReflectliteValue.unpack (.iface 119 (.pointer (some t)))).run Tryd.prog w
    = .ok (.agg #[.pointer (some ⟨1, 119, none⟩), .pointer (some ⟨w.heap.size, 0, none⟩), .int .u64 150]) (w.alloc (.cells #[.pointer (some t)] 119)) := by kernel_rfl
theorem typePF (a : Addr) (w : World) : (ReflectliteValue.methodAny (ReflectliteValue.valueError "reflectlite.Value.Type" 0) (fun t _ _ _ => ReflectliteType.toType t) #[.agg #[.pointer (some ⟨1, 119, none⟩), .pointer (some a), .int .u64 150]]).run Tryd.prog w
    = .ok (.iface 139 (.agg #[.pointer (some ⟨1, 119, none⟩)])) w := by kernel_rfl
theorem kindPF (w : World) : ((ReflectliteType.abiMethod fun t => (fun a : Nat => Value.int IntKind.u8 (a : Int)) <$> Rtype.kind t) #[.pointer (some ⟨1, 119, none⟩)]).run Tryd.prog w = .ok (.int .u8 22) w := by kernel_rfl
theorem partsPF (a : Addr) (w : World) : (ReflectliteValue.parts (.agg #[.pointer (some ⟨1, 119, none⟩), .pointer (some a), .int .u64 150])).run Tryd.prog w = .ok (some (119, a, 150)) w := by kernel_rfl
theorem isNilPF (a p : Addr) (W : World) (ha : W.cell? a = some (.pointer (some p))) :
    (ReflectliteValue.method (ReflectliteValue.valueError "reflectlite.Value.IsNil" 0) ReflectliteValue.isNil #[.agg #[.pointer (some ⟨1, 119, none⟩), .pointer (some a), .int .u64 150]]).run Tryd.prog W = .ok (.bool false) W := by
  rw [rlm]
  simp only [Sem.run_bind, partsPF, Result.andThen]
  simp [ReflectliteValue.isNil, loadVar, isAgg, underlying, Tryd.underlying119, ha, Result.andThen]
theorem elemPF (w : World) : (ReflectliteType.method ReflectliteType.elem #[.agg #[.pointer (some ⟨1, 119, none⟩)]]).run Tryd.prog w = .ok (.iface 139 (.agg #[.pointer (some ⟨1, 118, none⟩)])) w := by kernel_rfl
theorem valueOfF (e : Addr) (w : World) : (ReflectliteValue.unpack (.iface 118 (.pointer (some e)))).run Tryd.prog w
    = .ok (.agg #[.pointer (some ⟨1, 118, none⟩), .pointer (some ⟨w.heap.size, 0, none⟩), .int .u64 150]) (w.alloc (.cells #[.pointer (some e)] 118)) := by kernel_rfl
theorem elemOfPF (w : World) : (Rtype.elem? 119).run Tryd.prog w = .ok (some 118) w := by kernel_rfl
theorem mkF (p : Addr) (w : World) : (ReflectliteValue.mk 118 p ReflectliteValue.flagAddr).run Tryd.prog w = .ok (.agg #[.pointer (some ⟨1, 118, none⟩), .pointer (some p), .int .u64 406]) w := by kernel_rfl
theorem elemVPF (a p : Addr) (W : World) (ha : W.cell? a = some (.pointer (some p))) :
    (ReflectliteValue.method (ReflectliteValue.valueError "reflectlite.Value.Elem" 0) ReflectliteValue.elem #[.agg #[.pointer (some ⟨1, 119, none⟩), .pointer (some a), .int .u64 150]]).run Tryd.prog W
      = .ok (.agg #[.pointer (some ⟨1, 118, none⟩), .pointer (some p), .int .u64 406]) W := by
  rw [rlm]
  simp only [Sem.run_bind, partsPF, Result.andThen]
  simp [ReflectliteValue.elem, loadVar, isAgg, underlying, Tryd.underlying119, ha, Result.andThen, elemOfPF, mkF]
theorem partsFa (a : Addr) (w : World) : (ReflectliteValue.parts (.agg #[.pointer (some ⟨1, 118, none⟩), .pointer (some a), .int .u64 406])).run Tryd.prog w = .ok (some (118, a, 406)) w := by kernel_rfl
theorem partsF (a : Addr) (w : World) : (ReflectliteValue.parts (.agg #[.pointer (some ⟨1, 118, none⟩), .pointer (some a), .int .u64 150])).run Tryd.prog w = .ok (some (118, a, 150)) w := by kernel_rfl
theorem directF (w : World) : (Rtype.directlyAssignable 118 118).run Tryd.prog w = .ok true w := by kernel_rfl
theorem sizeF (w : World) : (sizeOf 118).run Tryd.prog w = .ok 1 w := by kernel_rfl
theorem setF (ta b e : Addr) (old : Value) (W : World) (hb : W.cell? b = some (.pointer (some e))) (ht : W.cell? ta = some old) (hf : W.frozen? ta = false) :
    (ReflectliteValue.set #[.agg #[.pointer (some ⟨1, 118, none⟩), .pointer (some ta), .int .u64 406], .agg #[.pointer (some ⟨1, 118, none⟩), .pointer (some b), .int .u64 150]]).run Tryd.prog W
      = .ok (.tuple #[]) (W.setCell ta (.pointer (some e))) := by
  rw [rls]
  simp only [Sem.run_bind, partsFa, partsF, Result.andThen]
  simp [ReflectliteValue.flagAddr, loadVar, isAgg, underlying, Tryd.underlying118, hb, Result.andThen, directF, storeVar, Value.cells, storeCells, Addr.add]
  rw [run_store Tryd.prog W ta _ _ (by rfl)]
  simp [ht, hf]

/-! assertions of errors.as -/
theorem noAsC (v : Value) (xT : TypeId) (w : World) : (Instr.typeAssert (.iface 36 v) xT 144 true).run Tryd.prog w = .ok (.tuple #[.nilIface, .bool false]) w := run_typeAssert_lacksB Tryd.underlying144 (by kernel_rfl) (by kernel_rfl) v xT w
theorem noAsF (v : Value) (xT : TypeId) (w : World) : (Instr.typeAssert (.iface 118 v) xT 144 true).run Tryd.prog w = .ok (.tuple #[.nilIface, .bool false]) w := run_typeAssert_lacksB Tryd.underlying144 (by kernel_rfl) (by kernel_rfl) v xT w
theorem noUnwrapC (v : Value) (xT : TypeId) (w : World) : (Instr.typeAssert (.iface 36 v) xT 147 true).run Tryd.prog w = .ok (.tuple #[.nilIface, .bool false]) w := run_typeAssert_lacksB Tryd.underlying147 (by kernel_rfl) (by kernel_rfl) v xT w
theorem noUnwrapsC (v : Value) (xT : TypeId) (w : World) : (Instr.typeAssert (.iface 36 v) xT 148 true).run Tryd.prog w = .ok (.tuple #[.nilIface, .bool false]) w := run_typeAssert_lacksB Tryd.underlying148 (by kernel_rfl) (by kernel_rfl) v xT w
theorem unwrapF (v : Value) (xT : TypeId) (w : World) : (Instr.typeAssert (.iface 118 v) xT 147 true).run Tryd.prog w = .ok (.tuple #[.iface 118 v, .bool true]) w := run_typeAssert_hasB Tryd.underlying147 (by kernel_rfl) v xT w
theorem nilAheadF (a : Addr) (w : World) : (nilAhead 280 118 (.pointer (some a)) "Unwrap").run Tryd.prog w = .ok (some false) w := by kernel_rfl
theorem methodUnwrapF (a : Addr) (w : World) : (Go.method 280 118 (.pointer (some a)) "Unwrap").run Tryd.prog w = .ok (115, .pointer (some a)) w := by kernel_rfl
theorem ex1 (args : Array Value) (w : World) : (callFunc 93 args).run Tryd.prog w = (((ReflectliteType.typeOf) args).run Tryd.prog w).andThen fun v w' => .ok (.value v) w' :=
  @run_callFunc_extern Tryd.prog 93 _ (ReflectliteType.typeOf) Tryd.func93 (by kernel_rfl) (by kernel_rfl) (by kernel_rfl) (by kernel_rfl) args w
theorem ex2 (args : Array Value) (w : World) : (callFunc 88 args).run Tryd.prog w = ((((fun args => ReflectliteValue.unpack (args.getD 0 (.tuple #[])))) args).run Tryd.prog w).andThen fun v w' => .ok (.value v) w' :=
  @run_callFunc_extern Tryd.prog 88 _ ((fun args => ReflectliteValue.unpack (args.getD 0 (.tuple #[])))) Tryd.func88 (by kernel_rfl) (by kernel_rfl) (by kernel_rfl) (by kernel_rfl) args w
theorem ex3 (args : Array Value) (w : World) : (callFunc 120 args).run Tryd.prog w = ((((ReflectliteType.relation "AssignableTo" ReflectliteType.assignableTo)) args).run Tryd.prog w).andThen fun v w' => .ok (.value v) w' :=
  @run_callFunc_extern Tryd.prog 120 _ ((ReflectliteType.relation "AssignableTo" ReflectliteType.assignableTo)) Tryd.func120 (by kernel_rfl) (by kernel_rfl) (by kernel_rfl) (by kernel_rfl) args w
theorem ex4 (args : Array Value) (w : World) : (callFunc 94 args).run Tryd.prog w = ((((ReflectliteValue.method (ReflectliteValue.valueError "reflectlite.Value.Elem" 0) ReflectliteValue.elem)) args).run Tryd.prog w).andThen fun v w' => .ok (.value v) w' :=
  @run_callFunc_extern Tryd.prog 94 _ ((ReflectliteValue.method (ReflectliteValue.valueError "reflectlite.Value.Elem" 0) ReflectliteValue.elem)) Tryd.func94 (by kernel_rfl) (by kernel_rfl) (by kernel_rfl) (by kernel_rfl) args w
theorem ex5 (args : Array Value) (w : World) : (callFunc 95 args).run Tryd.prog w = (((ReflectliteValue.set) args).run Tryd.prog w).andThen fun v w' => .ok (.value v) w' :=
  @run_callFunc_extern Tryd.prog 95 _ (ReflectliteValue.set) Tryd.func95 (by kernel_rfl) (by kernel_rfl) (by kernel_rfl) (by kernel_rfl) args w
theorem ex6 (args : Array Value) (w : World) : (callFunc 89 args).run Tryd.prog w = ((((ReflectliteValue.methodAny (ReflectliteValue.valueError "reflectlite.Value.Type" 0) (fun t _ _ _ => ReflectliteType.toType t))) args).run Tryd.prog w).andThen fun v w' => .ok (.value v) w' :=
  @run_callFunc_extern Tryd.prog 89 _ ((ReflectliteValue.methodAny (ReflectliteValue.valueError "reflectlite.Value.Type" 0) (fun t _ _ _ => ReflectliteType.toType t))) Tryd.func89 (by kernel_rfl) (by kernel_rfl) (by kernel_rfl) (by kernel_rfl) args w
theorem ex7 (args : Array Value) (w : World) : (callFunc 90 args).run Tryd.prog w = ((((ReflectliteValue.method (ReflectliteValue.valueError "reflectlite.Value.IsNil" 0) ReflectliteValue.isNil)) args).run Tryd.prog w).andThen fun v w' => .ok (.value v) w' :=
  @run_callFunc_extern Tryd.prog 90 _ ((ReflectliteValue.method (ReflectliteValue.valueError "reflectlite.Value.IsNil" 0) ReflectliteValue.isNil)) Tryd.func90 (by kernel_rfl) (by kernel_rfl) (by kernel_rfl) (by kernel_rfl) args w
theorem ex8 (args : Array Value) (w : World) : (callFunc 110 args).run Tryd.prog w = ((((ReflectliteType.abiMethod fun t => do pure (.int .u8 (← Rtype.kind t)))) args).run Tryd.prog w).andThen fun v w' => .ok (.value v) w' :=
  @run_callFunc_extern Tryd.prog 110 _ ((ReflectliteType.abiMethod fun t => do pure (.int .u8 (← Rtype.kind t)))) Tryd.func110 (by kernel_rfl) (by kernel_rfl) (by kernel_rfl) (by kernel_rfl) args w
theorem ex9 (args : Array Value) (w : World) : (callFunc 122 args).run Tryd.prog w = ((((ReflectliteType.method ReflectliteType.elem)) args).run Tryd.prog w).andThen fun v w' => .ok (.value v) w' :=
  @run_callFunc_extern Tryd.prog 122 _ ((ReflectliteType.method ReflectliteType.elem)) Tryd.func122 (by kernel_rfl) (by kernel_rfl) (by kernel_rfl) (by kernel_rfl) args w
theorem ex10 (args : Array Value) (w : World) : (callFunc 123 args).run Tryd.prog w = ((((ReflectliteType.relation "Implements" ReflectliteType.implements_)) args).run Tryd.prog w).andThen fun v w' => .ok (.value v) w' :=
  @run_callFunc_extern Tryd.prog 123 _ ((ReflectliteType.relation "Implements" ReflectliteType.implements_)) Tryd.func123 (by kernel_rfl) (by kernel_rfl) (by kernel_rfl) (by kernel_rfl) args w
end Go.Proofs.YtaamnpbhmckpbaaDoor

/- Errors as the program makes them (a code, wrapped by any number of Faults), and what errors.As, fault.Of, fault.Path and fault.In answer for them: contracts over this seat's translation. -/
namespace Go.Proofs.YtaamnpbhmckpbaaDoor
set_option linter.unusedVariables false
set_option linter.unusedSimpArgs false
open Go.RowKit Go.Extern.Stop Go.Stop Go.Extern

/-- nothing that was there has changed -/
def Ext (w w' : World) : Prop := Below w.heap.size w w'
theorem Ext.refl (w : World) : Ext w w := Below.refl _ _
theorem Ext.size {w w' : World} (h : Ext w w') : w.heap.size ≤ w'.heap.size := Below.size h
theorem Ext.trans {a b c : World} (h : Ext a b) (k : Ext b c) : Ext a c := Below.trans h (Below.mono k h.size)
theorem Ext.alloc {a w : World} (h : Ext a w) (o : Obj) : Ext a (w.alloc o) := Below.alloc h h.size o
theorem Ext.drew {a w : World} (h : Ext a w) : Ext a w.drew := Below.drew h
theorem Ext.setCell {a w : World} (h : Ext a w) {p : Addr} (hp : a.heap.size ≤ p.block) (u : Value) : Ext a (w.setCell p u) := Below.setCell h hp u
theorem Ext.lt {w : World} {p : Addr} {v : Value} (h : w.cell? p = some v) : p.block < w.heap.size := World.block_lt_of_cell? w p h
theorem Ext.cell {w w' : World} (h : Ext w w') {p : Addr} {v : Value} (hp : w.cell? p = some v) : w'.cell? p = some v := (Below.cell h (Ext.lt hp)).trans hp
theorem Ext.block {w w' : World} (h : Ext w w') {k : Nat} (hk : k < w.heap.size) : w'.heap[k]? = w.heap[k]? := Below.block h k hk

/-- an error: a code, wrapped by Faults of these steps, the outermost first -/
def IsErr (w : World) : List (ByteArray × Int) → Int → Value → Prop
  | [], c, v => v = .iface 36 (.int .i64 c)
  | (s, n) :: p, c, v => ∃ b u, v = .iface 118 (.pointer (some ⟨b, 0, none⟩)) ∧ w.cell? ⟨b, 0, none⟩ = some (.string s) ∧ w.cell? ⟨b, 1, none⟩ = some (.int .i64 n) ∧ w.cell? ⟨b, 2, none⟩ = some u ∧ IsErr w p c u
theorem IsErr.ext {w w' : World} (h : Ext w w') : ∀ {p : List (ByteArray × Int)} {c : Int} {v : Value}, IsErr w p c v → IsErr w' p c v
  | [], _, _, hv => hv
  | (_, _) :: _, _, _, ⟨b, u, hv, h0, h1, h2, hu⟩ => ⟨b, u, hv, h.cell h0, h.cell h1, h.cell h2, hu.ext h⟩
theorem IsErr.ne_nil {w : World} {p : List (ByteArray × Int)} {c : Int} {v : Value} (h : IsErr w p c v) : ∃ t x, v = .iface t x := by
  cases p with
  | nil => exact ⟨_, _, h⟩
  | cons a p => obtain ⟨b, u, hv, _⟩ := h; exact ⟨_, _, hv⟩

/-- (*fault.Fault).Unwrap -/
theorem unwrap_any (b : Nat) (u : Value) (w : World) (h : w.cell? ⟨b, 2, none⟩ = some u) :
    Calls Tryd.prog 115 #[.pointer (some ⟨b, 0, none⟩)] w fun e w' => e = .returned u ∧ w = w' := by
  go_enter Tryd.func115, Tryd.ntmps115
  go_wp2
  go_ret
  exact ⟨rfl, rfl⟩

set_option maxHeartbeats 2000000 in
/-- errors.as, asked for an api.Code -/
theorem as_code (p : List (ByteArray × Int)) (c : Int) (e old : Value) (t a : Addr) (w : World) (he : IsErr w p c e) (ha : w.cell? a = some (.pointer (some t))) (ht : w.cell? t = some old) (hf : w.frozen? t = false) :
    Calls Tryd.prog 91 #[e, .iface 117 (.pointer (some t)), .agg #[.pointer (some ⟨1, 117, none⟩), .pointer (some a), .int .u64 150], .iface 139 (.agg #[.pointer (some ⟨1, 36, none⟩)])] w
      fun ev w' => ev = .returned (.bool true) ∧ ∃ w1, Ext w w1 ∧ w' = w1.setCell t (.int .i64 c) := by
  have xTO := ex1
  have xVO := ex2
  have xAs := ex3
  have xEl := ex4
  have xSet := ex5
  have tOC := typeOfC
  have tOF := typeOfF
  have mA := methodAssignableTo
  have aCC := assignCC
  have aFC := assignFC
  have vC := valueOfC
  have nAC := noAsC
  have nAF := noAsF
  have uF := unwrapF
  have nF := nilAheadF
  have mU := methodUnwrapF
  have hE : Ext w (w.alloc (.cells #[.pointer (some ⟨1, 117, none⟩), .pointer (some a), .int .u64 150] 129)) := (Ext.refl w).alloc _
  go_enter Tryd.func91, Tryd.ntmps91
  go_wp2
  go_loopg [0] (p.length) (fun k u wr => ∃ q, q.length = k ∧ IsErr w q c u ∧ wr = w.alloc (.cells #[.pointer (some ⟨1, 117, none⟩), .pointer (some a), .int .u64 150] 129))
  case atStart => exact ⟨p, rfl, he, rfl⟩
  case round =>
    obtain ⟨q, hq, hu, hwr⟩ := hrel
    cases q with
    | nil =>
      have hu' : _ = Value.iface 36 (.int .i64 c) := hu
      subst hu'
      subst hwr
      have el := elemVPC a t ((w.alloc (.cells #[.pointer (some ⟨1, 117, none⟩), .pointer (some a), .int .u64 150] 129))) (hE.cell ha)
      have st := setC t ⟨w.heap.size + 1, 0, none⟩ c old ((w.alloc (.cells #[.pointer (some ⟨1, 117, none⟩), .pointer (some a), .int .u64 150] 129)).alloc (.cells #[.int .i64 c] 36)) (by rw [World.cell?_alloc_at _ _ _ _ (by simp)]; rfl) ((hE.alloc _).cell ht) ((Below.frozen (hE.alloc _) (Ext.lt ht)).trans hf)
      go_wp2
      go_ret
      exact ⟨rfl, _, hE.alloc _, rfl⟩
    | cons x q =>
      obtain ⟨s, n⟩ := x
      obtain ⟨b, u', hv, _, _, h2, hu'⟩ := hu
      obtain ⟨tx, vx, hne⟩ := hu'.ne_nil
      subst hv
      subst hwr
      subst hne
      have HQ := Lib.hid hq
      clear hq
      go_wp2_with (go_at_call 115; refine (unwrap_any b _ _ (hE.cell h2)).mono ?_; rintro e w' ⟨rfl, rfl⟩)
      go_roundg (q.length)
      case measure => have := HQ.out; simp at this; omega
      case rel => exact ⟨q, rfl, hu', rfl⟩

/-- what the row lists: the handle of the type error lies in errors.errorType -/
def EtIs (w : World) : Prop := w.cell? ⟨0, 0, none⟩ = some (.iface 139 (.agg #[.pointer (some ⟨1, 34, none⟩)]))
theorem EtIs.ext {w w' : World} (h : EtIs w) (e : Ext w w') : EtIs w' := e.cell h

set_option maxHeartbeats 2000000 in
/-- errors.As, asked for an api.Code -/
theorem As_code (p : List (ByteArray × Int)) (c : Int) (e old : Value) (t : Addr) (w : World) (hg : EtIs w) (he : IsErr w p c e) (ht : w.cell? t = some old) (hf : w.frozen? t = false) :
    Calls Tryd.prog 79 #[e, .iface 117 (.pointer (some t))] w
      fun ev w' => ev = .returned (.bool true) ∧ ∃ w1, Ext w w1 ∧ w' = w1.setCell t (.int .i64 c) := by
  have xVO := ex2
  have xTy := ex6
  have xIN := ex7
  have xKd := ex8
  have xEl := ex9
  have xIm := ex10
  have vPC := valueOfPC
  have tyPC := typePC
  have mK := methodKind
  have mE := methodElem
  have mI := methodImplements
  have kPC := kindPC
  have kC := kindOfC
  have ePC := elemPC
  have iC := implC
  have E1 : Ext w (w.alloc (.cells #[.pointer (some t)] 117)) := (Ext.refl w).alloc _
  have E2 := E1.alloc (.cells #[.pointer (some ⟨1, 117, none⟩), .pointer (some ⟨w.heap.size, 0, none⟩), .int .u64 150] 129)
  have n8 := isNilPC ⟨w.heap.size, 0, none⟩ t ((w.alloc (.cells #[.pointer (some t)] 117)).alloc (.cells #[.pointer (some ⟨1, 117, none⟩), .pointer (some ⟨w.heap.size, 0, none⟩), .int .u64 150] 129)) (by simp)
  have hg2 := E2.cell hg
  obtain ⟨tx, vx, hne⟩ := he.ne_nil
  subst hne
  go_enter Tryd.func79, Tryd.ntmps79
  go_wp2_with (go_at_call 91; refine (as_code p c _ old t ⟨w.heap.size, 0, none⟩ _ (he.ext E2) (by simp) (E2.cell ht) ((Below.frozen E2 (Ext.lt ht)).trans hf)).mono ?_; rintro e w' ⟨rfl, w1, hx, rfl⟩)
  go_ret
  exact ⟨rfl, w1, E2.trans hx, rfl⟩
end Go.Proofs.YtaamnpbhmckpbaaDoor

/- fault.Of, fault.In, errors.As at a *Fault: contracts over this seat's translation. -/
namespace Go.Proofs.YtaamnpbhmckpbaaDoor
set_option linter.unusedVariables false
set_option linter.unusedSimpArgs false
open Go.RowKit Go.Extern.Stop Go.Stop Go.Extern

theorem setCell_cell {w : World} {p : Addr} {v : Value} (h : w.cell? p = some v) (u : Value) : (w.setCell p u).cell? p = some u := World.cell?_setCell_same w p u h

/-- fault.Of -/
theorem of_nil (w : World) : Calls Tryd.prog 56 #[.nilIface] w fun e w' => e = .returned (.int .i64 0) ∧ Ext w w' := by
  go_enter Tryd.func56, Tryd.ntmps56
  go_wp2
  go_ret
  exact ⟨rfl, Ext.refl w⟩
set_option maxHeartbeats 1000000 in
theorem of_err (p : List (ByteArray × Int)) (c : Int) (v : Value) (w : World) (hg : EtIs w) (he : IsErr w p c v) :
    Calls Tryd.prog 56 #[v] w fun e w' => e = .returned (.int .i64 c) ∧ Ext w w' := by
  have E1 : Ext w (w.alloc (.cells #[.int .i64 0] 36)) := (Ext.refl w).alloc _
  obtain ⟨tx, vx, hne⟩ := he.ne_nil
  subst hne
  go_enter Tryd.func56, Tryd.ntmps56
  go_wp2_with (go_at_call 79; refine (As_code p c _ (.int .i64 0) ⟨w.heap.size, 0, none⟩ _ (hg.ext E1) (he.ext E1) (by simp) (by simp)).mono ?_; rintro e w' ⟨rfl, w1, hx, rfl⟩; have hcl := setCell_cell (hx.cell (show (w.alloc (.cells #[.int .i64 0] 36)).cell? ⟨w.heap.size, 0, none⟩ = some (.int .i64 0) by simp)) (.int .i64 c))
  go_ret
  exact ⟨rfl, (E1.trans hx).setCell (Nat.le_refl _) _⟩

/-- fault.In -/
theorem in_nil (s : ByteArray) (n : Int) (w : World) : Calls Tryd.prog 59 #[.string s, .int .i64 n, .nilIface] w fun e w' => e = .returned .nilIface ∧ Ext w w' := by
  go_enter Tryd.func59, Tryd.ntmps59
  go_wp2
  go_ret
  exact ⟨rfl, Ext.refl w⟩
theorem in_err (s : ByteArray) (n : Int) (p : List (ByteArray × Int)) (c : Int) (v : Value) (w : World) (he : IsErr w p c v) :
    Calls Tryd.prog 59 #[.string s, .int .i64 n, v] w fun e w' => ∃ u, e = .returned u ∧ Ext w w' ∧ IsErr w' ((s, n) :: p) c u := by
  obtain ⟨tx, vx, hne⟩ := he.ne_nil
  subst hne
  have E1 : Ext w (w.alloc (.cells #[.string s, .int .i64 n, .iface tx vx] 121)) := (Ext.refl w).alloc _
  go_enter Tryd.func59, Tryd.ntmps59
  go_wp2
  go_ret
  exact ⟨_, rfl, E1, w.heap.size, _, rfl, by simp, by simp, by simp, he.ext E1⟩

set_option maxHeartbeats 2000000 in
/-- errors.as, asked for a *fault.Fault -/
theorem as_fault (b : Nat) (old : Value) (t a : Addr) (w : World) (ha : w.cell? a = some (.pointer (some t))) (ht : w.cell? t = some old) (hf : w.frozen? t = false) :
    Calls Tryd.prog 91 #[.iface 118 (.pointer (some ⟨b, 0, none⟩)), .iface 119 (.pointer (some t)), .agg #[.pointer (some ⟨1, 119, none⟩), .pointer (some a), .int .u64 150], .iface 139 (.agg #[.pointer (some ⟨1, 118, none⟩)])] w
      fun ev w' => ev = .returned (.bool true) ∧ ∃ w1, Ext w w1 ∧ w' = w1.setCell t (.pointer (some ⟨b, 0, none⟩)) := by
  have xTO := ex1
  have xVO := ex2
  have xAs := ex3
  have xEl := ex4
  have xSet := ex5
  have tOF := typeOfF
  have mA := methodAssignableTo
  have aFF := assignFF
  have vF := valueOfF
  have hE : Ext w (w.alloc (.cells #[.pointer (some ⟨1, 119, none⟩), .pointer (some a), .int .u64 150] 129)) := (Ext.refl w).alloc _
  have el := elemVPF a t ((w.alloc (.cells #[.pointer (some ⟨1, 119, none⟩), .pointer (some a), .int .u64 150] 129))) (hE.cell ha)
  have st := setF t ⟨w.heap.size + 1, 0, none⟩ ⟨b, 0, none⟩ old ((w.alloc (.cells #[.pointer (some ⟨1, 119, none⟩), .pointer (some a), .int .u64 150] 129)).alloc (.cells #[.pointer (some ⟨b, 0, none⟩)] 118)) (by rw [World.cell?_alloc_at _ _ _ _ (by simp)]; rfl) ((hE.alloc _).cell ht) ((Below.frozen (hE.alloc _) (Ext.lt ht)).trans hf)
  go_enter Tryd.func91, Tryd.ntmps91
  go_wp2
  refine wp_loop_rounds 1 ?_
  rw [rounds_succ]
  go_wp2
  go_ret
  exact ⟨rfl, _, hE.alloc _, rfl⟩

set_option maxHeartbeats 2000000 in
theorem as_fault_no (c : Int) (t a : Addr) (w : World) :
    Calls Tryd.prog 91 #[.iface 36 (.int .i64 c), .iface 119 (.pointer (some t)), .agg #[.pointer (some ⟨1, 119, none⟩), .pointer (some a), .int .u64 150], .iface 139 (.agg #[.pointer (some ⟨1, 118, none⟩)])] w
      fun ev w' => ev = .returned (.bool false) ∧ Ext w w' := by
  have xTO := ex1
  have xAs := ex3
  have tOC := typeOfC
  have mA := methodAssignableTo
  have aCF := assignCF
  have nAC := noAsC
  have nUC := noUnwrapC
  have nUsC := noUnwrapsC
  have hE : Ext w (w.alloc (.cells #[.pointer (some ⟨1, 119, none⟩), .pointer (some a), .int .u64 150] 129)) := (Ext.refl w).alloc _
  go_enter Tryd.func91, Tryd.ntmps91
  go_wp2
  refine wp_loop_rounds 1 ?_
  rw [rounds_succ]
  go_wp2
  go_ret
  exact ⟨rfl, hE⟩
end Go.Proofs.YtaamnpbhmckpbaaDoor

/- errors.As at a *Fault and fault.Path: contracts over this seat's translation. -/
namespace Go.Proofs.YtaamnpbhmckpbaaDoor
set_option linter.unusedVariables false
set_option linter.unusedSimpArgs false
open Go.RowKit Go.Extern.Stop Go.Stop Go.Extern

set_option maxHeartbeats 2000000 in
/-- errors.As, asked for a *fault.Fault: the error is one -/
theorem As_fault (b : Nat) (old : Value) (t : Addr) (w : World) (hg : EtIs w) (ht : w.cell? t = some old) (hf : w.frozen? t = false) :
    Calls Tryd.prog 79 #[.iface 118 (.pointer (some ⟨b, 0, none⟩)), .iface 119 (.pointer (some t))] w
      fun ev w' => ev = .returned (.bool true) ∧ ∃ w1, Ext w w1 ∧ w' = w1.setCell t (.pointer (some ⟨b, 0, none⟩)) := by
  have xVO := ex2
  have xTy := ex6
  have xIN := ex7
  have xKd := ex8
  have xEl := ex9
  have xIm := ex10
  have vPC := valueOfPF
  have tyPC := typePF
  have mK := methodKind
  have mE := methodElem
  have mI := methodImplements
  have kPC := kindPF
  have kC := kindOfF
  have ePC := elemPF
  have iC := implF
  have E1 : Ext w (w.alloc (.cells #[.pointer (some t)] 119)) := (Ext.refl w).alloc _
  have E2 := E1.alloc (.cells #[.pointer (some ⟨1, 119, none⟩), .pointer (some ⟨w.heap.size, 0, none⟩), .int .u64 150] 129)
  have n8 := isNilPF ⟨w.heap.size, 0, none⟩ t ((w.alloc (.cells #[.pointer (some t)] 119)).alloc (.cells #[.pointer (some ⟨1, 119, none⟩), .pointer (some ⟨w.heap.size, 0, none⟩), .int .u64 150] 129)) (by simp)
  have hg2 := E2.cell hg
  go_enter Tryd.func79, Tryd.ntmps79
  go_wp2_with (go_at_call 91; refine (as_fault b old t ⟨w.heap.size, 0, none⟩ _ (by simp) (E2.cell ht) ((Below.frozen E2 (Ext.lt ht)).trans hf)).mono ?_; rintro e w' ⟨rfl, w1, hx, rfl⟩)
  go_ret
  exact ⟨rfl, w1, E2.trans hx, rfl⟩

set_option maxHeartbeats 2000000 in
theorem As_fault_no (c : Int) (t : Addr) (w : World) (hg : EtIs w) :
    Calls Tryd.prog 79 #[.iface 36 (.int .i64 c), .iface 119 (.pointer (some t))] w
      fun ev w' => ev = .returned (.bool false) ∧ Ext w w' := by
  have xVO := ex2
  have xTy := ex6
  have xIN := ex7
  have xKd := ex8
  have xEl := ex9
  have xIm := ex10
  have vPC := valueOfPF
  have tyPC := typePF
  have mK := methodKind
  have mE := methodElem
  have mI := methodImplements
  have kPC := kindPF
  have kC := kindOfF
  have ePC := elemPF
  have iC := implF
  have E1 : Ext w (w.alloc (.cells #[.pointer (some t)] 119)) := (Ext.refl w).alloc _
  have E2 := E1.alloc (.cells #[.pointer (some ⟨1, 119, none⟩), .pointer (some ⟨w.heap.size, 0, none⟩), .int .u64 150] 129)
  have n8 := isNilPF ⟨w.heap.size, 0, none⟩ t ((w.alloc (.cells #[.pointer (some t)] 119)).alloc (.cells #[.pointer (some ⟨1, 119, none⟩), .pointer (some ⟨w.heap.size, 0, none⟩), .int .u64 150] 129)) (by simp)
  have hg2 := E2.cell hg
  go_enter Tryd.func79, Tryd.ntmps79
  go_wp2_with (go_at_call 91; refine (as_fault_no c t ⟨w.heap.size, 0, none⟩ _).mono ?_; rintro e w' ⟨rfl, hx⟩)
  go_ret
  exact ⟨rfl, E2.trans hx⟩

theorem ownsRow_ext {w w' : World} {base : Nat} {e : TypeId} {size : Nat} {v : Value} {n : Nat} {xs : List Value} (h : w.ownsRow base e size v n xs) (k : Ext w w') : w'.ownsRow base e size v n xs := by
  obtain ⟨h1, h2⟩ := h
  refine ⟨h1, ?_⟩
  rcases h2 with h2 | ⟨g, cap, cur, hv, hg, hh, r⟩
  · exact Or.inl h2
  · exact Or.inr ⟨g, cap, cur, hv, hg, by rw [k.block (Array.getElem?_eq_some_iff.1 hh).1]; exact hh, r⟩

/-- the cells of steps -/
def stepCells : List (ByteArray × Int) → List Value
  | [] => []
  | (s, n) :: p => .string s :: .int .i64 n :: stepCells p
theorem stepCells_append (p q : List (ByteArray × Int)) : stepCells (p ++ q) = stepCells p ++ stepCells q := by
  induction p with
  | nil => rfl
  | cons x p ih => obtain ⟨s, n⟩ := x; simp [stepCells, ih]
theorem stepCells_length (p : List (ByteArray × Int)) : (stepCells p).length = p.length * 2 := by
  induction p with
  | nil => rfl
  | cons x p ih => obtain ⟨s, n⟩ := x; simp [stepCells, ih]; omega

theorem infoStep : (Tryd.prog.info? 98).map (fun i => (i.zero, i.size, i.bytes)) = some (some (.agg #[.string .empty, .int .i64 0]), 2, 24) := by kernel_rfl

end Go.Proofs.YtaamnpbhmckpbaaDoor

/- fault.Path: its contract over this seat's translation. -/
namespace Go.Proofs.YtaamnpbhmckpbaaDoor
set_option linter.unusedVariables false
set_option linter.unusedSimpArgs false
open Go.RowKit Go.Extern.Stop Go.Stop Go.Extern

set_option maxHeartbeats 4000000 in
set_option maxRecDepth 100000 in
/-- fault.Path -/
theorem path_err (p : List (ByteArray × Int)) (c : Int) (v : Value) (w : World) (hg : EtIs w) (he : IsErr w p c v) (hp : p.length ≤ 1000000) :
    Calls Tryd.prog 57 #[v] w fun e w' => ∃ u, e = .returned u ∧ Ext w w' ∧ w'.ownsRow (w.heap.size + 1) 98 2 u p.length (stepCells p) := by
  obtain ⟨i0, hi, hz0, hz1, hz2⟩ := info_parts infoStep
  go_enter Tryd.func57, Tryd.ntmps57
  go_wp2
  go_loopg [0, 3] (p.length) (fun k u pv wr => ∃ d q, p = d ++ q ∧ q.length = k ∧ IsErr w q c u ∧ wr.ownsRow (w.heap.size + 1) 98 2 pv d.length (stepCells d) ∧ Ext w wr ∧ (∃ x, wr.cell? ⟨w.heap.size, 0, none⟩ = some x) ∧ wr.frozen? ⟨w.heap.size, 0, none⟩ = false)
  case atStart => exact ⟨[], p, rfl, rfl, he, World.ownsRow_nil _ _ _ _, (Ext.refl w).alloc _, ⟨_, by simp; rfl⟩, by simp⟩
  case round =>
    obtain ⟨d, q, hpd, hq, hu, hown, hE, ⟨x, hx⟩, hf⟩ := hrel
    have HP := Lib.hid hpd
    have HQ := Lib.hid hq
    clear hpd hq
    cases q with
    | nil =>
      have hu' : _ = Value.iface 36 (.int .i64 c) := hu
      subst hu'
      go_wp2_with (go_at_call 79; refine (As_fault_no c ⟨w.heap.size, 0, none⟩ _ (hg.ext hE)).mono ?_; rintro e w' ⟨rfl, hx1⟩)
      go_ret
      have hd := HP.out
      simp only [List.append_nil] at hd
      subst hd
      exact ⟨_, rfl, hE.trans hx1, ownsRow_ext hown hx1⟩
    | cons y q =>
      obtain ⟨s, n⟩ := y
      obtain ⟨b, u', hv, h0, h1, h2, hu'⟩ := hu
      subst hv
      go_wp2_with (go_at_call 79; refine (As_fault b x ⟨w.heap.size, 0, none⟩ _ (hg.ext hE) hx hf).mono ?_; rintro e w' ⟨rfl, w1, hx1, rfl⟩; have hcl := setCell_cell (hx1.cell hx) (.pointer (some ⟨b, 0, none⟩)))
      have HE : Ext w (w1.setCell ⟨w.heap.size, 0, none⟩ (.pointer (some ⟨b, 0, none⟩))) := (hE.trans hx1).setCell (Nat.le_refl _) _
      have k0 := HE.cell h0
      have k1 := HE.cell h1
      have k2 := HE.cell h2
      have hfr : (w1.setCell ⟨w.heap.size, 0, none⟩ (.pointer (some ⟨b, 0, none⟩))).frozen? ⟨w.heap.size, 0, none⟩ = false := by
        rw [World.frozen?_setCell]; exact (Below.frozen hx1 (Ext.lt hx)).trans hf
      have hown1 : (w1.setCell ⟨w.heap.size, 0, none⟩ (.pointer (some ⟨b, 0, none⟩))).ownsRow (w.heap.size + 1) 98 2 _ d.length (stepCells d) := ownsRow_setCell_below (ownsRow_ext hown hx1) (Nat.lt_succ_self _) _
      clear hown hx1 hf hx h1 hE
      revert hcl HE k0 k1 k2 hfr hown1
      generalize w1.setCell ⟨w.heap.size, 0, none⟩ (.pointer (some ⟨b, 0, none⟩)) = w2
      intro hcl HE k0 k1 k2 hfr hown1
      have hsz := HE.size
      have hB1 : w.heap.size < w2.heap.size := Ext.lt hcl
      have hlen := stepCells_length d
      have hdl : d.length + 1 ≤ 1000000 := by have := HP.out; rw [this] at hp; simp at hp; omega
      have hb1 : b < w.heap.size := Ext.lt (p := ⟨b, 0, none⟩) h0
      have hnb : ∀ k, Value.ownBlock _ = some k → w.heap.size + 1 ≤ k := fun k hk => (hown1.lt k hk).1
      have hz := h2
      clear h0 h2
      go_region_held3 (fun w' => w'.cell? ⟨w.heap.size, 0, none⟩ = some (.pointer (some ⟨b, 0, none⟩)) ∧ w'.cell? ⟨b, 0, none⟩ = some (.string s) ∧ w'.cell? ⟨b, 1, none⟩ = some (.int .i64 n))
        (first
          | go_keep
          | (go_split_ands
             refine ⟨?_, ?_, ?_⟩
             · (rw [hgrow.cell_far _ (by simp; omega) (fun e => by have := hnb _ e.symm; simp at this; omega)]; assumption)
             · (rw [hgrow.cell_far _ (by simp; omega) (fun e => by have := hnb _ e.symm; simp at this; omega)]; assumption)
             · (rw [hgrow.cell_far _ (by simp; omega) (fun e => by have := hnb _ e.symm; simp at this; omega)]; assumption)))
        ((refine step_append_lies _ (by rfl) _ _ _ (by rfl) (w.heap.size + 1) 98 i0 _ 2 24 Tryd.underlying95 hi hz0 hz1 hz2 rfl (by omega) _ d.length (stepCells d) (by rfl) ((hown1.alloc _).drew)
            ⟨w2.heap.size, 0, none⟩ 1 1 [.string s, .int .i64 n] (by rfl) (by rfl) (World.news_of_block (cs := #[.string s, .int .i64 n]) (t := 98) (fr := (0, 0)) (heap_alloc_new w2 _)) (by simp [Value.oneCell'])
            (by omega) (by unfold maxLen; omega) (by omega) (by simp; omega) (w2.heap.size + 1) (by simp) ?_; intro gg cap w3 hown3 hgrow hat hlt))
      have HE3 : Ext w w3 := Below.grown ((HE.alloc _).drew) hgrow (by simp; omega) (fun k hk => by have := hnb k hk; omega)
      have kB : w3.cell? ⟨w.heap.size, 0, none⟩ = some (.pointer (some ⟨b, 0, none⟩)) := by
        rw [hgrow.cell_far _ (by simp; omega) (fun e => by have := hnb _ e.symm; simp at this; omega), World.cell?_drew, World.cell?_alloc_lt w2 _ ⟨w.heap.size, 0, none⟩ hB1]; exact hcl
      have kF : w3.frozen? ⟨w.heap.size, 0, none⟩ = false := by
        rw [hgrow.frozen_far _ (by simp; omega) (fun e => by have := hnb _ e.symm; simp at this; omega), World.frozen?_drew, World.frozen?_alloc_old w2 _ ⟨w.heap.size, 0, none⟩ (Nat.ne_of_lt hB1)]; exact hfr
      have k3 : w3.cell? ⟨b, 2, none⟩ = some u' := HE3.cell hz
      go_wp2
      go_roundg (q.length)
      case measure => have := HQ.out; simp at this; omega
      case rel => exact ⟨d ++ [(s, n)], q, by rw [HP.out]; simp, rfl, hu', by rw [stepCells_append, List.length_append]; exact hown3, HE3, ⟨_, kB⟩, kF⟩
end Go.Proofs.YtaamnpbhmckpbaaDoor

/- kinsame.Err: an error held against the document's: its contract over this seat's translation. -/
namespace Go.Proofs.YtaamnpbhmckpbaaDoor
set_option linter.unusedVariables false
set_option linter.unusedSimpArgs false
open Go.RowKit Go.Extern.Stop Go.Stop Go.Extern

theorem Ext.drewN {a w : World} (h : Ext a w) (n : Nat) : Ext a (w.drewN n) := by
  have h' : Below a.heap.size a w := h
  exact ⟨h'.os, h'.tape, h'.output, h'.size, h'.block⟩

/-- a slice value that reads as these cells -/
def Row (w : World) (v : Value) (n : Nat) (cells : List Value) : Prop :=
  ∃ (a : Option Addr) (cap : Nat), v = .slice a n cap ∧ n ≤ cap ∧ cap ≤ maxLen ∧ (0 < n → ∃ g off, a = some ⟨g, off, none⟩) ∧ ∀ g off, a = some ⟨g, off, none⟩ → ∀ j u, cells[j]? = some u → w.cell? ⟨g, off + j, none⟩ = some u
theorem Row.ext {w w' : World} {v : Value} {n : Nat} {cells : List Value} (h : Row w v n cells) (k : Ext w w') : Row w' v n cells := by
  obtain ⟨a, cap, h0, h1, h2, h3, h4⟩ := h
  exact ⟨a, cap, h0, h1, h2, h3, fun g off ha j u hj => k.cell (h4 g off ha j u hj)⟩
theorem Row.nil (w : World) : Row w (.slice none 0 0) 0 [] := ⟨none, 0, rfl, Nat.le_refl _, Nat.zero_le _, fun h => absurd h (Nat.lt_irrefl _), fun _ _ h => by cases h⟩
theorem Row.of_owns {w : World} {base : Nat} {e : TypeId} {size : Nat} {v : Value} {n : Nat} {xs : List Value} (h : w.ownsRow base e size v n xs) : Row w v n xs := by
  obtain ⟨hl, h⟩ := h
  rcases h with ⟨hv, hn⟩ | ⟨g, cap, cur, hv, hb, hg, hnc, hcm, hcs, ht⟩
  · subst hn
    obtain rfl : xs = [] := List.eq_nil_of_length_eq_zero (by simpa using hl)
    subst hv
    exact Row.nil w
  · refine ⟨_, cap, hv, hnc, hcm, fun _ => ⟨g, 0, rfl⟩, fun g' off' ha j u hj => ?_⟩
    simp only [Option.some.injEq, Addr.mk.injEq, and_true] at ha
    obtain ⟨rfl, rfl⟩ := ha
    rw [Nat.zero_add, cell_of_row w g j cur e (0, 0) hg]
    rw [← ht, List.getElem?_take] at hj
    split at hj
    · simpa using hj
    · cases hj
theorem Row.at {w : World} {g off n cap : Nat} {cells : List Value} (h : Row w (.slice (some ⟨g, off, none⟩) n cap) n cells) {j : Nat} {u : Value} (hj : cells[j]? = some u) : w.cell? ⟨g, off + j, none⟩ = some u := by
  obtain ⟨a, cap', h0, _, _, _, h4⟩ := h
  simp only [Value.slice.injEq] at h0
  exact h4 g off h0.1.symm j u hj
theorem Row.some {w : World} {v : Value} {n : Nat} {cells : List Value} (h : Row w v n cells) (hn : 0 < n) : ∃ g off cap, v = .slice (some ⟨g, off, none⟩) n cap ∧ n ≤ cap ∧ cap ≤ maxLen := by
  obtain ⟨a, cap, h0, h1, h2, h3, _⟩ := h
  obtain ⟨g, off, ha⟩ := h3 hn
  subst ha
  exact ⟨g, off, cap, h0, h1, h2⟩
theorem Row.form {w : World} {v : Value} {n : Nat} {cells : List Value} (h : Row w v n cells) : ∃ a cap, v = .slice a n cap := by
  obtain ⟨a, cap, h0, _⟩ := h
  exact ⟨a, cap, h0⟩
theorem stepCells_get (p : List (ByteArray × Int)) (i : Nat) (s : ByteArray) (n : Int) (h : p[i]? = some (s, n)) : (stepCells p)[i * 2]? = some (.string s) ∧ (stepCells p)[i * 2 + 1]? = some (.int .i64 n) := by
  induction p generalizing i with
  | nil => simp at h
  | cons x p ih =>
    obtain ⟨s', n'⟩ := x
    cases i with
    | zero => simp at h; obtain ⟨rfl, rfl⟩ := h; exact ⟨rfl, rfl⟩
    | succ i =>
      have := ih i (by simpa using h)
      rw [show (i + 1) * 2 = i * 2 + 2 from by omega]
      exact this

/-- (kinref.Err).OK -/
theorem ok_any (c : Int) (r : Value) (w : World) :
    Calls Tryd.prog 55 #[.agg #[.int .i64 c, r]] w fun e w' => e = .returned (.bool (c == 0)) ∧ Ext w w' := by
  have E1 : Ext w (w.alloc (.cells #[.int .i64 c, r] 39)) := (Ext.refl w).alloc _
  go_enter Tryd.func55, Tryd.ntmps55
  go_wp2
  go_ret
  exact ⟨rfl, E1⟩

theorem path_nil (w : World) (hg : EtIs w) : Calls Tryd.prog 57 #[.nilIface] w fun e w' => e = .returned (.slice none 0 0) ∧ Ext w w' := by
  have E1 : Ext w (w.alloc (.cells #[.pointer none] 118)) := (Ext.refl w).alloc _
  have nil : ∀ (t : Value) (W : World), Calls Tryd.prog 79 #[.nilIface, t] W fun e w' => e = .returned (.bool false) ∧ W = w' := fun t W => by
    go_enter Tryd.func79, Tryd.ntmps79
    go_wp2
    go_ret
    exact ⟨rfl, rfl⟩
  go_enter Tryd.func57, Tryd.ntmps57
  go_wp2
  refine wp_loop_rounds 1 ?_
  rw [rounds_succ]
  go_wp2_with (go_at_call 79; refine (nil _ _).mono ?_; rintro e w' ⟨rfl, rfl⟩)
  go_ret
  exact ⟨rfl, E1⟩

set_option maxHeartbeats 2000000 in
/-- kinsame.Err: no error, as there is none -/
theorem same_nil (w : World) (hg : EtIs w) :
    Calls Tryd.prog 17 #[.nilIface, .agg #[.int .i64 0, .slice none 0 0]] w fun e w' => e = .returned (.bool true) ∧ Ext w w' := by
  have E1 : Ext w (w.alloc (.cells #[.int .i64 0, .slice none 0 0] 39)) := (Ext.refl w).alloc _
  go_enter Tryd.func17, Tryd.ntmps17
  go_wp2_with fail
  go_region_held3 (fun w' => w'.cell? ⟨w.heap.size, 0, none⟩ = some (.int .i64 0) ∧ w'.cell? ⟨w.heap.size, 1, none⟩ = some (.slice none 0 0) ∧ Ext w w')
    (first | assumption | (exact ⟨by simp, by simp, E1⟩) | (exact ⟨by simp, by simp, E1.drew⟩) | (go_split_ands; exact ⟨hx.cell (by assumption), hx.cell (by assumption), Ext.trans (by assumption) hx⟩))
    (first | (go_at_call 55; refine (ok_any _ _ _).mono ?_; rintro e w' ⟨rfl, hx⟩) | (go_at_call 56; refine (of_nil _).mono ?_; rintro e w' ⟨rfl, hx⟩))
  obtain ⟨_, hc1, hE⟩ : _ ∧ _ ∧ Ext w _ := by assumption
  go_wp2_with (go_at_call 57; refine (path_nil _ (hg.ext hE)).mono ?_; rintro e w' ⟨rfl, hx⟩; have hc2 := hx.cell hc1)
  refine wp_loop_rounds 1 ?_
  rw [rounds_succ]
  go_wp2
  go_ret
  exact ⟨rfl, hE.trans hx⟩

set_option maxHeartbeats 4000000 in
set_option maxRecDepth 100000 in
/-- kinsame.Err: the document's error, a code alone -/
theorem same_code (c : Int) (v rv : Value) (w : World) (hg : EtIs w) (he : IsErr w [] c v) (hr : Row w rv 0 []) (hc : c ≠ 0) :
    Calls Tryd.prog 17 #[v, .agg #[.int .i64 c, rv]] w fun e w' => e = .returned (.bool true) ∧ Ext w w' := by
  obtain ⟨ra, rcap, rfl⟩ := hr.form
  have E1 : Ext w (w.alloc (.cells #[.int .i64 c, .slice ra 0 rcap] 39)) := (Ext.refl w).alloc _
  obtain ⟨tx, vx, hne⟩ := he.ne_nil
  subst hne
  have hc0 : (c == 0) = false := by simpa using hc
  go_enter Tryd.func17, Tryd.ntmps17
  go_wp2_with fail
  go_region_held3 (fun w' => w'.cell? ⟨w.heap.size, 0, none⟩ = some (.int .i64 c) ∧ w'.cell? ⟨w.heap.size, 1, none⟩ = some (.slice ra 0 rcap) ∧ Ext w w')
    (first | assumption | (exact ⟨by simp, by simp, E1⟩) | (exact ⟨by simp, by simp, E1.drew⟩) | (go_split_ands; exact ⟨hx.cell (by assumption), hx.cell (by assumption), Ext.trans (by assumption) hx⟩))
    (first | (go_at_call 55; refine (ok_any _ _ _).mono ?_; rintro e w' ⟨rfl, hx⟩) | (go_at_call 56; obtain ⟨_, _, hE1⟩ : _ ∧ _ ∧ Ext w _ := (by assumption); refine (of_err [] c _ _ (hg.ext hE1) (he.ext hE1)).mono ?_; rintro e w' ⟨rfl, hx⟩))
  obtain ⟨_, hc1, hE⟩ : _ ∧ _ ∧ Ext w _ := by assumption
  go_wp2_with (go_at_call 57; refine (path_err [] c _ _ (hg.ext hE) (he.ext hE) (by simp)).mono ?_; rintro e w' ⟨pu, rfl, hx, hown⟩; have hc2 := hx.cell hc1; obtain ⟨pa, pcap, rfl⟩ := (Row.of_owns hown).form)
  refine wp_loop_rounds 1 ?_
  rw [rounds_succ]
  go_wp2
  go_ret
  exact ⟨rfl, hE.trans hx⟩

set_option maxHeartbeats 4000000 in
set_option maxRecDepth 100000 in
/-- kinsame.Err: the document's error, wrapped -/
theorem same_path (p : List (ByteArray × Int)) (c : Int) (v rv : Value) (w : World) (hg : EtIs w) (he : IsErr w p c v) (hr : Row w rv p.length (stepCells p)) (hc : c ≠ 0) (hp0 : 0 < p.length) (hp : p.length ≤ 1000000) :
    Calls Tryd.prog 17 #[v, .agg #[.int .i64 c, rv]] w fun e w' => e = .returned (.bool true) ∧ Ext w w' := by
  obtain ⟨rg, roff, rcap, rfl, hr1, hr2⟩ := hr.some hp0
  have E1 : Ext w (w.alloc (.cells #[.int .i64 c, .slice (some ⟨rg, roff, none⟩) p.length rcap] 39)) := (Ext.refl w).alloc _
  obtain ⟨tx, vx, hne⟩ := he.ne_nil
  subst hne
  have hc0 : (c == 0) = false := by simpa using hc
  obtain ⟨n, hn⟩ : ∃ n, n = p.length := ⟨_, rfl⟩
  rw [← hn] at hr hr1 hp hp0 ⊢ E1
  have HN := Lib.hid hn
  clear hn
  unfold maxLen at hr2
  go_enter Tryd.func17, Tryd.ntmps17
  go_wp2_with fail
  go_region_held3 (fun w' => w'.cell? ⟨w.heap.size, 0, none⟩ = some (.int .i64 c) ∧ w'.cell? ⟨w.heap.size, 1, none⟩ = some (.slice (some ⟨rg, roff, none⟩) n rcap) ∧ Ext w w')
    (first | assumption | (exact ⟨by simp, by simp, E1⟩) | (exact ⟨by simp, by simp, E1.drew⟩) | (go_split_ands; exact ⟨hx.cell (by assumption), hx.cell (by assumption), Ext.trans (by assumption) hx⟩))
    (first | (go_at_call 55; refine (ok_any _ _ _).mono ?_; rintro e w' ⟨rfl, hx⟩) | (go_at_call 56; obtain ⟨_, _, hE1⟩ : _ ∧ _ ∧ Ext w _ := (by assumption); refine (of_err p c _ _ (hg.ext hE1) (he.ext hE1)).mono ?_; rintro e w' ⟨rfl, hx⟩))
  obtain ⟨_, hc1, hE⟩ : _ ∧ _ ∧ Ext w _ := by assumption
  go_wp2_with (go_at_call 57; refine (path_err p c _ _ (hg.ext hE) (he.ext hE) (by rw [← HN.out]; exact hp)).mono ?_; rintro e w' ⟨pu, rfl, hx, hown⟩; have hc2 := hx.cell hc1; rw [← HN.out] at hown; obtain ⟨pg, poff, pcap, rfl, hp1, hp2⟩ := (Row.of_owns hown).some hp0)
  unfold maxLen at hp2
  have R := Row.of_owns hown
  clear hown
  have hrx := (hr.ext hE).ext hx
  have hEx := hE.trans hx
  clear hE hx hc1 hr hg he E1
  go_loopw [6] (fun i wr => ∃ k : Nat, k ≤ n ∧ i = .int .i64 k ∧ Ext w wr ∧ Row wr (.slice (some ⟨pg, poff, none⟩) n pcap) n (stepCells p) ∧ Row wr (.slice (some ⟨rg, roff, none⟩) n rcap) n (stepCells p) ∧ wr.cell? ⟨w.heap.size, 1, none⟩ = some (.slice (some ⟨rg, roff, none⟩) n rcap)) (fun i _ => n - (intOf i).toNat)
  case atStart => exact ⟨0, Nat.zero_le _, rfl, hEx, R, hrx, hc2⟩
  case round =>
    obtain ⟨k, hk, rfl, hE, R1, R2, hb⟩ := hrel
    by_cases hlt : k < n
    · obtain ⟨⟨s, m⟩, hkx⟩ : ∃ x, p[k]? = some x := ⟨_, List.getElem?_eq_getElem (by rw [← HN.out]; exact hlt)⟩
      obtain ⟨g0, g1⟩ := stepCells_get p k s m hkx
      have p0 := R1.at g0
      have p1 := R1.at g1
      have r0 := R2.at g0
      have r1 := R2.at g1
      rw [← Nat.add_assoc] at p1 r1
      clear hkx g0 g1 R
      go_wp2
      go_quiet (fail)
      go_wp2
      go_roundw
      case rel => exact ⟨k + 1, by omega, by go_num, hE.drewN _, R1, R2, by simpa using hb⟩
      case measure => simp [intOf]; omega
    · go_wp2
      go_ret
      exact ⟨rfl, hE⟩

/-- kinsame.Err: the document's error -/
theorem same_err (p : List (ByteArray × Int)) (c : Int) (v rv : Value) (w : World) (hg : EtIs w) (he : IsErr w p c v) (hr : Row w rv p.length (stepCells p)) (hc : c ≠ 0) (hp : p.length ≤ 1000000) :
    Calls Tryd.prog 17 #[v, .agg #[.int .i64 c, rv]] w fun e w' => e = .returned (.bool true) ∧ Ext w w' := by
  cases p with
  | nil => exact same_code c v rv w hg he hr hc
  | cons x p => exact same_path (x :: p) c v rv w hg he hr hc (by simp) hp
end Go.Proofs.YtaamnpbhmckpbaaDoor

/- kinref.Fail: its contract over this seat's translation. -/
namespace Go.Proofs.YtaamnpbhmckpbaaDoor
set_option linter.unusedVariables false
set_option linter.unusedSimpArgs false
open Go.RowKit Go.Extern.Stop Go.Stop Go.Extern
theorem fail_any (c : Int) (w : World) :
    Calls Tryd.prog 53 #[.int .i64 c] w fun e w' => e = .returned (.agg #[.int .i64 c, .slice none 0 0]) ∧ Ext w w' := by
  go_enter Tryd.func53, Tryd.ntmps53
  go_wp2
  exact bodyPost_ret (v := .agg #[.int .i64 c, .slice none 0 0]) (by simp [results, Tryd.results53, go_sem]) rfl ⟨rfl, by repeat (first | exact Ext.refl _ | apply Ext.alloc | apply Ext.setCell (ha := by simp))⟩
end Go.Proofs.YtaamnpbhmckpbaaDoor

/- Slices of ints that are read: kinref.Ints and kinref.Within, their contracts over this seat's translation. -/
namespace Go.Proofs.YtaamnpbhmckpbaaDoor
set_option linter.unusedVariables false
set_option linter.unusedSimpArgs false
open Go.RowKit Go.Extern.Stop Go.Stop Go.Extern

/-- a slice value that reads as these ints -/
def Ints (w : World) (v : Value) (zs : List Int) : Prop := Row w v zs.length (zs.map (Value.int .i64)) ∧ zs.length ≤ 4611686018427387903
theorem Ints.ext {w w' : World} {v : Value} {zs : List Int} (h : Ints w v zs) (k : Ext w w') : Ints w' v zs := ⟨h.1.ext k, h.2⟩
theorem Ints.form {w : World} {v : Value} {zs : List Int} (h : Ints w v zs) : ∃ a cap, v = .slice a zs.length cap := h.1.form
theorem Ints.addr {w : World} {v : Value} {zs : List Int} (h : Ints w v zs) (hn : 0 < zs.length) : ∃ g off cap, v = .slice (some ⟨g, off, none⟩) zs.length cap ∧ zs.length ≤ cap ∧ cap ≤ maxLen := h.1.some hn
theorem Ints.len {w : World} {a : Option Addr} {n cap : Nat} {zs : List Int} (h : Ints w (.slice a n cap) zs) : n = zs.length := by
  obtain ⟨a', cap', e⟩ := h.form
  simp only [Value.slice.injEq] at e
  exact e.2.1
theorem Ints.had {w : World} {a : Option Addr} {n cap : Nat} {zs : List Int} (h : Ints w (.slice a n cap) zs) (hn : 0 < n) : ∃ g off, a = some ⟨g, off, none⟩ := by
  obtain ⟨⟨a', cap', e, _, _, h3, _⟩, _⟩ := h
  simp only [Value.slice.injEq] at e
  obtain ⟨rfl, rfl, rfl⟩ := e
  exact h3 hn
theorem Ints.caps {w : World} {a : Option Addr} {n cap : Nat} {zs : List Int} (h : Ints w (.slice a n cap) zs) : n ≤ cap ∧ cap ≤ maxLen := by
  obtain ⟨⟨a', cap', e, h1, h2, _⟩, _⟩ := h
  simp only [Value.slice.injEq] at e
  obtain ⟨rfl, rfl, rfl⟩ := e
  exact ⟨h1, h2⟩
theorem Ints.at {w : World} {g off n cap : Nat} {zs : List Int} (h : Ints w (.slice (some ⟨g, off, none⟩) n cap) zs) {j : Nat} {x : Int} (hj : zs[j]? = some x) : w.cell? ⟨g, off + j, none⟩ = some (.int .i64 x) := by
  obtain ⟨⟨a, cap', h0, _, _, _, h4⟩, _⟩ := h
  simp only [Value.slice.injEq] at h0
  exact h4 g off h0.1.symm j _ (by simp [hj])
theorem Ints.of_owns {w : World} {base : Nat} {v : Value} {n : Nat} {zs : List Int} (h : w.ownsRow base 3 1 v n (zs.map (Value.int .i64))) (hl : zs.length ≤ 4611686018427387903) : Ints w v zs := by
  have hn : n = zs.length := by have := h.1; simp at this; omega
  subst hn
  exact ⟨Row.of_owns h, hl⟩
theorem Ints.nil (w : World) : Ints w (.slice none 0 0) [] := ⟨Row.nil w, by simp⟩

theorem eq_of_gets {xs ys : List Int} (hl : xs.length = ys.length) (h : ∀ j, j < xs.length → xs[j]? = ys[j]?) : xs = ys := by
  apply List.ext_getElem?
  intro j
  by_cases hj : j < xs.length
  · exact h j hj
  · rw [List.getElem?_eq_none (by omega), List.getElem?_eq_none (by omega)]

set_option maxRecDepth 20000 in
set_option maxHeartbeats 1000000 in
theorem ints_same (xs ys : List Int) (va vb : Value) (w : World) (ha : Ints w va xs) (hb : Ints w vb ys) :
    Calls Tryd.prog 41 #[va, vb] w fun e w' => e = .returned (.bool (decide (xs = ys))) ∧ Ext w w' := by
  obtain ⟨n, hn⟩ : ∃ n, n = xs.length := ⟨_, rfl⟩
  obtain ⟨m, hm⟩ : ∃ m, m = ys.length := ⟨_, rfl⟩
  have hle := ha.2
  have hle' := hb.2
  by_cases hnm : n = m
  · by_cases hz : n = 0
    · obtain ⟨a, cap, rfl⟩ := ha.form
      obtain ⟨b, cap', rfl⟩ := hb.form
      obtain rfl : xs = [] := List.eq_nil_of_length_eq_zero (by omega)
      obtain rfl : ys = [] := List.eq_nil_of_length_eq_zero (by omega)
      clear ha hb hnm hz hn hm
      go_enter Tryd.func41, Tryd.ntmps41
      go_wp2
      refine wp_loop_rounds 1 ?_
      rw [rounds_succ]
      go_wp2
      go_ret
      exact ⟨rfl, Ext.refl w⟩
    · obtain ⟨g, off, cap, rfl, c1, c2⟩ := ha.addr (by omega)
      obtain ⟨g', off', cap', rfl, c1', c2'⟩ := hb.addr (by omega)
      rw [← hn] at ha hle c1 ⊢
      rw [← hm, ← hnm] at hb c1' ⊢
      rw [← hnm] at hm
      have HN := Lib.hid hn
      have HM := Lib.hid hm
      unfold maxLen at c2 c2'
      clear hn hm hnm hle' m
      go_enter Tryd.func41, Tryd.ntmps41
      go_wp2
      go_loopw [5] (fun i wr => ∃ k : Nat, k ≤ n ∧ i = .int .i64 k ∧ Ext w wr ∧ Hid (∀ j, j < k → xs[j]? = ys[j]?)) (fun i _ => n - (intOf i).toNat)
      case atStart => exact ⟨0, Nat.zero_le _, rfl, Ext.refl w, fun j hj => absurd hj (Nat.not_lt_zero _)⟩
      case round =>
        obtain ⟨k, hk, rfl, hE, HJ⟩ := hrel
        by_cases hlt : k < n
        · obtain ⟨x, hx⟩ : ∃ x, xs[k]? = some x := ⟨_, List.getElem?_eq_getElem (by rw [← HN.out]; exact hlt)⟩
          obtain ⟨y, hy⟩ : ∃ y, ys[k]? = some y := ⟨_, List.getElem?_eq_getElem (by rw [← HM.out]; exact hlt)⟩
          have cx := hE.cell (ha.at hx)
          have cy := hE.cell (hb.at hy)
          have HX := Lib.hid hx
          have HY := Lib.hid hy
          clear hx hy
          by_cases hxy : x = y
          · subst hxy
            go_wp2
            go_quiet (fail)
            go_wp2
            go_roundw
            case rel => exact ⟨k + 1, by omega, by go_num, hE.drewN _, fun j hj => by
              by_cases hjk : j = k
              · subst hjk; rw [HX.out, HY.out]
              · exact HJ.out j (by omega)⟩
            case measure => simp [intOf]; omega
          · have hne : (x != y) = true := by simpa using hxy
            have hne2 : (x == y) = false := by simpa using hxy
            go_wp2
            go_quiet (fail)
            go_wp2
            go_ret
            refine ⟨?_, hE.drewN _⟩
            have : xs ≠ ys := fun e => by
              have h1 := HX.out
              rw [e, HY.out] at h1
              exact hxy (Option.some.inj h1).symm
            simp [this]
        · go_wp2
          go_ret
          refine ⟨?_, hE⟩
          have : xs = ys := eq_of_gets (by rw [← HN.out, ← HM.out]) (fun j hj => HJ.out j (by rw [← HN.out] at hj; omega))
          simp [this]
  · obtain ⟨a, cap, rfl⟩ := ha.form
    obtain ⟨b, cap', rfl⟩ := hb.form
    have hne : ((xs.length : Int) != (ys.length : Int)) = true := by simp; omega
    have hxy : xs ≠ ys := fun e => hnm (by rw [hn, hm, e])
    have HXY := Lib.hid hxy
    clear hnm hn hm hxy ha hb
    go_enter Tryd.func41, Tryd.ntmps41
    go_wp2
    go_ret
    exact ⟨by simp [HXY.out], Ext.refl w⟩
def within (lo hi : Int) (zs : List Int) : Prop := ∀ x ∈ zs, lo ≤ x ∧ x ≤ hi
instance (lo hi : Int) (zs : List Int) : Decidable (within lo hi zs) := by unfold within; exact inferInstance
theorem within_of_gets {lo hi : Int} {zs : List Int} (h : ∀ j x, j < zs.length → zs[j]? = some x → lo ≤ x ∧ x ≤ hi) : within lo hi zs := fun x hx => by
  obtain ⟨j, hj, e⟩ := List.mem_iff_getElem.1 hx
  exact h j x hj (by rw [List.getElem?_eq_getElem hj, e])
theorem within.at {lo hi : Int} {zs : List Int} (h : within lo hi zs) {j : Nat} {x : Int} (hj : zs[j]? = some x) : lo ≤ x ∧ x ≤ hi := h x (List.mem_of_getElem? hj)

set_option maxRecDepth 20000 in
set_option maxHeartbeats 1000000 in
theorem within_any (zs : List Int) (lo hi : Int) (v : Value) (w : World) (ha : Ints w v zs) :
    Calls Tryd.prog 51 #[v, .int .i64 lo, .int .i64 hi] w fun e w' => e = .returned (.bool (decide (within lo hi zs))) ∧ Ext w w' := by
  obtain ⟨n, hn⟩ : ∃ n, n = zs.length := ⟨_, rfl⟩
  have hle := ha.2
  by_cases hz : n = 0
  · obtain ⟨a, cap, rfl⟩ := ha.form
    obtain rfl : zs = [] := List.eq_nil_of_length_eq_zero (by omega)
    clear ha hz hn
    go_enter Tryd.func51, Tryd.ntmps51
    go_wp2
    refine wp_loop_rounds 1 ?_
    rw [rounds_succ]
    go_wp2
    go_ret
    exact ⟨by simp [within], Ext.refl w⟩
  · obtain ⟨g, off, cap, rfl, c1, c2⟩ := ha.addr (by omega)
    rw [← hn] at ha hle c1 ⊢
    have HN := Lib.hid hn
    unfold maxLen at c2
    clear hn
    go_enter Tryd.func51, Tryd.ntmps51
    go_wp2
    go_loop [7] (fun i => ∃ k : Nat, k ≤ n ∧ i = .int .i64 k ∧ Hid (∀ j x, j < k → zs[j]? = some x → lo ≤ x ∧ x ≤ hi)) (fun i => n - (intOf i).toNat)
    case atStart => exact ⟨0, Nat.zero_le _, rfl, fun j _ hj => absurd hj (Nat.not_lt_zero _)⟩
    case round =>
      obtain ⟨k, hk, rfl, HJ⟩ := hrel
      by_cases hlt : k < n
      · obtain ⟨x, hx⟩ : ∃ x, zs[k]? = some x := ⟨_, List.getElem?_eq_getElem (by rw [← HN.out]; exact hlt)⟩
        have cx := ha.at hx
        have HX := Lib.hid hx
        clear hx
        by_cases h1 : x < lo
        · go_wp2
          go_ret
          refine ⟨?_, Ext.refl w⟩
          have : ¬ within lo hi zs := fun hw => by have := (hw.at HX.out).1; omega
          simp [this]
        · by_cases h2 : hi < x
          · go_wp2
            go_ret
            refine ⟨?_, Ext.refl w⟩
            have : ¬ within lo hi zs := fun hw => by have := (hw.at HX.out).2; omega
            simp [this]
          · go_wp2
            go_round
            case rel => exact ⟨k + 1, by omega, by go_num, fun j y hj hy => by
              by_cases hjk : j = k
              · subst hjk
                have : x = y := Option.some.inj (HX.out.symm.trans hy)
                omega
              · exact HJ.out j y (by omega) hy⟩
            case measure => simp [intOf]; omega
      · go_wp2
        go_ret
        refine ⟨?_, Ext.refl w⟩
        have : within lo hi zs := within_of_gets fun j x hj hx => HJ.out j x (by rw [← HN.out] at hj; omega) hx
        simp [this]
end Go.Proofs.YtaamnpbhmckpbaaDoor

/- What a call answers beside its value: nothing, or a code behind a path; the program's error and the document's, held against one another. -/
namespace Go.Proofs.YtaamnpbhmckpbaaDoor
set_option linter.unusedVariables false
set_option linter.unusedSimpArgs false
open Go.RowKit Go.Extern.Stop Go.Stop Go.Extern

/-- none, or a path and a code -/
abbrev Fall := Option (List (ByteArray × Int) × Int)
def Fall.okay : Fall → Prop
  | none => True
  | some (p, c) => c ≠ 0 ∧ p.length ≤ 1000000
def ErrIs (w : World) (f : Fall) (x : Value) : Prop := match f with
  | none => x = .nilIface
  | some (p, c) => IsErr w p c x ∧ c ≠ 0 ∧ p.length ≤ 1000000
def RErrIs (w : World) (f : Fall) (c : Int) (v : Value) : Prop := match f with
  | none => c = 0 ∧ v = .slice none 0 0
  | some (p, k) => c = k ∧ k ≠ 0 ∧ Row w v p.length (stepCells p)
theorem ErrIs.ext {w w' : World} {f : Fall} {x : Value} (h : ErrIs w f x) (k : Ext w w') : ErrIs w' f x := by
  cases f with
  | none => exact h
  | some a => exact ⟨h.1.ext k, h.2⟩
theorem RErrIs.ext {w w' : World} {f : Fall} {c : Int} {x : Value} (h : RErrIs w f c x) (k : Ext w w') : RErrIs w' f c x := by
  cases f with
  | none => exact h
  | some a => exact ⟨h.1, h.2.1, h.2.2.ext k⟩
theorem ErrIs.code {w : World} {c : Int} (h : c ≠ 0) : ErrIs w (some ([], c)) (.iface 36 (.int .i64 c)) := ⟨rfl, h, by simp⟩
theorem RErrIs.code {w : World} {c : Int} (h : c ≠ 0) : RErrIs w (some ([], c)) c (.slice none 0 0) := ⟨rfl, h, Row.nil w⟩
theorem RErrIs.zero {w : World} : RErrIs w none 0 (.slice none 0 0) := ⟨rfl, rfl⟩
theorem ErrIs.ne {w : World} {a : List (ByteArray × Int) × Int} {x : Value} (h : ErrIs w (some a) x) : ∃ t v, x = .iface t v := h.1.ne_nil

/-- kinsame.Err of two that tell the same -/
theorem same_fall (f : Fall) (x v : Value) (c : Int) (w : World) (hg : EtIs w) (h : ErrIs w f x) (k : RErrIs w f c v) :
    Calls Tryd.prog 17 #[x, .agg #[.int .i64 c, v]] w fun e w' => e = .returned (.bool true) ∧ Ext w w' := by
  cases f with
  | none =>
    obtain rfl := h
    obtain ⟨rfl, rfl⟩ := k
    exact same_nil w hg
  | some a =>
    obtain ⟨p, c'⟩ := a
    obtain ⟨h1, h2, h3⟩ := h
    obtain ⟨rfl, -, k3⟩ := k
    exact same_err p c x v w hg h1 k3 h2 h3

/-- an int and an error; the document's -/
def IPost (w : World) (n : Int) (f : Fall) (e : Ending) (w' : World) : Prop := ∃ x, e = .returned (.tuple #[.int .i64 n, x]) ∧ Ext w w' ∧ ErrIs w' f x
def RIPost (w : World) (n : Int) (f : Fall) (e : Ending) (w' : World) : Prop := ∃ c a m k, e = .returned (.tuple #[.int .i64 n, .agg #[.int .i64 c, .slice a m k]]) ∧ Ext w w' ∧ RErrIs w' f c (.slice a m k)
/-- an error alone -/
def EPost (w : World) (f : Fall) (e : Ending) (w' : World) : Prop := ∃ x, e = .returned x ∧ Ext w w' ∧ ErrIs w' f x
def REPost (w : World) (f : Fall) (e : Ending) (w' : World) : Prop := ∃ c a m k, e = .returned (.agg #[.int .i64 c, .slice a m k]) ∧ Ext w w' ∧ RErrIs w' f c (.slice a m k)
/-- ints and an error -/
def ZPost (w : World) (zs : List Int) (f : Fall) (e : Ending) (w' : World) : Prop := ∃ u x, e = .returned (.tuple #[u, x]) ∧ Ext w w' ∧ Ints w' u zs ∧ ErrIs w' f x
def RZPost (w : World) (zs : List Int) (f : Fall) (e : Ending) (w' : World) : Prop := ∃ u c a m k, e = .returned (.tuple #[u, .agg #[.int .i64 c, .slice a m k]]) ∧ Ext w w' ∧ Ints w' u zs ∧ RErrIs w' f c (.slice a m k)
/-- a variable that holds the document's error -/
theorem evar (w : World) (c : Int) (a : Option Addr) (m k : Nat) {W : World} (h : Ext (w.alloc (.cells #[.int .i64 c, .slice a m k] 39)) W) :
    W.cell? ⟨w.heap.size, 0, none⟩ = some (.int .i64 c) ∧ W.cell? ⟨w.heap.size, 1, none⟩ = some (.slice a m k) := ⟨h.cell (by simp), h.cell (by simp)⟩
end Go.Proofs.YtaamnpbhmckpbaaDoor

/- The builtins max and min of ints, as rules for a walk. -/
namespace Go.Proofs.YtaamnpbhmckpbaaDoor
set_option linter.unusedVariables false
set_option linter.unusedSimpArgs false
open Go.RowKit

theorem mx2 : ∀ (x y : Int) ts ty W, (Builtin.max_ ts ty #[.int .i64 x, .int .i64 y]).run Tryd.prog W = .ok (.int .i64 (max x y)) W := fun x y ts ty W => by
  have e : max x y = if x < y then y else x := by omega
  simp [Builtin.max_, Builtin.max2, e]
theorem mn2 : ∀ (x y : Int) ts ty W, (Builtin.min_ ts ty #[.int .i64 x, .int .i64 y]).run Tryd.prog W = .ok (.int .i64 (min x y)) W := fun x y ts ty W => by
  have e : min x y = if y < x then y else x := by omega
  simp [Builtin.min_, Builtin.min2, e]
theorem mx3 : ∀ (x y z : Int) ts ty W, (Builtin.max_ ts ty #[.int .i64 x, .int .i64 y, .int .i64 z]).run Tryd.prog W = .ok (.int .i64 (max (max x y) z)) W := fun x y z ts ty W => by
  have e : max (max x y) z = if (if x < y then y else x) < z then z else (if x < y then y else x) := by omega
  simp [Builtin.max_, Builtin.max2, e]
end Go.Proofs.YtaamnpbhmckpbaaDoor

/- Frames: what they are, which may be; plane.isSide, isSample, Clip, May and the document's: contracts over this seat's translation. -/
namespace Go.Proofs.YtaamnpbhmckpbaaDoor
set_option linter.unusedVariables false
set_option linter.unusedSimpArgs false
open Go.RowKit Go.Extern.Stop Go.Stop Go.Extern

def sideB (n : Int) : Bool := decide (8 ≤ n) && decide (n ≤ 32) && decide (n % 8 = 0)
/-- may a frame of these sides and samples be? -/
def may (W H : Int) (zs : List Int) : Prop := sideB W = true ∧ sideB H = true ∧ (zs.length : Int) = W * H ∧ within 0 255 zs
instance (W H : Int) (zs : List Int) : Decidable (may W H zs) := by unfold may; exact inferInstance
theorem sideB_true {n : Int} (h : sideB n = true) : 8 ≤ n ∧ n ≤ 32 ∧ n % 8 = 0 := by
  unfold sideB at h
  simp at h
  omega
theorem sideB_cases {n : Int} (h : sideB n = true) : n = 8 ∨ n = 16 ∨ n = 24 ∨ n = 32 := by
  have := sideB_true h
  omega
theorem may_area {W H : Int} {zs : List Int} (h : may W H zs) : 64 ≤ W * H ∧ W * H ≤ 1024 := by
  rcases sideB_cases h.1 with rfl | rfl | rfl | rfl <;> rcases sideB_cases h.2.1 with rfl | rfl | rfl | rfl <;> decide
theorem side_area {W H : Int} (h : sideB W = true) (k : sideB H = true) : 64 ≤ W * H ∧ W * H ≤ 1024 := by
  rcases sideB_cases h with rfl | rfl | rfl | rfl <;> rcases sideB_cases k with rfl | rfl | rfl | rfl <;> decide

theorem side_any (n : Int) (w : World) : Calls Tryd.prog 80 #[.int .i64 n] w fun e w' => e = .returned (.bool (sideB n)) ∧ w = w' := by
  by_cases h1 : 8 ≤ n
  · by_cases h2 : n ≤ 32
    · by_cases h3 : n % 8 = 0
      · have hs : sideB n = true := by unfold sideB; simp [h1, h2, h3]
        have H := Lib.hid hs
        clear hs
        go_enter Tryd.func80, Tryd.ntmps80
        go_wp2
        go_ret
        exact ⟨by rw [H.out]; rfl, rfl⟩
      · have hs : sideB n = false := by unfold sideB; simp [h3]
        have b1 : (n % 8 == 0) = false := by simpa using h3
        have H := Lib.hid hs
        clear hs h3
        go_enter Tryd.func80, Tryd.ntmps80
        go_wp2
        go_ret
        exact ⟨by rw [H.out]; rfl, rfl⟩
    · have hs : sideB n = false := by unfold sideB; simp [h2]
      have H := Lib.hid hs
      clear hs
      go_enter Tryd.func80, Tryd.ntmps80
      go_wp2
      go_ret
      exact ⟨by rw [H.out]; rfl, rfl⟩
  · have hs : sideB n = false := by unfold sideB; simp [h1]
    have H := Lib.hid hs
    clear hs
    go_enter Tryd.func80, Tryd.ntmps80
    go_wp2
    go_ret
    exact ⟨by rw [H.out]; rfl, rfl⟩
theorem rside_any (n : Int) (w : World) : Calls Tryd.prog 75 #[.int .i64 n] w fun e w' => e = .returned (.bool (sideB n)) ∧ w = w' := by
  by_cases h1 : 8 ≤ n
  · by_cases h2 : n ≤ 32
    · by_cases h3 : n % 8 = 0
      · have hs : sideB n = true := by unfold sideB; simp [h1, h2, h3]
        have H := Lib.hid hs
        clear hs
        go_enter Tryd.func75, Tryd.ntmps75
        go_wp2
        go_ret
        exact ⟨by rw [H.out]; rfl, rfl⟩
      · have hs : sideB n = false := by unfold sideB; simp [h3]
        have b1 : (n % 8 == 0) = false := by simpa using h3
        have H := Lib.hid hs
        clear hs h3
        go_enter Tryd.func75, Tryd.ntmps75
        go_wp2
        go_ret
        exact ⟨by rw [H.out]; rfl, rfl⟩
    · have hs : sideB n = false := by unfold sideB; simp [h2]
      have H := Lib.hid hs
      clear hs
      go_enter Tryd.func75, Tryd.ntmps75
      go_wp2
      go_ret
      exact ⟨by rw [H.out]; rfl, rfl⟩
  · have hs : sideB n = false := by unfold sideB; simp [h1]
    have H := Lib.hid hs
    clear hs
    go_enter Tryd.func75, Tryd.ntmps75
    go_wp2
    go_ret
    exact ⟨by rw [H.out]; rfl, rfl⟩
def smpB (n : Int) : Bool := decide (0 ≤ n) && decide (n ≤ 255)
theorem smp_any (n : Int) (w : World) : Calls Tryd.prog 81 #[.int .i64 n] w fun e w' => e = .returned (.bool (smpB n)) ∧ w = w' := by
  by_cases h1 : 0 ≤ n
  · by_cases h2 : n ≤ 255
    · have H : Hid (smpB n = true) := by show _ = _; unfold smpB; simp [h1, h2]
      go_enter Tryd.func81, Tryd.ntmps81
      go_wp2
      go_ret
      exact ⟨by rw [H.out]; rfl, rfl⟩
    · have H : Hid (smpB n = false) := by show _ = _; unfold smpB; simp [h2]
      go_enter Tryd.func81, Tryd.ntmps81
      go_wp2
      go_ret
      exact ⟨by rw [H.out]; rfl, rfl⟩
  · have H : Hid (smpB n = false) := by show _ = _; unfold smpB; simp [h1]
    go_enter Tryd.func81, Tryd.ntmps81
    go_wp2
    go_ret
    exact ⟨by rw [H.out]; rfl, rfl⟩
def clipI (n : Int) : Int := max 0 (min n 255)
theorem clip_any (n : Int) (w : World) : Calls Tryd.prog 71 #[.int .i64 n] w fun e w' => e = .returned (.int .i64 (clipI n)) ∧ w = w' := by
  have r1 := mx2
  have r2 := mn2
  go_enter Tryd.func71, Tryd.ntmps71
  go_wp2
  go_ret
  exact ⟨rfl, rfl⟩
set_option maxRecDepth 20000 in
set_option maxHeartbeats 1000000 in
theorem may_any (W H : Int) (zs : List Int) (a : Option Addr) (n cap : Nat) (w : World) (h : Ints w (.slice a n cap) zs) :
    Calls Tryd.prog 60 #[.agg #[.int .i64 W, .int .i64 H, .slice a n cap]] w fun e w' => e = .returned (.bool (decide (may W H zs))) ∧ Ext w w' := by
  have E1 : Ext w (w.alloc (.cells #[.int .i64 W, .int .i64 H, .slice a n cap] 67)) := (Ext.refl w).alloc _
  have HN := Lib.hid h.len
  cases hs : sideB W with
  | false =>
    have HR : Hid (decide (may W H zs) = false) := by show _ = _; simp [may, hs]
    go_enter Tryd.func60, Tryd.ntmps60
    go_wp2_with (go_at_call 80; refine (side_any _ _).mono ?_; rintro e w' ⟨rfl, rfl⟩)
    go_ret
    exact ⟨by rw [HR.out]; rfl, E1⟩
  | true =>
    cases ht : sideB H with
    | false =>
      have HR : Hid (decide (may W H zs) = false) := by show _ = _; simp [may, ht]
      go_enter Tryd.func60, Tryd.ntmps60
      go_wp2_with (go_at_call 80; refine (side_any _ _).mono ?_; rintro e w' ⟨rfl, rfl⟩)
      go_ret
      exact ⟨by rw [HR.out]; rfl, E1⟩
    | true =>
      obtain ⟨b1, b2⟩ := side_area hs ht
      by_cases hl : (n : Int) = W * H
      · have HL := Lib.hid hl
        have hl2 : ((n : Int) != W * H) = false := by simpa using hl
        have hn0 : 0 < n ∧ n ≤ 1024 := by omega
        clear hl
        obtain ⟨hn0, hn1⟩ := hn0
        have HS : Hid (sideB W = true ∧ sideB H = true) := ⟨hs, ht⟩
        obtain ⟨g, off, rfl⟩ := h.had hn0
        go_enter Tryd.func60, Tryd.ntmps60
        go_wp2_with (go_at_call 80; refine (side_any _ _).mono ?_; rintro e w' ⟨rfl, rfl⟩)
        go_loop [29] (fun i => ∃ k : Nat, k ≤ n ∧ i = .int .i64 k ∧ Hid (∀ j x, j < k → zs[j]? = some x → 0 ≤ x ∧ x ≤ 255)) (fun i => n - (intOf i).toNat)
        case atStart => exact ⟨0, Nat.zero_le _, rfl, fun j _ hj => absurd hj (Nat.not_lt_zero _)⟩
        case round =>
          obtain ⟨k, hk, rfl, HJ⟩ := hrel
          by_cases hlt : k < n
          · obtain ⟨x, hx⟩ : ∃ x, zs[k]? = some x := ⟨_, List.getElem?_eq_getElem (by rw [← HN.out]; exact hlt)⟩
            have cx := E1.cell (h.at hx)
            have HX := Lib.hid hx
            clear hx
            cases hb : smpB x with
            | true =>
              have HB := Lib.hid hb
              go_wp2_with (go_at_call 81; refine (smp_any _ _).mono ?_; rintro e w' ⟨rfl, rfl⟩)
              go_round
              case rel => exact ⟨k + 1, by omega, by go_num, fun j y hj hy => by
                by_cases hjk : j = k
                · subst hjk
                  have : x = y := Option.some.inj (HX.out.symm.trans hy)
                  have h2 := HB.out
                  unfold smpB at h2
                  simp at h2
                  omega
                · exact HJ.out j y (by omega) hy⟩
              case measure => simp [intOf]; omega
            | false =>
              have HB := Lib.hid hb
              go_wp2_with (go_at_call 81; refine (smp_any _ _).mono ?_; rintro e w' ⟨rfl, rfl⟩)
              go_ret
              refine ⟨?_, E1⟩
              have : ¬ may W H zs := fun hm => by
                have h1 := hm.2.2.2.at HX.out
                have h2 := HB.out
                unfold smpB at h2
                simp at h2
                omega
              rw [decide_eq_false this]; rfl
          · go_wp2
            go_ret
            refine ⟨?_, E1⟩
            have : may W H zs := ⟨HS.out.1, HS.out.2, by rw [← HN.out]; exact HL.out, within_of_gets fun j x hj hx => HJ.out j x (by rw [← HN.out] at hj; omega) hx⟩
            rw [decide_eq_true this]; rfl
      · have HR : Hid (decide (may W H zs) = false) := by show _ = _; rw [decide_eq_false (fun hm => hl (by rw [HN.out]; exact hm.2.2.1))]
        have hl2 : ((n : Int) != W * H) = true := by simpa using hl
        clear hl
        go_enter Tryd.func60, Tryd.ntmps60
        go_wp2_with (go_at_call 80; refine (side_any _ _).mono ?_; rintro e w' ⟨rfl, rfl⟩)
        go_ret
        exact ⟨by rw [HR.out]; rfl, E1⟩
end Go.Proofs.YtaamnpbhmckpbaaDoor

/- slices.ContainsFunc at this seat's predicates: contracts over this seat's translation. -/
namespace Go.Proofs.YtaamnpbhmckpbaaDoor
set_option linter.unusedVariables false
set_option linter.unusedSimpArgs false
open Go.RowKit Go.Extern.Stop Go.Stop Go.Extern

def IdxPost (w : World) (b : Bool) (e : Ending) (w' : World) : Prop := ∃ i : Int, e = .returned (.int .i64 i) ∧ decide (0 ≤ i) = b ∧ w = w'
def farB (x : Int) : Bool := decide (x < -1048576) || decide (1048576 < x)
def nzB (x : Int) : Bool := decide (x ≠ 0)
def nosmpB (x : Int) : Bool := decide (x < 0) || decide (255 < x)
theorem any_of_get {zs : List Int} {p : Int → Bool} {k : Nat} {x : Int} (h : zs[k]? = some x) (hp : p x = true) : zs.any p = true := List.any_eq_true.2 ⟨x, List.mem_of_getElem? h, hp⟩
theorem any_no {zs : List Int} {p : Int → Bool} (h : ∀ j x, j < zs.length → zs[j]? = some x → p x = false) : zs.any p = false := by
  rw [Bool.eq_false_iff]
  intro ht
  obtain ⟨x, hx, hp⟩ := List.any_eq_true.1 ht
  obtain ⟨j, hj, e⟩ := List.mem_iff_getElem.1 hx
  have := h j x hj (by rw [List.getElem?_eq_getElem hj, e])
  rw [this] at hp
  cases hp

theorem farB_call (n : Int) (w : World) : Calls Tryd.prog 92 #[.int .i64 n] w fun e w' => e = .returned (.bool (farB n)) ∧ w = w' := by
  by_cases h1 : n < -1048576
  · have H : Hid (farB n = true) := by show _ = _; unfold farB; simp [h1]
    go_enter Tryd.func92, Tryd.ntmps92
    go_wp2
    go_ret
    exact ⟨by rw [H.out]; rfl, rfl⟩
  · by_cases h2 : 1048576 < n
    · have H : Hid (farB n = true) := by show _ = _; unfold farB; simp [h2]
      go_enter Tryd.func92, Tryd.ntmps92
      go_wp2
      go_ret
      exact ⟨by rw [H.out]; rfl, rfl⟩
    · have H : Hid (farB n = false) := by show _ = _; unfold farB; simp [h1, h2]
      go_enter Tryd.func92, Tryd.ntmps92
      go_wp2
      go_ret
      exact ⟨by rw [H.out]; rfl, rfl⟩
theorem nosmpBm_call (n : Int) (w : World) : Calls Tryd.prog 70 #[.int .i64 n] w fun e w' => e = .returned (.bool (nosmpB n)) ∧ w = w' := by
  have H : Hid ((n != clipI n) = nosmpB n) := by
    show _ = _
    unfold nosmpB clipI
    rw [Bool.eq_iff_iff]
    simp only [bne_iff_ne, ne_eq, Bool.or_eq_true, decide_eq_true_eq]
    omega
  go_enter Tryd.func70, Tryd.ntmps70
  go_wp2_with fail
  refine (clip_any _ _).mono ?_; rintro e w1 ⟨rfl, rfl⟩
  go_wp2
  go_ret
  exact ⟨by rw [← H.out]; rfl, rfl⟩
set_option maxRecDepth 20000 in
set_option maxHeartbeats 1000000 in
theorem farB_idx (zs : List Int) (v : Value) (w : World) (ha : Ints w v zs) :
    Calls Tryd.prog 87 #[v, .func (.func 92) #[] #[]] w (IdxPost w (zs.any farB)) := by
  obtain ⟨a, cap, rfl⟩ := ha.form
  obtain ⟨n, hn⟩ : ∃ n, n = zs.length := ⟨_, rfl⟩
  have hle := ha.2
  rw [← hn] at ha hle ⊢
  have AG := Lib.hid ha.had
  have HN := Lib.hid hn
  clear hn
  go_enter Tryd.func87, Tryd.ntmps87
  go_wp2
  go_loop [8] (fun i => ∃ k : Nat, k ≤ n ∧ i = .int .i64 k ∧ Hid (∀ j x, j < k → zs[j]? = some x → farB x = false)) (fun i => n - (intOf i).toNat)
  case atStart => exact ⟨0, Nat.zero_le _, rfl, fun j _ hj => absurd hj (Nat.not_lt_zero _)⟩
  case round =>
    obtain ⟨k, hk, rfl, HJ⟩ := hrel
    by_cases hlt : k < n
    · obtain ⟨x, hx⟩ : ∃ x, zs[k]? = some x := ⟨_, List.getElem?_eq_getElem (by rw [← HN.out]; exact hlt)⟩
      obtain ⟨g, off, rfl⟩ := AG.out (by omega)
      have cx := ha.at hx
      have HX := Lib.hid hx
      clear hx
      cases hb : farB x with
      | true =>
        have HB := Lib.hid hb
        go_wp2_with (go_at_call 92; refine (farB_call _ _).mono ?_; rintro e w' ⟨rfl, rfl⟩)
        go_ret
        exact ⟨_, rfl, by rw [any_of_get HX.out HB.out]; simp, rfl⟩
      | false =>
        have HB := Lib.hid hb
        go_wp2_with (go_at_call 92; refine (farB_call _ _).mono ?_; rintro e w' ⟨rfl, rfl⟩)
        go_round
        case rel => exact ⟨k + 1, by omega, by go_num, fun j y hj hy => by
          by_cases hjk : j = k
          · subst hjk
            obtain rfl : x = y := Option.some.inj (HX.out.symm.trans hy)
            exact HB.out
          · exact HJ.out j y (by omega) hy⟩
        case measure => simp [intOf]; omega
    · go_wp2
      go_ret
      refine ⟨_, rfl, ?_, rfl⟩
      rw [any_no (fun j x hj hx => HJ.out j x (by rw [← HN.out] at hj; omega) hx)]
      rfl
theorem farB_has (zs : List Int) (v : Value) (w : World) (ha : Ints w v zs) :
    Calls Tryd.prog 69 #[v, .func (.func 92) #[] #[]] w fun e w' => e = .returned (.bool (zs.any farB)) ∧ w = w' := by
  have H := Lib.hid (farB_idx zs v w ha)
  clear ha
  go_enter Tryd.func69, Tryd.ntmps69
  go_wp2_with fail
  refine (H.out).mono ?_; rintro e w1 ⟨i, rfl, hi, rfl⟩
  have HI := Lib.hid hi
  clear hi
  go_wp2
  go_ret
  exact ⟨by rw [← HI.out]; rfl, rfl⟩
set_option maxRecDepth 20000 in
set_option maxHeartbeats 1000000 in
theorem nosmpBm_idx (zs : List Int) (v : Value) (w : World) (ha : Ints w v zs) :
    Calls Tryd.prog 87 #[v, .func (.func 70) #[] #[]] w (IdxPost w (zs.any nosmpB)) := by
  obtain ⟨a, cap, rfl⟩ := ha.form
  obtain ⟨n, hn⟩ : ∃ n, n = zs.length := ⟨_, rfl⟩
  have hle := ha.2
  rw [← hn] at ha hle ⊢
  have AG := Lib.hid ha.had
  have HN := Lib.hid hn
  clear hn
  go_enter Tryd.func87, Tryd.ntmps87
  go_wp2
  go_loop [8] (fun i => ∃ k : Nat, k ≤ n ∧ i = .int .i64 k ∧ Hid (∀ j x, j < k → zs[j]? = some x → nosmpB x = false)) (fun i => n - (intOf i).toNat)
  case atStart => exact ⟨0, Nat.zero_le _, rfl, fun j _ hj => absurd hj (Nat.not_lt_zero _)⟩
  case round =>
    obtain ⟨k, hk, rfl, HJ⟩ := hrel
    by_cases hlt : k < n
    · obtain ⟨x, hx⟩ : ∃ x, zs[k]? = some x := ⟨_, List.getElem?_eq_getElem (by rw [← HN.out]; exact hlt)⟩
      obtain ⟨g, off, rfl⟩ := AG.out (by omega)
      have cx := ha.at hx
      have HX := Lib.hid hx
      clear hx
      cases hb : nosmpB x with
      | true =>
        have HB := Lib.hid hb
        go_wp2_with (go_at_call 70; refine (nosmpBm_call _ _).mono ?_; rintro e w' ⟨rfl, rfl⟩)
        go_ret
        exact ⟨_, rfl, by rw [any_of_get HX.out HB.out]; simp, rfl⟩
      | false =>
        have HB := Lib.hid hb
        go_wp2_with (go_at_call 70; refine (nosmpBm_call _ _).mono ?_; rintro e w' ⟨rfl, rfl⟩)
        go_round
        case rel => exact ⟨k + 1, by omega, by go_num, fun j y hj hy => by
          by_cases hjk : j = k
          · subst hjk
            obtain rfl : x = y := Option.some.inj (HX.out.symm.trans hy)
            exact HB.out
          · exact HJ.out j y (by omega) hy⟩
        case measure => simp [intOf]; omega
    · go_wp2
      go_ret
      refine ⟨_, rfl, ?_, rfl⟩
      rw [any_no (fun j x hj hx => HJ.out j x (by rw [← HN.out] at hj; omega) hx)]
      rfl
theorem nosmpBm_has (zs : List Int) (v : Value) (w : World) (ha : Ints w v zs) :
    Calls Tryd.prog 69 #[v, .func (.func 70) #[] #[]] w fun e w' => e = .returned (.bool (zs.any nosmpB)) ∧ w = w' := by
  have H := Lib.hid (nosmpBm_idx zs v w ha)
  clear ha
  go_enter Tryd.func69, Tryd.ntmps69
  go_wp2_with fail
  refine (H.out).mono ?_; rintro e w1 ⟨i, rfl, hi, rfl⟩
  have HI := Lib.hid hi
  clear hi
  go_wp2
  go_ret
  exact ⟨by rw [← HI.out]; rfl, rfl⟩
end Go.Proofs.YtaamnpbhmckpbaaDoor

/- Chapter 7, plain arithmetic: how unlike two rows are, and the zigzag of 4 and 8. -/
namespace Go.Proofs.YtaamnpbhmckpbaaDoor
set_option linter.unusedVariables false
set_option linter.unusedSimpArgs false

/-- how unlike the first n of two rows are -/
def sadF (f g : Nat → Int) : Nat → Int
  | 0 => 0
  | j + 1 => sadF f g j + max (f j - g j) (g j - f j)
theorem sadF_comm (f g : Nat → Int) (n : Nat) : sadF f g n = sadF g f n := by
  induction n with
  | zero => rfl
  | succ n ih => unfold sadF; omega
theorem sadF_tri (f g h : Nat → Int) (n : Nat) : sadF f h n ≤ sadF f g n + sadF g h n := by
  induction n with
  | zero => simp [sadF]
  | succ n ih => unfold sadF; omega
theorem sadF_pos (f g : Nat → Int) (n : Nat) : 0 ≤ sadF f g n := by
  induction n with
  | zero => simp [sadF]
  | succ n ih => unfold sadF; omega
theorem sadF_zero (f g : Nat → Int) (n : Nat) : sadF f g n = 0 ↔ ∀ j, j < n → f j = g j := by
  induction n with
  | zero => simp [sadF]
  | succ n ih =>
    have hp := sadF_pos f g n
    unfold sadF
    constructor
    · intro h j hj
      by_cases e : j = n
      · subst e; omega
      · exact ih.1 (by omega) j (by omega)
    · intro h
      have h1 := ih.2 (fun j hj => h j (by omega))
      have h2 := h n (by omega)
      omega
theorem sadF_bound {f g : Nat → Int} {B : Int} (hf : ∀ j, -B ≤ f j ∧ f j ≤ B) (hg : ∀ j, -B ≤ g j ∧ g j ≤ B) (n : Nat) : sadF f g n ≤ 2 * B * n := by
  induction n with
  | zero => simp [sadF]
  | succ n ih =>
    have h1 := hf n
    have h2 := hg n
    have e : 2 * B * ((n : Nat) + 1 : Int) = 2 * B * n + 2 * B := by rw [Int.mul_add]; omega
    unfold sadF
    push_cast
    omega
/-- the index that lies i-th on the diagonal s of a square of n, by the landed way: rows from lo to hi -/
def zigLo (n s : Nat) : Nat := s + 1 - n
def zigHi (n s : Nat) : Nat := min s (n - 1)
def zigAt (n s i : Nat) : Nat := let y := if s % 2 = 0 then zigHi n s - (i - zigLo n s) else i; y * n + s - y
def zigDiag (n s k : Nat) : List Nat := (List.range (k - zigLo n s)).map fun i => zigAt n s (zigLo n s + i)
def zigPre (n s : Nat) : List Nat := (List.range s).flatMap fun s => zigDiag n s (zigHi n s + 1)
/-- and by the document's way: rows from 0 to s, those that lie inside -/
def zigY (s i : Nat) : Nat := if s % 2 = 0 then s - i else i
def zigRow (n s k : Nat) : List Nat := ((List.range k).filter fun i => zigY s i < n ∧ s - zigY s i < n).map fun i => zigY s i * n + s - zigY s i
theorem zig_same4 : ∀ s < 7, zigRow 4 s (s + 1) = zigDiag 4 s (zigHi 4 s + 1) := by decide +kernel
theorem zig_same8 : ∀ s < 15, zigRow 8 s (s + 1) = zigDiag 8 s (zigHi 8 s + 1) := by decide +kernel
theorem zig_four : zigPre 4 7 = [0, 1, 4, 8, 5, 2, 3, 6, 9, 12, 13, 10, 7, 11, 14, 15] := by decide +kernel
theorem zig_len : (zigPre 4 7).length = 16 ∧ (zigPre 8 15).length = 64 := by decide +kernel
theorem zig_once : (zigPre 4 7).Nodup ∧ (zigPre 8 15).Nodup ∧ (∀ x ∈ zigPre 4 7, x < 16) ∧ (∀ x ∈ zigPre 8 15, x < 64) := by decide +kernel
theorem zigDiag_succ {n s k : Nat} (h : zigLo n s ≤ k) : zigDiag n s (k + 1) = zigDiag n s k ++ [zigAt n s k] := by
  unfold zigDiag
  rw [show k + 1 - zigLo n s = (k - zigLo n s) + 1 by omega, List.range_succ, List.map_append]
  simp only [List.map_cons, List.map_nil]
  rw [show zigLo n s + (k - zigLo n s) = k by omega]
theorem zigPre_succ (n s : Nat) : zigPre n (s + 1) = zigPre n s ++ zigDiag n s (zigHi n s + 1) := by
  unfold zigPre
  rw [List.range_succ, List.flatMap_append]
  simp
theorem zigRow_succ (n s k : Nat) : zigRow n s (k + 1) = zigRow n s k ++ (if zigY s k < n ∧ s - zigY s k < n then [zigY s k * n + s - zigY s k] else []) := by
  unfold zigRow
  rw [List.range_succ, List.filter_append, List.map_append]
  congr 1
  by_cases h : zigY s k < n ∧ s - zigY s k < n
  · rw [if_pos h]; simp [h]
  · rw [if_neg h]; simp [List.filter_cons, h]
/-- the quarter of an index of 64, and its place there -/
def qOf (i : Nat) : Nat := i / 32 * 2 + i % 8 / 4
def qAt (i : Nat) : Nat := i % 32 / 8 * 4 + i % 4
def qIdx (q k : Nat) : List Nat := (List.range k).filter fun i => qOf i == q
theorem qOf_landed : ∀ i < 64, i / 8 / 4 * 2 + i % 8 / 4 = qOf i ∧ qOf i < 4 ∧ qAt i < 16 := by decide +kernel
theorem qIdx_succ (q k : Nat) : qIdx q (k + 1) = qIdx q k ++ (if qOf k = q then [k] else []) := by
  unfold qIdx
  rw [List.range_succ, List.filter_append]
  congr 1
  by_cases h : qOf k = q
  · rw [if_pos h]; simp [h]
  · rw [if_neg h]; simp [h]
theorem qIdx_count : ∀ i < 64, (qIdx (qOf i) i).length = qAt i := by decide +kernel
theorem qIdx_full : ∀ q < 4, (qIdx q 64).length = 16 := by decide +kernel
theorem qIdx_back : ∀ i < 64, (qIdx (qOf i) 64)[qAt i]? = some i := by decide +kernel
end Go.Proofs.YtaamnpbhmckpbaaDoor

/- kinref.CopyInts: its contract over this seat's translation; what an append of one int does to a slice of the call's own. -/
namespace Go.Proofs.YtaamnpbhmckpbaaDoor
set_option linter.unusedVariables false
set_option linter.unusedSimpArgs false
open Go.RowKit Go.Extern.Stop Go.Stop Go.Extern

theorem infoInt : (Tryd.prog.info? 3).map (fun i => (i.zero, i.size, i.bytes)) = some (some (.int .i64 0), 1, 8) := by kernel_rfl

theorem news_of_ints {w : World} {g off n cap : Nat} {zs : List Int} (h : Ints w (.slice (some ⟨g, off, none⟩) n cap) zs) : ∀ j u, (zs.map (Value.int .i64))[j]? = some u → w.cell? ((⟨g, off, none⟩ : Addr).add j) = some u := fun j u hu => by
  have hadd : (⟨g, off, none⟩ : Addr).add j = ⟨g, off + j, none⟩ := by unfold Addr.add; split <;> simp_all
  rw [List.getElem?_map] at hu
  obtain ⟨x, hx, rfl⟩ := Option.map_eq_some_iff.1 hu
  rw [hadd]
  exact h.at hx
theorem ints_one (zs : List Int) : ∀ u ∈ zs.map (Value.int .i64), u.oneCell' = true := fun u hu => by
  obtain ⟨x, _, rfl⟩ := List.mem_map.1 hu
  rfl

set_option maxRecDepth 20000 in
theorem copy_ints (zs : List Int) (v : Value) (w : World) (ha : Ints w v zs) (hl : zs.length ≤ 1000000) :
    Calls Tryd.prog 47 #[v] w fun e w' => ∃ u, e = .returned u ∧ Ints w' u zs ∧ Ext w w' := by
  obtain ⟨i0, hi, hz0, hz1, hz2⟩ := info_parts infoInt
  obtain ⟨n, hn⟩ : ∃ n, n = zs.length := ⟨_, rfl⟩
  have E1 : Ext w (w.alloc (.cells #[] 3)) := (Ext.refl w).alloc _
  have hown : (w.alloc (.cells #[] 3)).ownsRow w.heap.size 3 1 (.slice (some ⟨w.heap.size, 0, none⟩) 0 0) 0 [] := World.ownsRow_made w #[] 0 (Nat.le_refl _) (Nat.zero_le _) rfl
  have fin : ∀ (v' : Value) (w' : World), w'.ownsRow w.heap.size 3 1 v' (0 + n) ([] ++ zs.map (Value.int .i64)) → (w.alloc (.cells #[] 3)).grownBy w' (some w.heap.size) → Ints w' v' zs ∧ Ext w w' := fun v' w' h1 h2 =>
    ⟨Ints.of_owns h1 (by omega), Below.grown E1 h2 (by simp) (fun k hk => by cases hk; exact Nat.le_refl _)⟩
  have FIN := Lib.hid fin
  clear fin
  by_cases hz : n = 0
  · obtain ⟨a, cap, rfl⟩ := ha.form
    obtain rfl : zs = [] := List.eq_nil_of_length_eq_zero (by omega)
    subst hz
    clear ha hn
    cases a with
    | none =>
      go_enter Tryd.func47, Tryd.ntmps47
      go_wp2
      go_ret
      exact ⟨_, rfl, Ints.of_owns (zs := []) hown (by simp), E1⟩
    | some a =>
      go_enter Tryd.func47, Tryd.ntmps47
      go_wp2_with (at_builtin; refine wpList_append_own _ rfl _ _ 65 rfl w.heap.size 3 i0 (.int .i64 0) 1 8 Tryd.underlying65 hi hz0 hz1 hz2 rfl (by decide) _ 0 [] rfl hown a 0 cap [] rfl rfl (by simp) (by simp) (by decide) (by decide) (by simp) ?_; intro v' w' h1 h2 _)
      go_ret
      exact ⟨_, rfl, FIN.out _ _ h1 h2⟩
  · obtain ⟨g, off, cap, rfl, c1, c2⟩ := ha.addr (by omega)
    rw [← hn] at ha hl c1 ⊢
    have hnews := news_of_ints (ha.ext E1)
    have HN := Lib.hid hn
    have HW := Lib.hid hnews
    clear hn hnews
    go_enter Tryd.func47, Tryd.ntmps47
    go_wp2_with (at_builtin; refine wpList_append_own _ rfl _ _ 65 rfl w.heap.size 3 i0 (.int .i64 0) 1 8 Tryd.underlying65 hi hz0 hz1 hz2 rfl (by decide) _ 0 [] rfl hown ⟨g, off, none⟩ n cap (zs.map (Value.int .i64)) rfl (by simp [HN.out]) HW.out (ints_one zs) (by unfold maxLen; omega) (by omega) (by simp) ?_; intro v' w' h1 h2 _)
    go_ret
    exact ⟨_, rfl, FIN.out _ _ h1 h2⟩
theorem one_int (x : Int) : ∀ u ∈ [Value.int .i64 x], u.oneCell' = true := fun u hu => by
  obtain rfl := List.mem_singleton.1 hu
  rfl
theorem drop_of_get {α : Type} {zs : List α} {k : Nat} {x : α} (h : zs[k]? = some x) : zs.drop k = x :: zs.drop (k + 1) := by
  obtain ⟨hk, e⟩ := List.getElem?_eq_some_iff.1 h
  rw [List.drop_eq_getElem_cons hk, e]
theorem take_of_get {α : Type} {zs : List α} {k : Nat} {x : α} (h : zs[k]? = some x) : zs.take (k + 1) = zs.take k ++ [x] := by
  obtain ⟨hk, e⟩ := List.getElem?_eq_some_iff.1 h
  rw [List.take_succ_eq_append_getElem hk, e]
end Go.Proofs.YtaamnpbhmckpbaaDoor

/- Ints that the call itself made: reading, writing. -/
namespace Go.Proofs.YtaamnpbhmckpbaaDoor
set_option linter.unusedVariables false
set_option linter.unusedSimpArgs false
open Go.RowKit Go.Sort

def rowA (N : Nat) (f : Nat → Int) : Array Int := Array.ofFn (fun i : Fin N => f i)
theorem rowA_size (N : Nat) (f : Nat → Int) : (rowA N f).size = N := by simp [rowA]
theorem rowA_get {N : Nat} {f : Nat → Int} {j : Nat} (h : j < N) : (rowA N f)[j]! = f j := by
  rw [getElem!_pos _ _ (by rw [rowA_size]; exact h)]
  simp [rowA]
theorem rowA_set {N : Nat} {f : Nat → Int} {i : Nat} {x : Int} : (rowA N f).setIfInBounds i x = rowA N (fun j => if j = i then x else f j) := by
  apply Array.ext_getElem?
  intro j
  rw [Array.getElem?_setIfInBounds]
  by_cases hj : j < N
  · by_cases h : i = j
    · subst h; simp [rowA, hj]
    · have h' : ¬ j = i := fun e => h e.symm
      simp [rowA, hj, h, h']
  · by_cases h : i = j
    · subst h; simp [rowA, hj]
    · simp [rowA, hj, h]
theorem rowA_congr {N : Nat} {f g : Nat → Int} (h : ∀ j, j < N → f j = g j) : rowA N f = rowA N g := by
  apply Array.ext
  · simp [rowA]
  · intro j h1 h2
    simp only [rowA, Array.getElem_ofFn]
    exact h j (by simpa [rowA] using h1)

def rowL (N : Nat) (f : Nat → Int) : List Int := (List.range N).map f
theorem rowL_length (N : Nat) (f : Nat → Int) : (rowL N f).length = N := by simp [rowL]
theorem rowL_get {N : Nat} {f : Nat → Int} {j : Nat} (h : j < N) : (rowL N f)[j]? = some (f j) := by simp [rowL, h]
theorem rowL_arr (N : Nat) (f : Nat → Int) : (rowL N f).toArray = rowA N f := by
  apply Array.ext_getElem?
  intro j
  by_cases h : j < N <;> simp [rowL, rowA, h]
theorem rowL_getD (zs : List Int) : rowL zs.length (fun i => zs.getD i 0) = zs := by
  apply List.ext_getElem?
  intro j
  by_cases h : j < zs.length <;> simp [rowL, h]
/-- ints that the call itself made -/
theorem Ints.of_row {w : World} {base N : Nat} {v : Value} {f : Nat → Int} (h : w.ownsRow base 3 1 v N ((rowL N f).map (Value.int .i64))) (hN : N ≤ 1000000) : Ints w v (rowL N f) := Ints.of_owns h (by rw [rowL_length]; omega)
theorem one_set {w : World} {blk N q k : Nat} {f : Nat → Int} {x : Int} (hk : k < N) :
    ((putRow (Value.int .i64) w blk 0 (rowA N f)).drewN q).setCell ⟨blk, k, none⟩ (.int .i64 x) = (putRow (Value.int .i64) w blk 0 (rowA N (fun i => if i = k then x else f i))).drewN q := by
  have e1 := putRow_set (Value.int .i64) w blk 0 (rowA N f) k x (by rw [rowA_size]; exact hk)
  rw [← rowA_set, ← e1]
  simp only [Nat.zero_add]
  rfl
theorem own_form {w : World} {base N : Nat} {v : Value} {f : Nat → Int} (h : w.ownsRow base 3 1 v N ((rowL N f).map (Value.int .i64))) (hN : 1 ≤ N) : ∃ g cap, v = .slice (some ⟨g, 0, none⟩) N cap ∧ base ≤ g ∧ g < w.heap.size ∧ N ≤ cap ∧ cap ≤ maxLen := by
  obtain ⟨g, cap', e, hg, hgl, hc1, hc2, -, -⟩ := Lib.holds_of_ownsRow (enc := Value.int .i64) h (by
    rintro rfl
    rcases h.2 with ⟨_, h0⟩ | ⟨_, _, _, h0, _⟩
    · omega
    · cases h0)
  exact ⟨g, cap', e, hg, hgl, hc1, hc2⟩
theorem own_holds {w : World} {base g cap N : Nat} {f : Nat → Int} (h : w.ownsRow base 3 1 (.slice (some ⟨g, 0, none⟩) N cap) N ((rowL N f).map (Value.int .i64))) : Holds (Value.int .i64) w g 0 (rowA N f) := by
  obtain ⟨g', cap', e, -, -, -, -, -, hH⟩ := Lib.holds_of_ownsRow (enc := Value.int .i64) h (by intro e; cases e)
  simp only [Value.slice.injEq, Option.some.injEq, Addr.mk.injEq, and_true, true_and] at e
  obtain ⟨rfl, rfl⟩ := e
  rwa [rowL_arr] at hH
theorem own_cell {w : World} {base g cap N k : Nat} {f : Nat → Int} (h : w.ownsRow base 3 1 (.slice (some ⟨g, 0, none⟩) N cap) N ((rowL N f).map (Value.int .i64))) (hk : k < N) : w.cell? ⟨g, k, none⟩ = some (.int .i64 (f k)) ∧ w.frozen? ⟨g, k, none⟩ = false := by
  obtain ⟨ck, fk⟩ := own_holds h k (by rw [rowA_size]; exact hk)
  rw [rowA_get hk] at ck
  exact ⟨by simpa using ck, by simpa using fk⟩
theorem own_set {w : World} {base g cap N k : Nat} {f : Nat → Int} {x : Int} (h : w.ownsRow base 3 1 (.slice (some ⟨g, 0, none⟩) N cap) N ((rowL N f).map (Value.int .i64))) (hk : k < N) :
    (w.setCell ⟨g, k, none⟩ (.int .i64 x)).ownsRow base 3 1 (.slice (some ⟨g, 0, none⟩) N cap) N ((rowL N (fun i => if i = k then x else f i)).map (Value.int .i64)) := by
  have e := one_set (w := w) (blk := g) (q := 0) (f := f) (x := x) hk
  rw [putRow_self _ _ _ _ _ (own_holds h)] at e
  have ho := Lib.ownsRow_putRow (q := 0) (k := N) h (rowL_length N (fun i => if i = k then x else f i)) (Nat.le_refl _)
  rw [List.take_of_length_le (by rw [rowL_length]; exact Nat.le_refl _), rowL_arr] at ho
  rw [show w.setCell ⟨g, k, none⟩ (.int .i64 x) = putRow (Value.int .i64) (Sort.ahead w 0) g 0 (rowA N (fun i => if i = k then x else f i)) from e]
  exact ho
theorem own_ext {w w' : World} {base : Nat} {e : TypeId} {size n : Nat} {v : Value} {xs : List Value} (h : w.ownsRow base e size v n xs) (k : Ext w w') : w'.ownsRow base e size v n xs := by
  obtain ⟨hl, h⟩ := h
  refine ⟨hl, ?_⟩
  rcases h with h | ⟨g, cap, cur, rfl, hb, hg, h⟩
  · exact Or.inl h
  · have hlt : g < w.heap.size := by
      rcases Nat.lt_or_ge g w.heap.size with h' | h'
      · exact h'
      · rw [Array.getElem?_eq_none h'] at hg; cases hg
    exact Or.inr ⟨g, cap, cur, rfl, hb, (k.block hlt).trans hg, h⟩
end Go.Proofs.YtaamnpbhmckpbaaDoor

/- An append of one int to a slice that the call itself made: the law in the form that the walks of this seat take. -/
namespace Go.Proofs.YtaamnpbhmckpbaaDoor
set_option linter.unusedVariables false
set_option linter.unusedSimpArgs false
open Go.RowKit

theorem push_int {ops : Array Oper} {rest : List Oper} {o : Oper} {a : Act} {Q : Exit → Act → World → Prop} {W : World} {base : Nat} (hgd : o.guard = none) (s y : Operand) (t : TypeId)
    (ho : o.op = .call { callee := .builtin .append, args := #[s, y], argTypes := #[t, t] }) (ht : Tryd.prog.underlying t = some (.slice 3))
    (v : Value) (n : Nat) (xs : List Value) (x : Int) (hs : a.eval s = v) (hown : W.ownsRow base 3 1 v n xs) (hx : a.eval y = .slice (some ⟨W.heap.size, 0, none⟩) 1 1) (hb : base ≤ W.heap.size) (hn : n ≤ 1000000000000)
    (h : ∀ v' w', w'.ownsRow base 3 1 v' (n + 1) (xs ++ [.int .i64 x]) → Below base W w' → wpList Tryd.prog ops Q rest (a.put o.dst v') w') :
    wpList Tryd.prog ops Q (o :: rest) a (W.alloc (.cells #[.int .i64 x] 3)) := by
  obtain ⟨i0, hi, hz0, hz1, hz2⟩ := info_parts infoInt
  refine wpList_append_own _ hgd s y t ho base 3 i0 (.int .i64 0) 1 8 ht hi hz0 hz1 hz2 rfl (by decide) v n xs hs (hown.alloc _) ⟨W.heap.size, 0, none⟩ 1 1 [.int .i64 x] hx rfl (cell_one_new _ _ _) (one_int _) (by unfold maxLen; omega) (by omega) (by simp; omega) ?_
  intro v' w' h1 h2 _
  exact h v' w' h1 (Below.grown ((Below.refl base W).alloc hb _) h2 (by simp; omega) (fun k hk => (hown.lt k hk).1))
theorem Ext.of_below {w a b : World} {B : Nat} (h : Ext w a) (k : Below B a b) (hB : w.heap.size ≤ B) : Ext w b := Below.trans h (Below.mono k hB)
theorem Below.cellv {B : Nat} {a b : World} (k : Below B a b) {p : Addr} {v : Value} (h : a.cell? p = some v) (hp : p.block < B) : b.cell? p = some v := (Below.cell k hp).trans h
/-- likewise, at a step of a region that draws its order -/
theorem step_push {ops : Array Oper} {o : Oper} {a : Act} {K : Act → World → Prop} {Q : Exit → Act → World → Prop} {E : Prop} {W : World} {base : Nat} (hgd : o.guard = none) (s y : Operand) (t : TypeId)
    (ho : o.op = .call { callee := .builtin .append, args := #[s, y], argTypes := #[t, t] }) (ht : Tryd.prog.underlying t = some (.slice 3))
    (v : Value) (n : Nat) (xs : List Value) (x : Int) (hs : a.eval s = v) (hown : W.ownsRow base 3 1 v n xs) (hx : a.eval y = .slice (some ⟨W.heap.size, 0, none⟩) 1 1) (hb : base ≤ W.heap.size) (hn : n ≤ 1000000000000)
    (h : ∀ g cap w', w'.ownsRow base 3 1 (.slice (some ⟨g, 0, none⟩) (n + 1) cap) (n + 1) (xs ++ [.int .i64 x]) → Below base W w' → W.grownBy w' v.ownBlock → K (a.put o.dst (.slice (some ⟨g, 0, none⟩) (n + 1) cap)) w') :
    if Region.wanted o (yielded ops a.tmps) = true then Oper.wp Tryd.prog o a ((W.alloc (.cells #[.int .i64 x] 3)).drew) K Q else E := by
  obtain ⟨i0, hi, hz0, hz1, hz2⟩ := info_parts infoInt
  have hown' : ((W.alloc (.cells #[.int .i64 x] 3)).drew).ownsRow base 3 1 v n xs := (hown.alloc _).drew
  refine step_append_lies _ hgd s y t ho base 3 i0 (.int .i64 0) 1 8 ht hi hz0 hz1 hz2 rfl (by decide) v n xs hs hown' ⟨W.heap.size, 0, none⟩ 1 1 [.int .i64 x] hx rfl (World.news_of_block (cs := #[.int .i64 x]) (t := 3) (fr := (0, 0)) (heap_alloc_new W _)) (one_int _) (by decide) (by unfold maxLen; omega) (by omega) (by simp; omega) (W.heap.size + 1) (by simp) ?_
  intro g cap w' h1 h2 _ _
  refine h g cap w' h1 (Below.grown (((Below.refl base W).alloc hb _).drew) h2 (by simp; omega) (fun k hk => (hown.lt k hk).1)) ⟨h2.os, h2.tape, h2.output, Nat.le_trans (by simp) h2.size, fun k hk hne => ?_⟩
  exact (h2.block k (by simp; omega) hne).trans (Below.heap_alloc W _ k hk)
end Go.Proofs.YtaamnpbhmckpbaaDoor

/- block.matched, Sad, Sub, Add, Zero: contracts over this seat's translation. -/
namespace Go.Proofs.YtaamnpbhmckpbaaDoor
set_option linter.unusedVariables false
set_option linter.unusedSimpArgs false
open Go.RowKit Go.Extern.Stop Go.Stop Go.Extern

def fit : Fall := some ([], 14)
def range : Fall := some ([], 3)
/-- what forbids to hold two lists against one another -/
def matAns (xs ys : List Int) : Fall := if xs.length = ys.length then (if xs.any farB = true ∨ ys.any farB = true then range else none) else fit
theorem farB_no {x : Int} (h : farB x = false) : -1048576 ≤ x ∧ x ≤ 1048576 := by
  unfold farB at h
  simp at h
  omega
theorem any_false {zs : List Int} {p : Int → Bool} (h : zs.any p = false) (j : Nat) (d : Int) (hd : p d = false) : p (zs.getD j d) = false := by
  by_cases hj : j < zs.length
  · have hm : zs.getD j d ∈ zs := by simp [List.getD, hj]
    cases hp : p (zs.getD j d) with
    | false => rfl
    | true => rw [List.any_eq_true.2 ⟨_, hm, hp⟩] at h; cases h
  · simpa [List.getD, List.getElem?_eq_none (Nat.not_lt.1 hj)] using hd
theorem matAns_none {xs ys : List Int} (h : matAns xs ys = none) : xs.length = ys.length ∧ (∀ j, -1048576 ≤ xs.getD j 0 ∧ xs.getD j 0 ≤ 1048576) ∧ ∀ j, -1048576 ≤ ys.getD j 0 ∧ ys.getD j 0 ≤ 1048576 := by
  unfold matAns at h
  split at h
  · rename_i h1
    split at h
    · cases h
    · rename_i h2
      refine ⟨h1, fun j => farB_no (any_false ?_ j 0 rfl), fun j => farB_no (any_false ?_ j 0 rfl)⟩
      · cases hx : xs.any farB with
        | false => rfl
        | true => exact absurd (Or.inl hx) h2
      · cases hx : ys.any farB with
        | false => rfl
        | true => exact absurd (Or.inr hx) h2
  · cases h

set_option maxRecDepth 20000 in
theorem matched_any (xs ys : List Int) (v u : Value) (w : World) (ha : Ints w v xs) (hb : Ints w u ys) :
    Calls Tryd.prog 85 #[v, u] w (EPost w (matAns xs ys)) := by
  obtain ⟨a, cap, rfl⟩ := ha.form
  obtain ⟨b, cap', rfl⟩ := hb.form
  by_cases hl : xs.length = ys.length
  · have b1 : ((xs.length : Int) != (ys.length : Int)) = false := by simp; omega
    have H1 := Lib.hid (farB_has xs _ w ha)
    have H2 := Lib.hid (farB_has ys _ w hb)
    cases hx : xs.any farB with
    | true =>
      have HR : Hid (matAns xs ys = range) := by show _ = _; unfold matAns; rw [if_pos hl, if_pos (Or.inl hx)]
      clear hl ha hb
      go_enter Tryd.func85, Tryd.ntmps85
      go_wp2_with fail
      refine (H1.out).mono ?_; rintro e w1 ⟨rfl, rfl⟩
      go_wp2
      go_ret
      exact ⟨_, rfl, Ext.refl w, by rw [HR.out]; exact ErrIs.code (by decide)⟩
    | false =>
      cases hy : ys.any farB with
      | true =>
        have HR : Hid (matAns xs ys = range) := by show _ = _; unfold matAns; rw [if_pos hl, if_pos (Or.inr hy)]
        clear hl ha hb
        go_enter Tryd.func85, Tryd.ntmps85
        go_wp2_with fail
        refine (H1.out).mono ?_; rintro e w1 ⟨rfl, rfl⟩
        go_wp2_with fail
        refine (H2.out).mono ?_; rintro e w2 ⟨rfl, rfl⟩
        go_wp2
        go_ret
        exact ⟨_, rfl, Ext.refl w, by rw [HR.out]; exact ErrIs.code (by decide)⟩
      | false =>
        have HR : Hid (matAns xs ys = none) := by show _ = _; unfold matAns; rw [if_pos hl, if_neg (by rw [hx, hy]; decide)]
        clear hl ha hb
        go_enter Tryd.func85, Tryd.ntmps85
        go_wp2_with fail
        refine (H1.out).mono ?_; rintro e w1 ⟨rfl, rfl⟩
        go_wp2_with fail
        refine (H2.out).mono ?_; rintro e w2 ⟨rfl, rfl⟩
        go_wp2
        go_ret
        exact ⟨_, rfl, Ext.refl w, by rw [HR.out]; rfl⟩
  · have b1 : ((xs.length : Int) != (ys.length : Int)) = true := by simp; omega
    have HR : Hid (matAns xs ys = fit) := by show _ = _; unfold matAns; rw [if_neg hl]
    clear hl ha hb
    go_enter Tryd.func85, Tryd.ntmps85
    go_wp2
    go_ret
    exact ⟨_, rfl, Ext.refl w, by rw [HR.out]; exact ErrIs.code (by decide)⟩
/-- how unlike two lists are -/
def sadV (xs ys : List Int) : Int := match matAns xs ys with
  | none => sadF (fun i => xs.getD i 0) (fun i => ys.getD i 0) xs.length
  | some _ => 0
theorem getD_of_get {zs : List Int} {j : Nat} {x : Int} (h : zs[j]? = some x) : zs.getD j 0 = x := by simp [List.getD, h]
theorem get_of_lt {zs : List Int} {j : Nat} (h : j < zs.length) : zs[j]? = some (zs.getD j 0) := by simp [List.getD, h]

set_option maxRecDepth 20000 in
set_option maxHeartbeats 1000000 in
theorem sad_any (xs ys : List Int) (v u : Value) (w : World) (ha : Ints w v xs) (hb : Ints w u ys) (hN : xs.length ≤ 1000000) :
    Calls Tryd.prog 66 #[v, u] w (IPost w (sadV xs ys) (matAns xs ys)) := by
  have M := Lib.hid (matched_any xs ys v u w ha hb)
  obtain ⟨a, cap, rfl⟩ := ha.form
  obtain ⟨b, cap', rfl⟩ := hb.form
  cases hm : matAns xs ys with
  | some f =>
    have HV : Hid (sadV xs ys = 0) := by show _ = _; unfold sadV; rw [hm]
    rw [hm] at M
    clear ha hb hm
    go_enter Tryd.func66, Tryd.ntmps66
    go_wp2_with fail
    refine (M.out).mono ?_; rintro e w1 ⟨x, rfl, hx, he⟩
    obtain ⟨t, y, rfl⟩ := he.ne
    go_wp2
    go_ret2
    exact ⟨_, by rw [HV.out]; rfl, hx, he⟩
  | none =>
    obtain ⟨hl, hX, hY⟩ := matAns_none hm
    have HV : Hid (sadV xs ys = sadF (fun i => xs.getD i 0) (fun i => ys.getD i 0) xs.length) := by show _ = _; unfold sadV; rw [hm]
    rw [hm] at M
    obtain ⟨n, hn⟩ : ∃ n, n = xs.length := ⟨_, rfl⟩
    rw [← hn] at ha hN HV hl M ⊢
    rw [← hl] at hb M ⊢
    have AG := Lib.hid ha.had
    have BG := Lib.hid hb.had
    have HN := Lib.hid hn
    have HL := Lib.hid hl
    have HX := Lib.hid hX
    have HY := Lib.hid hY
    clear hm hl hX hY hn
    go_enter Tryd.func66, Tryd.ntmps66
    go_wp2_with fail
    refine (M.out).mono ?_; rintro e w1 ⟨x, rfl, hx, he⟩
    obtain rfl : x = .nilIface := he
    have ha := ha.ext hx
    have hb := hb.ext hx
    go_wp2
    go_loopw [7, 18] (fun sv iv wr => ∃ k : Nat, k ≤ n ∧ iv = .int .i64 k ∧ sv = .int .i64 (sadF (fun i => xs.getD i 0) (fun i => ys.getD i 0) k) ∧ Ext w1 wr) (fun _ iv _ => n - (intOf iv).toNat)
    case atStart => exact ⟨0, Nat.zero_le _, rfl, rfl, Ext.refl _⟩
    case round =>
      obtain ⟨k, hk, rfl, rfl, hE⟩ := hrel
      by_cases hlt : k < n
      · obtain ⟨x, hx'⟩ : ∃ x, xs.getD k 0 = x := ⟨_, rfl⟩
        obtain ⟨y, hy'⟩ : ∃ y, ys.getD k 0 = y := ⟨_, rfl⟩
        obtain ⟨g, off, rfl⟩ := AG.out (by omega)
        obtain ⟨g', off', rfl⟩ := BG.out (by omega)
        have cx := hE.cell (ha.at (get_of_lt (by rw [← HN.out]; exact hlt)))
        have cy := hE.cell (hb.at (get_of_lt (by rw [← HL.out]; exact hlt)))
        have bx := HX.out k
        have by' := HY.out k
        have b0 := sadF_bound HX.out HY.out k
        have b1 := sadF_pos (fun i => xs.getD i 0) (fun i => ys.getD i 0) k
        have HS : Hid (sadF (fun i => xs.getD i 0) (fun i => ys.getD i 0) (k + 1) = sadF (fun i => xs.getD i 0) (fun i => ys.getD i 0) k + max (x - y) (y - x)) := by show _ = _; rw [← hx', ← hy']; rfl
        rw [hx'] at cx bx
        rw [hy'] at cy by'
        clear hx' hy'
        revert b0 b1 HS
        generalize sadF (fun i => xs.getD i 0) (fun i => ys.getD i 0) k = s
        intro b0 b1 HS
        have r1 := mx2
        have e1 : IntKind.i64.wrap (x - y) = x - y := by rw [IntKind.wrap_i64]; omega
        have e2 : IntKind.i64.wrap (y - x) = y - x := by rw [IntKind.wrap_i64]; omega
        have e3 : IntKind.i64.wrap (s + max (x - y) (y - x)) = s + max (x - y) (y - x) := by rw [IntKind.wrap_i64]; omega
        go_wp2
        go_quiet (fail)
        go_wp2
        go_roundw
        case rel => exact ⟨k + 1, by omega, by go_num, by rw [HS.out], hE.drewN _⟩
        case measure => simp [intOf]; omega
      · obtain rfl : k = n := by omega
        go_wp2
        go_ret2
        exact ⟨_, by rw [HV.out]; rfl, hx.trans hE, rfl⟩
end Go.Proofs.YtaamnpbhmckpbaaDoor

/- plane.matched, Sum, Peak: contracts over this seat's translation. -/
namespace Go.Proofs.YtaamnpbhmckpbaaDoor
set_option linter.unusedVariables false
set_option linter.unusedSimpArgs false
open Go.RowKit Go.Extern.Stop Go.Stop Go.Extern

def form : Fall := some ([], 2)
/-- what forbids to hold two frames against one another -/
def frAns (W H : Int) (xs : List Int) (W' H' : Int) (ys : List Int) : Fall := if may W H xs ∧ may W' H' ys then (if W = W' ∧ H = H' then none else fit) else form
theorem frAns_none {W H W' H' : Int} {xs ys : List Int} (h : frAns W H xs W' H' ys = none) : may W H xs ∧ may W' H' ys ∧ W = W' ∧ H = H' := by
  unfold frAns at h
  split at h
  · rename_i h1
    split at h
    · rename_i h2
      exact ⟨h1.1, h1.2, h2.1, h2.2⟩
    · cases h
  · cases h
theorem frAns_comm (W H : Int) (xs : List Int) (W' H' : Int) (ys : List Int) : frAns W H xs W' H' ys = frAns W' H' ys W H xs := by
  unfold frAns
  by_cases h : may W H xs ∧ may W' H' ys
  · rw [if_pos h, if_pos h.symm]
    by_cases k : W = W' ∧ H = H'
    · rw [if_pos k, if_pos ⟨k.1.symm, k.2.symm⟩]
    · rw [if_neg k, if_neg (fun e => k ⟨e.1.symm, e.2.symm⟩)]
  · rw [if_neg h, if_neg (fun e => h e.symm)]
theorem may_getD {W H : Int} {zs : List Int} (h : may W H zs) (j : Nat) : 0 ≤ zs.getD j 0 ∧ zs.getD j 0 ≤ 255 := by
  by_cases hj : j < zs.length
  · exact h.2.2.2.at (get_of_lt hj)
  · simp [List.getD, List.getElem?_eq_none (Nat.not_lt.1 hj)]
theorem may_len {W H : Int} {zs : List Int} (h : may W H zs) : zs.length ≤ 1024 := by have := may_area h; have := h.2.2.1; omega
theorem frAns_len {W H W' H' : Int} {xs ys : List Int} (h : frAns W H xs W' H' ys = none) : xs.length = ys.length := by
  obtain ⟨h1, h2, rfl, rfl⟩ := frAns_none h
  have := h1.2.2.1
  have := h2.2.2.1
  omega

def sumV (W H : Int) (xs : List Int) (W' H' : Int) (ys : List Int) : Int := match frAns W H xs W' H' ys with
  | none => sadF (fun i => xs.getD i 0) (fun i => ys.getD i 0) xs.length
  | some _ => 0
def peakF (f g : Nat → Int) : Nat → Int
  | 0 => 0
  | j + 1 => max (peakF f g j) (max (f j - g j) (g j - f j))
def peakV (W H : Int) (xs : List Int) (W' H' : Int) (ys : List Int) : Int := match frAns W H xs W' H' ys with
  | none => peakF (fun i => xs.getD i 0) (fun i => ys.getD i 0) xs.length
  | some _ => 0
def stepOfsum (s x y : Int) : Int := s + max (x - y) (y - x)
def stepOfpeak (s x y : Int) : Int := max s (max (x - y) (y - x))
theorem peakF_pos (f g : Nat → Int) (n : Nat) : 0 ≤ peakF f g n := by
  induction n with
  | zero => simp [peakF]
  | succ n ih => unfold peakF; omega
theorem peakF_le {f g : Nat → Int} (hf : ∀ j, 0 ≤ f j ∧ f j ≤ 255) (hg : ∀ j, 0 ≤ g j ∧ g j ≤ 255) (n : Nat) : peakF f g n ≤ 255 := by
  induction n with
  | zero => simp [peakF]
  | succ n ih => have := hf n; have := hg n; unfold peakF; omega
theorem sadF_le {f g : Nat → Int} (hf : ∀ j, 0 ≤ f j ∧ f j ≤ 255) (hg : ∀ j, 0 ≤ g j ∧ g j ≤ 255) (n : Nat) : sadF f g n ≤ 255 * n := by
  induction n with
  | zero => simp [sadF]
  | succ n ih => have := hf n; have := hg n; unfold sadF; push_cast; omega
end Go.Proofs.YtaamnpbhmckpbaaDoor

/- intra.isSide, check, predict, Predict: contracts over this seat's translation. -/
namespace Go.Proofs.YtaamnpbhmckpbaaDoor
set_option linter.unusedVariables false
set_option linter.unusedSimpArgs false
open Go.RowKit Go.Extern.Stop Go.Stop Go.Extern

def kind : Fall := some ([], 13)
def sdB (n : Int) : Bool := decide (n = 4) || decide (n = 8)
theorem sdB_nat {n : Nat} (h : sdB n = true) : n = 4 ∨ n = 8 := by unfold sdB at h; simp at h; omega
/-- what forbids to predict from these neighbours -/
def chkAns (ts ls : List Int) (c : Int) : Fall := if sdB ts.length = true ∧ ls.length = ts.length then (if ts.any nosmpB = true ∨ ls.any nosmpB = true ∨ nosmpB c = true then range else none) else fit
theorem nosmp_false {x : Int} (h : nosmpB x = false) : 0 ≤ x ∧ x ≤ 255 := by unfold nosmpB at h; simp at h; omega
theorem chkAns_none {ts ls : List Int} {c : Int} (h : chkAns ts ls c = none) : (ts.length = 4 ∨ ts.length = 8) ∧ ls.length = ts.length ∧ (∀ j, 0 ≤ ts.getD j 0 ∧ ts.getD j 0 ≤ 255) ∧ (∀ j, 0 ≤ ls.getD j 0 ∧ ls.getD j 0 ≤ 255) ∧ 0 ≤ c ∧ c ≤ 255 := by
  unfold chkAns at h
  split at h
  · rename_i h1
    split at h
    · cases h
    · rename_i h2
      have k1 : ts.any nosmpB = false := by cases hx : ts.any nosmpB with | false => rfl | true => exact absurd (Or.inl hx) h2
      have k2 : ls.any nosmpB = false := by cases hx : ls.any nosmpB with | false => rfl | true => exact absurd (Or.inr (Or.inl hx)) h2
      have k3 : nosmpB c = false := by cases hx : nosmpB c with | false => rfl | true => exact absurd (Or.inr (Or.inr hx)) h2
      exact ⟨sdB_nat h1.1, h1.2, fun j => nosmp_false (any_false k1 j 0 rfl), fun j => nosmp_false (any_false k2 j 0 rfl), nosmp_false k3⟩
  · cases h
/-- all neighbours together -/
def nbF (t l : Nat → Int) : Nat → Int
  | 0 => 0
  | j + 1 => nbF t l j + (t j + l j)
def meanOf (ts ls : List Int) : Int := (ts.length + nbF (fun i => ts.getD i 0) (fun i => ls.getD i 0) ts.length) / (2 * ts.length)
/-- a square from its neighbours, by each mode -/
def prdF (mode : Int) (ts ls : List Int) (c : Int) (k : Nat) : Int :=
  if mode = 0 then meanOf ts ls else if mode = 1 then ts.getD (k % ts.length) 0 else if mode = 2 then ls.getD (k / ts.length) 0 else clipI (ls.getD (k / ts.length) 0 + ts.getD (k % ts.length) 0 - c)
def prdL (mode : Int) (ts ls : List Int) (c : Int) : List Int := rowL (ts.length * ts.length) (prdF mode ts ls c)
theorem nbF_bound {t l : Nat → Int} (h : ∀ j, 0 ≤ t j ∧ t j ≤ 255) (k : ∀ j, 0 ≤ l j ∧ l j ≤ 255) (n : Nat) : 0 ≤ nbF t l n ∧ nbF t l n ≤ 510 * n := by
  induction n with
  | zero => simp [nbF]
  | succ n ih => have := h n; have := k n; unfold nbF; push_cast; omega
theorem rowL_succi (k : Nat) (f : Nat → Int) : rowL (k + 1) f = rowL k f ++ [f k] := by
  unfold rowL
  rw [List.range_succ, List.map_append]
  rfl
end Go.Proofs.YtaamnpbhmckpbaaDoor

/- intra.Predict; kinlaw10.first: contracts over this seat's translation. -/
namespace Go.Proofs.YtaamnpbhmckpbaaDoor
set_option linter.unusedVariables false
set_option linter.unusedSimpArgs false
open Go.RowKit Go.Extern.Stop Go.Stop Go.Extern

def prdAns (m : Int) (ts ls : List Int) (c : Int) : Fall := if m < 0 ∨ 4 ≤ m then kind else chkAns ts ls c
def prdV (m : Int) (ts ls : List Int) (c : Int) : List Int := match prdAns m ts ls c with
  | none => prdL m ts ls c
  | some _ => []
theorem prdAns_none {m : Int} {ts ls : List Int} {c : Int} (h : prdAns m ts ls c = none) : (0 ≤ m ∧ m ≤ 3) ∧ chkAns ts ls c = none := by
  unfold prdAns at h
  split at h
  · cases h
  · exact ⟨by omega, h⟩
theorem Ints.liti (w : World) (zs : List Int) (h : zs.length ≤ 1000000) : Ints (w.alloc (.cells (zs.map (Value.int .i64)).toArray 3)) (.slice (some ⟨w.heap.size, 0, none⟩) zs.length zs.length) zs := by
  have := World.ownsRow_lit (e := 3) (base := w.heap.size) (size := 1) w (zs.map (Value.int .i64)).toArray zs.length (Nat.le_refl _) (by unfold maxLen; omega) (by simp)
  simp only [List.toList_toArray] at this
  exact Ints.of_owns this (by omega)
theorem lits2i (w : World) (xs ys : List Int) (h : xs.length ≤ 1000000) (k : ys.length ≤ 1000000) :
    Ints ((w.alloc (.cells (xs.map (Value.int .i64)).toArray 3)).alloc (.cells (ys.map (Value.int .i64)).toArray 3)) (.slice (some ⟨w.heap.size, 0, none⟩) xs.length xs.length) xs ∧
    Ints ((w.alloc (.cells (xs.map (Value.int .i64)).toArray 3)).alloc (.cells (ys.map (Value.int .i64)).toArray 3)) (.slice (some ⟨w.heap.size + 1, 0, none⟩) ys.length ys.length) ys := by
  refine ⟨(Ints.liti w xs h).ext ((Ext.refl _).alloc _), ?_⟩
  have := Ints.liti (w.alloc (.cells (xs.map (Value.int .i64)).toArray 3)) ys k
  simpa using this
theorem prd_first : prdAns 0 [0, 0, 0, 0] [8, 8, 8, 8] 0 = none ∧ prdV 0 [0, 0, 0, 0] [8, 8, 8, 8] 0 = [4, 4, 4, 4, 4, 4, 4, 4, 4, 4, 4, 4, 4, 4, 4, 4] ∧
    prdAns 3 [10, 20, 30, 40] [0, 0, 0, 250] 9 = none ∧ prdV 3 [10, 20, 30, 40] [0, 0, 0, 250] 9 = [1, 11, 21, 31, 1, 11, 21, 31, 1, 11, 21, 31, 251, 255, 255, 255] ∧ prdAns 4 [] [] 0 = kind := by decide +kernel
end Go.Proofs.YtaamnpbhmckpbaaDoor

/- kinref.Frame of two that are the same, kinref6.Lies, kinref10.sample: contracts over this seat's translation. -/
namespace Go.Proofs.YtaamnpbhmckpbaaDoor
set_option linter.unusedVariables false
set_option linter.unusedSimpArgs false
open Go.RowKit Go.Extern.Stop Go.Stop Go.Extern

set_option maxRecDepth 20000 in
set_option maxHeartbeats 1000000 in
theorem frame_same (W H : Int) (zs : List Int) (a b : Option Addr) (n m ca cb : Nat) (w : World) (ha : Ints w (.slice a n ca) zs) (hb : Ints w (.slice b m cb) zs) :
    Calls Tryd.prog 44 #[.agg #[.int .i64 W, .int .i64 H, .slice a n ca], .agg #[.int .i64 W, .int .i64 H, .slice b m cb]] w fun e w' => e = .returned (.bool true) ∧ Ext w w' := by
  go_enter Tryd.func44, Tryd.ntmps44
  go_wp2_with fail
  refine (ints_same zs zs _ _ _ (ha.ext (by repeat (first | exact Ext.refl _ | assumption | refine Ext.alloc ?_ _ | refine Ext.drew ?_ | refine Ext.drewN ?_ _ | refine Ext.setCell ?_ (by first | exact Nat.le_refl _ | (simp; done) | omega) _ | refine Ext.trans ?_ (by assumption)))) (hb.ext (by repeat (first | exact Ext.refl _ | assumption | refine Ext.alloc ?_ _ | refine Ext.drew ?_ | refine Ext.drewN ?_ _ | refine Ext.setCell ?_ (by first | exact Nat.le_refl _ | (simp; done) | omega) _ | refine Ext.trans ?_ (by assumption))))).mono ?_; rintro e w1 ⟨rfl, hx1⟩
  rw [decide_eq_true rfl]
  go_wp2
  go_ret
  exact ⟨rfl, (by repeat (first | exact Ext.refl _ | assumption | refine Ext.alloc ?_ _ | refine Ext.drew ?_ | refine Ext.drewN ?_ _ | refine Ext.setCell ?_ (by first | exact Nat.le_refl _ | (simp; done) | omega) _ | refine Ext.trans ?_ (by assumption)))⟩
/-- does a square lie in a frame -/
def liesB (W H x y n : Int) : Bool := decide (0 ≤ x) && decide (0 ≤ y) && decide (x ≤ W - n) && decide (y ≤ H - n)
set_option maxRecDepth 20000 in
set_option maxHeartbeats 1000000 in
theorem lies_any (W H x y n : Int) (v : Value) (a : Option Addr) (m cap : Nat) (w : World) (hv : v = .slice a m cap) (hW : 0 ≤ W ∧ W ≤ 100) (hH : 0 ≤ H ∧ H ≤ 100) (hn : 0 ≤ n ∧ n ≤ 100) :
    Calls Tryd.prog 74 #[.agg #[.int .i64 W, .int .i64 H, v], .int .i64 x, .int .i64 y, .int .i64 n] w fun e w' => e = .returned (.bool (liesB W H x y n)) ∧ Ext w w' := by
  subst hv
  have E1 : Ext w (w.alloc (.cells #[.int .i64 W, .int .i64 H, .slice a m cap] 67)) := (Ext.refl w).alloc _
  have e1 : IntKind.i64.wrap (W - n) = W - n := by rw [IntKind.wrap_i64]; omega
  have e2 : IntKind.i64.wrap (H - n) = H - n := by rw [IntKind.wrap_i64]; omega
  by_cases h1 : 0 ≤ x
  · by_cases h2 : 0 ≤ y
    · by_cases h3 : x ≤ W - n
      · by_cases h4 : y ≤ H - n
        · have HR : Hid (liesB W H x y n = true) := by show _ = _; unfold liesB; simp [h1, h2, h3, h4]
          go_enter Tryd.func74, Tryd.ntmps74
          go_wp2
          go_ret
          exact ⟨by rw [HR.out]; rfl, E1⟩
        · have HR : Hid (liesB W H x y n = false) := by show _ = _; unfold liesB; simp [h1, h2, h3, h4]
          go_enter Tryd.func74, Tryd.ntmps74
          go_wp2
          go_ret
          exact ⟨by rw [HR.out]; rfl, E1⟩
      · have HR : Hid (liesB W H x y n = false) := by show _ = _; unfold liesB; simp [h1, h2, h3]
        go_enter Tryd.func74, Tryd.ntmps74
        go_wp2
        go_ret
        exact ⟨by rw [HR.out]; rfl, E1⟩
    · have HR : Hid (liesB W H x y n = false) := by show _ = _; unfold liesB; simp [h1, h2]
      go_enter Tryd.func74, Tryd.ntmps74
      go_wp2
      go_ret
      exact ⟨by rw [HR.out]; rfl, E1⟩
  · have HR : Hid (liesB W H x y n = false) := by show _ = _; unfold liesB; simp [h1]
    go_enter Tryd.func74, Tryd.ntmps74
    go_wp2
    go_ret
    exact ⟨by rw [HR.out]; rfl, E1⟩
/-- the document's sample of a place -/
def placeF (W : Int) (zs : List Int) (x y : Int) : Int := if x < 0 ∨ y < 0 then 128 else zs.getD (y * W + x).toNat 0
end Go.Proofs.YtaamnpbhmckpbaaDoor

/- kinref.CopyFrame: its contract over this seat's translation. -/
namespace Go.Proofs.YtaamnpbhmckpbaaDoor
set_option linter.unusedVariables false
set_option linter.unusedSimpArgs false
open Go.RowKit Go.Extern.Stop Go.Stop Go.Extern

theorem fr_cells {w : World} {B : Nat} (W H : Int) (v : Value) (h0 : w.cell? ⟨B, 0, none⟩ = some (.int .i64 0)) (h1 : w.cell? ⟨B, 1, none⟩ = some (.int .i64 0)) (h2 : w.cell? ⟨B, 2, none⟩ = some (.slice none 0 0)) :
    (((w.setCell ⟨B, 0, none⟩ (.int .i64 W)).setCell ⟨B, 1, none⟩ (.int .i64 H)).setCell ⟨B, 2, none⟩ v).cell? ⟨B, 0, none⟩ = some (.int .i64 W) ∧
    (((w.setCell ⟨B, 0, none⟩ (.int .i64 W)).setCell ⟨B, 1, none⟩ (.int .i64 H)).setCell ⟨B, 2, none⟩ v).cell? ⟨B, 1, none⟩ = some (.int .i64 H) ∧
    (((w.setCell ⟨B, 0, none⟩ (.int .i64 W)).setCell ⟨B, 1, none⟩ (.int .i64 H)).setCell ⟨B, 2, none⟩ v).cell? ⟨B, 2, none⟩ = some v := by
  have a0 := World.cell?_setCell_same _ _ (.int .i64 W) h0
  have a1 := (World.cell?_setCell_other w ⟨B, 0, none⟩ ⟨B, 1, none⟩ (.int .i64 W) (by simp)).trans h1
  have a2 := (World.cell?_setCell_other w ⟨B, 0, none⟩ ⟨B, 2, none⟩ (.int .i64 W) (by simp)).trans h2
  have b0 := (World.cell?_setCell_other _ ⟨B, 1, none⟩ ⟨B, 0, none⟩ (.int .i64 H) (by simp)).trans a0
  have b1 := World.cell?_setCell_same _ _ (.int .i64 H) a1
  have b2 := (World.cell?_setCell_other _ ⟨B, 1, none⟩ ⟨B, 2, none⟩ (.int .i64 H) (by simp)).trans a2
  have c0 := (World.cell?_setCell_other _ ⟨B, 2, none⟩ ⟨B, 0, none⟩ v (by simp)).trans b0
  have c1 := (World.cell?_setCell_other _ ⟨B, 2, none⟩ ⟨B, 1, none⟩ v (by simp)).trans b1
  have c2 := World.cell?_setCell_same _ _ v b2
  exact ⟨c0, c1, c2⟩
set_option maxRecDepth 20000 in
theorem copy_own (zs : List Int) (v : Value) (w : World) (ha : Ints w v zs) (hl : zs.length ≤ 1000000) :
    Calls Tryd.prog 47 #[v] w fun e w' => ∃ u, e = .returned u ∧ w'.ownsRow w.heap.size 3 1 u zs.length (zs.map (Value.int .i64)) ∧ Ext w w' := by
  obtain ⟨i0, hi, hz0, hz1, hz2⟩ := info_parts infoInt
  obtain ⟨n, hn⟩ : ∃ n, n = zs.length := ⟨_, rfl⟩
  have E1 : Ext w (w.alloc (.cells #[] 3)) := (Ext.refl w).alloc _
  have hown : (w.alloc (.cells #[] 3)).ownsRow w.heap.size 3 1 (.slice (some ⟨w.heap.size, 0, none⟩) 0 0) 0 [] := World.ownsRow_made w #[] 0 (Nat.le_refl _) (Nat.zero_le _) rfl
  have fin : ∀ (v' : Value) (w' : World), w'.ownsRow w.heap.size 3 1 v' (0 + n) ([] ++ zs.map (Value.int .i64)) → (w.alloc (.cells #[] 3)).grownBy w' (some w.heap.size) → w'.ownsRow w.heap.size 3 1 v' n (zs.map (Value.int .i64)) ∧ Ext w w' := fun v' w' h1 h2 =>
    ⟨by simpa using h1, Below.grown E1 h2 (by simp) (fun k hk => by cases hk; exact Nat.le_refl _)⟩
  have FIN := Lib.hid fin
  clear fin
  by_cases hz : n = 0
  · obtain ⟨a, cap, rfl⟩ := ha.form
    obtain rfl : zs = [] := List.eq_nil_of_length_eq_zero (by omega)
    subst hz
    clear ha hn
    cases a with
    | none =>
      go_enter Tryd.func47, Tryd.ntmps47
      go_wp2
      go_ret
      exact ⟨_, rfl, hown, E1⟩
    | some a =>
      go_enter Tryd.func47, Tryd.ntmps47
      go_wp2_with (at_builtin; refine wpList_append_own _ rfl _ _ 65 rfl w.heap.size 3 i0 (.int .i64 0) 1 8 Tryd.underlying65 hi hz0 hz1 hz2 rfl (by decide) _ 0 [] rfl hown a 0 cap [] rfl rfl (by simp) (by simp) (by decide) (by decide) (by simp) ?_; intro v' w' h1 h2 _)
      go_ret
      exact ⟨_, rfl, FIN.out _ _ h1 h2⟩
  · obtain ⟨g, off, cap, rfl, c1, c2⟩ := ha.addr (by omega)
    rw [← hn] at ha hl c1 ⊢
    have hnews := news_of_ints (ha.ext E1)
    have HN := Lib.hid hn
    have HW := Lib.hid hnews
    clear hn hnews
    go_enter Tryd.func47, Tryd.ntmps47
    go_wp2_with (at_builtin; refine wpList_append_own _ rfl _ _ 65 rfl w.heap.size 3 i0 (.int .i64 0) 1 8 Tryd.underlying65 hi hz0 hz1 hz2 rfl (by decide) _ 0 [] rfl hown ⟨g, off, none⟩ n cap (zs.map (Value.int .i64)) rfl (by simp [HN.out]) HW.out (ints_one zs) (by unfold maxLen; omega) (by omega) (by simp) ?_; intro v' w' h1 h2 _)
    go_ret
    exact ⟨_, rfl, FIN.out _ _ h1 h2⟩
/-- a frame's three cells, nought, that may be written -/
def FrAt (w : World) (B : Nat) : Prop := (w.cell? ⟨B, 0, none⟩ = some (.int .i64 0) ∧ w.cell? ⟨B, 1, none⟩ = some (.int .i64 0) ∧ w.cell? ⟨B, 2, none⟩ = some (.slice none 0 0)) ∧ w.frozen? ⟨B, 0, none⟩ = false ∧ w.frozen? ⟨B, 1, none⟩ = false ∧ w.frozen? ⟨B, 2, none⟩ = false
theorem FrAt.new (w : World) : FrAt (w.alloc (.cells #[.int .i64 0, .int .i64 0, .slice none 0 0] 67)) w.heap.size := by
  refine ⟨⟨by simp, by simp, by simp⟩, by simp, by simp, by simp⟩
theorem FrAt.ext {w w' : World} {B : Nat} (h : FrAt w B) (k : Ext w w') : FrAt w' B := by
  obtain ⟨⟨h0, h1, h2⟩, f0, f1, f2⟩ := h
  have hB := Ext.lt h0
  exact ⟨⟨k.cell h0, k.cell h1, k.cell h2⟩, (k.frozen (Ext.lt h0)).trans f0, (Below.frozen k (Ext.lt h1)).trans f1, (Below.frozen k (Ext.lt h2)).trans f2⟩
set_option maxRecDepth 20000 in
set_option maxHeartbeats 2000000 in
theorem copy_frame (W H : Int) (zs : List Int) (a : Option Addr) (n cap : Nat) (w : World) (h : Ints w (.slice a n cap) zs) (hl : zs.length ≤ 1000000) :
    Calls Tryd.prog 38 #[.agg #[.int .i64 W, .int .i64 H, .slice a n cap]] w fun e w' => ∃ u, e = .returned (.agg #[.int .i64 W, .int .i64 H, u]) ∧ Ints w' u zs ∧ Ext w w' := by
  have C1 := Lib.hid (fun v W k => copy_own zs v W k hl)
  have A1 : Ext w (w.alloc (.cells #[.int .i64 W, .int .i64 H, .slice a n cap] 67)) := (Ext.refl w).alloc _
  have R1 := FrAt.new (w.alloc (.cells #[.int .i64 W, .int .i64 H, .slice a n cap] 67))
  rw [show (w.alloc (.cells #[.int .i64 W, .int .i64 H, .slice a n cap] 67)).heap.size = w.heap.size + 1 by simp] at R1
  have p0 : ((w.alloc (.cells #[.int .i64 W, .int .i64 H, .slice a n cap] 67)).alloc (.cells #[.int .i64 0, .int .i64 0, .slice none 0 0] 67)).cell? ⟨w.heap.size, 0, none⟩ = some (.int .i64 W) := ((Ext.refl _).alloc _).cell (by simp)
  have p1 : ((w.alloc (.cells #[.int .i64 W, .int .i64 H, .slice a n cap] 67)).alloc (.cells #[.int .i64 0, .int .i64 0, .slice none 0 0] 67)).cell? ⟨w.heap.size, 1, none⟩ = some (.int .i64 H) := ((Ext.refl _).alloc _).cell (by simp)
  have p2 : ((w.alloc (.cells #[.int .i64 W, .int .i64 H, .slice a n cap] 67)).alloc (.cells #[.int .i64 0, .int .i64 0, .slice none 0 0] 67)).cell? ⟨w.heap.size, 2, none⟩ = some (.slice a n cap) := ((Ext.refl _).alloc _).cell (by simp)
  have E1 : Ext w ((w.alloc (.cells #[.int .i64 W, .int .i64 H, .slice a n cap] 67)).alloc (.cells #[.int .i64 0, .int .i64 0, .slice none 0 0] 67)) := A1.alloc _
  clear A1
  go_enter Tryd.func38, Tryd.ntmps38
  go_wp2_with fail
  revert R1 p0 p1 p2 E1
  generalize (w.alloc (.cells #[.int .i64 W, .int .i64 H, .slice a n cap] 67)).alloc (.cells #[.int .i64 0, .int .i64 0, .slice none 0 0] 67) = wA
  intro R1 p0 p1 p2 E1
  have RW := Lib.hid R1
  clear R1
  go_region_with ((go_at_call 47; refine (C1.out _ _ (h.ext (by repeat (first | exact Ext.refl _ | assumption | refine Ext.alloc ?_ _ | refine Ext.drew ?_ | refine Ext.drewN ?_ _ | refine Ext.setCell ?_ (by first | exact Nat.le_refl _ | (simp; done) | omega) _ | refine Ext.trans ?_ (by assumption))))).mono ?_; rintro e w9 ⟨u9, rfl, hz9, hx9⟩; have s0 := hx9.cell (show wA.drew.cell? _ = _ from p0); have s1 := hx9.cell (show wA.drew.cell? _ = _ from p1); have s2 := hx9.cell (show wA.drew.cell? _ = _ from p2); have RB := FrAt.ext (show FrAt wA.drew _ from RW.out) hx9; obtain ⟨⟨b0, b1, b2⟩, f0, f1, f2⟩ := RB; obtain ⟨a9, c9, rfl⟩ := (Ints.of_owns hz9 (by omega)).form))
  all_goals
    have hsz : w.heap.size + 1 < wA.drew.heap.size := Ext.lt RW.out.1.1
    have ho := ownsRow_setCell_below (ownsRow_setCell_below (ownsRow_setCell_below hz9 (a := ⟨w.heap.size + 1, 0, none⟩) hsz (.int .i64 W)) (a := ⟨w.heap.size + 1, 1, none⟩) hsz (.int .i64 H)) (a := ⟨w.heap.size + 1, 2, none⟩) hsz (.slice a9 zs.length c9)
    have E9 : Ext w w9 := (by repeat (first | exact Ext.refl _ | assumption | refine Ext.alloc ?_ _ | refine Ext.drew ?_ | refine Ext.drewN ?_ _ | refine Ext.setCell ?_ (by first | exact Nat.le_refl _ | (simp; done) | omega) _ | refine Ext.trans ?_ (by assumption)))
    go_wp2
    obtain ⟨g0, g1, g2⟩ := fr_cells W H (.slice a9 zs.length c9) b0 b1 b2
    exact bodyPost_ret (v := .agg #[.int .i64 W, .int .i64 H, .slice a9 zs.length c9]) (by simp [results, Tryd.results38, go_sem, g0, g1, g2]) rfl ⟨_, rfl, Ints.of_owns ho (by omega), ((E9.setCell (by simp) _).setCell (by simp) _).setCell (by simp) _⟩
end Go.Proofs.YtaamnpbhmckpbaaDoor

/- slices.Repeat of one int, at the lengths that are asked for: its contract over this seat's translation. -/
namespace Go.Proofs.YtaamnpbhmckpbaaDoor
set_option linter.unusedVariables false
set_option linter.unusedSimpArgs false
open Go.RowKit Go.Extern.Stop Go.Stop Go.Extern

theorem zeros_rowr (n : Nat) (x : Int) : (madeCells (Value.int .i64 0).cells (n * 1)).toList = (rowL n fun j => if j < 0 then x else 0).map (Value.int .i64) := by
  apply List.ext_getElem?
  intro j
  by_cases hj : j < n <;> simp [madeCells, rowL, Value.cells, hj, Nat.mod_one]
theorem own_heap {w : World} {base g N : Nat} {xs : List Value} (h : w.ownsRow base 3 1 (.slice (some ⟨g, 0, none⟩) N N) N xs) : w.heap[g]? = some (.cells xs.toArray 3 (0, 0)) := by
  obtain ⟨hl, h | ⟨g', cap, cur, e, -, hg, -, -, hs, ht⟩⟩ := h
  · cases h.1
  · simp only [Value.slice.injEq, Option.some.injEq, Addr.mk.injEq, and_true, true_and] at e
    obtain ⟨rfl, rfl⟩ := e
    rw [hg]
    have : cur.toList = xs := by rw [← ht, List.take_of_length_le (by simp [hs])]
    rw [← this]
theorem heap_own {w : World} {base g N : Nat} {xs : List Value} (hb : base ≤ g) (hl : xs.length = N) (hN : N ≤ maxLen) (h : w.heap[g]? = some (.cells xs.toArray 3 (0, 0))) : w.ownsRow base 3 1 (.slice (some ⟨g, 0, none⟩) N N) N xs :=
  ⟨by omega, Or.inr ⟨g, N, xs.toArray, rfl, hb, h, Nat.le_refl _, hN, by simp [hl], by rw [List.take_of_length_le (by simp [hl])]⟩⟩
theorem splice_rep {N n k : Nat} {x : Int} (h : n + k ≤ N) : splice ((rowL N fun j => if j < n then x else 0).map (Value.int .i64)) n ((rowL k fun _ => x).map (Value.int .i64)) = (rowL N fun j => if j < n + k then x else 0).map (Value.int .i64) := by
  unfold splice
  apply List.ext_getElem?
  intro j
  by_cases h1 : j < n
  · rw [List.getElem?_append_left (by simp [rowL_length]; omega)]
    rw [List.getElem?_take, if_pos h1, List.getElem?_map, List.getElem?_map, rowL_get (by omega), rowL_get (by omega), if_pos h1, if_pos (by omega)]
  · rw [List.getElem?_append_right (by simp [rowL_length]; omega)]
    have e1 : (List.take n (List.map (Value.int .i64) (rowL N fun j => if j < n then x else 0))).length = n := by simp [rowL_length]; omega
    rw [e1]
    by_cases h2 : j < n + k
    · rw [List.getElem?_append_left (by simp [rowL_length]; omega), List.getElem?_map, List.getElem?_map, rowL_get (by omega), rowL_get (by omega), if_pos h2]
    · rw [List.getElem?_append_right (by simp [rowL_length]; omega), List.getElem?_drop]
      have e2 : n + (List.map (Value.int .i64) (rowL k fun _ => x)).length + (j - n - (List.map (Value.int .i64) (rowL k fun _ => x)).length) = j := by simp [rowL_length]; omega
      rw [e2, List.getElem?_map, List.getElem?_map]
      by_cases h3 : j < N
      · rw [rowL_get h3, rowL_get h3, if_neg h1, if_neg h2]
      · rw [List.getElem?_eq_none (by rw [rowL_length]; omega), List.getElem?_eq_none (by rw [rowL_length]; omega)]
theorem rep_read {w : World} {G N n k : Nat} {x : Int} (h : w.heap[G]? = some (.cells ((rowL N fun j => if j < n then x else 0).map (Value.int .i64)).toArray 3 (0, 0))) (hk : k ≤ n) (hn : n ≤ N) : ∀ j u, ((rowL k fun _ => x).map (Value.int .i64))[j]? = some u → w.cell? ((⟨G, 0, none⟩ : Addr).add j) = some u := fun j u hu => by
  have hadd : (⟨G, 0, none⟩ : Addr).add j = ⟨G, 0 + j, none⟩ := by unfold Addr.add; split <;> simp_all
  rw [List.getElem?_map] at hu
  obtain ⟨y, hy, rfl⟩ := Option.map_eq_some_iff.1 hu
  have hj : j < k := by
    have := (List.getElem?_eq_some_iff.1 hy).1
    rwa [rowL_length] at this
  rw [rowL_get hj] at hy
  cases hy
  rw [hadd]
  have e : ((rowL N fun j => if j < n then x else 0).map (Value.int .i64))[0 + j]? = some (.int .i64 x) := by
    rw [Nat.zero_add, List.getElem?_map, rowL_get (by omega), if_pos (by omega)]; rfl
  unfold World.cell?
  simp only [h]
  simpa using e
theorem ones_int (k : Nat) (x : Int) : ∀ u ∈ (rowL k fun _ => x).map (Value.int .i64), u.oneCell' = true := fun u hu => by
  obtain ⟨y, _, rfl⟩ := List.mem_map.1 hu
  rfl
theorem rowL_one (x : Int) : (rowL 1 fun _ => x).map (Value.int .i64) = [Value.int .i64 x] := by simp [rowL, List.range_succ]
theorem rep_made {w w3 : World} {N G g0 off0 cap0 : Nat} {x : Int} (ha : Ints w (.slice (some ⟨g0, off0, none⟩) 1 cap0) [x]) (h : w3.ownsRow w.heap.size 3 1 (.slice (some ⟨w.heap.size, 0, none⟩) N N) N (madeCells (Value.int .i64 0).cells (N * 1)).toList) (hg : w.grownBy w3 none) (hG : G = w.heap.size) :
    Hid (Ext w w3 ∧ w3.heap[G]? = some (.cells ((rowL N fun j => if j < 0 then x else 0).map (Value.int .i64)).toArray 3 (0, 0)) ∧ ∀ j u, ([Value.int .i64 x])[j]? = some u → w3.cell? ((⟨g0, off0, none⟩ : Addr).add j) = some u) := by
  have hE3 : Ext w w3 := Below.grown (Ext.refl w) hg (Nat.le_refl _) (fun k hk => by cases hk)
  rw [zeros_rowr N x] at h
  subst hG
  exact ⟨hE3, own_heap h, news_of_ints (ha.ext hE3)⟩
theorem infoSz : (Tryd.prog.info? 3).map (·.size) = some 1 := by kernel_rfl
end Go.Proofs.YtaamnpbhmckpbaaDoor

/- Slices of int slices: what they read as; rows of the call's own, several at once. -/
namespace Go.Proofs.YtaamnpbhmckpbaaDoor
set_option linter.unusedVariables false
set_option linter.unusedSimpArgs false
open Go.RowKit Go.Extern.Stop Go.Stop Go.Extern

/-- a slice value that reads as these rows -/
def Mat (w : World) (v : Value) (L : List (List Int)) : Prop := ∃ (a : Option Addr) (cap : Nat), v = .slice a L.length cap ∧ L.length ≤ cap ∧ cap ≤ maxLen ∧
  (0 < L.length → ∃ g off, a = some ⟨g, off, none⟩ ∧ ∀ q row, L[q]? = some row → ∃ ra rn rc, w.cell? ⟨g, off + q, none⟩ = some (.slice ra rn rc) ∧ Row w (.slice ra rn rc) row.length (row.map (Value.int .i64)))
theorem Mat.ext {w w' : World} {v : Value} {L : List (List Int)} (h : Mat w v L) (k : Ext w w') : Mat w' v L := by
  obtain ⟨a, cap, h0, h1, h2, h3⟩ := h
  refine ⟨a, cap, h0, h1, h2, fun hl => ?_⟩
  obtain ⟨g, off, e, h4⟩ := h3 hl
  refine ⟨g, off, e, fun q row hq => ?_⟩
  obtain ⟨ra, rn, rc, c1, c2⟩ := h4 q row hq
  exact ⟨ra, rn, rc, k.cell c1, c2.ext k⟩
theorem Mat.form {w : World} {v : Value} {L : List (List Int)} (h : Mat w v L) : ∃ a cap, v = .slice a L.length cap := by
  obtain ⟨a, cap, h0, _⟩ := h
  exact ⟨a, cap, h0⟩
theorem Mat.nil (w : World) : Mat w (.slice none 0 0) [] := ⟨none, 0, rfl, Nat.le_refl _, Nat.zero_le _, fun h => absurd h (Nat.lt_irrefl _)⟩
theorem Mat.len {w : World} {a : Option Addr} {n cap : Nat} {L : List (List Int)} (h : Mat w (.slice a n cap) L) : n = L.length := by
  obtain ⟨a', cap', e, _⟩ := h
  simp only [Value.slice.injEq] at e
  exact e.2.1
theorem Mat.had {w : World} {a : Option Addr} {n cap : Nat} {L : List (List Int)} (h : Mat w (.slice a n cap) L) (hn : 0 < n) : ∃ g off, a = some ⟨g, off, none⟩ := by
  have hl := h.len
  obtain ⟨a', cap', e, _, _, h3⟩ := h
  simp only [Value.slice.injEq] at e
  obtain ⟨rfl, -, rfl⟩ := e
  obtain ⟨g, off, e, _⟩ := h3 (by omega)
  exact ⟨g, off, e⟩
theorem Mat.row {w : World} {g off n cap : Nat} {L : List (List Int)} (h : Mat w (.slice (some ⟨g, off, none⟩) n cap) L) {q : Nat} {row : List Int} (hq : L[q]? = some row) :
    ∃ ra rc, w.cell? ⟨g, off + q, none⟩ = some (.slice ra row.length rc) ∧ Row w (.slice ra row.length rc) row.length (row.map (Value.int .i64)) := by
  have hl := h.len
  obtain ⟨a', cap', e, _, _, h3⟩ := h
  simp only [Value.slice.injEq] at e
  obtain ⟨rfl, -, rfl⟩ := e
  obtain ⟨hj, -⟩ := List.getElem?_eq_some_iff.1 hq
  obtain ⟨g', off', e, h4⟩ := h3 (by omega)
  obtain ⟨rfl, rfl⟩ : g = g' ∧ off = off' := by simpa using e
  obtain ⟨ra, rn, rc, c1, c2⟩ := h4 q row hq
  obtain ⟨a, cap, e⟩ := c2.form
  simp only [Value.slice.injEq] at e
  obtain ⟨rfl, rfl, rfl⟩ := e
  exact ⟨_, _, c1, c2⟩
theorem Mat.at {w : World} {g off n cap : Nat} {L : List (List Int)} (h : Mat w (.slice (some ⟨g, off, none⟩) n cap) L) {q : Nat} {row : List Int} (hq : L[q]? = some row) (hl : row.length ≤ 1000000) :
    ∃ ra rn rc, w.cell? ⟨g, off + q, none⟩ = some (.slice ra rn rc) ∧ Ints w (.slice ra rn rc) row := by
  obtain ⟨ra, rc, c1, c2⟩ := h.row hq
  exact ⟨ra, _, rc, c1, c2, by omega⟩

/-- an append of one int to one of several rows -/
theorem push_at {ops : Array Oper} {rest : List Oper} {o : Oper} {a : Act} {Q : Exit → Act → World → Prop} {W : World} {base : Nat} (hgd : o.guard = none) (s y : Operand) (t : TypeId)
    (ho : o.op = .call { callee := .builtin .append, args := #[s, y], argTypes := #[t, t] }) (ht : Tryd.prog.underlying t = some (.slice 3))
    (v : Value) (n : Nat) (xs : List Value) (x : Int) (hs : a.eval s = v) (hown : W.ownsRow base 3 1 v n xs) (hx : a.eval y = .slice (some ⟨W.heap.size, 0, none⟩) 1 1) (hb : base ≤ W.heap.size) (hn : n ≤ 1000000000000)
    (h : ∀ v' w', w'.ownsRow base 3 1 v' (n + 1) (xs ++ [.int .i64 x]) → W.grownBy w' v.ownBlock → (v'.ownBlock = v.ownBlock ∨ v'.ownBlock = some (W.heap.size + 1)) → wpList Tryd.prog ops Q rest (a.put o.dst v') w') :
    wpList Tryd.prog ops Q (o :: rest) a (W.alloc (.cells #[.int .i64 x] 3)) := by
  obtain ⟨i0, hi, hz0, hz1, hz2⟩ := info_parts infoInt
  refine wpList_append_own_at _ hgd s y t ho base 3 i0 (.int .i64 0) 1 8 ht hi hz0 hz1 hz2 rfl (by decide) v n xs hs (hown.alloc _) ⟨W.heap.size, 0, none⟩ 1 1 [.int .i64 x] hx rfl (cell_one_new _ _ _) (one_int _) (by unfold maxLen; omega) (by omega) (by simp; omega) ?_
  intro v' w' h1 h2 h3 h4
  refine h v' w' h1 ⟨h2.os, h2.tape, h2.output, Nat.le_trans (by simp) h2.size, fun k hk hne => ?_⟩ (by simpa using h4)
  exact (h2.block k (by simp; omega) hne).trans (Below.heap_alloc W _ k hk)
/-- likewise, at a step of a region that draws its order -/
theorem step_push_at {ops : Array Oper} {o : Oper} {a : Act} {K : Act → World → Prop} {Q : Exit → Act → World → Prop} {E : Prop} {W : World} {base : Nat} (hgd : o.guard = none) (s y : Operand) (t : TypeId)
    (ho : o.op = .call { callee := .builtin .append, args := #[s, y], argTypes := #[t, t] }) (ht : Tryd.prog.underlying t = some (.slice 3))
    (v : Value) (n : Nat) (xs : List Value) (x : Int) (hs : a.eval s = v) (hown : W.ownsRow base 3 1 v n xs) (hx : a.eval y = .slice (some ⟨W.heap.size, 0, none⟩) 1 1) (hb : base ≤ W.heap.size) (hn : n ≤ 1000000000000)
    (h : ∀ g cap w', w'.ownsRow base 3 1 (.slice (some ⟨g, 0, none⟩) (n + 1) cap) (n + 1) (xs ++ [.int .i64 x]) → W.grownBy w' v.ownBlock → (some g = v.ownBlock ∨ some g = some (W.heap.size + 1)) → K (a.put o.dst (.slice (some ⟨g, 0, none⟩) (n + 1) cap)) w') :
    if Region.wanted o (yielded ops a.tmps) = true then Oper.wp Tryd.prog o a ((W.alloc (.cells #[.int .i64 x] 3)).drew) K Q else E := by
  obtain ⟨i0, hi, hz0, hz1, hz2⟩ := info_parts infoInt
  have hown' : ((W.alloc (.cells #[.int .i64 x] 3)).drew).ownsRow base 3 1 v n xs := (hown.alloc _).drew
  refine step_append_lies _ hgd s y t ho base 3 i0 (.int .i64 0) 1 8 ht hi hz0 hz1 hz2 rfl (by decide) v n xs hs hown' ⟨W.heap.size, 0, none⟩ 1 1 [.int .i64 x] hx rfl (World.news_of_block (cs := #[.int .i64 x]) (t := 3) (fr := (0, 0)) (heap_alloc_new W _)) (one_int _) (by decide) (by unfold maxLen; omega) (by omega) (by simp; omega) (W.heap.size + 1) (by simp) ?_
  intro g cap w' h1 h2 h3 _
  refine h g cap w' h1 ⟨h2.os, h2.tape, h2.output, Nat.le_trans (by simp) h2.size, fun k hk hne => ?_⟩ (by
    rcases h3 with h3 | h3
    · exact Or.inl h3.symm
    · exact Or.inr (by rw [h3]))
  exact (h2.block k (by simp; omega) hne).trans (Below.heap_alloc W _ k hk)
theorem own_grownBy {w w' : World} {base : Nat} {e : TypeId} {size n : Nat} {v : Value} {xs : List Value} {row : Option Nat} (h : w.ownsRow base e size v n xs) (k : w.grownBy w' row) (hne : v.ownBlock = none ∨ v.ownBlock ≠ row) : w'.ownsRow base e size v n xs := by
  obtain ⟨hl, h⟩ := h
  refine ⟨hl, ?_⟩
  rcases h with h | ⟨g, cap, cur, rfl, hb, hg, h⟩
  · exact Or.inl h
  · have hlt : g < w.heap.size := (Array.getElem?_eq_some_iff.1 hg).1
    have e1 : Value.ownBlock (.slice (some ⟨g, 0, none⟩) n cap) = some g := rfl
    rw [e1] at hne
    refine Or.inr ⟨g, cap, cur, rfl, hb, (k.block g hlt ?_).trans hg, h⟩
    rcases hne with hne | hne
    · cases hne
    · exact hne
/-- m rows of the call's own, in a block of its own -/
def RowsAt (w : World) (g m base : Nat) (R : Nat → Value) (Z : Nat → List Int) : Prop :=
  w.rowIs g 65 m R ∧ g < base ∧ base ≤ w.heap.size ∧ (∀ q, q < m → w.ownsRow base 3 1 (R q) (Z q).length ((Z q).map (Value.int .i64))) ∧ ∀ q q', q < m → q' < m → q ≠ q' → (R q).ownBlock = none ∨ (R q).ownBlock ≠ (R q').ownBlock
theorem RowsAt.push {w w' : World} {g m base q : Nat} {R : Nat → Value} {Z : Nat → List Int} {v' : Value} {x : Int} (h : RowsAt w g m base R Z) (hq : q < m)
    (h1 : w'.ownsRow base 3 1 v' ((Z q).length + 1) ((Z q).map (Value.int .i64) ++ [.int .i64 x])) (h2 : w.grownBy w' (R q).ownBlock) (h3 : v'.ownBlock = (R q).ownBlock ∨ v'.ownBlock = some (w.heap.size + 1)) :
    RowsAt (w'.setCell ⟨g, q, none⟩ v') g m base (fun j => if j = q then v' else R j) (fun j => if j = q then Z q ++ [x] else Z j) := by
  obtain ⟨r1, r2, r3, r4, r5⟩ := h
  have gne : some g ≠ (R q).ownBlock := fun e => by have := ((r4 q hq).lt g e.symm).1; omega
  have hgs : g < w.heap.size := r1.lt
  refine ⟨(r1.of_block (h2.block g hgs gne)).set q v', r2, by have := h2.size; simp [World.setCell]; omega, fun j hj => ?_, fun i j hi hj hij => ?_⟩
  · by_cases hjq : j = q
    · subst hjq
      simp only [if_pos]
      rw [List.length_append, List.map_append]
      exact ownsRow_setCell_below h1 (a := ⟨g, j, none⟩) r2 _
    · simp only [if_neg hjq]
      exact ownsRow_setCell_below (own_grownBy (r4 j hj) h2 (r5 j q hj hq hjq)) (a := ⟨g, q, none⟩) r2 _
  · have lt : ∀ k, k < m → (R k).ownBlock ≠ some (w.heap.size + 1) := fun k hk e => by have := ((r4 k hk).lt _ e).2; omega
    by_cases h1 : i = q
    · subst h1
      have h2 : ¬ j = i := fun e => hij e.symm
      simp only [if_pos, if_neg h2]
      rcases h3 with h3 | h3
      · rw [h3]; exact r5 i j hi hj hij
      · rw [h3]; exact Or.inr (fun e => lt j hj e.symm)
    · by_cases h2 : j = q
      · subst h2
        simp only [if_pos, if_neg h1]
        rcases h3 with h3 | h3
        · rw [h3]; exact r5 i j hi hj hij
        · rw [h3]; exact Or.inr (lt i hi)
      · simp only [if_neg h1, if_neg h2]
        exact r5 i j hi hj hij
theorem RowsAt.mat {w : World} {g m base : Nat} {R : Nat → Value} {Z : Nat → List Int} (h : RowsAt w g m base R Z) (hm : m ≤ 1000000) (hz : ∀ q, q < m → (Z q).length ≤ 1000000) : Mat w (.slice (some ⟨g, 0, none⟩) m m) ((List.range m).map Z) := by
  obtain ⟨r1, r2, r3, r4, r5⟩ := h
  refine ⟨some ⟨g, 0, none⟩, m, by simp, by simp, by unfold maxLen; omega, fun _ => ⟨g, 0, rfl, fun q row hq => ?_⟩⟩
  rw [List.getElem?_map] at hq
  obtain ⟨j, hj, rfl⟩ := Option.map_eq_some_iff.1 hq
  obtain ⟨hlt, e⟩ := List.getElem?_eq_some_iff.1 hj
  simp at hlt e
  subst e
  have hi := Ints.of_owns (r4 q hlt) (by have := hz q hlt; omega)
  obtain ⟨a, cap, e⟩ := hi.form
  refine ⟨a, _, cap, ?_, by rw [← e]; exact hi.1⟩
  rw [← e]
  simpa using r1.cell hlt
end Go.Proofs.YtaamnpbhmckpbaaDoor
