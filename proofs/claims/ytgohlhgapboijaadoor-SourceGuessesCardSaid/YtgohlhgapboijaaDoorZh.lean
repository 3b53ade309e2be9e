/- Contracts of this seat: Bu, Ft1, Ft2, Ft3, Is. -/
import Derived.Test.YtgohlhgapboijaaDoorErrFacts
import Derived.RowKit
import Derived.Lib.Builder
import Derived.Lib.AppendStr
import Derived.Lib.UnsafeStr
import Derived.Test.YtgohlhgapboijaaDoorSh
import Derived.Test.YtgohlhgapboijaaDoorZa
import Derived.Test.YtgohlhgapboijaaDoorZb
import Derived.Lib.ItoaLen
import Derived.Lib.SmallJoins
import Derived.Deep.LoopGhost
import Derived.Lib.Hide
import Derived.Lib.ItoaNum
import Derived.Laws.BytesArg
/- A strings.Builder of the call's own: its copy check (which this translation ends in a wall, so that the library's contract does not fit), WriteString, WriteByte. -/
namespace Go.Proofs.YtgohlhgapboijaaDoor
set_option linter.unusedVariables false
set_option linter.unusedSimpArgs false
open Go.RowKit Go.Extern.Stop Go.Stop Go.Extern

def BuU (B b : Nat) (bs : List Value) (w : World) : Prop := Lib.BuilderAt 72 5 B b (.pointer (some ⟨b, 0, none⟩)) bs w
def BuAt (B b : Nat) (bs : List Value) (w : World) : Prop := Lib.IsBuilder 72 5 B b bs w
/-- what writing to the builder in block b leaves: every block of no bytes but b -/
def KpB (b : Nat) (w w' : World) : Prop := ∀ (k : Nat) (cs : Array Value) (T : TypeId) (fr : Nat × Nat), w.heap[k]? = some (.cells cs T fr) → T ≠ 5 → k ≠ b → w'.heap[k]? = some (.cells cs T fr)
theorem KpB.refl (b : Nat) (w : World) : KpB b w w := fun _ _ _ _ h _ _ => h
theorem KpB.trans {b : Nat} {u v w : World} (h : KpB b u v) (k : KpB b v w) : KpB b u w := fun i cs T fr a h1 h2 => k i cs T fr (h i cs T fr a h1 h2) h1 h2
theorem KpB.set (b j : Nat) (w : World) (v : Value) : KpB b w (w.setCell ⟨b, j, none⟩ v) := fun k _ _ _ h _ hb => (Below.heap_setCell w ⟨b, j, none⟩ v k hb).trans h
theorem KpB.grown {b B n : Nat} {v : Value} {xs : List Value} {w w' : World} (hown : w.ownsRow B 5 1 v n xs) (hg : w.grownBy w' v.ownBlock) : KpB b w w' := fun k _ _ _ h hT _ =>
  (hg.block k (Array.getElem?_eq_some_iff.1 h).1 (fun e => Lib.ownBlock_ne hown h hT e.symm)).trans h
theorem KpB.alloc (b : Nat) (w : World) (o : Obj) : KpB b w (w.alloc o) := fun k _ _ _ h _ _ => (Below.heap_alloc w o k (Array.getElem?_eq_some_iff.1 h).1).trans h
theorem sizeBu : (Tryd.prog.info? 72).map (·.size) = some 2 := by kernel_rfl
theorem liesBu : liesAt Tryd.prog Tryd.prog.depth 72 (2 / Tryd.prog.cellsOf 72) 0 72 1 = true := by kernel_rfl
theorem byteBu : (Tryd.prog.info? 5).map (fun i => (i.zero, i.size, i.bytes)) = some (some (.int .u8 0), 1, 1) := by kernel_rfl
set_option maxRecDepth 100000 in
theorem check_used (b : Nat) (w : World) (h0 : w.cell? ⟨b, 0, none⟩ = some (.pointer (some ⟨b, 0, none⟩))) :
    Calls Tryd.prog 65 #[.pointer (some ⟨b, 0, none⟩)] w fun e w' => e = .returned (.tuple #[]) ∧ w' = w := by
  obtain ⟨j, hj, -⟩ := Option.map_eq_some_iff.1 sizeBu
  go_enter Tryd.func65, Tryd.ntmps65
  go_wp2
  rw [Lib.run_neq_ptr_same w _ Tryd.underlying70 hj]
  go_wp2
  go_end0
  exact ⟨rfl, rfl⟩
set_option maxHeartbeats 1000000 in
set_option maxRecDepth 100000 in
theorem check_fresh (b : Nat) (w : World) (h0 : w.cell? ⟨b, 0, none⟩ = some (.pointer none)) (hsh : w.shape? b = some (72, 2)) (hfz : w.frozen? ⟨b, 0, none⟩ = false) :
    Calls Tryd.prog 65 #[.pointer (some ⟨b, 0, none⟩)] w fun e w' => e = .returned (.tuple #[]) ∧ w' = w.setCell ⟨b, 0, none⟩ (.pointer (some ⟨b, 0, none⟩)) := by
  obtain ⟨j, hj, hjs⟩ := Option.map_eq_some_iff.1 sizeBu
  go_enter Tryd.func65, Tryd.ntmps65
  go_wp2
  rw [Lib.run_to_unsafe w ⟨b, 0, none⟩ Tryd.underlying70 Tryd.underlying82 hj (by rw [hjs]; decide) hsh (Nat.zero_lt_succ 1)]
  simp only [Result.andThen]
  rw [Oper.upon_value]
  go_wp2
  rw [run_callFunc_extern Tryd.func84 (by kernel_rfl) (by kernel_rfl) (by kernel_rfl) (e := Extern.AbiNoEscape.same) (by kernel_rfl)]
  rw [Lib.run_noEscape]
  simp only [Result.andThen]
  rw [Oper.upon_value]
  go_wp2
  rw [Lib.run_from_unsafe w ⟨b, 0, none⟩ Tryd.underlying82 Tryd.underlying70 hj hsh liesBu]
  simp only [Result.andThen]
  rw [Oper.upon_value]
  go_wp2
  go_end0
  exact ⟨rfl, rfl⟩
end Go.Proofs.YtgohlhgapboijaaDoor

/- fault.writeStep over a builder of the call's own; what an error says (plain). -/
namespace Go.Proofs.YtgohlhgapboijaaDoor
set_option linter.unusedVariables false
set_option linter.unusedSimpArgs false
open Go.RowKit Go.Extern.Stop Go.Stop Go.Extern Go.Sort

/-- a step's text, a path's -/
def stepT (s : ByteArray) (n : Int) : List UInt8 := s.data.toList ++ 32 :: Lib.itoa n
def pathT : List (ByteArray × Int) → List UInt8
  | [] => []
  | (s, n) :: p => stepT s n ++ [58, 32] ++ pathT p
theorem pathT_snoc (p : List (ByteArray × Int)) (s : ByteArray) (n : Int) : pathT (p ++ [(s, n)]) = pathT p ++ (stepT s n ++ [58, 32]) := by
  induction p with
  | nil => simp [pathT]
  | cons a p ih => obtain ⟨x, y⟩ := a; simp [pathT, ih]
/-- the table that strconv.Itoa reads -/
def PwIs (w : World) : Prop := Lib.TabIs Tryd.prog w "internal/strconv.uint64pow10" .u64 Lib.pow10Tab
theorem pw_glob : Tryd.prog.globalNamed "internal/strconv.uint64pow10" = some 1 := by kernel_rfl
theorem PwIs.ext {w w' : World} (h : PwIs w) (k : Ext w w') : PwIs w' := Go.Joins.tab_stays pw_glob h k (Nat.le_refl _)
theorem PwIs.below {w w' : World} {B : Nat} (h : PwIs w) (hB : w.heap.size ≤ B) (k : Below B w w') : PwIs w' := Go.Joins.tab_stays pw_glob h k hB
theorem ext_grow (w : World) (k : Nat) (os : Array Obj) : Ext w (grow (w.drewN k) os) :=
  ((Ext.refl w).drewN k).trans ⟨rfl, rfl, rfl, by simp [grow], fun j hj => by
    have hj' : j < w.heap.size := by simpa using hj
    simp [grow, Array.getElem?_append, hj']⟩
theorem itoa_any (n : Int) (w : World) (hT : PwIs w) (hn : -9223372036854775808 ≤ n ∧ n ≤ 9223372036854775807) :
    Calls Tryd.prog 64 #[.int .i64 n] w fun e w' => e = .returned (.string ⟨(Lib.itoa n).toArray⟩) ∧ Ext w w' :=
  (Tryd.strconv_Itoa n hn.1 hn.2 w hT).mono fun e w' ⟨h1, k, os, h2⟩ => ⟨h1, by rw [h2]; exact ext_grow w k os⟩
theorem BuU.ext {B b : Nat} {bs : List Value} {w w' : World} (h : BuU B b bs w) (k : Ext w w') : BuU B b bs w' := by
  obtain ⟨h1, v, h2, h3, h4⟩ := h
  exact ⟨h1, v, (k.block (Array.getElem?_eq_some_iff.1 h2).1).trans h2, ownsRow_ext h3 k, h4⟩
theorem KpB.of_ext (b : Nat) {w w' : World} (h : Ext w w') : KpB b w w' := fun k _ _ _ a _ _ => (h.block (Array.getElem?_eq_some_iff.1 a).1).trans a
theorem strCells_bytes (s : ByteArray) : Lib.strCells s = Lib.byteCells s.data.toList := rfl
theorem byteCells_app (a b : List UInt8) : Lib.byteCells a ++ Lib.byteCells b = Lib.byteCells (a ++ b) := by simp [Lib.byteCells]
end Go.Proofs.YtgohlhgapboijaaDoor

/- api.Code.Error: what a code says. -/
namespace Go.Proofs.YtgohlhgapboijaaDoor
set_option linter.unusedVariables false
set_option linter.unusedSimpArgs false
open Go.RowKit Go.Extern.Stop Go.Stop Go.Extern

theorem conv_one (W : World) (z : Int) : (convert 59 9 (.slice (some ⟨W.heap.size, 0, none⟩) 1 1)).run Tryd.prog (W.alloc (.cells #[.int .u8 z] 5)) = .ok (.string (strOfNums [z])) (W.alloc (.cells #[.int .u8 z] 5)) :=
  run_convert_bytes_arg _ 59 5 Tryd.underlying59 Tryd.underlying5 W.heap.size 0 1 1 [z] rfl (fun i hi => by
    obtain rfl : i = 0 := by omega
    simp) 9 Tryd.underlying9
theorem one_data (z : Int) : (strOfNums [z]).data.toList = [UInt8.ofNat z.toNat] := by unfold strOfNums; simp
def codeT (c : Int) : List UInt8 := if c < 0 then [99, 111, 100, 101, 32, 98, 101, 108, 111, 119, 32, 48] else [99, 111, 100, 101, 32] ++ Lib.decDigits c.toNat
set_option maxHeartbeats 2000000 in
set_option maxRecDepth 100000 in
theorem cerr_any (c : Int) (w : World) (hc : -9223372036854775808 ≤ c ∧ c ≤ 9223372036854775807) :
    Calls Tryd.prog 39 #[.int .i64 c] w fun e w' => ∃ s : ByteArray, e = .returned (.string s) ∧ s.data.toList = codeT c ∧ Ext w w' := by
  by_cases h0 : c < 0
  · go_enter Tryd.func39, Tryd.ntmps39
    go_wp2
    go_ret
    exact ⟨_, rfl, by unfold codeT; rw [if_pos h0], Ext.refl w⟩
  obtain ⟨u, rfl⟩ := Int.eq_ofNat_of_zero_le (show 0 ≤ c by omega)
  have hu : u ≤ 9223372036854775807 := by omega
  clear hc
  go_enter Tryd.func39, Tryd.ntmps39
  go_wp2
  go_loopw [3, 4] (fun nv sv wr => ∃ (k : Nat) (s : ByteArray), nv = .int .i64 (k : Int) ∧ sv = .string s ∧ k ≤ u ∧ Hid (Lib.decDigits u = Lib.decDigits k ++ s.data.toList) ∧ Hid (Ext w wr)) (fun nv _ _ => (intOf nv).toNat)
  case atStart => exact ⟨u, _, rfl, rfl, Nat.le_refl _, by show _ = _; simp, Ext.refl w⟩
  case round =>
    obtain ⟨k, s, rfl, rfl, hk, HD, HE⟩ := hrel
    have hlen := Lib.itoa_length_le (u : Int) (by omega) (by omega)
    have hit : Lib.itoa (u : Int) = Lib.decDigits u := by unfold Lib.itoa; rw [if_neg (by omega)]; rfl
    have hsl : s.size ≤ 21 := by
      rw [hit, HD.out, List.length_append] at hlen
      have : s.size = s.data.toList.length := by rw [Array.length_toList]; rfl
      omega
    clear hlen hit
    by_cases h9 : 9 < k
    · have h9' : (9 : Int) < (k : Int) := by omega
      have r1 : (k : Int).tmod 10 = ((k % 10 : Nat) : Int) := by rw [Int.tmod_eq_emod_of_nonneg (by omega)]; omega
      have r2 : (k : Int).tdiv 10 = ((k / 10 : Nat) : Int) := by rw [Int.tdiv_eq_ediv_of_nonneg (by omega)]; omega
      have HDS : Hid (Lib.decDigits u = Lib.decDigits (k / 10) ++ (strOfNums [48 + (k : Int) % 10] ++ s).data.toList) := by
        show _ = _
        rw [HD.out, ByteArray.data_append, Array.toList_append, one_data]
        conv => lhs; rw [Lib.decDigits]
        rw [dif_neg (by omega), List.append_assoc]
        congr 3
      have hsz : ¬ 9223372036854775807 < (strOfNums [48 + (k : Int) % 10]).size + s.size := by rw [strOfNums_size]; simp only [List.length_cons, List.length_nil]; omega
      go_wp2_with fail
      rw [conv_one]
      simp only [Result.andThen]
      rw [Oper.upon_value]
      go_wp2_with fail
      exact ⟨⟨k / 10, _, by simp, rfl, by omega, HDS, HE.out.alloc _⟩, by simp [intOf]; omega⟩
    · have h9' : ¬ (9 : Int) < (k : Int) := by omega
      have hs1 : (strOfNums [48 + (k : Int)]).size = 1 := by rw [strOfNums_size]; rfl
      have hsz : ¬ 9223372036854775807 < 5 + (strOfNums [48 + (k : Int)]).size := by omega
      have hsy : ¬ 9223372036854775807 < 5 + (strOfNums [48 + (k : Int)]).size + s.size := by omega
      have HDS : Hid (((⟨#[99, 111, 100, 101, 32]⟩ : ByteArray) ++ strOfNums [48 + (k : Int)] ++ s).data.toList = codeT (u : Int)) := by
        show _ = _
        unfold codeT
        rw [if_neg (by omega), show (u : Int).toNat = u from rfl, HD.out, ByteArray.data_append, ByteArray.data_append, Array.toList_append, Array.toList_append, one_data]
        rw [show Lib.decDigits k = [UInt8.ofNat (48 + k)] by rw [Lib.decDigits, dif_pos (by omega)]]
        rw [List.append_assoc]
        congr 3
      go_wp2_with fail
      rw [conv_one]
      simp only [Result.andThen]
      rw [Oper.upon_value]
      go_wp2_with fail
      go_ret
      exact ⟨_, rfl, HDS.out, HE.out.alloc _⟩
end Go.Proofs.YtgohlhgapboijaaDoor

/- fault.Text of a code wrapped by steps. -/
namespace Go.Proofs.YtgohlhgapboijaaDoor
set_option linter.unusedVariables false
set_option linter.unusedSimpArgs false
open Go.RowKit Go.Extern.Stop Go.Stop Go.Extern Go.Sort

theorem ownsRow_kpb {w w' : World} {b base n sz : Nat} {e : TypeId} {v : Value} {xs : List Value} (h : w.ownsRow base e sz v n xs) (k : KpB b w w') (he : e ≠ 5) (hb : b < base) : w'.ownsRow base e sz v n xs := by
  obtain ⟨h1, h2⟩ := h
  refine ⟨h1, ?_⟩
  rcases h2 with h2 | ⟨g, cap, cur, hv, hg, hh, r⟩
  · exact .inl h2
  · exact .inr ⟨g, cap, cur, hv, hg, k g _ _ _ hh he (by omega), r⟩
theorem codeT_len {c : Int} (hc : -9223372036854775808 ≤ c ∧ c ≤ 9223372036854775807) : (codeT c).length ≤ 26 := by
  unfold codeT
  split
  · decide
  · have := Lib.itoa_length_le c hc.1 hc.2
    unfold Lib.itoa at this
    rw [if_neg (by assumption)] at this
    rw [List.length_append]
    simp only [List.length_cons, List.length_nil]
    omega
theorem BuAt.ext {B b : Nat} {bs : List Value} {w w' : World} (h : BuAt B b bs w) (k : Ext w w') : BuAt B b bs w' := by
  rcases h with ⟨h1, v, h2, h3, h4⟩ | h
  · exact .inl ⟨h1, v, (k.block (Array.getElem?_eq_some_iff.1 h2).1).trans h2, ownsRow_ext h3 k, h4⟩
  · exact .inr (BuU.ext h k)
/-- the texts of a path are so long at the most -/
theorem pathT_take (p : List (ByteArray × Int)) (i : Nat) : (pathT (p.take i)).length ≤ (pathT p).length := by
  induction p generalizing i with
  | nil => simp
  | cons a p ih =>
    obtain ⟨x, y⟩ := a
    cases i with
    | zero => simp [pathT]
    | succ i => have := ih i; simp [pathT]; omega
theorem pathT_at {p : List (ByteArray × Int)} {i : Nat} {s : ByteArray} {n : Int} (h : p[i]? = some (s, n)) : pathT (p.take (i + 1)) = pathT (p.take i) ++ (stepT s n ++ [58, 32]) := by
  rw [List.take_add_one, h]
  exact pathT_snoc _ _ _
/-- the text of a nil error -/
theorem text_nil (w : World) : Calls Tryd.prog 18 #[.nilIface] w fun e w' => e = .returned (.string .empty) ∧ w = w' := by
  go_enter Tryd.func18, Tryd.ntmps18
  go_wp2
  go_ret
  exact ⟨rfl, rfl⟩
end Go.Proofs.YtgohlhgapboijaaDoor

/- errors.Is and fault.Is, asked for a code. -/
namespace Go.Proofs.YtgohlhgapboijaaDoor
set_option linter.unusedVariables false
set_option linter.unusedSimpArgs false
open Go.RowKit Go.Extern.Stop Go.Stop Go.Extern

theorem methodComparable (h : Value) (w : World) : (Go.method 289 116 (.agg #[h]) "Comparable").run Tryd.prog w = .ok (128, .agg #[h]) w := by kernel_rfl
def cmpF : TypeId → Sem Value := fun t => do Rtype.noPackHeld "Comparable" t; pure (.bool (← typeInfo t).comparable)
theorem exComparable (args : Array Value) (w : World) : (callFunc 128 args).run Tryd.prog w = (((ReflectliteType.method cmpF) args).run Tryd.prog w).andThen fun v w' => .ok (.value v) w' :=
  @run_callFunc_extern Tryd.prog 128 _ (ReflectliteType.method cmpF) Tryd.func128 (by kernel_rfl) (by kernel_rfl) (by kernel_rfl) (by kernel_rfl) args w
theorem comparableC (w : World) : ((ReflectliteType.method cmpF) #[.agg #[.pointer (some ⟨4, 23, none⟩)]]).run Tryd.prog w = .ok (.bool true) w := by kernel_rfl
theorem infoCode : (Tryd.prog.info? 23).map (·.comparable) = some true := by kernel_rfl
theorem eqCC (c d : Int) (w : World) : (binOp .eql 27 (.iface 23 (.int .i64 c)) (.iface 23 (.int .i64 d))).run Tryd.prog w = .ok (.bool (c == d)) w := by
  obtain ⟨i, hi, hc⟩ := Option.map_eq_some_iff.1 infoCode
  have h : ∀ n : Nat, (Op.equalIn (n + 2) 27 (.iface 23 (.int .i64 c)) (.iface 23 (.int .i64 d))).run Tryd.prog w = .ok (c == d) w := fun n => by
    simp [Op.equalIn, run_underlying Tryd.underlying27, run_underlying Tryd.underlying23, typeInfo, hi, hc]
  simp only [binOp]
  simp [Op.equal, Op.maxDepth, h 9998]
theorem eqFC (v : Value) (d : Int) (w : World) : (binOp .eql 27 (.iface 38 v) (.iface 23 (.int .i64 d))).run Tryd.prog w = .ok (.bool false) w := by
  have h : ∀ n : Nat, (Op.equalIn (n + 2) 27 (.iface 38 v) (.iface 23 (.int .i64 d))).run Tryd.prog w = .ok false w := fun n => by
    simp [Op.equalIn, run_underlying Tryd.underlying27]
  simp only [binOp]
  simp [Op.equal, Op.maxDepth, h 9998]
theorem noIsC (v : Value) (xT : TypeId) (w : World) : (Instr.typeAssert (.iface 23 v) xT 118 true).run Tryd.prog w = .ok (.tuple #[.nilIface, .bool false]) w := run_typeAssert_lacksB Tryd.underlying118 (by kernel_rfl) (by kernel_rfl) v xT w
theorem noIsF (v : Value) (xT : TypeId) (w : World) : (Instr.typeAssert (.iface 38 v) xT 118 true).run Tryd.prog w = .ok (.tuple #[.nilIface, .bool false]) w := run_typeAssert_lacksB Tryd.underlying118 (by kernel_rfl) (by kernel_rfl) v xT w
set_option maxHeartbeats 4000000 in
set_option maxRecDepth 100000 in
/-- errors.is, asked for a code -/
theorem is_code (p : List (ByteArray × Int)) (c d : Int) (e : Value) (w : World) (he : IsErr w p c e) :
    Calls Tryd.prog 43 #[e, .iface 23 (.int .i64 d), .bool true] w fun e w' => e = .returned (.bool (c == d)) ∧ w = w' := by
  have nIC := noIsC
  have nIF := noIsF
  have nUC := noUnwrapC
  have nUsC := noUnwrapsC
  have uF := unwrapF
  have nF := nilAheadF
  have mU := methodUnwrapF
  have eCC := eqCC
  have eFC := eqFC
  go_enter Tryd.func43, Tryd.ntmps43
  go_wp2
  go_loopg [0] (p.length) (fun k u wr => ∃ q, q.length = k ∧ IsErr w q c u ∧ wr = w)
  case atStart => exact ⟨p, rfl, he, rfl⟩
  case round =>
    obtain ⟨q, hq, hu, hwr⟩ := hrel
    cases q with
    | nil =>
      have hu' : _ = Value.iface 23 (.int .i64 c) := hu
      subst hu'
      subst hwr
      obtain ⟨b, hb⟩ : ∃ b, (c == d) = b := ⟨_, rfl⟩
      have e1 := eCC c d wr
      rw [hb] at e1
      have HB := Lib.hid hb
      clear eCC hb
      cases b with
      | true =>
        go_wp2
        go_ret
        exact ⟨by rw [HB.out]; rfl, rfl⟩
      | false =>
        go_wp2
        go_ret
        exact ⟨by rw [HB.out]; rfl, rfl⟩
    | cons x q =>
      obtain ⟨s, n⟩ := x
      obtain ⟨b, u', hv, _, _, h2, hu'⟩ := hu
      obtain ⟨tx, vx, hne⟩ := hu'.ne_nil
      subst hv
      subst hwr
      subst hne
      have HQ := Lib.hid hq
      clear hq
      go_wp2_with (go_at_call 27; refine (unwrap_any b _ _ h2).mono ?_; rintro e w' ⟨rfl, rfl⟩)
      go_roundg (q.length)
      case measure => have := HQ.out; simp at this; omega
      case rel => exact ⟨q, rfl, hu', rfl⟩
set_option maxHeartbeats 4000000 in
set_option maxRecDepth 100000 in
/-- errors.Is, asked for a code -/
theorem Is_code (p : List (ByteArray × Int)) (c d : Int) (e : Value) (w : World) (he : IsErr w p c e) :
    Calls Tryd.prog 20 #[e, .iface 23 (.int .i64 d)] w fun e w' => e = .returned (.bool (c == d)) ∧ w = w' := by
  have xTO := ex1
  have tOC := typeOfC
  have mC := methodComparable
  have xC := exComparable
  have cC := comparableC
  have HE := Lib.hid he
  obtain ⟨tx, vx, rfl⟩ := he.ne_nil
  clear he
  go_enter Tryd.func20, Tryd.ntmps20
  go_wp2_with (go_at_call 43; fail)
  refine (is_code p c d _ _ HE.out).mono ?_; rintro e w' ⟨rfl, rfl⟩
  go_wp2
  go_ret
  exact ⟨rfl, rfl⟩
/-- fault.Is -/
theorem fis_any (p : List (ByteArray × Int)) (c d : Int) (e : Value) (w : World) (he : IsErr w p c e) :
    Calls Tryd.prog 21 #[e, .int .i64 d] w fun e w' => e = .returned (.bool (c == d)) ∧ w = w' := by
  have HE := Lib.hid he
  obtain ⟨tx, vx, rfl⟩ := he.ne_nil
  clear he
  go_enter Tryd.func21, Tryd.ntmps21
  go_wp2_with fail
  refine (Is_code p c d _ _ HE.out).mono ?_; rintro e w' ⟨rfl, rfl⟩
  go_wp2
  go_ret
  exact ⟨rfl, rfl⟩
theorem fis_nil (d : Int) (w : World) : Calls Tryd.prog 21 #[.nilIface, .int .i64 d] w fun e w' => e = .returned (.bool (decide (d = 0))) ∧ w = w' := by
  go_enter Tryd.func21, Tryd.ntmps21
  go_wp2
  go_ret
  exact ⟨rfl, rfl⟩
end Go.Proofs.YtgohlhgapboijaaDoor
