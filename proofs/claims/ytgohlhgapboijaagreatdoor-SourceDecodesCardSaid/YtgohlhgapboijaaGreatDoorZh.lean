/- Contracts of this seat: Bu, Ft1, Ft2, Ft3, Is. -/
import Derived.Test.YtgohlhgapboijaaGreatDoorErrFacts
import Derived.RowKit
import Derived.Lib.Builder
import Derived.Lib.AppendStr
import Derived.Lib.UnsafeStr
import Derived.Test.YtgohlhgapboijaaGreatDoorSh
import Derived.Test.YtgohlhgapboijaaGreatDoorZa
import Derived.Test.YtgohlhgapboijaaGreatDoorZb
import Derived.Lib.ItoaLen
import Derived.Lib.SmallJoins
import Derived.Deep.LoopGhost
import Derived.Lib.Hide
import Derived.Lib.ItoaNum
import Derived.Laws.BytesArg
/- A strings.Builder of the call's own: its copy check (which this translation ends in a wall, so that the library's contract does not fit), WriteString, WriteByte. -/
namespace Go.Proofs.YtgohlhgapboijaaGreatDoor
set_option linter.unusedVariables false
set_option linter.unusedSimpArgs false
open Go.RowKit Go.Extern.Stop Go.Stop Go.Extern

def BuU (B b : Nat) (bs : List Value) (w : World) : Prop := Lib.BuilderAt 91 5 B b (.pointer (some ⟨b, 0, none⟩)) bs w
def BuAt (B b : Nat) (bs : List Value) (w : World) : Prop := Lib.IsBuilder 91 5 B b bs w
/-- what writing to the builder in block b leaves: every block of no bytes but b -/
def KpB (b : Nat) (w w' : World) : Prop := ∀ (k : Nat) (cs : Array Value) (T : TypeId) (fr : Nat × Nat), w.heap[k]? = some (.cells cs T fr) → T ≠ 5 → k ≠ b → w'.heap[k]? = some (.cells cs T fr)
theorem KpB.refl (b : Nat) (w : World) : KpB b w w := fun _ _ _ _ h _ _ => h
theorem KpB.trans {b : Nat} {u v w : World} (h : KpB b u v) (k : KpB b v w) : KpB b u w := fun i cs T fr a h1 h2 => k i cs T fr (h i cs T fr a h1 h2) h1 h2
theorem KpB.set (b j : Nat) (w : World) (v : Value) : KpB b w (w.setCell ⟨b, j, none⟩ v) := fun k _ _ _ h _ hb => (Below.heap_setCell w ⟨b, j, none⟩ v k hb).trans h
theorem KpB.grown {b B n : Nat} {v : Value} {xs : List Value} {w w' : World} (hown : w.ownsRow B 5 1 v n xs) (hg : w.grownBy w' v.ownBlock) : KpB b w w' := fun k _ _ _ h hT _ =>
  (hg.block k (Array.getElem?_eq_some_iff.1 h).1 (fun e => Lib.ownBlock_ne hown h hT e.symm)).trans h
theorem KpB.alloc (b : Nat) (w : World) (o : Obj) : KpB b w (w.alloc o) := fun k _ _ _ h _ _ => (Below.heap_alloc w o k (Array.getElem?_eq_some_iff.1 h).1).trans h
theorem sizeBu : (Tryz.prog.info? 91).map (·.size) = some 2 := by kernel_rfl
theorem liesBu : liesAt Tryz.prog Tryz.prog.depth 91 (2 / Tryz.prog.cellsOf 91) 0 91 1 = true := by kernel_rfl
theorem byteBu : (Tryz.prog.info? 5).map (fun i => (i.zero, i.size, i.bytes)) = some (some (.int .u8 0), 1, 1) := by kernel_rfl
set_option maxRecDepth 100000 in
theorem check_used (b : Nat) (w : World) (h0 : w.cell? ⟨b, 0, none⟩ = some (.pointer (some ⟨b, 0, none⟩))) :
    Calls Tryz.prog 74 #[.pointer (some ⟨b, 0, none⟩)] w fun e w' => e = .returned (.tuple #[]) ∧ w' = w := by
  obtain ⟨j, hj, -⟩ := Option.map_eq_some_iff.1 sizeBu
  go_enter Tryz.func74, Tryz.ntmps74
  go_wp2
  rw [Lib.run_neq_ptr_same w _ Tryz.underlying89 hj]
  go_wp2
  go_end0
  exact ⟨rfl, rfl⟩
set_option maxHeartbeats 1000000 in
set_option maxRecDepth 100000 in
theorem check_fresh (b : Nat) (w : World) (h0 : w.cell? ⟨b, 0, none⟩ = some (.pointer none)) (hsh : w.shape? b = some (91, 2)) (hfz : w.frozen? ⟨b, 0, none⟩ = false) :
    Calls Tryz.prog 74 #[.pointer (some ⟨b, 0, none⟩)] w fun e w' => e = .returned (.tuple #[]) ∧ w' = w.setCell ⟨b, 0, none⟩ (.pointer (some ⟨b, 0, none⟩)) := by
  obtain ⟨j, hj, hjs⟩ := Option.map_eq_some_iff.1 sizeBu
  go_enter Tryz.func74, Tryz.ntmps74
  go_wp2
  rw [Lib.run_to_unsafe w ⟨b, 0, none⟩ Tryz.underlying89 Tryz.underlying128 hj (by rw [hjs]; decide) hsh (Nat.zero_lt_succ 1)]
  simp only [Result.andThen]
  rw [Oper.upon_value]
  go_wp2
  rw [run_callFunc_extern Tryz.func87 (by kernel_rfl) (by kernel_rfl) (by kernel_rfl) (e := Extern.AbiNoEscape.same) (by kernel_rfl)]
  rw [Lib.run_noEscape]
  simp only [Result.andThen]
  rw [Oper.upon_value]
  go_wp2
  rw [Lib.run_from_unsafe w ⟨b, 0, none⟩ Tryz.underlying128 Tryz.underlying89 hj hsh liesBu]
  simp only [Result.andThen]
  rw [Oper.upon_value]
  go_wp2
  go_end0
  exact ⟨rfl, rfl⟩
theorem bcheck_any (B b : Nat) (bs : List Value) (w : World) (h : BuAt B b bs w) :
    Calls Tryz.prog 74 #[.pointer (some ⟨b, 0, none⟩)] w fun e w' => e = .returned (.tuple #[]) ∧ BuU B b bs w' ∧ Below B w w' ∧ KpB b w w' := by
  rcases h with h | h
  · exact (check_fresh b w h.cell0 h.shape h.frozen0).mono fun e w' ⟨h1, h2⟩ => ⟨h1, by subst h2; exact h.used _, by subst h2; exact (Below.refl B w).setCell (p := ⟨b, 0, none⟩) h.1 _, by subst h2; exact KpB.set b 0 w _⟩
  · exact (check_used b w h.cell0).mono fun e w' ⟨h1, h2⟩ => ⟨h1, by subst h2; exact h, by subst h2; exact Below.refl B _, by subst h2; exact KpB.refl b _⟩
set_option maxHeartbeats 2000000 in
set_option maxRecDepth 100000 in
theorem wstr_any (B b : Nat) (bs : List Value) (s : ByteArray) (w : World) (h : BuAt B b bs w) (hl : bs.length + s.size ≤ 140737488355328) (hb : B ≤ w.heap.size) :
    Calls Tryz.prog 44 #[.pointer (some ⟨b, 0, none⟩), .string s] w fun e w' => e = .returned (.tuple #[.int .i64 s.size, .nilIface]) ∧ BuU B b (bs ++ Lib.strCells s) w' ∧ Below B w w' ∧ KpB b w w' := by
  obtain ⟨i0, hi, hz0, hz1, hz2⟩ := info_parts byteBu
  go_enter Tryz.func44, Tryz.ntmps44
  go_wp2_with fail
  refine (bcheck_any B b bs _ h).mono ?_; rintro e w1 ⟨rfl, h1, hx1, hk1⟩
  obtain ⟨hB, v, hbk, hown, hne⟩ := h1
  have c1 : w1.cell? ⟨b, 1, none⟩ = some v := by rw [Lib.cell_of_heap hbk]; rfl
  have hs1 := hx1.size
  have hlt : b < w1.heap.size := (Array.getElem?_eq_some_iff.1 hbk).1
  go_wp2_with (at_builtin; refine Lib.wpList_append_own_string _ rfl _ _ 26 9 rfl B 5 i0 Tryz.underlying26 Tryz.underlying9 hi hz0 hz1 hz2 _ _ _ rfl hown s rfl (by unfold maxLen; omega) (by omega) (by omega) ?_)
  intro v2 w2 hown2 hgrow _
  have hb2 : w2.heap[b]? = some (.cells #[.pointer (some ⟨b, 0, none⟩), v] 91 (0, 0)) := by
    rw [hgrow.block b hlt (fun e => hne e.symm)]
    exact hbk
  have f1 : w2.frozen? ⟨b, 1, none⟩ = false := Lib.frozen_of_heap hb2 1
  have d1 : w2.cell? ⟨b, 1, none⟩ = some v := by rw [Lib.cell_of_heap hb2]; rfl
  trace_state
  obtain ⟨ao, n', cap, rfl⟩ : ∃ ao n' cap, v2 = .slice ao n' cap := by
    rcases hown2.2 with ⟨hv, _⟩ | ⟨g, cap, cur, hv, _⟩
    · exact ⟨_, _, _, hv⟩
    · exact ⟨_, _, _, hv⟩
  go_wp2
  go_ret2
  exact ⟨rfl, Lib.BuilderAt.put (T := 91) (e := 5) hB hb2 (bs' := bs ++ Lib.strCells s) (by simpa [Lib.strCells_length] using hown2) (by decide),
    (hx1.grown hgrow (by omega) (fun k hk => (hown.lt k hk).1)).setCell (p := ⟨b, 1, none⟩) hB _, (hk1.trans (KpB.grown hown hgrow)).trans (KpB.set b 1 _ _)⟩
set_option maxHeartbeats 2000000 in
set_option maxRecDepth 100000 in
theorem wbyte_any (B b : Nat) (bs : List Value) (c : Int) (w : World) (h : BuAt B b bs w) (hl : bs.length + 1 ≤ 140737488355328) (hb : B ≤ w.heap.size) :
    Calls Tryz.prog 72 #[.pointer (some ⟨b, 0, none⟩), .int .u8 c] w fun e w' => e = .returned .nilIface ∧ BuU B b (bs ++ [.int .u8 c]) w' ∧ Below B w w' ∧ KpB b w w' := by
  obtain ⟨i0, hi, hz0, hz1, hz2⟩ := info_parts byteBu
  go_enter Tryz.func72, Tryz.ntmps72
  go_wp2_with fail
  refine (bcheck_any B b bs _ h).mono ?_; rintro e w1 ⟨rfl, h1, hx1, hk1⟩
  obtain ⟨hB, v, hbk, hown, hne⟩ := h1
  have c1 : w1.cell? ⟨b, 1, none⟩ = some v := by rw [Lib.cell_of_heap hbk]; rfl
  have hs1 := hx1.size
  have hlt : b < w1.heap.size := (Array.getElem?_eq_some_iff.1 hbk).1
  go_wp2_with (at_builtin; refine wpList_append_own _ rfl _ _ 26 rfl B 5 i0 (.int .u8 0) 1 1 Tryz.underlying26 hi hz0 hz1 hz2 rfl (by decide) _ _ _ rfl (hown.alloc _) ⟨w1.heap.size, 0, none⟩ 1 1 [.int .u8 c] rfl rfl (by intro j u hj; match j, hj with | 0, hj => simp at hj; subst hj; simp [Addr.add]) (by intro u hu; simp at hu; subst hu; rfl) (by unfold maxLen; omega) (by omega) (by simp; omega) ?_)
  intro v2 w2 hown2 hgrow _
  have hb2 : w2.heap[b]? = some (.cells #[.pointer (some ⟨b, 0, none⟩), v] 91 (0, 0)) := by
    rw [hgrow.block b (by simp; omega) (fun e => hne e.symm), Lib.alloc_old w1 _ b hlt]
    exact hbk
  have f1 : w2.frozen? ⟨b, 1, none⟩ = false := Lib.frozen_of_heap hb2 1
  have d1 : w2.cell? ⟨b, 1, none⟩ = some v := by rw [Lib.cell_of_heap hb2]; rfl
  obtain ⟨ao, n', cap, rfl⟩ : ∃ ao n' cap, v2 = .slice ao n' cap := by
    rcases hown2.2 with ⟨hv, _⟩ | ⟨g, cap, cur, hv, _⟩
    · exact ⟨_, _, _, hv⟩
    · exact ⟨_, _, _, hv⟩
  go_wp2
  go_ret
  exact ⟨rfl, Lib.BuilderAt.put (T := 91) (e := 5) hB hb2 (bs' := bs ++ [Value.int .u8 c]) (by simpa using hown2) (by decide),
    ((hx1.alloc (by omega) _).grown hgrow (by simp; omega) (fun k hk => (hown.lt k hk).1)).setCell (p := ⟨b, 1, none⟩) hB _, ((hk1.trans (KpB.alloc b _ _)).trans (KpB.grown (hown.alloc _) hgrow)).trans (KpB.set b 1 _ _)⟩
end Go.Proofs.YtgohlhgapboijaaGreatDoor

/- fault.writeStep over a builder of the call's own; what an error says (plain). -/
namespace Go.Proofs.YtgohlhgapboijaaGreatDoor
set_option linter.unusedVariables false
set_option linter.unusedSimpArgs false
open Go.RowKit Go.Extern.Stop Go.Stop Go.Extern Go.Sort

/-- a step's text, a path's -/
def stepT (s : ByteArray) (n : Int) : List UInt8 := s.data.toList ++ 32 :: Lib.itoa n
def pathT : List (ByteArray × Int) → List UInt8
  | [] => []
  | (s, n) :: p => stepT s n ++ [58, 32] ++ pathT p
theorem pathT_snoc (p : List (ByteArray × Int)) (s : ByteArray) (n : Int) : pathT (p ++ [(s, n)]) = pathT p ++ (stepT s n ++ [58, 32]) := by
  induction p with
  | nil => simp [pathT]
  | cons a p ih => obtain ⟨x, y⟩ := a; simp [pathT, ih]
/-- the table that strconv.Itoa reads -/
def PwIs (w : World) : Prop := Lib.TabIs Tryz.prog w "internal/strconv.uint64pow10" .u64 Lib.pow10Tab
theorem pw_glob : Tryz.prog.globalNamed "internal/strconv.uint64pow10" = some 1 := by kernel_rfl
theorem PwIs.ext {w w' : World} (h : PwIs w) (k : Ext w w') : PwIs w' := Go.Joins.tab_stays pw_glob h k (Nat.le_refl _)
theorem PwIs.below {w w' : World} {B : Nat} (h : PwIs w) (hB : w.heap.size ≤ B) (k : Below B w w') : PwIs w' := Go.Joins.tab_stays pw_glob h k hB
theorem ext_grow (w : World) (k : Nat) (os : Array Obj) : Ext w (grow (w.drewN k) os) :=
  ((Ext.refl w).drewN k).trans ⟨rfl, rfl, rfl, by simp [grow], fun j hj => by
    have hj' : j < w.heap.size := by simpa using hj
    simp [grow, Array.getElem?_append, hj']⟩
theorem itoa_any (n : Int) (w : World) (hT : PwIs w) (hn : -9223372036854775808 ≤ n ∧ n ≤ 9223372036854775807) :
    Calls Tryz.prog 73 #[.int .i64 n] w fun e w' => e = .returned (.string ⟨(Lib.itoa n).toArray⟩) ∧ Ext w w' :=
  (Tryz.strconv_Itoa n hn.1 hn.2 w hT).mono fun e w' ⟨h1, k, os, h2⟩ => ⟨h1, by rw [h2]; exact ext_grow w k os⟩
theorem BuU.ext {B b : Nat} {bs : List Value} {w w' : World} (h : BuU B b bs w) (k : Ext w w') : BuU B b bs w' := by
  obtain ⟨h1, v, h2, h3, h4⟩ := h
  exact ⟨h1, v, (k.block (Array.getElem?_eq_some_iff.1 h2).1).trans h2, ownsRow_ext h3 k, h4⟩
theorem KpB.of_ext (b : Nat) {w w' : World} (h : Ext w w') : KpB b w w' := fun k _ _ _ a _ _ => (h.block (Array.getElem?_eq_some_iff.1 a).1).trans a
theorem strCells_bytes (s : ByteArray) : Lib.strCells s = Lib.byteCells s.data.toList := rfl
theorem byteCells_app (a b : List UInt8) : Lib.byteCells a ++ Lib.byteCells b = Lib.byteCells (a ++ b) := by simp [Lib.byteCells]
set_option maxHeartbeats 2000000 in
set_option maxRecDepth 100000 in
theorem wstep_any (B b : Nat) (t : List UInt8) (s : ByteArray) (n : Int) (w : World) (hT : ∀ W, Below B w W → PwIs W) (hn : -9223372036854775808 ≤ n ∧ n ≤ 9223372036854775807) (h : BuAt B b (Lib.byteCells t) w) (hl : t.length + s.size + 40 ≤ 140737488355328) (hb : B ≤ w.heap.size) :
    Calls Tryz.prog 43 #[.pointer (some ⟨b, 0, none⟩), .string s, .int .i64 n] w fun e w' => e = .returned (.tuple #[]) ∧ BuU B b (Lib.byteCells (t ++ stepT s n)) w' ∧ Below B w w' ∧ KpB b w w' := by
  have hil := Lib.itoa_length_le n hn.1 hn.2
  have hsl : s.data.toList.length = s.size := by rw [Array.length_toList]; rfl
  have hsi : (⟨(Lib.itoa n).toArray⟩ : ByteArray).size = (Lib.itoa n).length := by show (Lib.itoa n).toArray.size = _; simp
  go_enter Tryz.func43, Tryz.ntmps43
  go_wp2_with fail
  refine (wstr_any B b _ s _ h (by rw [Lib.byteCells_length]; omega) hb).mono ?_; rintro e w1 ⟨rfl, h1, x1, k1⟩
  have hb1 := Nat.le_trans hb x1.size
  rw [strCells_bytes, byteCells_app] at h1
  go_wp2_with fail
  refine (wbyte_any B b _ 32 _ (.inr h1) (by rw [Lib.byteCells_length, List.length_append, hsl]; omega) hb1).mono ?_; rintro e w2 ⟨rfl, h2, x2, k2⟩
  have X2 := x1.trans x2
  have hb2 := Nat.le_trans hb X2.size
  have e2 : Lib.byteCells (t ++ s.data.toList) ++ [Value.int .u8 32] = Lib.byteCells (t ++ s.data.toList ++ [32]) := by simp [Lib.byteCells]
  rw [e2] at h2
  go_wp2_with fail
  refine (itoa_any n _ (hT _ X2) hn).mono ?_; rintro e w3 ⟨rfl, x3⟩
  have h3 := h2.ext x3
  have X3 : Below B w w3 := X2.trans (Below.mono x3 hb2)
  have hb3 := Nat.le_trans hb X3.size
  go_wp2_with fail
  refine (wstr_any B b _ _ _ (.inr h3) (by
    rw [Lib.byteCells_length, hsi, List.length_append, List.length_append, hsl]
    simp only [List.length_cons, List.length_nil]
    omega) hb3).mono ?_; rintro e w4 ⟨rfl, h4, x4, k4⟩
  go_wp2
  go_end0
  refine ⟨rfl, ?_, X3.trans x4, ((k1.trans k2).trans (KpB.of_ext b x3)).trans k4⟩
  rw [strCells_bytes, byteCells_app] at h4
  have e4 : t ++ s.data.toList ++ [32] ++ (Lib.itoa n).toArray.toList = t ++ stepT s n := by simp [stepT]
  have h4' : BuU B b (Lib.byteCells (t ++ s.data.toList ++ [32] ++ (Lib.itoa n).toArray.toList)) w4 := h4
  rw [e4] at h4'
  exact h4'
end Go.Proofs.YtgohlhgapboijaaGreatDoor

/- api.Code.Error: what a code says. -/
namespace Go.Proofs.YtgohlhgapboijaaGreatDoor
set_option linter.unusedVariables false
set_option linter.unusedSimpArgs false
open Go.RowKit Go.Extern.Stop Go.Stop Go.Extern

theorem conv_one (W : World) (z : Int) : (convert 26 9 (.slice (some ⟨W.heap.size, 0, none⟩) 1 1)).run Tryz.prog (W.alloc (.cells #[.int .u8 z] 5)) = .ok (.string (strOfNums [z])) (W.alloc (.cells #[.int .u8 z] 5)) :=
  run_convert_bytes_arg _ 26 5 Tryz.underlying26 Tryz.underlying5 W.heap.size 0 1 1 [z] rfl (fun i hi => by
    obtain rfl : i = 0 := by omega
    simp) 9 Tryz.underlying9
theorem one_data (z : Int) : (strOfNums [z]).data.toList = [UInt8.ofNat z.toNat] := by unfold strOfNums; simp
def codeT (c : Int) : List UInt8 := if c < 0 then [99, 111, 100, 101, 32, 98, 101, 108, 111, 119, 32, 48] else [99, 111, 100, 101, 32] ++ Lib.decDigits c.toNat
set_option maxHeartbeats 2000000 in
set_option maxRecDepth 100000 in
theorem cerr_any (c : Int) (w : World) (hc : -9223372036854775808 ≤ c ∧ c ≤ 9223372036854775807) :
    Calls Tryz.prog 45 #[.int .i64 c] w fun e w' => ∃ s : ByteArray, e = .returned (.string s) ∧ s.data.toList = codeT c ∧ Ext w w' := by
  by_cases h0 : c < 0
  · go_enter Tryz.func45, Tryz.ntmps45
    go_wp2
    go_ret
    exact ⟨_, rfl, by unfold codeT; rw [if_pos h0], Ext.refl w⟩
  obtain ⟨u, rfl⟩ := Int.eq_ofNat_of_zero_le (show 0 ≤ c by omega)
  have hu : u ≤ 9223372036854775807 := by omega
  clear hc
  go_enter Tryz.func45, Tryz.ntmps45
  go_wp2
  go_loopw [3, 4] (fun nv sv wr => ∃ (k : Nat) (s : ByteArray), nv = .int .i64 (k : Int) ∧ sv = .string s ∧ k ≤ u ∧ Hid (Lib.decDigits u = Lib.decDigits k ++ s.data.toList) ∧ Hid (Ext w wr)) (fun nv _ _ => (intOf nv).toNat)
  case atStart => exact ⟨u, _, rfl, rfl, Nat.le_refl _, by show _ = _; simp, Ext.refl w⟩
  case round =>
    obtain ⟨k, s, rfl, rfl, hk, HD, HE⟩ := hrel
    have hlen := Lib.itoa_length_le (u : Int) (by omega) (by omega)
    have hit : Lib.itoa (u : Int) = Lib.decDigits u := by unfold Lib.itoa; rw [if_neg (by omega)]; rfl
    have hsl : s.size ≤ 21 := by
      rw [hit, HD.out, List.length_append] at hlen
      have : s.size = s.data.toList.length := by rw [Array.length_toList]; rfl
      omega
    clear hlen hit
    by_cases h9 : 9 < k
    · have h9' : (9 : Int) < (k : Int) := by omega
      have r1 : (k : Int).tmod 10 = ((k % 10 : Nat) : Int) := by rw [Int.tmod_eq_emod_of_nonneg (by omega)]; omega
      have r2 : (k : Int).tdiv 10 = ((k / 10 : Nat) : Int) := by rw [Int.tdiv_eq_ediv_of_nonneg (by omega)]; omega
      have HDS : Hid (Lib.decDigits u = Lib.decDigits (k / 10) ++ (strOfNums [48 + (k : Int) % 10] ++ s).data.toList) := by
        show _ = _
        rw [HD.out, ByteArray.data_append, Array.toList_append, one_data]
        conv => lhs; rw [Lib.decDigits]
        rw [dif_neg (by omega), List.append_assoc]
        congr 3
      have hsz : ¬ 9223372036854775807 < (strOfNums [48 + (k : Int) % 10]).size + s.size := by rw [strOfNums_size]; simp only [List.length_cons, List.length_nil]; omega
      go_wp2_with fail
      rw [conv_one]
      simp only [Result.andThen]
      rw [Oper.upon_value]
      go_wp2_with fail
      exact ⟨⟨k / 10, _, by simp, rfl, by omega, HDS, HE.out.alloc _⟩, by simp [intOf]; omega⟩
    · have h9' : ¬ (9 : Int) < (k : Int) := by omega
      have hs1 : (strOfNums [48 + (k : Int)]).size = 1 := by rw [strOfNums_size]; rfl
      have hsz : ¬ 9223372036854775807 < 5 + (strOfNums [48 + (k : Int)]).size := by omega
      have hsy : ¬ 9223372036854775807 < 5 + (strOfNums [48 + (k : Int)]).size + s.size := by omega
      have HDS : Hid (((⟨#[99, 111, 100, 101, 32]⟩ : ByteArray) ++ strOfNums [48 + (k : Int)] ++ s).data.toList = codeT (u : Int)) := by
        show _ = _
        unfold codeT
        rw [if_neg (by omega), show (u : Int).toNat = u from rfl, HD.out, ByteArray.data_append, ByteArray.data_append, Array.toList_append, Array.toList_append, one_data]
        rw [show Lib.decDigits k = [UInt8.ofNat (48 + k)] by rw [Lib.decDigits, dif_pos (by omega)]]
        rw [List.append_assoc]
        congr 3
      go_wp2_with fail
      rw [conv_one]
      simp only [Result.andThen]
      rw [Oper.upon_value]
      go_wp2_with fail
      go_ret
      exact ⟨_, rfl, HDS.out, HE.out.alloc _⟩
end Go.Proofs.YtgohlhgapboijaaGreatDoor

/- fault.Text of a code wrapped by steps. -/
namespace Go.Proofs.YtgohlhgapboijaaGreatDoor
set_option linter.unusedVariables false
set_option linter.unusedSimpArgs false
open Go.RowKit Go.Extern.Stop Go.Stop Go.Extern Go.Sort

theorem ownsRow_kpb {w w' : World} {b base n sz : Nat} {e : TypeId} {v : Value} {xs : List Value} (h : w.ownsRow base e sz v n xs) (k : KpB b w w') (he : e ≠ 5) (hb : b < base) : w'.ownsRow base e sz v n xs := by
  obtain ⟨h1, h2⟩ := h
  refine ⟨h1, ?_⟩
  rcases h2 with h2 | ⟨g, cap, cur, hv, hg, hh, r⟩
  · exact .inl h2
  · exact .inr ⟨g, cap, cur, hv, hg, k g _ _ _ hh he (by omega), r⟩
theorem codeT_len {c : Int} (hc : -9223372036854775808 ≤ c ∧ c ≤ 9223372036854775807) : (codeT c).length ≤ 26 := by
  unfold codeT
  split
  · decide
  · have := Lib.itoa_length_le c hc.1 hc.2
    unfold Lib.itoa at this
    rw [if_neg (by assumption)] at this
    rw [List.length_append]
    simp only [List.length_cons, List.length_nil]
    omega
theorem BuAt.ext {B b : Nat} {bs : List Value} {w w' : World} (h : BuAt B b bs w) (k : Ext w w') : BuAt B b bs w' := by
  rcases h with ⟨h1, v, h2, h3, h4⟩ | h
  · exact .inl ⟨h1, v, (k.block (Array.getElem?_eq_some_iff.1 h2).1).trans h2, ownsRow_ext h3 k, h4⟩
  · exact .inr (BuU.ext h k)
/-- the texts of a path are so long at the most -/
theorem pathT_take (p : List (ByteArray × Int)) (i : Nat) : (pathT (p.take i)).length ≤ (pathT p).length := by
  induction p generalizing i with
  | nil => simp
  | cons a p ih =>
    obtain ⟨x, y⟩ := a
    cases i with
    | zero => simp [pathT]
    | succ i => have := ih i; simp [pathT]; omega
theorem pathT_at {p : List (ByteArray × Int)} {i : Nat} {s : ByteArray} {n : Int} (h : p[i]? = some (s, n)) : pathT (p.take (i + 1)) = pathT (p.take i) ++ (stepT s n ++ [58, 32]) := by
  rw [List.take_add_one, h]
  exact pathT_snoc _ _ _
set_option maxHeartbeats 8000000 in
set_option maxRecDepth 100000 in
/-- the text of any error, from what Path and Of say of it -/
theorem text_gen (p : List (ByteArray × Int)) (c : Int) (v : Value) (w : World) (hT : PwIs w) (hv : ∃ t x, v = .iface t x)
    (hP : ∀ W, Ext w W → Calls Tryz.prog 31 #[v] W fun e w' => ∃ u, e = .returned u ∧ Ext W w' ∧ w'.ownsRow (W.heap.size + 1) 70 2 u p.length (stepCells p))
    (hO : ∀ W, Ext w W → Calls Tryz.prog 30 #[v] W fun e w' => e = .returned (.int .i64 c) ∧ Ext W w') (hp : p.length ≤ 1000000) (hl : (pathT p).length ≤ 1000000000)
    (hn : ∀ y ∈ p, -9223372036854775808 ≤ y.2 ∧ y.2 ≤ 9223372036854775807) (hc : -9223372036854775808 ≤ c ∧ c ≤ 9223372036854775807) :
    Calls Tryz.prog 16 #[v] w fun e w' => ∃ s : ByteArray, e = .returned (.string s) ∧ s.data.toList = pathT p ++ codeT c ∧ Ext w w' := by
  obtain ⟨ti, xi, rfl⟩ := hv
  have E0 := (Ext.refl w).alloc (.cells #[.pointer none, .slice none 0 0] 91)
  have HE0 := Lib.hid E0
  have HB0 : Hid (BuAt w.heap.size w.heap.size (Lib.byteCells (pathT (p.take 0))) (w.alloc (.cells #[.pointer none, .slice none 0 0] 91))) := by
    show BuAt _ _ _ _
    exact .inl ⟨Nat.le_refl _, _, heap_alloc_new w _, World.ownsRow_nil _ _ _ _, by simp [Value.ownBlock]⟩
  have HI := Lib.hid (hP _ E0)
  have HT := Lib.hid (fun W (x : Below w.heap.size w W) => hT.below (Nat.le_refl _) x)
  have HN := Lib.hid hn
  have HLN := Lib.hid (fun i => Nat.le_trans (pathT_take p i) hl)
  have HI0 := Lib.hid hO
  clear hP hO hT hn E0
  go_enter Tryz.func16, Tryz.ntmps16
  go_wp2_with fail
  refine HI.out.mono ?_; rintro e w1 ⟨u, rfl, x1, ho⟩
  obtain ⟨n, hnn⟩ : ∃ n, p.length = n := ⟨_, rfl⟩
  have HNN := Lib.hid hnn
  rw [hnn] at ho hp
  obtain ⟨ua, uc, rfl⟩ : ∃ a c, u = .slice a n c := by
    rcases ho.2 with ⟨hv, h0⟩ | ⟨g, cap, cur, hv, _⟩
    · exact ⟨none, 0, by rw [hv, h0]⟩
    · exact ⟨_, _, hv⟩
  have hw0 : (w.alloc (.cells #[.pointer none, .slice none 0 0] 91)).heap.size = w.heap.size + 1 := by simp
  rw [hw0] at ho
  have HO := Lib.hid ho
  have HX1 : Hid (Below w.heap.size w w1) := HE0.out.trans x1
  have HB1 := Lib.hid (HB0.out.ext x1)
  clear ho hnn hw0 x1 HB0 HE0 HI
  obtain ⟨b, hb⟩ : ∃ b, w.heap.size = b := ⟨_, rfl⟩
  have HBS := Lib.hid hb
  rw [hb] at HO HX1 HB1 HT ⊢
  clear hb
  go_wp2_with fail
  go_loopw [11] (fun iv wr => ∃ i : Nat, i ≤ n ∧ iv = .int .i64 (i : Int) ∧ Hid (BuAt b b (Lib.byteCells (pathT (p.take i))) wr) ∧ Hid (Below b w wr) ∧ Hid (KpB b w1 wr)) (fun iv _ => n - (intOf iv).toNat)
  case atStart => exact ⟨0, Nat.zero_le _, rfl, HB1, HX1, KpB.refl b w1⟩
  case round =>
    obtain ⟨i, hi, rfl, HA, HX, HK⟩ := hrel
    have hbr : b ≤ wr.heap.size := by rw [← HBS.out]; exact HX.out.size
    by_cases hlt : i < n
    · obtain ⟨⟨s, m⟩, hy⟩ : ∃ y, p[i]? = some y := ⟨_, List.getElem?_eq_getElem (by rw [HNN.out]; exact hlt)⟩
      have hm := HN.out _ (List.mem_of_getElem? hy)
      have HR := ownsRow_kpb HO.out HK.out (by decide) (Nat.lt_succ_of_lt (Nat.lt_succ_self b))
      obtain ⟨hc0, hc1⟩ := stepCells_get p i s m hy
      obtain ⟨g, hg'⟩ : ∃ g, ua = some ⟨g, 0, none⟩ := by
        rcases HR.2 with ⟨hv, h0⟩ | ⟨g, cap, cur, hv, _⟩
        · omega
        · simp only [Value.slice.injEq] at hv
          exact ⟨g, hv.1⟩
      subst hg'
      have q0 := (Row.of_owns HR).at hc0
      have q1 := (Row.of_owns HR).at hc1
      rw [Nat.zero_add] at q0 q1
      have HTA := Lib.hid (pathT_at hy)
      have HL1 := HLN.out i
      have HL2 := HLN.out (i + 1)
      have x1 : (0 : Int) ≤ (i : Int) := by omega
      have x2 : (i : Int) < (n : Int) := by omega
      clear hy hc0 hc1 HR
      have hss : s.size ≤ 1000000000 := by
        rw [HTA.out, List.length_append, List.length_append] at HL2
        have : (stepT s m).length = s.data.toList.length + ((Lib.itoa m).length + 1) := by unfold stepT; rw [List.length_append]; rfl
        have h2 : s.data.toList.length = s.size := by rw [Array.length_toList]; rfl
        omega
      have HA1 := Lib.hid (HA.out.ext ((Ext.refl wr).alloc (.cells #[.string s, .int .i64 m] 70)))
      have HX1' : Hid (Below b w (wr.alloc (.cells #[.string s, .int .i64 m] 70))) := HX.out.alloc hbr _
      have HK1 := Lib.hid (HK.out.trans (KpB.alloc b wr (.cells #[.string s, .int .i64 m] 70)))
      go_wp2_with fail
      revert HA1 HX1' HK1
      generalize wr.alloc _ = w2
      generalize wr.heap.size = B5
      intro HA1 HX2 HK2
      have hb2 : b ≤ w2.heap.size := by rw [← HBS.out]; exact HX2.out.size
      refine (wstep_any b b _ s m _ (fun W x => HT.out W (HX2.out.trans x)) hm HA1.out (by omega) hb2).mono ?_; rintro e w3 ⟨rfl, z1, z2, z3⟩
      have HA3 := Lib.hid z1
      have HX3 := Lib.hid (HX2.out.trans z2)
      have HK3 := Lib.hid (HK2.out.trans z3)
      have hb3 : b ≤ w3.heap.size := by rw [← HBS.out]; exact HX3.out.size
      clear z1 z2 z3
      have hl3 : (pathT (p.take i) ++ stepT s m).length + 2 ≤ 1000000000 := by
        rw [HTA.out, List.length_append, List.length_append] at HL2
        rw [List.length_append]
        simpa [Nat.add_assoc] using HL2
      go_wp2_with fail
      refine (wstr_any b b _ ⟨#[58, 32]⟩ _ (.inr HA3.out) (by rw [Lib.byteCells_length]; show _ + 2 ≤ _; omega) hb3).mono ?_; rintro e w4 ⟨rfl, z1, z2, z3⟩
      have HA4 : Hid (BuAt b b (Lib.byteCells (pathT (p.take (i + 1)))) w4) := by
        show BuAt _ _ _ _
        rw [HTA.out, ← List.append_assoc, ← byteCells_app]
        exact .inr z1
      have HX4 := Lib.hid (HX3.out.trans z2)
      have HK4 := Lib.hid (HK3.out.trans z3)
      clear z1 z2 z3
      go_wp2
      exact ⟨⟨i + 1, by omega, by go_num, HA4, HX4, HK4⟩, by simp [intOf]; omega⟩
    · obtain rfl : i = n := by omega
      have ht : p.take i = p := List.take_of_length_le (by rw [HNN.out]; exact Nat.le_refl _)
      rw [ht] at HA
      have HE : Hid (Ext w wr) := by show Below w.heap.size w wr; rw [HBS.out]; exact HX.out
      go_wp2_with fail
      refine (HI0.out _ HE.out).mono ?_; rintro e w2 ⟨rfl, x2⟩
      have hcl := codeT_len hc
      have HA2 := Lib.hid (HA.out.ext x2)
      have HE2 := Lib.hid (HE.out.trans x2)
      clear x2
      go_wp2_with fail
      refine (cerr_any c _ hc).mono ?_; rintro e w3 ⟨s, rfl, hs, x3⟩
      have HA3 := Lib.hid (HA2.out.ext x3)
      have HE3 := Lib.hid (HE2.out.trans x3)
      have HS := Lib.hid hs
      have hss : s.size ≤ 26 := by
        rw [← HS.out, Array.length_toList] at hcl
        exact hcl
      have hb3 : b ≤ w3.heap.size := by rw [← HBS.out]; exact HE3.out.size
      clear hs x3
      go_wp2_with fail
      refine (wstr_any b b _ s _ HA3.out (by rw [Lib.byteCells_length]; omega) hb3).mono ?_; rintro e w4 ⟨rfl, z1, z2, z3⟩
      have HA4 : Hid (BuAt b b (Lib.byteCells (pathT p ++ codeT c)) w4) := by
        show BuAt _ _ _ _
        rw [← HS.out, ← byteCells_app]
        exact .inr z1
      have HE4 : Hid (Ext w w4) := by show Below _ _ _; rw [HBS.out]; have := HE3.out; exact (show Below b w w3 by rw [← HBS.out]; exact this).trans z2
      have hb4 : b ≤ w4.heap.size := by rw [← HBS.out]; exact HE4.out.size
      clear z1 z2 z3
      go_wp2_with fail
      refine (Tryz.Builder_String_any b b _ _ HA4.out hb4).mono ?_; rintro e w5 ⟨rfl, x5⟩
      have HE5 : Hid (Ext w w5) := by show Below _ _ _; rw [HBS.out]; have := HE4.out; exact (show Below b w w4 by rw [← HBS.out]; exact this).trans x5
      clear x5
      go_wp2
      go_ret
      exact ⟨_, rfl, by simp, HE5.out⟩
theorem text_any (p : List (ByteArray × Int)) (c : Int) (v : Value) (w : World) (hg : EtIs w) (hT : PwIs w) (he : IsErr w p c v) (hp : p.length ≤ 1000000) (hl : (pathT p).length ≤ 1000000000)
    (hn : ∀ y ∈ p, -9223372036854775808 ≤ y.2 ∧ y.2 ≤ 9223372036854775807) (hc : -9223372036854775808 ≤ c ∧ c ≤ 9223372036854775807) :
    Calls Tryz.prog 16 #[v] w fun e w' => ∃ s : ByteArray, e = .returned (.string s) ∧ s.data.toList = pathT p ++ codeT c ∧ Ext w w' :=
  text_gen p c v w hT he.ne_nil (fun W x => path_err p c v W (hg.ext x) (he.ext x) hp) (fun W x => of_err p c v W (hg.ext x) (he.ext x)) hp hl hn hc
/-- the text of a nil error -/
theorem text_nil (w : World) : Calls Tryz.prog 16 #[.nilIface] w fun e w' => e = .returned (.string .empty) ∧ w = w' := by
  go_enter Tryz.func16, Tryz.ntmps16
  go_wp2
  go_ret
  exact ⟨rfl, rfl⟩
end Go.Proofs.YtgohlhgapboijaaGreatDoor

/- errors.Is and fault.Is, asked for a code. -/
namespace Go.Proofs.YtgohlhgapboijaaGreatDoor
set_option linter.unusedVariables false
set_option linter.unusedSimpArgs false
open Go.RowKit Go.Extern.Stop Go.Stop Go.Extern

theorem methodComparable (h : Value) (w : World) : (Go.method 297 144 (.agg #[h]) "Comparable").run Tryz.prog w = .ok (131, .agg #[h]) w := by kernel_rfl
def cmpF : TypeId → Sem Value := fun t => do Rtype.noPackHeld "Comparable" t; pure (.bool (← typeInfo t).comparable)
theorem exComparable (args : Array Value) (w : World) : (callFunc 131 args).run Tryz.prog w = (((ReflectliteType.method cmpF) args).run Tryz.prog w).andThen fun v w' => .ok (.value v) w' :=
  @run_callFunc_extern Tryz.prog 131 _ (ReflectliteType.method cmpF) Tryz.func131 (by kernel_rfl) (by kernel_rfl) (by kernel_rfl) (by kernel_rfl) args w
theorem comparableC (w : World) : ((ReflectliteType.method cmpF) #[.agg #[.pointer (some ⟨4, 31, none⟩)]]).run Tryz.prog w = .ok (.bool true) w := by kernel_rfl
theorem infoCode : (Tryz.prog.info? 31).map (·.comparable) = some true := by kernel_rfl
theorem eqCC (c d : Int) (w : World) : (binOp .eql 28 (.iface 31 (.int .i64 c)) (.iface 31 (.int .i64 d))).run Tryz.prog w = .ok (.bool (c == d)) w := by
  obtain ⟨i, hi, hc⟩ := Option.map_eq_some_iff.1 infoCode
  have h : ∀ n : Nat, (Op.equalIn (n + 2) 28 (.iface 31 (.int .i64 c)) (.iface 31 (.int .i64 d))).run Tryz.prog w = .ok (c == d) w := fun n => by
    simp [Op.equalIn, run_underlying Tryz.underlying28, run_underlying Tryz.underlying31, typeInfo, hi, hc]
  simp only [binOp]
  simp [Op.equal, Op.maxDepth, h 9998]
theorem eqFC (v : Value) (d : Int) (w : World) : (binOp .eql 28 (.iface 109 v) (.iface 31 (.int .i64 d))).run Tryz.prog w = .ok (.bool false) w := by
  have h : ∀ n : Nat, (Op.equalIn (n + 2) 28 (.iface 109 v) (.iface 31 (.int .i64 d))).run Tryz.prog w = .ok false w := fun n => by
    simp [Op.equalIn, run_underlying Tryz.underlying28]
  simp only [binOp]
  simp [Op.equal, Op.maxDepth, h 9998]
end Go.Proofs.YtgohlhgapboijaaGreatDoor
