/- fault.writeStep over a builder of the call's own; what an error says (plain). -/
import Derived.Test.YtgohlhgapboijaaDoorBu
import Derived.Test.YtgohlhgapboijaaDoorSh
import Derived.Test.YtgohlhgapboijaaDoorErr4
import Derived.Test.YtgohlhgapboijaaDoorSame
import Derived.Lib.ItoaLen
import Derived.Lib.SmallJoins
namespace Go.Proofs.YtgohlhgapboijaaDoor
set_option linter.unusedVariables false
set_option linter.unusedSimpArgs false
open Go.RowKit Go.Extern.Stop Go.Stop Go.Extern Go.Sort

/-- a step's text, a path's -/
def stepT (s : ByteArray) (n : Int) : List UInt8 := s.data.toList ++ 32 :: Lib.itoa n
def pathT : List (ByteArray × Int) → List UInt8
  | [] => []
  | (s, n) :: p => stepT s n ++ [58, 32] ++ pathT p
theorem pathT_snoc (p : List (ByteArray × Int)) (s : ByteArray) (n : Int) : pathT (p ++ [(s, n)]) = pathT p ++ (stepT s n ++ [58, 32]) := by
  induction p with
  | nil => simp [pathT]
  | cons a p ih => obtain ⟨x, y⟩ := a; simp [pathT, ih]
/-- the table that strconv.Itoa reads -/
def PwIs (w : World) : Prop := Lib.TabIs Tryd.prog w "internal/strconv.uint64pow10" .u64 Lib.pow10Tab
theorem pw_glob : Tryd.prog.globalNamed "internal/strconv.uint64pow10" = some 1 := by kernel_rfl
theorem PwIs.ext {w w' : World} (h : PwIs w) (k : Ext w w') : PwIs w' := Go.Joins.tab_stays pw_glob h k (Nat.le_refl _)
theorem PwIs.below {w w' : World} {B : Nat} (h : PwIs w) (hB : w.heap.size ≤ B) (k : Below B w w') : PwIs w' := Go.Joins.tab_stays pw_glob h k hB
theorem ext_grow (w : World) (k : Nat) (os : Array Obj) : Ext w (grow (w.drewN k) os) :=
  ((Ext.refl w).drewN k).trans ⟨rfl, rfl, rfl, by simp [grow], fun j hj => by
    have hj' : j < w.heap.size := by simpa using hj
    simp [grow, Array.getElem?_append, hj']⟩
theorem itoa_any (n : Int) (w : World) (hT : PwIs w) (hn : -9223372036854775808 ≤ n ∧ n ≤ 9223372036854775807) :
    Calls Tryd.prog 64 #[.int .i64 n] w fun e w' => e = .returned (.string ⟨(Lib.itoa n).toArray⟩) ∧ Ext w w' :=
  (Tryd.strconv_Itoa n hn.1 hn.2 w hT).mono fun e w' ⟨h1, k, os, h2⟩ => ⟨h1, by rw [h2]; exact ext_grow w k os⟩
theorem BuU.ext {B b : Nat} {bs : List Value} {w w' : World} (h : BuU B b bs w) (k : Ext w w') : BuU B b bs w' := by
  obtain ⟨h1, v, h2, h3, h4⟩ := h
  exact ⟨h1, v, (k.block (Array.getElem?_eq_some_iff.1 h2).1).trans h2, ownsRow_ext h3 k, h4⟩
theorem KpB.of_ext (b : Nat) {w w' : World} (h : Ext w w') : KpB b w w' := fun k _ _ _ a _ _ => (h.block (Array.getElem?_eq_some_iff.1 a).1).trans a
theorem strCells_bytes (s : ByteArray) : Lib.strCells s = Lib.byteCells s.data.toList := rfl
theorem byteCells_app (a b : List UInt8) : Lib.byteCells a ++ Lib.byteCells b = Lib.byteCells (a ++ b) := by simp [Lib.byteCells]
set_option maxHeartbeats 2000000 in
set_option maxRecDepth 100000 in
theorem wstep_any (B b : Nat) (t : List UInt8) (s : ByteArray) (n : Int) (w : World) (hT : ∀ W, Below B w W → PwIs W) (hn : -9223372036854775808 ≤ n ∧ n ≤ 9223372036854775807) (h : BuAt B b (Lib.byteCells t) w) (hl : t.length + s.size + 40 ≤ 140737488355328) (hb : B ≤ w.heap.size) :
    Calls Tryd.prog 37 #[.pointer (some ⟨b, 0, none⟩), .string s, .int .i64 n] w fun e w' => e = .returned (.tuple #[]) ∧ BuU B b (Lib.byteCells (t ++ stepT s n)) w' ∧ Below B w w' ∧ KpB b w w' := by
  have hil := Lib.itoa_length_le n hn.1 hn.2
  have hsl : s.data.toList.length = s.size := by rw [Array.length_toList]; rfl
  have hsi : (⟨(Lib.itoa n).toArray⟩ : ByteArray).size = (Lib.itoa n).length := by show (Lib.itoa n).toArray.size = _; simp
  go_enter Tryd.func37, Tryd.ntmps37
  go_wp2_with fail
  refine (wstr_any B b _ s _ h (by rw [Lib.byteCells_length]; omega) hb).mono ?_; rintro e w1 ⟨rfl, h1, x1, k1⟩
  have hb1 := Nat.le_trans hb x1.size
  rw [strCells_bytes, byteCells_app] at h1
  go_wp2_with fail
  refine (wbyte_any B b _ 32 _ (.inr h1) (by rw [Lib.byteCells_length, List.length_append, hsl]; omega) hb1).mono ?_; rintro e w2 ⟨rfl, h2, x2, k2⟩
  have X2 := x1.trans x2
  have hb2 := Nat.le_trans hb X2.size
  have e2 : Lib.byteCells (t ++ s.data.toList) ++ [Value.int .u8 32] = Lib.byteCells (t ++ s.data.toList ++ [32]) := by simp [Lib.byteCells]
  rw [e2] at h2
  go_wp2_with fail
  refine (itoa_any n _ (hT _ X2) hn).mono ?_; rintro e w3 ⟨rfl, x3⟩
  have h3 := h2.ext x3
  have X3 : Below B w w3 := X2.trans (Below.mono x3 hb2)
  have hb3 := Nat.le_trans hb X3.size
  go_wp2_with fail
  refine (wstr_any B b _ _ _ (.inr h3) (by
    rw [Lib.byteCells_length, hsi, List.length_append, List.length_append, hsl]
    simp only [List.length_cons, List.length_nil]
    omega) hb3).mono ?_; rintro e w4 ⟨rfl, h4, x4, k4⟩
  go_wp2
  go_end0
  refine ⟨rfl, ?_, X3.trans x4, ((k1.trans k2).trans (KpB.of_ext b x3)).trans k4⟩
  rw [strCells_bytes, byteCells_app] at h4
  have e4 : t ++ s.data.toList ++ [32] ++ (Lib.itoa n).toArray.toList = t ++ stepT s n := by simp [stepT]
  have h4' : BuU B b (Lib.byteCells (t ++ s.data.toList ++ [32] ++ (Lib.itoa n).toArray.toList)) w4 := h4
  rw [e4] at h4'
  exact h4'
end Go.Proofs.YtgohlhgapboijaaDoor
