/- kinref8.side, kinref8.Forward, and kinref8.Inverse where it refuses: contracts over this seat's translation. -/
import Derived.Test.YtbmknmenaaanaaaDoorRSums
import Derived.Test.YtbmknmenaaanaaaDoorRWMath
import Derived.Test.YtbmknmenaaanaaaDoorRes
import Derived.Test.YtbmknmenaaanaaaDoorInts
namespace Go.Proofs.YtbmknmenaaanaaaDoor
set_option linter.unusedVariables false
set_option linter.unusedSimpArgs false
open Go.RowKit Go.Extern.Stop Go.Stop Go.Extern

/-- what a list or the document's error of a code alone is answered by -/
def RBPost (w : World) (ans : Option Int) (out : List Int) (e : Ending) (w' : World) : Prop :=
  ∃ u k, e = .returned (.tuple #[u, .agg #[.int .i64 k, .slice none 0 0]]) ∧ Ext w w' ∧ match ans with
    | none => Ints w' u out ∧ k = 0
    | some k' => u = .slice none 0 0 ∧ k = k'
def sideN (k : Nat) : Nat := if k = 16 then 4 else if k = 64 then 8 else 0
theorem rside_any (k : Nat) (w : World) : Calls Tryd.prog 47 #[.int .i64 k] w fun e w' => e = .returned (.int .i64 (sideN k)) ∧ w' = w := by
  by_cases h1 : k = 16
  · subst h1
    go_enter Tryd.func47, Tryd.ntmps47
    go_wp2
    go_ret
    exact ⟨rfl, rfl⟩
  · by_cases h2 : k = 64
    · subst h2
      go_enter Tryd.func47, Tryd.ntmps47
      go_wp2
      go_ret
      exact ⟨rfl, rfl⟩
    · have b1 : ((k : Int) == 16) = false := by simp; omega
      have b2 : ((k : Int) == 64) = false := by simp; omega
      have HS : Hid (sideN k = 0) := by show _ = _; unfold sideN; rw [if_neg h1, if_neg h2]
      have b3 : ((16 : Int) == k) = false := by simp; omega
      have b4 : ((64 : Int) == k) = false := by simp; omega
      go_enter Tryd.func47, Tryd.ntmps47
      go_wp2
      go_ret
      exact ⟨by rw [HS.out]; rfl, rfl⟩

set_option maxRecDepth 20000 in
set_option maxHeartbeats 1000000 in
theorem rforward_fit (n : Nat) (v : Value) (w : World) (hv : ∃ a cap, v = .slice a n cap) (h1 : n ≠ 16) (h2 : n ≠ 64) (out : List Int) :
    Calls Tryd.prog 18 #[v] w (RBPost w (some 14) out) := by
  have HS : Hid (sideN n = 0) := by show _ = _; unfold sideN; rw [if_neg h1, if_neg h2]
  have R1 := ResAt.new w
  have E1 : Ext w (w.alloc (.cells #[.int .i64 0, .slice none 0 0] 32)) := (Ext.refl w).alloc _
  obtain ⟨a, cap, rfl⟩ := hv
  clear h1 h2
  go_enter Tryd.func18, Tryd.ntmps18
  go_wp2_with fail
  refine (rside_any n _).mono ?_; rintro e w1 ⟨rfl, rfl⟩
  rw [HS.out]
  go_wp2_with fail
  refine (fail_any 14 _).mono ?_; rintro e w9 ⟨rfl, hx9⟩
  have EE : Ext w w9 := E1.trans hx9
  obtain ⟨r0, r1, f0, f1⟩ := R1.ext hx9
  clear R1 E1 hx9
  go_wp2
  obtain ⟨e0, e1⟩ := res_cells (c := 14) r0 r1 (.slice none 0 0)
  exact bodyPost_ret (v := .tuple #[.slice none 0 0, .agg #[.int .i64 14, .slice none 0 0]]) (by simp [results, Tryd.results18, go_sem, e0, e1]) rfl ⟨_, _, rfl, (EE.setCell (by simp) _).setCell (by simp) _, rfl, rfl⟩

set_option maxRecDepth 20000 in
set_option maxHeartbeats 1000000 in
theorem rforward_range (zs : List Int) (N n : Nat) (v : Value) (w : World) (ha : Ints w v zs) (hN : N = zs.length) (hn : n = 4 ∧ N = 16 ∨ n = 8 ∧ N = 64) (hw : ¬ within (-65536) 65536 zs) (out : List Int) :
    Calls Tryd.prog 18 #[v] w (RBPost w (some 3) out) := by
  have HS : Hid (sideN N = n) := by show _ = _; rcases hn with ⟨rfl, rfl⟩ | ⟨rfl, rfl⟩ <;> rfl
  have b0 : 1 ≤ n ∧ n ≤ 8 := by omega
  have HW := Lib.hid hw
  have R1 := ResAt.new w
  have E1 : Ext w (w.alloc (.cells #[.int .i64 0, .slice none 0 0] 32)) := (Ext.refl w).alloc _
  obtain ⟨a, cap, rfl⟩ := ha.form
  rw [← hN] at ha ⊢
  clear hw hn hN
  go_enter Tryd.func18, Tryd.ntmps18
  go_wp2_with fail
  refine (rside_any N _).mono ?_; rintro e w1 ⟨rfl, rfl⟩
  rw [HS.out]
  go_wp2_with fail
  refine (within_any zs _ _ _ _ (ha.ext E1)).mono ?_; rintro e w2 ⟨rfl, hx2⟩
  rw [decide_eq_false HW.out]
  have E2 := E1.trans hx2
  have R2 := R1.ext hx2
  clear R1 E1 hx2
  go_wp2_with fail
  refine (fail_any 3 _).mono ?_; rintro e w9 ⟨rfl, hx9⟩
  have EE : Ext w w9 := E2.trans hx9
  obtain ⟨r0, r1, f0, f1⟩ := R2.ext hx9
  clear R2 E2 hx9
  go_wp2
  obtain ⟨e0, e1⟩ := res_cells (c := 3) r0 r1 (.slice none 0 0)
  exact bodyPost_ret (v := .tuple #[.slice none 0 0, .agg #[.int .i64 3, .slice none 0 0]]) (by simp [results, Tryd.results18, go_sem, e0, e1]) rfl ⟨_, _, rfl, (EE.setCell (by simp) _).setCell (by simp) _, rfl, rfl⟩

set_option maxRecDepth 20000 in
set_option maxHeartbeats 1000000 in
theorem rinverse_fit (n : Nat) (v : Value) (w : World) (hv : ∃ a cap, v = .slice a n cap) (h1 : n ≠ 16) (h2 : n ≠ 64) (out : List Int) :
    Calls Tryd.prog 20 #[v] w (RBPost w (some 14) out) := by
  have HS : Hid (sideN n = 0) := by show _ = _; unfold sideN; rw [if_neg h1, if_neg h2]
  have R1 := ResAt.new w
  have E1 : Ext w (w.alloc (.cells #[.int .i64 0, .slice none 0 0] 32)) := (Ext.refl w).alloc _
  obtain ⟨a, cap, rfl⟩ := hv
  clear h1 h2
  go_enter Tryd.func20, Tryd.ntmps20
  go_wp2_with fail
  refine (rside_any n _).mono ?_; rintro e w1 ⟨rfl, rfl⟩
  rw [HS.out]
  go_wp2_with fail
  refine (fail_any 14 _).mono ?_; rintro e w9 ⟨rfl, hx9⟩
  have EE : Ext w w9 := E1.trans hx9
  obtain ⟨r0, r1, f0, f1⟩ := R1.ext hx9
  clear R1 E1 hx9
  go_wp2
  obtain ⟨e0, e1⟩ := res_cells (c := 14) r0 r1 (.slice none 0 0)
  exact bodyPost_ret (v := .tuple #[.slice none 0 0, .agg #[.int .i64 14, .slice none 0 0]]) (by simp [results, Tryd.results20, go_sem, e0, e1]) rfl ⟨_, _, rfl, (EE.setCell (by simp) _).setCell (by simp) _, rfl, rfl⟩

set_option maxRecDepth 20000 in
set_option maxHeartbeats 1000000 in
theorem rinverse_range (zs : List Int) (N n : Nat) (v : Value) (w : World) (ha : Ints w v zs) (hN : N = zs.length) (hn : n = 4 ∧ N = 16 ∨ n = 8 ∧ N = 64) (hw : ¬ within (-16777216) 16777216 zs) (out : List Int) :
    Calls Tryd.prog 20 #[v] w (RBPost w (some 3) out) := by
  have HS : Hid (sideN N = n) := by show _ = _; rcases hn with ⟨rfl, rfl⟩ | ⟨rfl, rfl⟩ <;> rfl
  have b0 : 1 ≤ n ∧ n ≤ 8 := by omega
  have HW := Lib.hid hw
  have R1 := ResAt.new w
  have E1 : Ext w (w.alloc (.cells #[.int .i64 0, .slice none 0 0] 32)) := (Ext.refl w).alloc _
  obtain ⟨a, cap, rfl⟩ := ha.form
  rw [← hN] at ha ⊢
  clear hw hn hN
  go_enter Tryd.func20, Tryd.ntmps20
  go_wp2_with fail
  refine (rside_any N _).mono ?_; rintro e w1 ⟨rfl, rfl⟩
  rw [HS.out]
  go_wp2_with fail
  refine (within_any zs _ _ _ _ (ha.ext E1)).mono ?_; rintro e w2 ⟨rfl, hx2⟩
  rw [decide_eq_false HW.out]
  have E2 := E1.trans hx2
  have R2 := R1.ext hx2
  clear R1 E1 hx2
  go_wp2_with fail
  refine (fail_any 3 _).mono ?_; rintro e w9 ⟨rfl, hx9⟩
  have EE : Ext w w9 := E2.trans hx9
  obtain ⟨r0, r1, f0, f1⟩ := R2.ext hx9
  clear R2 E2 hx9
  go_wp2
  obtain ⟨e0, e1⟩ := res_cells (c := 3) r0 r1 (.slice none 0 0)
  exact bodyPost_ret (v := .tuple #[.slice none 0 0, .agg #[.int .i64 3, .slice none 0 0]]) (by simp [results, Tryd.results20, go_sem, e0, e1]) rfl ⟨_, _, rfl, (EE.setCell (by simp) _).setCell (by simp) _, rfl, rfl⟩

set_option maxRecDepth 20000 in
set_option maxHeartbeats 1000000 in
theorem rforward_ok (zs : List Int) (N n : Nat) (v : Value) (w : World) (ha : Ints w v zs) (hN : N = zs.length) (hn : n = 4 ∧ N = 16 ∨ n = 8 ∧ N = 64) (hw : within (-65536) 65536 zs) (out : List Int) (ho : Hid (out = rowL N fun i => psum n (fun t => zs.getD t 0) i (n * n))) :
    Calls Tryd.prog 18 #[v] w (RBPost w none out) := by
  have HS : Hid (sideN N = n) := by show _ = _; rcases hn with ⟨rfl, rfl⟩ | ⟨rfl, rfl⟩ <;> rfl
  have b0 : 1 ≤ n ∧ n ≤ 8 := by omega
  have bN : N ≤ 64 := by omega
  have HW := Lib.hid hw
  have R1 := ResAt.new w
  have E1 : Ext w (w.alloc (.cells #[.int .i64 0, .slice none 0 0] 32)) := (Ext.refl w).alloc _
  have SUM := Lib.hid (fun W h => rsums_any zs n v W h (by rw [← hN]; omega) (fun x hx => by have := hw x hx; omega))
  obtain ⟨a, cap, rfl⟩ := ha.form
  rw [← hN] at ha SUM ⊢
  clear hw hn hN
  go_enter Tryd.func18, Tryd.ntmps18
  go_wp2_with fail
  refine (rside_any N _).mono ?_; rintro e w1 ⟨rfl, rfl⟩
  rw [HS.out]
  go_wp2_with fail
  refine (within_any zs _ _ _ _ (ha.ext E1)).mono ?_; rintro e w2 ⟨rfl, hx2⟩
  rw [decide_eq_true HW.out]
  have E2 := E1.trans hx2
  have R2 := R1.ext hx2
  clear R1 hx2
  have lt2 : w.heap.size < w2.heap.size := Ext.lt R2.1
  go_wp2_with fail
  refine (SUM.out _ (ha.ext E2)).mono ?_; rintro e w9 ⟨u, rfl, hx9, hown⟩
  have EE : Ext w w9 := E2.trans hx9
  obtain ⟨r0, r1, f0, f1⟩ := R2.ext hx9
  have ho2 := ownsRow_setCell_below (ownsRow_setCell_below hown (a := ⟨w.heap.size, 0, none⟩) lt2 (.int .i64 0)) (a := ⟨w.heap.size, 1, none⟩) lt2 (.slice none 0 0)
  have ho3 := Ints.of_row ho2 (by omega)
  clear R2 E2 E1 hx9 SUM
  go_wp2
  obtain ⟨e0, e1⟩ := res_cells (c := 0) r0 r1 (.slice none 0 0)
  exact bodyPost_ret (v := .tuple #[u, .agg #[.int .i64 0, .slice none 0 0]]) (by simp [results, Tryd.results18, go_sem, e0, e1]) rfl ⟨_, _, rfl, (EE.setCell (by simp) _).setCell (by simp) _, by rw [ho.out]; exact ho3, rfl⟩
end Go.Proofs.YtbmknmenaaanaaaDoor
