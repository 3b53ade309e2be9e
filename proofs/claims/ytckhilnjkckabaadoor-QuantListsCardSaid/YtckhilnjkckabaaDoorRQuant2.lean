/- kinref9.Bound, Level, Value: contracts over this seat's translation. -/
import Derived.Test.YtckhilnjkckabaaDoorRQuant
import Derived.BigRegion
namespace Go.Proofs.YtckhilnjkckabaaDoor
set_option linter.unusedVariables false
set_option linter.unusedSimpArgs false
open Go.RowKit Go.Extern.Stop Go.Stop Go.Extern

/-- what the document's Step answers, either way -/
def RStep (qp s k : Int) : Prop := ∀ W, Calls Tryd.prog 35 #[.int .i64 qp] W fun e w' => e = .returned (.tuple #[.int .i64 s, .agg #[.int .i64 k, .slice none 0 0]]) ∧ Ext W w'

set_option maxRecDepth 100000 in
set_option maxHeartbeats 1000000 in
theorem rlevel_no (c qp s k : Int) (w : World) (h : k ≠ 0 ∨ k = 0 ∧ (c < -16777216 ∨ 16777216 < c)) (f : Hid (RStep qp s k)) :
    Calls Tryd.prog 36 #[.int .i64 c, .int .i64 qp] w fun e w' => e = .returned (.tuple #[.int .i64 0, .agg #[.int .i64 3, .slice none 0 0]]) ∧ Ext w w' := by
  rcases h with hk | ⟨rfl, hc | hc⟩
  · have hk' : (k == 0) = false := by simpa using hk
    clear hk
    go_enter Tryd.func36, Tryd.ntmps36
    go_wp2_with fail
    refine (f.out _).mono ?_; rintro e w1 ⟨rfl, hx1⟩
    have R1 := (ResAt.new w).ext hx1
    have E1 : Ext w w1 := ((Ext.refl w).alloc _).trans hx1
    have hsz : w.heap.size < w1.heap.size := Ext.lt R1.1
    clear hx1
    go_wp2_with fail
    refine (ok_any k _ _).mono ?_; rintro e w2 ⟨rfl, hx2⟩
    have EA := ((Ext.refl w1).alloc (.cells #[.int .i64 k, .slice none 0 0] 35)).trans hx2
    have R2 := R1.ext EA
    have E2 : Ext w w2 := E1.trans EA
    have q0 := hx2.cell (p := ⟨w1.heap.size, 0, none⟩) (v := .int .i64 k) (by simp)
    have q1 := hx2.cell (p := ⟨w1.heap.size, 1, none⟩) (v := .slice none 0 0) (by simp)
    clear hx2 EA
    rw [hk']
    go_wp2_with fail
    refine (fail_any 3 _).mono ?_; rintro e w3 ⟨rfl, hx3⟩
    obtain ⟨r0, r1, f0, f1⟩ := R2.ext hx3
    have E3 : Ext w w3 := E2.trans hx3
    clear hx3 R2 E2
    go_wp2
    obtain ⟨e0, e1⟩ := res_cells (c := 3) r0 r1 (.slice none 0 0)
    exact bodyPost_ret (v := .tuple #[.int .i64 0, .agg #[.int .i64 3, .slice none 0 0]]) (by simp [results, Tryd.results36, go_sem, e0, e1]) rfl ⟨rfl, (E3.setCell (Nat.le_refl _) _).setCell (Nat.le_refl _) _⟩
  · go_enter Tryd.func36, Tryd.ntmps36
    go_wp2_with fail
    refine (f.out _).mono ?_; rintro e w1 ⟨rfl, hx1⟩
    have R1 := (ResAt.new w).ext hx1
    have E1 : Ext w w1 := ((Ext.refl w).alloc _).trans hx1
    have hsz : w.heap.size < w1.heap.size := Ext.lt R1.1
    clear hx1
    go_wp2_with fail
    refine (ok_any 0 _ _).mono ?_; rintro e w2 ⟨rfl, hx2⟩
    have EA := ((Ext.refl w1).alloc (.cells #[.int .i64 0, .slice none 0 0] 35)).trans hx2
    have R2 := R1.ext EA
    have E2 : Ext w w2 := E1.trans EA
    have q0 := hx2.cell (p := ⟨w1.heap.size, 0, none⟩) (v := .int .i64 0) (by simp)
    have q1 := hx2.cell (p := ⟨w1.heap.size, 1, none⟩) (v := .slice none 0 0) (by simp)
    clear hx2 EA
    rw [show ((0 : Int) == 0) = true from rfl]
    go_wp2_with fail
    refine (fail_any 3 _).mono ?_; rintro e w3 ⟨rfl, hx3⟩
    obtain ⟨r0, r1, f0, f1⟩ := R2.ext hx3
    have E3 : Ext w w3 := E2.trans hx3
    clear hx3 R2 E2
    go_wp2
    obtain ⟨e0, e1⟩ := res_cells (c := 3) r0 r1 (.slice none 0 0)
    exact bodyPost_ret (v := .tuple #[.int .i64 0, .agg #[.int .i64 3, .slice none 0 0]]) (by simp [results, Tryd.results36, go_sem, e0, e1]) rfl ⟨rfl, (E3.setCell (Nat.le_refl _) _).setCell (Nat.le_refl _) _⟩
  · go_enter Tryd.func36, Tryd.ntmps36
    go_wp2_with fail
    refine (f.out _).mono ?_; rintro e w1 ⟨rfl, hx1⟩
    have R1 := (ResAt.new w).ext hx1
    have E1 : Ext w w1 := ((Ext.refl w).alloc _).trans hx1
    have hsz : w.heap.size < w1.heap.size := Ext.lt R1.1
    clear hx1
    go_wp2_with fail
    refine (ok_any 0 _ _).mono ?_; rintro e w2 ⟨rfl, hx2⟩
    have EA := ((Ext.refl w1).alloc (.cells #[.int .i64 0, .slice none 0 0] 35)).trans hx2
    have R2 := R1.ext EA
    have E2 : Ext w w2 := E1.trans EA
    have q0 := hx2.cell (p := ⟨w1.heap.size, 0, none⟩) (v := .int .i64 0) (by simp)
    have q1 := hx2.cell (p := ⟨w1.heap.size, 1, none⟩) (v := .slice none 0 0) (by simp)
    clear hx2 EA
    rw [show ((0 : Int) == 0) = true from rfl]
    go_wp2_with fail
    refine (fail_any 3 _).mono ?_; rintro e w3 ⟨rfl, hx3⟩
    obtain ⟨r0, r1, f0, f1⟩ := R2.ext hx3
    have E3 : Ext w w3 := E2.trans hx3
    clear hx3 R2 E2
    go_wp2
    obtain ⟨e0, e1⟩ := res_cells (c := 3) r0 r1 (.slice none 0 0)
    exact bodyPost_ret (v := .tuple #[.int .i64 0, .agg #[.int .i64 3, .slice none 0 0]]) (by simp [results, Tryd.results36, go_sem, e0, e1]) rfl ⟨rfl, (E3.setCell (Nat.le_refl _) _).setCell (Nat.le_refl _) _⟩

set_option maxRecDepth 100000 in
set_option maxHeartbeats 1000000 in
theorem rvalue_no (l qp s k : Int) (w : World) (h : k ≠ 0 ∨ k = 0 ∧ (l < -16320 ∨ 16320 < l)) (f : Hid (RStep qp s k)) :
    Calls Tryd.prog 37 #[.int .i64 l, .int .i64 qp] w fun e w' => e = .returned (.tuple #[.int .i64 0, .agg #[.int .i64 3, .slice none 0 0]]) ∧ Ext w w' := by
  rcases h with hk | ⟨rfl, hc | hc⟩
  · have hk' : (k == 0) = false := by simpa using hk
    clear hk
    go_enter Tryd.func37, Tryd.ntmps37
    go_wp2_with fail
    refine (f.out _).mono ?_; rintro e w1 ⟨rfl, hx1⟩
    have R1 := (ResAt.new w).ext hx1
    have E1 : Ext w w1 := ((Ext.refl w).alloc _).trans hx1
    have hsz : w.heap.size < w1.heap.size := Ext.lt R1.1
    clear hx1
    go_wp2_with fail
    refine (ok_any k _ _).mono ?_; rintro e w2 ⟨rfl, hx2⟩
    have EA := ((Ext.refl w1).alloc (.cells #[.int .i64 k, .slice none 0 0] 35)).trans hx2
    have R2 := R1.ext EA
    have E2 : Ext w w2 := E1.trans EA
    have q0 := hx2.cell (p := ⟨w1.heap.size, 0, none⟩) (v := .int .i64 k) (by simp)
    have q1 := hx2.cell (p := ⟨w1.heap.size, 1, none⟩) (v := .slice none 0 0) (by simp)
    clear hx2 EA
    rw [hk']
    go_wp2_with fail
    refine (fail_any 3 _).mono ?_; rintro e w3 ⟨rfl, hx3⟩
    obtain ⟨r0, r1, f0, f1⟩ := R2.ext hx3
    have E3 : Ext w w3 := E2.trans hx3
    clear hx3 R2 E2
    go_wp2
    obtain ⟨e0, e1⟩ := res_cells (c := 3) r0 r1 (.slice none 0 0)
    exact bodyPost_ret (v := .tuple #[.int .i64 0, .agg #[.int .i64 3, .slice none 0 0]]) (by simp [results, Tryd.results37, go_sem, e0, e1]) rfl ⟨rfl, (E3.setCell (Nat.le_refl _) _).setCell (Nat.le_refl _) _⟩
  · go_enter Tryd.func37, Tryd.ntmps37
    go_wp2_with fail
    refine (f.out _).mono ?_; rintro e w1 ⟨rfl, hx1⟩
    have R1 := (ResAt.new w).ext hx1
    have E1 : Ext w w1 := ((Ext.refl w).alloc _).trans hx1
    have hsz : w.heap.size < w1.heap.size := Ext.lt R1.1
    clear hx1
    go_wp2_with fail
    refine (ok_any 0 _ _).mono ?_; rintro e w2 ⟨rfl, hx2⟩
    have EA := ((Ext.refl w1).alloc (.cells #[.int .i64 0, .slice none 0 0] 35)).trans hx2
    have R2 := R1.ext EA
    have E2 : Ext w w2 := E1.trans EA
    have q0 := hx2.cell (p := ⟨w1.heap.size, 0, none⟩) (v := .int .i64 0) (by simp)
    have q1 := hx2.cell (p := ⟨w1.heap.size, 1, none⟩) (v := .slice none 0 0) (by simp)
    clear hx2 EA
    rw [show ((0 : Int) == 0) = true from rfl]
    go_wp2_with fail
    refine (fail_any 3 _).mono ?_; rintro e w3 ⟨rfl, hx3⟩
    obtain ⟨r0, r1, f0, f1⟩ := R2.ext hx3
    have E3 : Ext w w3 := E2.trans hx3
    clear hx3 R2 E2
    go_wp2
    obtain ⟨e0, e1⟩ := res_cells (c := 3) r0 r1 (.slice none 0 0)
    exact bodyPost_ret (v := .tuple #[.int .i64 0, .agg #[.int .i64 3, .slice none 0 0]]) (by simp [results, Tryd.results37, go_sem, e0, e1]) rfl ⟨rfl, (E3.setCell (Nat.le_refl _) _).setCell (Nat.le_refl _) _⟩
  · go_enter Tryd.func37, Tryd.ntmps37
    go_wp2_with fail
    refine (f.out _).mono ?_; rintro e w1 ⟨rfl, hx1⟩
    have R1 := (ResAt.new w).ext hx1
    have E1 : Ext w w1 := ((Ext.refl w).alloc _).trans hx1
    have hsz : w.heap.size < w1.heap.size := Ext.lt R1.1
    clear hx1
    go_wp2_with fail
    refine (ok_any 0 _ _).mono ?_; rintro e w2 ⟨rfl, hx2⟩
    have EA := ((Ext.refl w1).alloc (.cells #[.int .i64 0, .slice none 0 0] 35)).trans hx2
    have R2 := R1.ext EA
    have E2 : Ext w w2 := E1.trans EA
    have q0 := hx2.cell (p := ⟨w1.heap.size, 0, none⟩) (v := .int .i64 0) (by simp)
    have q1 := hx2.cell (p := ⟨w1.heap.size, 1, none⟩) (v := .slice none 0 0) (by simp)
    clear hx2 EA
    rw [show ((0 : Int) == 0) = true from rfl]
    go_wp2_with fail
    refine (fail_any 3 _).mono ?_; rintro e w3 ⟨rfl, hx3⟩
    obtain ⟨r0, r1, f0, f1⟩ := R2.ext hx3
    have E3 : Ext w w3 := E2.trans hx3
    clear hx3 R2 E2
    go_wp2
    obtain ⟨e0, e1⟩ := res_cells (c := 3) r0 r1 (.slice none 0 0)
    exact bodyPost_ret (v := .tuple #[.int .i64 0, .agg #[.int .i64 3, .slice none 0 0]]) (by simp [results, Tryd.results37, go_sem, e0, e1]) rfl ⟨rfl, (E3.setCell (Nat.le_refl _) _).setCell (Nat.le_refl _) _⟩

set_option maxRecDepth 100000 in
set_option maxHeartbeats 1000000 in
theorem rlevel_ok (c qp : Int) (w : World) (hc : okC c) (h : okQ qp) (f : Hid (RStep qp (stepOf qp) 0)) :
    Calls Tryd.prog 36 #[.int .i64 c, .int .i64 qp] w fun e w' => e = .returned (.tuple #[.int .i64 (levelOf c qp), .agg #[.int .i64 0, .slice none 0 0]]) ∧ Ext w w' := by
  obtain ⟨s0, s1⟩ := stepOf_ok h
  obtain ⟨c0, c1⟩ := hc
  clear h
  by_cases hn : c < 0
  · have hl : levelOf c qp = -((-c + stepOf qp / 2) / stepOf qp) := if_pos hn
    rw [hl]
    have d0 : 0 ≤ (-c + stepOf qp / 2) / stepOf qp := Int.ediv_nonneg (by omega) (by omega)
    have d1 : (-c + stepOf qp / 2) / stepOf qp ≤ 16777408 := Int.le_trans (Int.ediv_le_self _ (by omega)) (by omega)
    clear hl
    go_enter Tryd.func36, Tryd.ntmps36
    go_wp2_with fail
    refine (f.out _).mono ?_; rintro e w1 ⟨rfl, hx1⟩
    have R1 := (ResAt.new w).ext hx1
    have E1 : Ext w w1 := ((Ext.refl w).alloc _).trans hx1
    have hsz : w.heap.size < w1.heap.size := Ext.lt R1.1
    clear hx1
    go_wp2_with fail
    refine (ok_any 0 _ _).mono ?_; rintro e w2 ⟨rfl, hx2⟩
    have EA := ((Ext.refl w1).alloc (.cells #[.int .i64 0, .slice none 0 0] 35)).trans hx2
    have R2 := R1.ext EA
    have E2 : Ext w w2 := E1.trans EA
    have q0 := hx2.cell (p := ⟨w1.heap.size, 0, none⟩) (v := .int .i64 0) (by simp)
    have q1 := hx2.cell (p := ⟨w1.heap.size, 1, none⟩) (v := .slice none 0 0) (by simp)
    clear hx2 EA
    rw [show ((0 : Int) == 0) = true from rfl]
    obtain ⟨r0, r1, f0, f1⟩ := R2
    go_wp2
    go_region
    go_wp2
    obtain ⟨e0, e1⟩ := res_cells (c := 0) r0 r1 (.slice none 0 0)
    exact bodyPost_ret (v := .tuple #[.int .i64 (-((-c + stepOf qp / 2) / stepOf qp)), .agg #[.int .i64 0, .slice none 0 0]]) (by simp [results, Tryd.results36, go_sem, e0, e1]) rfl ⟨rfl, ((E2.setCell (p := ⟨w.heap.size, 0, none⟩) (Nat.le_refl _) _).setCell (p := ⟨w.heap.size, 1, none⟩) (Nat.le_refl _) _).drew⟩
  · have hl : levelOf c qp = (c + stepOf qp / 2) / stepOf qp := if_neg hn
    rw [hl]
    clear hl
    go_enter Tryd.func36, Tryd.ntmps36
    go_wp2_with fail
    refine (f.out _).mono ?_; rintro e w1 ⟨rfl, hx1⟩
    have R1 := (ResAt.new w).ext hx1
    have E1 : Ext w w1 := ((Ext.refl w).alloc _).trans hx1
    have hsz : w.heap.size < w1.heap.size := Ext.lt R1.1
    clear hx1
    go_wp2_with fail
    refine (ok_any 0 _ _).mono ?_; rintro e w2 ⟨rfl, hx2⟩
    have EA := ((Ext.refl w1).alloc (.cells #[.int .i64 0, .slice none 0 0] 35)).trans hx2
    have R2 := R1.ext EA
    have E2 : Ext w w2 := E1.trans EA
    have q0 := hx2.cell (p := ⟨w1.heap.size, 0, none⟩) (v := .int .i64 0) (by simp)
    have q1 := hx2.cell (p := ⟨w1.heap.size, 1, none⟩) (v := .slice none 0 0) (by simp)
    clear hx2 EA
    rw [show ((0 : Int) == 0) = true from rfl]
    obtain ⟨r0, r1, f0, f1⟩ := R2
    go_wp2
    go_region
    go_wp2
    obtain ⟨e0, e1⟩ := res_cells (c := 0) r0 r1 (.slice none 0 0)
    exact bodyPost_ret (v := .tuple #[.int .i64 ((c + stepOf qp / 2) / stepOf qp), .agg #[.int .i64 0, .slice none 0 0]]) (by simp [results, Tryd.results36, go_sem, e0, e1]) rfl ⟨rfl, ((E2.setCell (p := ⟨w.heap.size, 0, none⟩) (Nat.le_refl _) _).setCell (p := ⟨w.heap.size, 1, none⟩) (Nat.le_refl _) _).drew⟩

set_option maxRecDepth 100000 in
set_option maxHeartbeats 1000000 in
theorem rvalue_ok (l qp : Int) (w : World) (hl : okL l) (h : okQ qp) (f : Hid (RStep qp (stepOf qp) 0)) :
    Calls Tryd.prog 37 #[.int .i64 l, .int .i64 qp] w fun e w' => e = .returned (.tuple #[.int .i64 (l * stepOf qp), .agg #[.int .i64 0, .slice none 0 0]]) ∧ Ext w w' := by
  obtain ⟨s0, s1⟩ := stepOf_ok h
  obtain ⟨c0, c1⟩ := hl
  have m0 : -6266880 ≤ l * stepOf qp ∧ l * stepOf qp ≤ 6266880 := by
    have a := Int.mul_le_mul_of_nonneg_right c1 (show 0 ≤ stepOf qp by omega)
    have b := Int.mul_le_mul_of_nonneg_right c0 (show 0 ≤ stepOf qp by omega)
    omega
  obtain ⟨m1, m2⟩ := m0
  clear h
  · skip
    go_enter Tryd.func37, Tryd.ntmps37
    go_wp2_with fail
    refine (f.out _).mono ?_; rintro e w1 ⟨rfl, hx1⟩
    have R1 := (ResAt.new w).ext hx1
    have E1 : Ext w w1 := ((Ext.refl w).alloc _).trans hx1
    have hsz : w.heap.size < w1.heap.size := Ext.lt R1.1
    clear hx1
    go_wp2_with fail
    refine (ok_any 0 _ _).mono ?_; rintro e w2 ⟨rfl, hx2⟩
    have EA := ((Ext.refl w1).alloc (.cells #[.int .i64 0, .slice none 0 0] 35)).trans hx2
    have R2 := R1.ext EA
    have E2 : Ext w w2 := E1.trans EA
    have q0 := hx2.cell (p := ⟨w1.heap.size, 0, none⟩) (v := .int .i64 0) (by simp)
    have q1 := hx2.cell (p := ⟨w1.heap.size, 1, none⟩) (v := .slice none 0 0) (by simp)
    clear hx2 EA
    rw [show ((0 : Int) == 0) = true from rfl]
    obtain ⟨r0, r1, f0, f1⟩ := R2
    go_wp2
    go_region
    go_wp2
    obtain ⟨e0, e1⟩ := res_cells (c := 0) r0 r1 (.slice none 0 0)
    exact bodyPost_ret (v := .tuple #[.int .i64 (l * stepOf qp), .agg #[.int .i64 0, .slice none 0 0]]) (by simp [results, Tryd.results37, go_sem, e0, e1]) rfl ⟨rfl, ((E2.setCell (p := ⟨w.heap.size, 0, none⟩) (Nat.le_refl _) _).setCell (p := ⟨w.heap.size, 1, none⟩) (Nat.le_refl _) _).drew⟩

theorem rstep_is {qp : Int} (h : okQ qp) : RStep qp (stepOf qp) 0 := fun W => rstep_ok qp W h
theorem rstep_isno {qp : Int} (h : ¬ okQ qp) : RStep qp 0 3 := fun W => rstep_no qp W h
end Go.Proofs.YtckhilnjkckabaaDoor
