/- Contracts of this seat: Quant, RQuant, RQuant2, QLists, RLevels. -/
import Derived.Test.YtcekpngkfldgkaaGreatDoorXTk
import Derived.Test.YtcekpngkfldgkaaGreatDoorXZa
import Derived.Test.YtcekpngkfldgkaaGreatDoorXZb
import Derived.BigRegion
namespace Go.Proofs.YtcekpngkfldgkaaGreatDoor
set_option linter.unusedVariables false
set_option linter.unusedSimpArgs false
open Go.RowKit Go.Extern.Stop Go.Stop Go.Extern
def stepOf : Int → Int
 | 0 => 1 | 1 => 2 | 2 => 4 | 3 => 6 | 4 => 8 | 5 => 12 | 6 => 16 | 7 => 24 | 8 => 32 | 9 => 48 | 10 => 64 | 11 => 96 | 12 => 128 | 13 => 192 | 14 => 256 | 15 => 384
 | _ => 0
def okQ (qp : Int) : Prop := 0 ≤ qp ∧ qp ≤ 15
theorem stepOf_ok {qp : Int} (h : okQ qp) : 1 ≤ stepOf qp ∧ stepOf qp ≤ 384 := by
 obtain ⟨h0, h1⟩ := h
 have : qp = 0 ∨ qp = 1 ∨ qp = 2 ∨ qp = 3 ∨ qp = 4 ∨ qp = 5 ∨ qp = 6 ∨ qp = 7 ∨ qp = 8 ∨ qp = 9 ∨ qp = 10 ∨ qp = 11 ∨ qp = 12 ∨ qp = 13 ∨ qp = 14 ∨ qp = 15 := by omega
 rcases this with h | h | h | h | h | h | h | h | h | h | h | h | h | h | h | h <;> subst h <;> decide
theorem step_ok (qp : Int) (w : World) (h : okQ qp) :
 Calls Tryz.prog 29 #[.int .i64 qp] w fun e w' => e = .returned (.tuple #[.int .i64 (stepOf qp), .nilIface]) ∧ w = w' := by
 obtain ⟨h0, h1⟩ := h
 have : qp = 0 ∨ qp = 1 ∨ qp = 2 ∨ qp = 3 ∨ qp = 4 ∨ qp = 5 ∨ qp = 6 ∨ qp = 7 ∨ qp = 8 ∨ qp = 9 ∨ qp = 10 ∨ qp = 11 ∨ qp = 12 ∨ qp = 13 ∨ qp = 14 ∨ qp = 15 := by omega
 clear h0 h1
 go_enter Tryz.func29, Tryz.ntmps29
 rcases this with h | h | h | h | h | h | h | h | h | h | h | h | h | h | h | h <;> subst h <;> go_wp2 <;> go_ret2 <;> exact ⟨rfl, rfl⟩
theorem step_no (qp : Int) (w : World) (h : ¬ okQ qp) :
 Calls Tryz.prog 29 #[.int .i64 qp] w fun e w' => e = .returned (.tuple #[.int .i64 0, .iface 40 (.int .i64 3)]) ∧ w = w' := by
 have n0 : (qp == 0) = false := by simp; rintro rfl; exact h ⟨by omega, by omega⟩
 have n1 : (qp == 1) = false := by simp; rintro rfl; exact h ⟨by omega, by omega⟩
 have n2 : (qp == 2) = false := by simp; rintro rfl; exact h ⟨by omega, by omega⟩
 have n3 : (qp == 3) = false := by simp; rintro rfl; exact h ⟨by omega, by omega⟩
 have n4 : (qp == 4) = false := by simp; rintro rfl; exact h ⟨by omega, by omega⟩
 have n5 : (qp == 5) = false := by simp; rintro rfl; exact h ⟨by omega, by omega⟩
 have n6 : (qp == 6) = false := by simp; rintro rfl; exact h ⟨by omega, by omega⟩
 have n7 : (qp == 7) = false := by simp; rintro rfl; exact h ⟨by omega, by omega⟩
 have n8 : (qp == 8) = false := by simp; rintro rfl; exact h ⟨by omega, by omega⟩
 have n9 : (qp == 9) = false := by simp; rintro rfl; exact h ⟨by omega, by omega⟩
 have n10 : (qp == 10) = false := by simp; rintro rfl; exact h ⟨by omega, by omega⟩
 have n11 : (qp == 11) = false := by simp; rintro rfl; exact h ⟨by omega, by omega⟩
 have n12 : (qp == 12) = false := by simp; rintro rfl; exact h ⟨by omega, by omega⟩
 have n13 : (qp == 13) = false := by simp; rintro rfl; exact h ⟨by omega, by omega⟩
 have n14 : (qp == 14) = false := by simp; rintro rfl; exact h ⟨by omega, by omega⟩
 have n15 : (qp == 15) = false := by simp; rintro rfl; exact h ⟨by omega, by omega⟩
 clear h
 go_enter Tryz.func29, Tryz.ntmps29
 go_wp2
 go_ret2
 exact ⟨rfl, rfl⟩
def okL (l : Int) : Prop := -16320 ≤ l ∧ l ≤ 16320
set_option maxRecDepth 20000 in
theorem value_ok (l qp : Int) (w : World) (hl : okL l) (h : okQ qp) :
 Calls Tryz.prog 159 #[.int .i64 l, .int .i64 qp] w fun e w' => e = .returned (.tuple #[.int .i64 (l * stepOf qp), .nilIface]) ∧ w = w' := by
 obtain ⟨s0, s1⟩ := stepOf_ok h
 obtain ⟨c0, c1⟩ := hl
 have m0 : -6266880 ≤ l * stepOf qp ∧ l * stepOf qp ≤ 6266880 := by
  have a := Int.mul_le_mul_of_nonneg_right c1 (show 0 ≤ stepOf qp by omega)
  have b := Int.mul_le_mul_of_nonneg_right c0 (show 0 ≤ stepOf qp by omega)
  omega
 obtain ⟨m1, m2⟩ := m0
 go_enter Tryz.func159, Tryz.ntmps159
 go_wp2_with (go_at_call 29; refine (step_ok _ _ h).mono ?_; rintro e w' ⟨rfl, rfl⟩)
 go_ret2
 exact ⟨rfl, rfl⟩
set_option maxRecDepth 20000 in
theorem value_noL (l qp : Int) (w : World) (hl : ¬ okL l) (h : okQ qp) :
 Calls Tryz.prog 159 #[.int .i64 l, .int .i64 qp] w fun e w' => e = .returned (.tuple #[.int .i64 0, .iface 40 (.int .i64 3)]) ∧ w = w' := by
 obtain ⟨s0, s1⟩ := stepOf_ok h
 have hc' : l < -16320 ∨ 16320 < l := by unfold okL at hl; omega
 clear hl
 rcases hc' with hc | hc
 · go_enter Tryz.func159, Tryz.ntmps159
   go_wp2_with (go_at_call 29; refine (step_ok _ _ h).mono ?_; rintro e w' ⟨rfl, rfl⟩)
   go_ret2
   exact ⟨rfl, rfl⟩
 · go_enter Tryz.func159, Tryz.ntmps159
   go_wp2_with (go_at_call 29; refine (step_ok _ _ h).mono ?_; rintro e w' ⟨rfl, rfl⟩)
   go_ret2
   exact ⟨rfl, rfl⟩
set_option maxRecDepth 20000 in
theorem rstep_no (qp : Int) (w : World) (h : ¬ okQ qp) :
 Calls Tryz.prog 139 #[.int .i64 qp] w fun e w' => e = .returned (.tuple #[.int .i64 0, .agg #[.int .i64 3, .slice none 0 0]]) ∧ Ext w w' := by
 have hq : qp < 0 ∨ 15 < qp := by unfold okQ at h; omega
 clear h
 rcases hq with hq | hq
 all_goals
  go_enter Tryz.func139, Tryz.ntmps139
  go_wp2_with fail
  refine (fail_any 3 _).mono ?_; rintro e w1 ⟨rfl, hx1⟩
  obtain ⟨r0, r1, f0, f1⟩ := (ResAt.new w).ext hx1
  go_wp2
  obtain ⟨e0, e1⟩ := res_cells (c := 3) r0 r1 (.slice none 0 0)
  exact bodyPost_ret (v := .tuple #[.int .i64 0, .agg #[.int .i64 3, .slice none 0 0]]) (by simp [results, Tryz.results139, go_sem, e0, e1]) rfl ⟨rfl, ((((Ext.refl w).alloc _).trans hx1).setCell (by simp) _).setCell (by simp) _⟩
set_option maxRecDepth 20000 in
set_option maxHeartbeats 2000000 in
theorem rstep_ok (qp : Int) (w : World) (h : okQ qp) :
 Calls Tryz.prog 139 #[.int .i64 qp] w fun e w' => e = .returned (.tuple #[.int .i64 (stepOf qp), .agg #[.int .i64 0, .slice none 0 0]]) ∧ Ext w w' := by
 obtain ⟨h0, h1⟩ := h
 have : qp = 0 ∨ qp = 1 ∨ qp = 2 ∨ qp = 3 ∨ qp = 4 ∨ qp = 5 ∨ qp = 6 ∨ qp = 7 ∨ qp = 8 ∨ qp = 9 ∨ qp = 10 ∨ qp = 11 ∨ qp = 12 ∨ qp = 13 ∨ qp = 14 ∨ qp = 15 := by omega
 clear h0 h1
 rcases this with h | h | h | h | h | h | h | h | h | h | h | h | h | h | h | h
 all_goals
  subst h
  go_enter Tryz.func139, Tryz.ntmps139
  go_wp2
  exact bodyPost_ret (v := .tuple #[.int .i64 (stepOf _), .agg #[.int .i64 0, .slice none 0 0]]) (by simp [results, Tryz.results139, go_sem, stepOf]) rfl ⟨rfl, ((Ext.refl w).alloc _).alloc _⟩
def RStep (qp s k : Int) : Prop := ∀ W, Calls Tryz.prog 139 #[.int .i64 qp] W fun e w' => e = .returned (.tuple #[.int .i64 s, .agg #[.int .i64 k, .slice none 0 0]]) ∧ Ext W w'
set_option maxRecDepth 100000 in
set_option maxHeartbeats 1000000 in
theorem rvalue_no (l qp s k : Int) (w : World) (h : k ≠ 0 ∨ k = 0 ∧ (l < -16320 ∨ 16320 < l)) (f : Hid (RStep qp s k)) :
 Calls Tryz.prog 140 #[.int .i64 l, .int .i64 qp] w fun e w' => e = .returned (.tuple #[.int .i64 0, .agg #[.int .i64 3, .slice none 0 0]]) ∧ Ext w w' := by
 rcases h with hk | ⟨rfl, hc | hc⟩
 · have hk' : (k == 0) = false := by simpa using hk
   clear hk
   go_enter Tryz.func140, Tryz.ntmps140
   go_wp2_with fail
   refine (f.out _).mono ?_; rintro e w1 ⟨rfl, hx1⟩
   have R1 := (ResAt.new w).ext hx1
   have E1 : Ext w w1 := ((Ext.refl w).alloc _).trans hx1
   have hsz : w.heap.size < w1.heap.size := Ext.lt R1.1
   clear hx1
   go_wp2_with fail
   refine (ok_any k _ _).mono ?_; rintro e w2 ⟨rfl, hx2⟩
   have EA := ((Ext.refl w1).alloc (.cells #[.int .i64 k, .slice none 0 0] 43)).trans hx2
   have R2 := R1.ext EA
   have E2 : Ext w w2 := E1.trans EA
   have q0 := hx2.cell (p := ⟨w1.heap.size, 0, none⟩) (v := .int .i64 k) (by simp)
   have q1 := hx2.cell (p := ⟨w1.heap.size, 1, none⟩) (v := .slice none 0 0) (by simp)
   clear hx2 EA
   rw [hk']
   go_wp2_with fail
   refine (fail_any 3 _).mono ?_; rintro e w3 ⟨rfl, hx3⟩
   obtain ⟨r0, r1, f0, f1⟩ := R2.ext hx3
   have E3 : Ext w w3 := E2.trans hx3
   clear hx3 R2 E2
   go_wp2
   obtain ⟨e0, e1⟩ := res_cells (c := 3) r0 r1 (.slice none 0 0)
   exact bodyPost_ret (v := .tuple #[.int .i64 0, .agg #[.int .i64 3, .slice none 0 0]]) (by simp [results, Tryz.results140, go_sem, e0, e1]) rfl ⟨rfl, (E3.setCell (Nat.le_refl _) _).setCell (Nat.le_refl _) _⟩
 · go_enter Tryz.func140, Tryz.ntmps140
   go_wp2_with fail
   refine (f.out _).mono ?_; rintro e w1 ⟨rfl, hx1⟩
   have R1 := (ResAt.new w).ext hx1
   have E1 : Ext w w1 := ((Ext.refl w).alloc _).trans hx1
   have hsz : w.heap.size < w1.heap.size := Ext.lt R1.1
   clear hx1
   go_wp2_with fail
   refine (ok_any 0 _ _).mono ?_; rintro e w2 ⟨rfl, hx2⟩
   have EA := ((Ext.refl w1).alloc (.cells #[.int .i64 0, .slice none 0 0] 43)).trans hx2
   have R2 := R1.ext EA
   have E2 : Ext w w2 := E1.trans EA
   have q0 := hx2.cell (p := ⟨w1.heap.size, 0, none⟩) (v := .int .i64 0) (by simp)
   have q1 := hx2.cell (p := ⟨w1.heap.size, 1, none⟩) (v := .slice none 0 0) (by simp)
   clear hx2 EA
   rw [show ((0 : Int) == 0) = true from rfl]
   go_wp2_with fail
   refine (fail_any 3 _).mono ?_; rintro e w3 ⟨rfl, hx3⟩
   obtain ⟨r0, r1, f0, f1⟩ := R2.ext hx3
   have E3 : Ext w w3 := E2.trans hx3
   clear hx3 R2 E2
   go_wp2
   obtain ⟨e0, e1⟩ := res_cells (c := 3) r0 r1 (.slice none 0 0)
   exact bodyPost_ret (v := .tuple #[.int .i64 0, .agg #[.int .i64 3, .slice none 0 0]]) (by simp [results, Tryz.results140, go_sem, e0, e1]) rfl ⟨rfl, (E3.setCell (Nat.le_refl _) _).setCell (Nat.le_refl _) _⟩
 · go_enter Tryz.func140, Tryz.ntmps140
   go_wp2_with fail
   refine (f.out _).mono ?_; rintro e w1 ⟨rfl, hx1⟩
   have R1 := (ResAt.new w).ext hx1
   have E1 : Ext w w1 := ((Ext.refl w).alloc _).trans hx1
   have hsz : w.heap.size < w1.heap.size := Ext.lt R1.1
   clear hx1
   go_wp2_with fail
   refine (ok_any 0 _ _).mono ?_; rintro e w2 ⟨rfl, hx2⟩
   have EA := ((Ext.refl w1).alloc (.cells #[.int .i64 0, .slice none 0 0] 43)).trans hx2
   have R2 := R1.ext EA
   have E2 : Ext w w2 := E1.trans EA
   have q0 := hx2.cell (p := ⟨w1.heap.size, 0, none⟩) (v := .int .i64 0) (by simp)
   have q1 := hx2.cell (p := ⟨w1.heap.size, 1, none⟩) (v := .slice none 0 0) (by simp)
   clear hx2 EA
   rw [show ((0 : Int) == 0) = true from rfl]
   go_wp2_with fail
   refine (fail_any 3 _).mono ?_; rintro e w3 ⟨rfl, hx3⟩
   obtain ⟨r0, r1, f0, f1⟩ := R2.ext hx3
   have E3 : Ext w w3 := E2.trans hx3
   clear hx3 R2 E2
   go_wp2
   obtain ⟨e0, e1⟩ := res_cells (c := 3) r0 r1 (.slice none 0 0)
   exact bodyPost_ret (v := .tuple #[.int .i64 0, .agg #[.int .i64 3, .slice none 0 0]]) (by simp [results, Tryz.results140, go_sem, e0, e1]) rfl ⟨rfl, (E3.setCell (Nat.le_refl _) _).setCell (Nat.le_refl _) _⟩
set_option maxRecDepth 100000 in
set_option maxHeartbeats 1000000 in
theorem rvalue_ok (l qp : Int) (w : World) (hl : okL l) (h : okQ qp) (f : Hid (RStep qp (stepOf qp) 0)) :
 Calls Tryz.prog 140 #[.int .i64 l, .int .i64 qp] w fun e w' => e = .returned (.tuple #[.int .i64 (l * stepOf qp), .agg #[.int .i64 0, .slice none 0 0]]) ∧ Ext w w' := by
 obtain ⟨s0, s1⟩ := stepOf_ok h
 obtain ⟨c0, c1⟩ := hl
 have m0 : -6266880 ≤ l * stepOf qp ∧ l * stepOf qp ≤ 6266880 := by
  have a := Int.mul_le_mul_of_nonneg_right c1 (show 0 ≤ stepOf qp by omega)
  have b := Int.mul_le_mul_of_nonneg_right c0 (show 0 ≤ stepOf qp by omega)
  omega
 obtain ⟨m1, m2⟩ := m0
 clear h
 · skip
   go_enter Tryz.func140, Tryz.ntmps140
   go_wp2_with fail
   refine (f.out _).mono ?_; rintro e w1 ⟨rfl, hx1⟩
   have R1 := (ResAt.new w).ext hx1
   have E1 : Ext w w1 := ((Ext.refl w).alloc _).trans hx1
   have hsz : w.heap.size < w1.heap.size := Ext.lt R1.1
   clear hx1
   go_wp2_with fail
   refine (ok_any 0 _ _).mono ?_; rintro e w2 ⟨rfl, hx2⟩
   have EA := ((Ext.refl w1).alloc (.cells #[.int .i64 0, .slice none 0 0] 43)).trans hx2
   have R2 := R1.ext EA
   have E2 : Ext w w2 := E1.trans EA
   have q0 := hx2.cell (p := ⟨w1.heap.size, 0, none⟩) (v := .int .i64 0) (by simp)
   have q1 := hx2.cell (p := ⟨w1.heap.size, 1, none⟩) (v := .slice none 0 0) (by simp)
   clear hx2 EA
   rw [show ((0 : Int) == 0) = true from rfl]
   obtain ⟨r0, r1, f0, f1⟩ := R2
   go_wp2
   go_region
   go_wp2
   obtain ⟨e0, e1⟩ := res_cells (c := 0) r0 r1 (.slice none 0 0)
   exact bodyPost_ret (v := .tuple #[.int .i64 (l * stepOf qp), .agg #[.int .i64 0, .slice none 0 0]]) (by simp [results, Tryz.results140, go_sem, e0, e1]) rfl ⟨rfl, ((E2.setCell (p := ⟨w.heap.size, 0, none⟩) (Nat.le_refl _) _).setCell (p := ⟨w.heap.size, 1, none⟩) (Nat.le_refl _) _).drew⟩
theorem rstep_is {qp : Int} (h : okQ qp) : RStep qp (stepOf qp) 0 := fun W => rstep_ok qp W h
theorem rstep_isno {qp : Int} (h : ¬ okQ qp) : RStep qp 0 3 := fun W => rstep_no qp W h
theorem Ints.hadq {w : World} {a : Option Addr} {n cap : Nat} {zs : List Int} (h : Ints w (.slice a n cap) zs) : 0 < n → ∃ g off, a = some ⟨g, off, none⟩ := fun h0 => by
 obtain ⟨⟨a', cap', e, _, _, h3, _⟩, _⟩ := h
 simp only [Value.slice.injEq] at e
 obtain ⟨rfl, rfl, rfl⟩ := e
 exact h3 h0
theorem rowL_congrq {N : Nat} {f g : Nat → Int} (h : ∀ j, j < N → f j = g j) : rowL N f = rowL N g := by
 unfold rowL
 apply List.map_congr_left
 intro j hj
 exact h j (List.mem_range.1 hj)
theorem zeros_rowq (n : Nat) : (madeCells (Value.int .i64 0).cells (n * 1)).toList = (rowL n fun _ => 0).map (Value.int .i64) := by
 apply List.ext_getElem?
 intro j
 by_cases hj : j < n <;> simp [madeCells, rowL, Value.cells, hj, Nat.mod_one]
def LPost (w : World) (ans : Option Int) (out : List Int) (e : Ending) (w' : World) : Prop :=
 ∃ u x, e = .returned (.tuple #[u, x]) ∧ Ext w w' ∧ match ans with
   | none => Ints w' u out ∧ x = .nilIface
   | some k => u = .slice none 0 0 ∧ x = .iface 40 (.int .i64 k)
def RLPost (w : World) (ans : Option Int) (out : List Int) (e : Ending) (w' : World) : Prop :=
 ∃ u k, e = .returned (.tuple #[u, .agg #[.int .i64 k, .slice none 0 0]]) ∧ Ext w w' ∧ match ans with
   | none => Ints w' u out ∧ k = 0
   | some k' => u = .slice none 0 0 ∧ k = k'
open Classical in
set_option maxHeartbeats 2000000 in
set_option maxRecDepth 20000 in
theorem eachValue_any (N : Nat) (X : Nat → Int) (qp : Int) (v : Value) (w : World) (hN : N ≤ 5000) (ha : Ints w v (rowL N X)) (h : okQ qp) (ans : Option Int) (hy : Hid ((∀ i, i < N → okL (X i)) → ans = none)) (hn : Hid ((∃ i, i < N ∧ ¬ okL (X i)) → ans = some 3)) :
 Calls Tryz.prog 158 #[v, .int .i64 qp, .func (.func 159) #[] #[]] w (LPost w ans (rowL N fun i => (X i) * stepOf qp)) := by
 obtain ⟨i0, hi, hz0, hz1, hz2⟩ := info_parts infoInt
 obtain ⟨a, cap, rfl⟩ := ha.form
 rw [rowL_length] at ha ⊢
 have AG := Lib.hid (Ints.hadq ha)
 have HQ := Lib.hid h
 clear h
 go_enter Tryz.func158, Tryz.ntmps158
 go_wp2_with fail
 refine (step_ok _ _ HQ.out).mono ?_; rintro e w1 ⟨rfl, rfl⟩
 go_wp2_with (at_make; refine wpList_make_full _ rfl _ _ 22 rfl w.heap.size 3 i0 (.int .i64 0) 1 Tryz.underlying22 hi hz0 hz1 .i64 .i64 _ _ N rfl rfl rfl rfl (by rw [hz2]; omega) (by unfold maxLen; omega) (Nat.le_refl _) ?_; intro w2 hown hgrow)
 have hE : Ext w w2 := Below.grown (Ext.refl w) hgrow (Nat.le_refl _) (fun k hk => by cases hk)
 rw [zeros_rowq] at hown
 clear hgrow hi hz0 hz1 hz2
 go_wp2
 go_loopw [28] (fun iv wr => ∃ k : Nat, k ≤ N ∧ iv = .int .i64 k ∧ Hid (∀ j, j < k → okL (X j)) ∧ Hid (wr.ownsRow w.heap.size 3 1 (.slice (some ⟨w.heap.size, 0, none⟩) N N) N ((rowL N fun j => if j < k then (X j) * stepOf qp else 0).map (Value.int .i64))) ∧ Ext w wr) (fun iv _ => N - (intOf iv).toNat)
 case atStart => exact ⟨0, Nat.zero_le _, rfl, fun j hj => absurd hj (Nat.not_lt_zero _), by show World.ownsRow _ _ _ _ _ _ _; simpa using hown, hE⟩
 case round =>
  obtain ⟨k, hk, rfl, HP, HO, hEr⟩ := hrel
  by_cases hlt : k < N
  · obtain ⟨x, hx⟩ : ∃ x, X k = x := ⟨_, rfl⟩
    obtain ⟨g, off, rfl⟩ := AG.out (by omega)
    have cx := hEr.cell (ha.at (rowL_get hlt))
    rw [hx] at cx
    obtain ⟨cz, fz⟩ := own_cell HO.out hlt
    rw [if_neg (Nat.lt_irrefl _)] at cz
    have HX := Lib.hid hx
    clear hx
    by_cases hp : okL x
    · have hf := fun W => value_ok x qp W hp HQ.out
      obtain ⟨y, hy'⟩ : ∃ y, x * stepOf qp = y := ⟨_, rfl⟩
      rw [hy'] at hf
      have HF := Lib.hid hf
      have HY : Hid ((X k) * stepOf qp = y) := by show _ = _; rw [HX.out, hy']
      have HPX := Lib.hid hp
      clear hf hy' hp
      go_wp2_with fail
      refine (HF.out _).mono ?_; rintro e w3 ⟨rfl, rfl⟩
      go_wp2
      go_roundw
      case rel =>
       refine ⟨k + 1, by omega, by go_num, ?_, ?_, ?_⟩
       · intro j hj
         by_cases hjk : j = k
         · subst hjk; rw [HX.out]; exact HPX.out
         · exact HP.out j (by omega)
       · have h := own_set (x := y) HO.out hlt
         rw [rowL_congrq (g := fun j => if j < k + 1 then (X j) * stepOf qp else 0) (fun i _ => by
          by_cases hik : i = k
          · subst hik
            rw [if_pos rfl, if_pos (by omega), HY.out]
          · rw [if_neg hik]
            by_cases h2 : i < k
            · rw [if_pos h2, if_pos (by omega)]
            · rw [if_neg h2, if_neg (by omega)])] at h
         exact h
       · exact Below.setCell hEr (Nat.le_refl _) _
      case measure => simp [intOf]; omega
    · have HF := Lib.hid (fun W => value_noL x qp W hp HQ.out)
      have HPX := Lib.hid hp
      clear hp
      go_wp2_with fail
      refine (HF.out _).mono ?_; rintro e w3 ⟨rfl, rfl⟩
      go_wp2
      go_ret2
      refine ⟨_, _, rfl, hEr, ?_⟩
      rw [hn.out ⟨k, hlt, by rw [HX.out]; exact HPX.out⟩]
      exact ⟨rfl, rfl⟩
  · have hkn : N = k := by omega
    subst hkn
    have ho := HO.out
    rw [rowL_congrq (g := fun j => (X j) * stepOf qp) (fun j hj => by rw [if_pos hj])] at ho
    go_wp2
    go_ret2
    refine ⟨_, _, rfl, hEr, ?_⟩
    rw [hy.out HP.out]
    exact ⟨Ints.of_row ho (by omega), rfl⟩
set_option maxHeartbeats 2000000 in
set_option maxRecDepth 20000 in
theorem eachValue_no (n : Nat) (qp : Int) (v : Value) (w : World) (h : ¬ okQ qp) (out : List Int) :
 Calls Tryz.prog 158 #[v, .int .i64 qp, .func (.func 159) #[] #[]] w (LPost w (some 3) out) := by
 have H := Lib.hid h
 clear h
 go_enter Tryz.func158, Tryz.ntmps158
 go_wp2_with fail
 refine (step_no _ _ H.out).mono ?_; rintro e w1 ⟨rfl, rfl⟩
 go_wp2
 go_ret2
 exact ⟨_, _, rfl, Ext.refl _, rfl, rfl⟩
open Classical in
noncomputable def ansValue (zs : List Int) (qp : Int) : Option Int := if okQ qp ∧ ∀ i, i < zs.length → okL (zs.getD i 0) then none else some 3
set_option maxRecDepth 20000 in
theorem Values_any (zs : List Int) (qp : Int) (v : Value) (w : World) (hN : zs.length ≤ 5000) (ha : Ints w v zs) :
 Calls Tryz.prog 131 #[v, .int .i64 qp] w (LPost w (ansValue zs qp) (rowL zs.length fun i => (zs.getD i 0) * stepOf qp)) := by
 have H : Hid (Calls Tryz.prog 158 #[v, .int .i64 qp, .func (.func 159) #[] #[]] w (LPost w (ansValue zs qp) (rowL zs.length fun i => (zs.getD i 0) * stepOf qp))) := by
  by_cases h : okQ qp
  · refine eachValue_any zs.length (fun i => zs.getD i 0) qp v w hN (by rw [rowL_getD]; exact ha) h _ (fun hp => ?_) (fun hp => ?_)
    · unfold ansValue
      rw [if_pos ⟨h, hp⟩]
    · unfold ansValue
      obtain ⟨i, hi, hp⟩ := hp
      rw [if_neg (fun hh => hp (hh.2 i hi))]
  · have := eachValue_no 0 qp v w h (rowL zs.length fun i => (zs.getD i 0) * stepOf qp)
    unfold ansValue
    rw [if_neg (fun hh => h hh.1)]
    exact this
 clear ha
 go_enter Tryz.func131, Tryz.ntmps131
 go_wp2_with fail
 refine H.out.mono ?_; rintro e w1 ⟨u, x, rfl, hx, hm⟩
 go_wp2
 go_ret2
 exact ⟨u, x, rfl, hx, hm⟩
theorem ResAt.below {B b : Nat} {w w' : World} (h : ResAt w b) (k : Below B w w') (hb : b < B) : ResAt w' b := by
 obtain ⟨h0, h1, h2, h3⟩ := h
 exact ⟨Below.cellv k h0 hb, Below.cellv k h1 hb, (Below.frozen k (p := ⟨b, 0, none⟩) hb).trans h2, (Below.frozen k (p := ⟨b, 1, none⟩) hb).trans h3⟩
def EVar (w : World) (b : Nat) (k : Int) : Prop := w.cell? ⟨b, 0, none⟩ = some (.int .i64 k) ∧ w.cell? ⟨b, 1, none⟩ = some (.slice none 0 0) ∧ w.frozen? ⟨b, 0, none⟩ = false ∧ w.frozen? ⟨b, 1, none⟩ = false
theorem EVar.below {B b : Nat} {k : Int} {w w' : World} (h : EVar w b k) (x : Below B w w') (hb : b < B) : EVar w' b k := by
 obtain ⟨h0, h1, h2, h3⟩ := h
 exact ⟨Below.cellv x h0 hb, Below.cellv x h1 hb, (Below.frozen x (p := ⟨b, 0, none⟩) hb).trans h2, (Below.frozen x (p := ⟨b, 1, none⟩) hb).trans h3⟩
theorem EVar.ext {b : Nat} {k : Int} {w w' : World} (h : EVar w b k) (x : Ext w w') : EVar w' b k := h.below x (Ext.lt h.1)
theorem EVar.new (w : World) (k : Int) : EVar (w.alloc (.cells #[.int .i64 k, .slice none 0 0] 43)) w.heap.size k := by
 refine ⟨?_, ?_, ?_, ?_⟩ <;> simp
theorem EVar.set {w : World} {b : Nat} {k : Int} (h : EVar w b 0) : EVar ((w.setCell ⟨b, 0, none⟩ (.int .i64 k)).setCell ⟨b, 1, none⟩ (.slice none 0 0)) b k := by
 obtain ⟨h0, h1, h2, h3⟩ := h
 obtain ⟨e0, e1⟩ := res_cells (c := k) h0 h1 (.slice none 0 0)
 refine ⟨e0, e1, ?_, ?_⟩ <;> simp [h2, h3]
theorem own_extl {w w' : World} {base : Nat} {e : TypeId} {size n : Nat} {v : Value} {xs : List Value} (h : w.ownsRow base e size v n xs) (k : Ext w w') : w'.ownsRow base e size v n xs := by
 obtain ⟨hl, h⟩ := h
 refine ⟨hl, ?_⟩
 rcases h with h | ⟨g, cap, cur, rfl, hb, hg, h⟩
 · exact Or.inl h
 · have hlt : g < w.heap.size := by
    rcases Nat.lt_or_ge g w.heap.size with h' | h'
    · exact h'
    · rw [Array.getElem?_eq_none h'] at hg; cases hg
   exact Or.inr ⟨g, cap, cur, rfl, hb, (k.block hlt).trans hg, h⟩
theorem rowL_succ (k : Nat) (f : Nat → Int) : rowL (k + 1) f = rowL k f ++ [f k] := by
 unfold rowL
 rw [List.range_succ, List.map_append]
 rfl
theorem push_keep {ops : Array Oper} {rest : List Oper} {o : Oper} {a : Act} {Q : Exit → Act → World → Prop} {W : World} {base : Nat} (hgd : o.guard = none) (s y : Operand) (t : TypeId)
 (ho : o.op = .call { callee := .builtin .append, args := #[s, y], argTypes := #[t, t] }) (ht : Tryz.prog.underlying t = some (.slice 3))
 (v : Value) (n : Nat) (xs : List Value) (x : Int) (hs : a.eval s = v) (hown : W.ownsRow base 3 1 v n xs) (hx : a.eval y = .slice (some ⟨W.heap.size, 0, none⟩) 1 1) (hb : base ≤ W.heap.size) (hn : n ≤ 1000000000000)
 (h : ∀ v' w', w'.ownsRow base 3 1 v' (n + 1) (xs ++ [.int .i64 x]) → Below base W w' → (∀ p u, W.cell? p = some u → some p.block ≠ v.ownBlock → w'.cell? p = some u) → wpList Tryz.prog ops Q rest (a.put o.dst v') w') :
 wpList Tryz.prog ops Q (o :: rest) a (W.alloc (.cells #[.int .i64 x] 3)) := by
 obtain ⟨i0, hi, hz0, hz1, hz2⟩ := info_parts infoInt
 refine wpList_append_own _ hgd s y t ho base 3 i0 (.int .i64 0) 1 8 ht hi hz0 hz1 hz2 rfl (by decide) v n xs hs (hown.alloc _) ⟨W.heap.size, 0, none⟩ 1 1 [.int .i64 x] hx rfl (cell_one_new _ _ _) (one_int _) (by unfold maxLen; omega) (by omega) (by simp; omega) ?_
 intro v' w' h1 h2 _
 exact h v' w' h1 (Below.grown ((Below.refl base W).alloc hb _) h2 (by simp; omega) (fun k hk => (hown.lt k hk).1)) (fun p u hp hne => h2.cell ((World.grownBy_alloc W _ none).cell hp (by simp)) hne)
set_option maxHeartbeats 4000000 in
set_option maxRecDepth 100000 in
theorem rValues_no (zs : List Int) (qp : Int) (v : Value) (w : World) (h : ¬ okQ qp) (ha : Ints w v zs) (out : List Int) :
 Calls Tryz.prog 101 #[v, .int .i64 qp] w (RLPost w (some 3) out) := by
 have f := Lib.hid (rstep_isno h)
 clear h
 obtain ⟨a, cap, rfl⟩ := ha.form
 go_enter Tryz.func101, Tryz.ntmps101
 go_wp2_with fail
 refine (f.out _).mono ?_; rintro e w1 ⟨rfl, hx1⟩
 have RV := (ResAt.new w).ext hx1
 have EW : Ext w w1 := ((Ext.refl w).alloc _).trans hx1
 have EV := EVar.new w1 3
 have hsz1 : w.heap.size < w1.heap.size := Ext.lt RV.1
 have RV := RV.ext ((Ext.refl w1).alloc (.cells #[.int .i64 3, .slice none 0 0] 43))
 have EW : Ext w (w1.alloc (.cells #[.int .i64 3, .slice none 0 0] 43)) := EW.alloc _
 clear hx1
 obtain ⟨p0, p1, -, -⟩ := id EV
 go_wp2_with fail
 refine wp_loop_rounds 1 ?_
 rw [rounds_succ]
 go_wp2_with fail
 refine (ok_any 3 _ _).mono ?_; rintro e wA ⟨rfl, hxA⟩
 have RV := RV.ext hxA
 have EV := EV.ext hxA
 have EW : Ext w wA := EW.trans hxA
 clear hxA p0 p1
 obtain ⟨p0, p1, -, -⟩ := id EV
 rw [show ((3 : Int) == 0) = false from rfl]
 go_wp2_with fail
 refine (ok_any 3 _ _).mono ?_; rintro e wB ⟨rfl, hxB⟩
 have RV := RV.ext hxB
 have EV := EV.ext hxB
 have EW : Ext w wB := EW.trans hxB
 clear hxB p0 p1
 rw [show ((3 : Int) == 0) = false from rfl]
 obtain ⟨r0, r1, f0, f1⟩ := RV
 obtain ⟨p0, p1, -, -⟩ := EV
 go_wp2
 go_region
 go_wp2
 obtain ⟨e0, e1⟩ := res_cells (c := 3) r0 r1 (.slice none 0 0)
 refine bodyPost_ret (v := .tuple #[.slice none 0 0, .agg #[.int .i64 3, .slice none 0 0]]) (by simp [results, Tryz.results101, go_sem, e0, e1]) rfl ⟨_, _, rfl, ((EW.setCell (p := ⟨w.heap.size, 0, none⟩) (Nat.le_refl _) _).setCell (p := ⟨w.heap.size, 1, none⟩) (Nat.le_refl _) _).drew, ?_⟩
 exact ⟨rfl, rfl⟩
set_option maxHeartbeats 4000000 in
set_option maxRecDepth 100000 in
theorem rValues_ok (N : Nat) (X : Nat → Int) (qp : Int) (v : Value) (w : World) (hN : N ≤ 5000) (ha : Ints w v (rowL N X)) (h : okQ qp) (ans : Option Int) (hy : Hid ((∀ i, i < N → okL (X i)) → ans = none)) (hn : Hid ((∃ i, i < N ∧ ¬ okL (X i)) → ans = some 3)) :
 Calls Tryz.prog 101 #[v, .int .i64 qp] w (RLPost w ans (rowL N fun i => (X i) * stepOf qp)) := by
 have f := Lib.hid (rstep_is h)
 have HQ := Lib.hid h
 clear h
 obtain ⟨a, cap, rfl⟩ := ha.form
 rw [rowL_length] at ha ⊢
 have AG := Lib.hid (Ints.hadq ha)
 go_enter Tryz.func101, Tryz.ntmps101
 go_wp2_with fail
 refine (f.out _).mono ?_; rintro e w1 ⟨rfl, hx1⟩
 have RV := (ResAt.new w).ext hx1
 have EW : Ext w w1 := ((Ext.refl w).alloc _).trans hx1
 have EV := EVar.new w1 0
 have hsz1 : w.heap.size < w1.heap.size := Ext.lt RV.1
 have RV := RV.ext ((Ext.refl w1).alloc (.cells #[.int .i64 0, .slice none 0 0] 43))
 have EW : Ext w (w1.alloc (.cells #[.int .i64 0, .slice none 0 0] 43)) := EW.alloc _
 have hB : w1.heap.size + 1 ≤ (w1.alloc (.cells #[.int .i64 0, .slice none 0 0] 43)).heap.size := by simp
 clear hx1 f
 go_wp2_with fail
 go_loopw [8, 9] (fun lv iv wr => ∃ (k : Nat) (ke : Int), k ≤ N ∧ iv = .int .i64 k ∧ Hid (ke = 0 ∧ (∀ j, j < k → okL (X j)) ∧ wr.ownsRow (w1.heap.size + 1) 3 1 lv k ((rowL k fun i => (X i) * stepOf qp).map (Value.int .i64)) ∨ ke = 3 ∧ ∃ j, j < N ∧ ¬ okL (X j)) ∧ Ext w wr ∧ ResAt wr w.heap.size ∧ EVar wr w1.heap.size ke ∧ w1.heap.size + 1 ≤ wr.heap.size) (fun _ iv _ => N - (intOf iv).toNat)
 case atStart => exact ⟨0, 0, Nat.zero_le _, rfl, Or.inl ⟨rfl, fun j hj => absurd hj (Nat.not_lt_zero _), rfl, Or.inl ⟨rfl, rfl⟩⟩, EW, RV, EV, hB⟩
 case round =>
  clear EW RV EV hB
  obtain ⟨k, ke, hk, rfl, HH, EW, RV, EV, hB⟩ := hrel
  rcases HH.out with ⟨rfl, HP0, hown⟩ | ⟨rfl, hbad⟩
  · have HP := Lib.hid HP0
    clear HH HP0
    obtain ⟨p0, p1, -, -⟩ := id EV
    go_wp2_with fail
    refine (ok_any 0 _ _).mono ?_; rintro e wA ⟨rfl, hxA⟩
    have RV := RV.ext hxA
    have EV := EV.ext hxA
    have EW : Ext w wA := EW.trans hxA
    have hown := own_extl hown hxA
    have hB : w1.heap.size + 1 ≤ wA.heap.size := Nat.le_trans hB hxA.size
    clear hxA p0 p1
    rw [show ((0 : Int) == 0) = true from rfl]
    by_cases hlt : k < N
    · obtain ⟨x, hx⟩ : ∃ x, X k = x := ⟨_, rfl⟩
      obtain ⟨g, off, rfl⟩ := AG.out (by omega)
      have cx := EW.cell (ha.at (rowL_get hlt))
      rw [hx] at cx
      have HX := Lib.hid hx
      clear hx
      have hlv : ∃ y kf, (Hid (∀ W, Calls Tryz.prog 140 #[.int .i64 x, .int .i64 qp] W fun e w' => e = .returned (.tuple #[.int .i64 y, .agg #[.int .i64 kf, .slice none 0 0]]) ∧ Ext W w')) ∧ Hid (kf = 0 ∧ okL x ∧ y = x * stepOf qp ∨ kf = 3 ∧ ¬ okL x) := by
       by_cases hp : okL x
       · exact ⟨_, 0, fun W => rvalue_ok x qp W hp HQ.out (rstep_is HQ.out), Or.inl ⟨rfl, hp, rfl⟩⟩
       · exact ⟨_, 3, fun W => rvalue_no x qp _ 0 W (Or.inr ⟨rfl, by unfold okL at hp; omega⟩) (rstep_is HQ.out), Or.inr ⟨rfl, hp⟩⟩
      obtain ⟨y, kf, HL, HK⟩ := hlv
      go_wp2_with fail
      refine (HL.out _).mono ?_; rintro e w5 ⟨rfl, hx5⟩
      have RV := RV.ext hx5
      have EV := EV.ext hx5
      have EW : Ext w w5 := EW.trans hx5
      have hown := own_extl hown hx5
      have hB : w1.heap.size + 1 ≤ w5.heap.size := Nat.le_trans hB hx5.size
      have hne : some w5.heap.size ≠ u8.ownBlock := fun e => by have := (hown.lt _ e.symm).2; omega
      have S6 := (Ext.refl w5).alloc (.cells #[.int .i64 kf, .slice none 0 0] 43)
      have FV := EVar.new w5 kf
      have RV := RV.ext S6
      have EV := EV.ext S6
      have EW := EW.trans S6
      have hown := own_extl hown S6
      obtain ⟨fp0, fp1, -, -⟩ := FV
      have hB6 : w1.heap.size + 1 ≤ (w5.alloc (.cells #[.int .i64 kf, .slice none 0 0] 43)).heap.size := Nat.le_trans hB S6.size
      clear hx5 S6 cx
      go_wp2_with (at_builtin; refine push_keep rfl _ _ 22 rfl Tryz.underlying22 _ k _ _ rfl hown (by show Value.slice (some ⟨w5.heap.size + 1, 0, none⟩) 1 1 = _; simp) hB6 (by omega) ?_; intro v' w7 h1 h2 h3; have fq0 := h3 _ _ fp0 hne; have fq1 := h3 _ _ fp1 hne; obtain ⟨ev0, ev1, ev2, ev3⟩ := EV.below h2 (Nat.lt_succ_self _))
      have h3' : w7.ownsRow (w1.heap.size + 1) 3 1 v' (k + 1) ((rowL k fun i => (X i) * stepOf qp).map (Value.int .i64) ++ [.int .i64 y]) := h1
      have RV7 := RV.below h2 (show w.heap.size < w1.heap.size + 1 by omega)
      have EW7 : Ext w w7 := EW.of_below h2 (by omega)
      have hB7 : w1.heap.size + 1 ≤ w7.heap.size := Nat.le_trans hB6 h2.size
      have EV7 : EVar w7 w1.heap.size 0 := ⟨ev0, ev1, ev2, ev3⟩
      clear h1 h2 h3 hown hne hB6 hB fp0 fp1 RV EV EW
      go_wp2
      go_roundw
      case measure => simp [intOf]; omega
      case rel =>
       have sb : Below w1.heap.size w7 ((w7.setCell ⟨w1.heap.size, 0, none⟩ (.int .i64 kf)).setCell ⟨w1.heap.size, 1, none⟩ (.slice none 0 0)) := ((Below.refl w1.heap.size w7).setCell (p := ⟨w1.heap.size, 0, none⟩) (Nat.le_refl _) _).setCell (p := ⟨w1.heap.size, 1, none⟩) (Nat.le_refl _) _
       refine ⟨k + 1, kf, by omega, by go_num, ?_, (EW7.setCell (p := ⟨w1.heap.size, 0, none⟩) (Nat.le_of_lt hsz1) _).setCell (p := ⟨w1.heap.size, 1, none⟩) (Nat.le_of_lt hsz1) _, RV7.below sb hsz1, EV7.set, Nat.le_trans hB7 sb.size⟩
       rcases HK.out with ⟨rfl, hp, rfl⟩ | ⟨rfl, hp⟩
       · refine Or.inl ⟨rfl, fun j hj => ?_, ?_⟩
         · by_cases hjk : j = k
           · subst hjk; rw [HX.out]; exact hp
           · exact HP.out j (by omega)
         · have e : (rowL (k + 1) fun i => (X i) * stepOf qp).map (Value.int .i64) = (rowL k fun i => (X i) * stepOf qp).map (Value.int .i64) ++ [.int .i64 (x * stepOf qp)] := by
            rw [rowL_succ, List.map_append, HX.out]
            rfl
           rw [e]
           exact ownsRow_setCell_below (ownsRow_setCell_below h3' (a := ⟨w1.heap.size, 0, none⟩) (Nat.lt_succ_self _) _) (a := ⟨w1.heap.size, 1, none⟩) (Nat.lt_succ_self _) _
       · exact Or.inr ⟨rfl, k, hlt, by rw [HX.out]; exact hp⟩
    · have hkn : N = k := by omega
      subst hkn
      obtain ⟨p0, p1, -, -⟩ := id EV
      go_wp2_with fail
      refine (ok_any 0 _ _).mono ?_; rintro e wB ⟨rfl, hxA⟩
      have RV := RV.ext hxA
      have EV := EV.ext hxA
      have EW : Ext w wB := EW.trans hxA
      have hown := own_extl hown hxA
      clear hxA p0 p1
      rw [show ((0 : Int) == 0) = true from rfl]
      have ho2 := own_extl (ownsRow_setCell_below (ownsRow_setCell_below hown (a := ⟨w.heap.size, 0, none⟩) (Nat.lt_succ_of_lt hsz1) (.int .i64 0)) (a := ⟨w.heap.size, 1, none⟩) (Nat.lt_succ_of_lt hsz1) (.slice none 0 0)) ((Ext.refl _).drew)
      obtain ⟨r0, r1, f0, f1⟩ := RV
      obtain ⟨p0, p1, -, -⟩ := EV
      go_wp2
      go_region
      go_wp2
      obtain ⟨e0, e1⟩ := res_cells (c := 0) r0 r1 (.slice none 0 0)
      refine bodyPost_ret (v := .tuple #[u8, .agg #[.int .i64 0, .slice none 0 0]]) (by simp [results, Tryz.results101, go_sem, e0, e1]) rfl ⟨_, _, rfl, ((EW.setCell (p := ⟨w.heap.size, 0, none⟩) (Nat.le_refl _) _).setCell (p := ⟨w.heap.size, 1, none⟩) (Nat.le_refl _) _).drew, ?_⟩
      rw [hy.out HP.out]
      exact ⟨Ints.of_row ho2 (by omega), rfl⟩
  · clear HH
    obtain ⟨p0, p1, -, -⟩ := id EV
    go_wp2_with fail
    refine (ok_any 3 _ _).mono ?_; rintro e wA ⟨rfl, hxA⟩
    have RV := RV.ext hxA
    have EV := EV.ext hxA
    have EW : Ext w wA := EW.trans hxA
    clear hxA p0 p1
    rw [show ((3 : Int) == 0) = false from rfl]
    obtain ⟨p0, p1, -, -⟩ := id EV
    go_wp2_with fail
    refine (ok_any 3 _ _).mono ?_; rintro e wB ⟨rfl, hxA⟩
    have RV := RV.ext hxA
    have EV := EV.ext hxA
    have EW : Ext w wB := EW.trans hxA
    clear hxA p0 p1
    rw [show ((3 : Int) == 0) = false from rfl]
    obtain ⟨r0, r1, f0, f1⟩ := RV
    obtain ⟨p0, p1, -, -⟩ := EV
    go_wp2
    go_region
    go_wp2
    obtain ⟨e0, e1⟩ := res_cells (c := 3) r0 r1 (.slice none 0 0)
    refine bodyPost_ret (v := .tuple #[.slice none 0 0, .agg #[.int .i64 3, .slice none 0 0]]) (by simp [results, Tryz.results101, go_sem, e0, e1]) rfl ⟨_, _, rfl, ((EW.setCell (p := ⟨w.heap.size, 0, none⟩) (Nat.le_refl _) _).setCell (p := ⟨w.heap.size, 1, none⟩) (Nat.le_refl _) _).drew, ?_⟩
    rw [hn.out hbad]
    exact ⟨rfl, rfl⟩
theorem rValues_any (zs : List Int) (qp : Int) (v : Value) (w : World) (hN : zs.length ≤ 5000) (ha : Ints w v zs) :
 Calls Tryz.prog 101 #[v, .int .i64 qp] w (RLPost w (ansValue zs qp) (rowL zs.length fun i => (zs.getD i 0) * stepOf qp)) := by
 by_cases h : okQ qp
 · refine rValues_ok zs.length (fun i => zs.getD i 0) qp v w hN (by rw [rowL_getD]; exact ha) h _ (fun hp => ?_) (fun hp => ?_)
   · unfold ansValue
     rw [if_pos ⟨h, hp⟩]
   · unfold ansValue
     obtain ⟨i, hi, hp⟩ := hp
     rw [if_neg (fun hh => hp (hh.2 i hi))]
 · have := rValues_no zs qp v w h ha (rowL zs.length fun i => (zs.getD i 0) * stepOf qp)
   unfold ansValue
   rw [if_neg (fun hh => h hh.1)]
   exact this
end Go.Proofs.YtcekpngkfldgkaaGreatDoor