/- gop.Encode of the chapter's example: one frame, no more bytes than a flat one has. -/
import Derived.Test.YtlaedbglclmheaaGreatDoorOb3
import Derived.Test.YtlaedbglclmheaaGreatDoorZk
import Derived.Test.YtlaedbglclmheaaGreatDoorNwO
import Derived.Test.YtlaedbglclmheaaGreatDoorZl
import Derived.BigRegion
import Derived.Deep.RegionLaw
namespace Go.Proofs.YtlaedbglclmheaaGreatDoor
set_option linter.unusedVariables false
set_option linter.unusedSimpArgs false
open Go.RowKit Go.Extern.Stop Go.Stop Go.Extern

theorem goodT : Good ⟨0, 3, 0, 0, 4, 8, 8, 8⟩ := by unfold Good; decide
set_option maxRecDepth 20000 in
set_option maxHeartbeats 2000000 in
theorem echk8_any (zs : List Int) (a : Option Addr) (cap : Nat) (w : World) (h : Ints w (.slice a 64 cap) zs) (hm : may 8 8 zs) : Calls Tryz.prog 124 #[.agg #[.int .i64 8, .int .i64 8, .slice a 64 cap], .agg #[.int .i64 0, .int .i64 0, .slice none 0 0], .bool true, .int .i64 0, .int .i64 0] w fun e w' => e = .returned .nilIface ∧ Ext w w' := by
  have X1 := ((Ext.refl w).alloc (.cells #[.int .i64 8, .int .i64 8, .slice a 64 cap] 99)).alloc (.cells #[.int .i64 0, .int .i64 0, .slice none 0 0] 99)
  have HX1 := Lib.hid X1
  have UM := Lib.hid (may_any 8 8 zs a 64 cap _ (h.ext X1))
  rw [decide_eq_true hm] at UM
  clear h hm X1
  go_enter Tryz.func124, Tryz.ntmps124
  go_wp2_with fail
  refine (UM.out).mono ?_; rintro e w1 ⟨rfl, hx1⟩
  have E1 := HX1.out.trans hx1
  clear hx1 UM
  go_wp2
  go_ret
  exact ⟨rfl, E1⟩
theorem infoFd : (Tryz.prog.info? 361).map (fun i => (i.zero, i.size, i.bytes)) = some (some (.agg #[.int .i64 0, .int .i64 0, .bool false]), 3, 24) := by kernel_rfl
set_option maxRecDepth 20000 in
set_option maxHeartbeats 2000000 in
theorem ntask8_any (a : Option Addr) (cap : Nat) (w : World) : Calls Tryz.prog 125 #[.agg #[.int .i64 8, .int .i64 8, .slice a 64 cap], .agg #[.int .i64 0, .int .i64 0, .slice none 0 0], .bool true, .int .i64 0] w fun e w' => ∃ p, e = .returned (.pointer p) ∧ Ext w w' := by
  have X1 := ((Ext.refl w).alloc (.cells #[.int .i64 8, .int .i64 8, .slice a 64 cap] 99)).alloc (.cells #[.int .i64 0, .int .i64 0, .slice none 0 0] 99)
  obtain ⟨i0, hi, hz0, hz1, hz2⟩ := info_parts infoFd
  have mk := fun W : World => run_make (P := Tryz.prog) (w := W) 240 361 i0 (.agg #[.int .i64 0, .int .i64 0, .bool false]) Tryz.underlying240 hi hz0 .i64 .i64 1 1 (by decide) (by decide) (by rw [hz2]; decide) (by decide)
  have mk1 := mk ((w.alloc (.cells #[.int .i64 8, .int .i64 8, .slice a 64 cap] 99)).alloc (.cells #[.int .i64 0, .int .i64 0, .slice none 0 0] 99)).drew
  rw [hz1] at mk1
  clear mk hi hz0 hz1 hz2
  go_enter Tryz.func125, Tryz.ntmps125
  go_wp2_with fail
  go_region
  have E2 := (((X1.alloc (.cells (madeCells #[.int .i64 0, .int .i64 0, .bool false] 3) 361)).alloc (.cells #[.int .i64 8, .int .i64 8, .slice a 64 cap, .int .i64 0, .int .i64 0, .slice none 0 0, .bool true, .int .i64 0, .slice (some ⟨w.heap.size + 1 + 1, 0, none⟩) 1 1] 242)).drew)
  clear mk1
  go_wp2
  go_ret
  exact ⟨_, rfl, E2⟩
theorem box5 (w : World) (c0 c1 c2 c3 c4 : Array Value) (T0 T1 T2 T3 T4 : TypeId) : ∃ W, (((((w.alloc (.cells c0 T0)).alloc (.cells c1 T1)).alloc (.cells c2 T2)).alloc (.cells c3 T3)).alloc (.cells c4 T4)) = W ∧ Ext w W ∧ BoxIs W w.heap.size c0 T0 ∧ BoxIs W (w.heap.size + 1) c1 T1 ∧ BoxIs W (w.heap.size + 1 + 1) c2 T2 ∧ BoxIs W (w.heap.size + 1 + 1 + 1) c3 T3 ∧ BoxIs W (w.heap.size + 1 + 1 + 1 + 1) c4 T4 := by
  have s : ∀ (w : World) (o : Go.Obj), (w.alloc o).heap.size = w.heap.size + 1 := fun w o => by simp
  have b0 := BoxIs.new w c0 T0
  have b1 := BoxIs.new (w.alloc (.cells c0 T0)) c1 T1
  have b2 := BoxIs.new ((w.alloc (.cells c0 T0)).alloc (.cells c1 T1)) c2 T2
  have b3 := BoxIs.new (((w.alloc (.cells c0 T0)).alloc (.cells c1 T1)).alloc (.cells c2 T2)) c3 T3
  have b4 := BoxIs.new ((((w.alloc (.cells c0 T0)).alloc (.cells c1 T1)).alloc (.cells c2 T2)).alloc (.cells c3 T3)) c4 T4
  simp only [s] at b1 b2 b3 b4
  exact ⟨_, rfl, (((((Ext.refl w).alloc _).alloc _).alloc _).alloc _).alloc _, ((((b0.ext ((Ext.refl _).alloc _)).ext ((Ext.refl _).alloc _)).ext ((Ext.refl _).alloc _)).ext ((Ext.refl _).alloc _)), (((b1.ext ((Ext.refl _).alloc _)).ext ((Ext.refl _).alloc _)).ext ((Ext.refl _).alloc _)), ((b2.ext ((Ext.refl _).alloc _)).ext ((Ext.refl _).alloc _)), b3.ext ((Ext.refl _).alloc _), b4⟩
/-- a frame of 8 times 8 of one number -/
def z8 (v : Int) : List Int := rowL 64 fun _ => v
theorem may8 {v : Int} (h : 0 ≤ v ∧ v ≤ 255) : may 8 8 (z8 v) := by
  refine ⟨rfl, rfl, by unfold z8; rw [rowL_length]; rfl, fun x hx => ?_⟩
  unfold z8 rowL at hx
  obtain ⟨j, -, rfl⟩ := List.mem_map.1 hx
  exact h
set_option maxRecDepth 20000 in
set_option maxHeartbeats 4000000 in
theorem efit8_any (zs : List Int) (a : Option Addr) (cap : Nat) (w : World) (h : Ints w (.slice a 64 cap) zs) (hm : may 8 8 zs) : Calls Tryz.prog 95 #[.agg #[.int .i64 8, .int .i64 8, .slice a 64 cap], .agg #[.int .i64 0, .int .i64 0, .slice none 0 0], .bool true, .agg #[.int .i64 0, .int .i64 3, .int .i64 0, .int .i64 0, .int .i64 4, .int .i64 8, .int .i64 8, .int .i64 8], .int .i64 8] w fun e w' => ∃ b c, e = .returned (.tuple #[.agg #[.int .i64 4, .slice none 0 0], .agg #[.int .i64 8, .int .i64 8, .slice (some ⟨b, 0, none⟩) 64 c], .nilIface]) ∧ Ext w w' ∧ w'.ownsRow w.heap.size 3 1 (.slice (some ⟨b, 0, none⟩) 64 c) 64 ((z8 128).map (Value.int .i64)) := by
  have UC := Lib.hid (fun W => Check_yes ⟨0, 3, 0, 0, 4, 8, 8, 8⟩ W goodT)
  have HI := Lib.hid h
  have UK := Lib.hid (fun W (k : Ext w W) => echk8_any zs a cap W (h.ext k) hm)
  have UN := Lib.hid (fun W => pnew_own 8 8 128 W (by decide))
  obtain ⟨W5, hW5, X5, B0, B1, B2, B3, B4⟩ := box5 w #[.int .i64 8, .int .i64 8, .slice a 64 cap] #[.int .i64 0, .int .i64 0, .slice none 0 0] #[.int .i64 0, .int .i64 3, .int .i64 0, .int .i64 0, .int .i64 4, .int .i64 8, .int .i64 8, .int .i64 8] #[.int .i64 0, .slice none 0 0] #[.int .i64 0, .int .i64 0, .slice none 0 0] 99 99 63 61 99
  have HW := Lib.hid hW5
  have HX := Lib.hid X5
  have HB := Lib.hid (And.intro B0 (And.intro B1 (And.intro B2 (And.intro B3 B4))))
  clear h hm hW5 X5 B0 B1 B2 B3 B4
  go_enter Tryz.func95, Tryz.ntmps95
  go_wp2_with fail
  rw [HW.out]
  refine (UC.out _).mono ?_; rintro e w1 ⟨rfl, hx1⟩
  have HX := Lib.hid (HX.out.trans hx1)
  have HB := Lib.hid (And.intro (HB.out.1.ext hx1) (And.intro (HB.out.2.1.ext hx1) (And.intro (HB.out.2.2.1.ext hx1) (And.intro (HB.out.2.2.2.1.ext hx1) (HB.out.2.2.2.2.ext hx1)))))
  have p0 := HB.out.1.cell (i := 0) (v := .int .i64 8) rfl
  have p1 := HB.out.1.cell (i := 1) (v := .int .i64 8) rfl
  have p2 := HB.out.1.cell (i := 2) (v := .slice a 64 cap) rfl
  have q0 := HB.out.2.1.cell (i := 0) (v := .int .i64 0) rfl
  have q1 := HB.out.2.1.cell (i := 1) (v := .int .i64 0) rfl
  have q2 := HB.out.2.1.cell (i := 2) (v := .slice none 0 0) rfl
  have c0 := HB.out.2.2.1.cell (i := 0) (v := .int .i64 0) rfl
  have c1 := HB.out.2.2.1.cell (i := 1) (v := .int .i64 3) rfl
  have c2 := HB.out.2.2.1.cell (i := 2) (v := .int .i64 0) rfl
  clear hx1
  go_wp2_with fail
  refine (UK.out _ HX.out).mono ?_; rintro e w1 ⟨rfl, hx1⟩
  have HX := Lib.hid (HX.out.trans hx1)
  have HB := Lib.hid (And.intro (HB.out.1.ext hx1) (And.intro (HB.out.2.1.ext hx1) (And.intro (HB.out.2.2.1.ext hx1) (And.intro (HB.out.2.2.2.1.ext hx1) (HB.out.2.2.2.2.ext hx1)))))
  have p0 := HB.out.1.cell (i := 0) (v := .int .i64 8) rfl
  have p1 := HB.out.1.cell (i := 1) (v := .int .i64 8) rfl
  have p2 := HB.out.1.cell (i := 2) (v := .slice a 64 cap) rfl
  have q0 := HB.out.2.1.cell (i := 0) (v := .int .i64 0) rfl
  have q1 := HB.out.2.1.cell (i := 1) (v := .int .i64 0) rfl
  have q2 := HB.out.2.1.cell (i := 2) (v := .slice none 0 0) rfl
  have c0 := HB.out.2.2.1.cell (i := 0) (v := .int .i64 0) rfl
  have c1 := HB.out.2.2.1.cell (i := 1) (v := .int .i64 3) rfl
  have c2 := HB.out.2.2.1.cell (i := 2) (v := .int .i64 0) rfl
  clear hx1
  go_wp2_with fail
  refine (ntask8_any a cap _).mono ?_; rintro e w1 ⟨p, rfl, hx1⟩
  have HX := Lib.hid (HX.out.trans hx1)
  have HB := Lib.hid (And.intro (HB.out.1.ext hx1) (And.intro (HB.out.2.1.ext hx1) (And.intro (HB.out.2.2.1.ext hx1) (And.intro (HB.out.2.2.2.1.ext hx1) (HB.out.2.2.2.2.ext hx1)))))
  have p0 := HB.out.1.cell (i := 0) (v := .int .i64 8) rfl
  have p1 := HB.out.1.cell (i := 1) (v := .int .i64 8) rfl
  have p2 := HB.out.1.cell (i := 2) (v := .slice a 64 cap) rfl
  have q0 := HB.out.2.1.cell (i := 0) (v := .int .i64 0) rfl
  have q1 := HB.out.2.1.cell (i := 1) (v := .int .i64 0) rfl
  have q2 := HB.out.2.1.cell (i := 2) (v := .slice none 0 0) rfl
  have c0 := HB.out.2.2.1.cell (i := 0) (v := .int .i64 0) rfl
  have c1 := HB.out.2.2.1.cell (i := 1) (v := .int .i64 3) rfl
  have c2 := HB.out.2.2.1.cell (i := 2) (v := .int .i64 0) rfl
  clear hx1
  go_wp2
  refine wp_loop_rounds 2 ?_
  rw [rounds_succ]
  go_wp2_with fail
  rename World => w9

  refine (UN.out _).mono ?_; rintro e w1 ⟨na, nn, nc, rfl, hx1, hnn, hni⟩
  obtain rfl : nn = 64 := hnn
  have hlt0 := HB.out.2.2.2.2.lt
  have HX := Lib.hid (HX.out.trans hx1)
  have HB := Lib.hid (And.intro (HB.out.1.ext hx1) (And.intro (HB.out.2.1.ext hx1) (And.intro (HB.out.2.2.1.ext hx1) (And.intro (HB.out.2.2.2.1.ext hx1) (HB.out.2.2.2.2.ext hx1)))))
  have p0 := HB.out.1.cell (i := 0) (v := .int .i64 8) rfl
  have p1 := HB.out.1.cell (i := 1) (v := .int .i64 8) rfl
  have p2 := HB.out.1.cell (i := 2) (v := .slice a 64 cap) rfl
  have q0 := HB.out.2.1.cell (i := 0) (v := .int .i64 0) rfl
  have q1 := HB.out.2.1.cell (i := 1) (v := .int .i64 0) rfl
  have q2 := HB.out.2.1.cell (i := 2) (v := .slice none 0 0) rfl
  have c0 := HB.out.2.2.1.cell (i := 0) (v := .int .i64 0) rfl
  have c1 := HB.out.2.2.1.cell (i := 1) (v := .int .i64 3) rfl
  have c2 := HB.out.2.2.1.cell (i := 2) (v := .int .i64 0) rfl
  clear hx1
  have hz : (rowL ((8 : Int) * 8).toNat fun _ => (128 : Int)) = z8 128 := rfl
  rw [hz] at hni
  have B5 := BoxIs.new w1 #[.int .i64 8, .int .i64 8, .slice (some ⟨na, 0, none⟩) 64 nc] 99
  have X2 := (Ext.refl w1).alloc (.cells #[.int .i64 8, .int .i64 8, .slice (some ⟨na, 0, none⟩) 64 nc] 99)
  obtain ⟨w2, hw2⟩ : ∃ z, w1.alloc (.cells #[.int .i64 8, .int .i64 8, .slice (some ⟨na, 0, none⟩) 64 nc] 99) = z := ⟨_, rfl⟩
  have B3 := HB.out.2.2.2.1.ext X2
  have B4 := HB.out.2.2.2.2.ext X2
  have hlt := HB.out.2.2.2.2.lt
  have HX2 := Lib.hid (HX.out.trans X2)
  have hni2 := own_extl hni X2
  rw [hw2] at B5 B3 B4 HX2 hni2
  have HW2 := Lib.hid hw2
  have hb4 : w.heap.size + 1 + 1 + 1 + 1 < w9.heap.size := hlt0
  have o9 := ownsRow_setCell_below (ownsRow_setCell_below (ownsRow_setCell_below (ownsRow_setCell_below (ownsRow_setCell_below hni2 (a := ⟨w.heap.size + 1 + 1 + 1, 0, none⟩) (by show w.heap.size + 1 + 1 + 1 < w9.heap.size; omega) (.int .i64 4)) (a := ⟨w.heap.size + 1 + 1 + 1, 1, none⟩) (by show w.heap.size + 1 + 1 + 1 < w9.heap.size; omega) (.slice none 0 0)) (a := ⟨w.heap.size + 1 + 1 + 1 + 1, 0, none⟩) hb4 (.int .i64 8)) (a := ⟨w.heap.size + 1 + 1 + 1 + 1, 1, none⟩) hb4 (.int .i64 8)) (a := ⟨w.heap.size + 1 + 1 + 1 + 1, 2, none⟩) hb4 (.slice (some ⟨na, 0, none⟩) 64 nc)
  have HN9 := Lib.hid (own_mono (own_extl o9 (Ext.refl _).drew) (Nat.le_trans (by omega : w.heap.size ≤ w.heap.size + 1 + 1 + 1 + 1) (Nat.le_of_lt hb4)))
  clear o9 hb4 hlt0
  obtain ⟨m, hm⟩ : ∃ m, w1.heap.size = m := ⟨_, rfl⟩
  have hmm : w.heap.size + 1 + 1 + 1 + 1 < m := by rw [← hm]; exact hlt
  rw [hm] at B5
  have HM := Lib.hid hm
  have y0 := B5.cell (i := 0) (v := .int .i64 8) rfl
  have y1 := B5.cell (i := 1) (v := .int .i64 8) rfl
  have y2 := B5.cell (i := 2) (v := .slice (some ⟨na, 0, none⟩) 64 nc) rfl
  have r0 := B3.cell (i := 0) (v := .int .i64 0) rfl
  have r1 := B3.cell (i := 1) (v := .slice none 0 0) rfl
  have s0 := B4.cell (i := 0) (v := .int .i64 0) rfl
  have s1 := B4.cell (i := 1) (v := .int .i64 0) rfl
  have s2 := B4.cell (i := 2) (v := .slice none 0 0) rfl
  have f0 := B3.free (i := 0)
  have f1 := B3.free (i := 1)
  have g0 := B4.free (i := 0)
  have g1 := B4.free (i := 1)
  have g2 := B4.free (i := 2)
  have C5 := (B5.woth (p := ⟨w.heap.size + 1 + 1 + 1, 0, none⟩) (by show w.heap.size + 1 + 1 + 1 ≠ m; omega) (.int .i64 4)).woth (p := ⟨w.heap.size + 1 + 1 + 1, 1, none⟩) (by show w.heap.size + 1 + 1 + 1 ≠ m; omega) (.slice none 0 0)
  have C4 := (B4.woth (p := ⟨w.heap.size + 1 + 1 + 1, 0, none⟩) (by show w.heap.size + 1 + 1 + 1 ≠ w.heap.size + 1 + 1 + 1 + 1; omega) (.int .i64 4)).woth (p := ⟨w.heap.size + 1 + 1 + 1, 1, none⟩) (by show w.heap.size + 1 + 1 + 1 ≠ w.heap.size + 1 + 1 + 1 + 1; omega) (.slice none 0 0)
  have u0 := C5.cell (i := 0) (v := .int .i64 8) rfl
  have u1 := C5.cell (i := 1) (v := .int .i64 8) rfl
  have u2 := C5.cell (i := 2) (v := .slice (some ⟨na, 0, none⟩) 64 nc) rfl
  have v0 := C4.cell (i := 0) (v := .int .i64 0) rfl
  have v1 := C4.cell (i := 1) (v := .int .i64 0) rfl
  have v2 := C4.cell (i := 2) (v := .slice none 0 0) rfl
  have h0 := C4.free (i := 0)
  have h1 := C4.free (i := 1)
  have h2 := C4.free (i := 2)
  have D4 := ((C4.wset (i := 0) (.int .i64 8)).wset (i := 1) (.int .i64 8)).wset (i := 2) (.slice (some ⟨na, 0, none⟩) 64 nc)
  have D3 := (((((B3.wset (i := 0) (.int .i64 4)).wset (i := 1) (.slice none 0 0)).woth (p := ⟨w.heap.size + 1 + 1 + 1 + 1, 0, none⟩) (by show w.heap.size + 1 + 1 + 1 + 1 ≠ w.heap.size + 1 + 1 + 1; omega) (.int .i64 8)).woth (p := ⟨w.heap.size + 1 + 1 + 1 + 1, 1, none⟩) (by show w.heap.size + 1 + 1 + 1 + 1 ≠ w.heap.size + 1 + 1 + 1; omega) (.int .i64 8)).woth (p := ⟨w.heap.size + 1 + 1 + 1 + 1, 2, none⟩) (by show w.heap.size + 1 + 1 + 1 + 1 ≠ w.heap.size + 1 + 1 + 1; omega) (.slice (some ⟨na, 0, none⟩) 64 nc))
  have d30 := D3.cell (i := 0) (v := .int .i64 4) rfl
  have d31 := D3.cell (i := 1) (v := .slice none 0 0) rfl
  have d40 := D4.cell (i := 0) (v := .int .i64 8) rfl
  have d41 := D4.cell (i := 1) (v := .int .i64 8) rfl
  have d42 := D4.cell (i := 2) (v := .slice (some ⟨na, 0, none⟩) 64 nc) rfl
  have HD := Lib.hid (And.intro d30 (And.intro d31 (And.intro d40 (And.intro d41 d42))))
  clear B5 B3 B4 C5 C4 X2 hw2 hni hni2 hm hlt hz D3 D4 d30 d31 d40 d41 d42
  go_wp2_with fail
  rw [HW2.out, HM.out]
  go_region
  obtain ⟨d30, d31, d40, d41, d42⟩ := HD.out
  have HE9 := ((((((HX2.out.setCell (p := ⟨w.heap.size + 1 + 1 + 1, 0, none⟩) (by show w.heap.size ≤ _ + 1 + 1 + 1; omega) (.int .i64 4)).setCell (p := ⟨w.heap.size + 1 + 1 + 1, 1, none⟩) (by show w.heap.size ≤ _ + 1 + 1 + 1; omega) (.slice none 0 0)).setCell (p := ⟨w.heap.size + 1 + 1 + 1 + 1, 0, none⟩) (by show w.heap.size ≤ _ + 1 + 1 + 1 + 1; omega) (.int .i64 8)).setCell (p := ⟨w.heap.size + 1 + 1 + 1 + 1, 1, none⟩) (by show w.heap.size ≤ _ + 1 + 1 + 1 + 1; omega) (.int .i64 8)).setCell (p := ⟨w.heap.size + 1 + 1 + 1 + 1, 2, none⟩) (by show w.heap.size ≤ _ + 1 + 1 + 1 + 1; omega) (.slice (some ⟨na, 0, none⟩) 64 nc))).drew
  go_wp2
  exact bodyPost_ret (v := .tuple #[.agg #[.int .i64 4, .slice none 0 0], .agg #[.int .i64 8, .int .i64 8, .slice (some ⟨na, 0, none⟩) 64 nc], .nilIface]) (by simp [results, Tryz.results95, go_sem, d30, d31, d40, d41, d42]) rfl ⟨_, _, rfl, HE9, HN9.out⟩
end Go.Proofs.YtlaedbglclmheaaGreatDoor
