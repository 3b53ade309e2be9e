/- kinlaw20.copied: the copies are the call's own. -/
import Derived.Test.YtpofabebmeickaaGreatDoorVwSk1
import Derived.Test.YtpofabebmeickaaGreatDoorVwCpw
namespace Go.Proofs.YtpofabebmeickaaGreatDoor
set_option linter.unusedVariables false
set_option linter.unusedSimpArgs false
open Go.RowKit Go.Extern.Stop Go.Stop Go.Extern

set_option maxRecDepth 20000 in
set_option maxHeartbeats 4000000 in
theorem copied_any (q : Sq) (L s0 s1 s2 s3 : Value) (w : World) (h : SqIs w q L s0 s1 s2 s3) (hl : q.L.length ≤ 20000 ∧ q.s0.length ≤ 20000 ∧ q.s1.length ≤ 20000 ∧ q.s2.length ≤ 20000 ∧ q.s3.length ≤ 20000) : Calls Tryz.prog 10 #[sqQ q L s0 s1 s2 s3] w fun e w' => ∃ (L' s0' s1' s2' s3' : Value) (Y : Nat → Prop), e = .returned (sqQ q L' s0' s1' s2' s3') ∧ Ext w w' ∧ (∀ k, Y k → w.heap.size ≤ k) ∧ HoF w' Y (fun W => SqIs W q L' s0' s1' s2' s3') := by
  obtain ⟨l0', l1', l2', l3', l4'⟩ := hl
  have UL := Lib.hid (fun w' (k : Ext w w') => copy_own q.L L w' (h.1.ext k) (by omega))
  have U0 := Lib.hid (fun w' (k : Ext w w') => copy_own q.s0 s0 w' (h.2.1.ext k) (by omega))
  have U1 := Lib.hid (fun w' (k : Ext w w') => copy_own q.s1 s1 w' (h.2.2.1.ext k) (by omega))
  have U2 := Lib.hid (fun w' (k : Ext w w') => copy_own q.s2 s2 w' (h.2.2.2.1.ext k) (by omega))
  have U3 := Lib.hid (fun w' (k : Ext w w') => copy_own q.s3 s3 w' (h.2.2.2.2.ext k) (by omega))
  obtain ⟨aL, lL, cL, rfl⟩ := h.1.slf
  obtain ⟨a0, l0, c0, rfl⟩ := h.2.1.slf
  obtain ⟨a1, l1, c1, rfl⟩ := h.2.2.1.slf
  obtain ⟨a2, l2, c2, rfl⟩ := h.2.2.2.1.slf
  obtain ⟨a3, l3, c3, rfl⟩ := h.2.2.2.2.slf
  have b0' : q.L.length ≤ 1000000 := by omega
  have b1' : q.s0.length ≤ 1000000 := by omega
  have b2' : q.s1.length ≤ 1000000 := by omega
  have b3' : q.s2.length ≤ 1000000 := by omega
  have b4' : q.s3.length ≤ 1000000 := by omega
  clear h l0' l1' l2' l3' l4'
  obtain ⟨gk, gm, ga, gb, gc, gd, gx, gy, xL, x0, x1, x2, x3⟩ := q
  have A0 := (BoxIs.new w #[.int .i64 gk, .int .i64 gm, .int .i64 ga, .int .i64 gb, .int .i64 gc, .int .i64 gd, .int .i64 gx, .int .i64 gy, .slice aL lL cL, .slice a0 l0 c0, .slice a1 l1 c1, .slice a2 l2 c2, .slice a3 l3 c3] 36).ext ((Ext.refl _).alloc (.cells #[.int .i64 0, .int .i64 0, .int .i64 0, .int .i64 0, .int .i64 0, .int .i64 0, .int .i64 0, .int .i64 0, .slice none 0 0, .slice none 0 0, .slice none 0 0, .slice none 0 0, .slice none 0 0] 36))
  have A1 := BoxIs.new (w.alloc (.cells #[.int .i64 gk, .int .i64 gm, .int .i64 ga, .int .i64 gb, .int .i64 gc, .int .i64 gd, .int .i64 gx, .int .i64 gy, .slice aL lL cL, .slice a0 l0 c0, .slice a1 l1 c1, .slice a2 l2 c2, .slice a3 l3 c3] 36)) #[.int .i64 0, .int .i64 0, .int .i64 0, .int .i64 0, .int .i64 0, .int .i64 0, .int .i64 0, .int .i64 0, .slice none 0 0, .slice none 0 0, .slice none 0 0, .slice none 0 0, .slice none 0 0] 36
  have hs : (w.alloc (.cells #[.int .i64 gk, .int .i64 gm, .int .i64 ga, .int .i64 gb, .int .i64 gc, .int .i64 gd, .int .i64 gx, .int .i64 gy, .slice aL lL cL, .slice a0 l0 c0, .slice a1 l1 c1, .slice a2 l2 c2, .slice a3 l3 c3] 36)).heap.size = w.heap.size + 1 := by simp
  rw [hs] at A1
  have E2 := ((Ext.refl w).alloc (.cells #[.int .i64 gk, .int .i64 gm, .int .i64 ga, .int .i64 gb, .int .i64 gc, .int .i64 gd, .int .i64 gx, .int .i64 gy, .slice aL lL cL, .slice a0 l0 c0, .slice a1 l1 c1, .slice a2 l2 c2, .slice a3 l3 c3] 36)).alloc (.cells #[.int .i64 0, .int .i64 0, .int .i64 0, .int .i64 0, .int .i64 0, .int .i64 0, .int .i64 0, .int .i64 0, .slice none 0 0, .slice none 0 0, .slice none 0 0, .slice none 0 0, .slice none 0 0] 36)
  obtain ⟨u, hu⟩ : ∃ z, (w.alloc (.cells #[.int .i64 gk, .int .i64 gm, .int .i64 ga, .int .i64 gb, .int .i64 gc, .int .i64 gd, .int .i64 gx, .int .i64 gy, .slice aL lL cL, .slice a0 l0 c0, .slice a1 l1 c1, .slice a2 l2 c2, .slice a3 l3 c3] 36)).alloc (.cells #[.int .i64 0, .int .i64 0, .int .i64 0, .int .i64 0, .int .i64 0, .int .i64 0, .int .i64 0, .int .i64 0, .slice none 0 0, .slice none 0 0, .slice none 0 0, .slice none 0 0, .slice none 0 0] 36) = z := ⟨_, rfl⟩
  rw [hu] at A0 A1 E2
  have HR := Lib.hid A1
  have HE := Lib.hid E2
  have HU := Lib.hid hu
  have HB0 := Lib.hid A0
  have HP0 : Hid (HoF u (fun _ => False) (fun _ => True)) := HoF.all (fun _ => trivial)
  have HY0 : Hid (∀ k, False → w.heap.size + 2 ≤ k) := fun _ h => h.elim
  have hwu : w.heap.size + 2 ≤ u.heap.size := by have := A1.lt; omega
  have HWU := Lib.hid hwu
  obtain ⟨⟨g0, g1, g2, g3, g4, g5, g6, g7, g8, g9, g10, g11, g12⟩, -⟩ := sq_cells A0
  clear A0 A1 E2 hu hs hwu
  unfold sqQ sqV
  dsimp only at *
  go_enter Tryz.func10, Tryz.ntmps10
  go_wp2_with fail
  rw [HU.out]
  clear HU g0 g1 g2 g3 g4 g5 g6 g7 g8 g9 g10 g11 g12
  refine (UL.out _ HE.out).mono ?_; rintro e w1 ⟨n1, rfl, hn1, hx1⟩
  obtain ⟨m1, m2⟩ := TlF.new (n := xL.length) rfl hn1
  have m1 := m1.ho b0'
  obtain ⟨p0, q0, r0, rfl⟩ := m1.get.slf
  have b1 : BoxIs (w1.setCell ⟨w.heap.size, 8, none⟩ (.slice p0 q0 r0)) w.heap.size #[.int .i64 gk, .int .i64 gm, .int .i64 ga, .int .i64 gb, .int .i64 gc, .int .i64 gd, .int .i64 gx, .int .i64 gy, .slice p0 q0 r0, .slice a0 l0 c0, .slice a1 l1 c1, .slice a2 l2 c2, .slice a3 l3 c3] 36 := (HB0.out.ext hx1).set (i := 8) (.slice p0 q0 r0)
  have rr1 := (HR.out.ext hx1).other (p := ⟨w.heap.size, 8, none⟩) (by show w.heap.size ≠ w.heap.size + 1; omega) (.slice p0 q0 r0)
  have hzz : w.heap.size + 2 ≤ u.heap.size := HWU.out
  have hy1 : ∀ k, (_ ∨ (.slice p0 q0 r0 : Value).ownBlock = some k) → w.heap.size + 2 ≤ k := fun k hk => hk.elim (HY0.out k) (fun hk => by have := m2 k hk; omega)
  have h1 := ((HP0.out.ext hx1).and m1).setc (p := ⟨w.heap.size, 8, none⟩) (v := .slice p0 q0 r0) (fun h => by have : w.heap.size + 2 ≤ w.heap.size := hy1 _ h; omega)
  have hw1 : w.heap.size + 2 ≤ (w1.setCell ⟨w.heap.size, 8, none⟩ (.slice p0 q0 r0)).heap.size := by have := hx1.size; simp; omega
  have e1 := (HE.out.trans hx1).setCell (p := ⟨w.heap.size, 8, none⟩) (Nat.le_refl _) (.slice p0 q0 r0)
  obtain ⟨⟨g0, g1, g2, g3, g4, g5, g6, g7, g8, g9, g10, g11, g12⟩, f0, f1, f2, f3, f4, f5, f6, f7, f8, f9, f10, f11, f12⟩ := sq_cells (HB0.out.ext hx1)
  clear HR HE hn1 hx1 m1 m2 hzz
  go_wp2_with fail
  clear g0 g1 g2 g3 g4 g5 g6 g7 g8 g9 g10 g11 g12 f0 f1 f2 f3 f4 f5 f6 f7 f8 f9 f10 f11 f12
  generalize w1.setCell _ _ = z0 at b1 rr1 e1 h1 hw1 ⊢
  have HP1 := Lib.hid h1
  have HY1 := Lib.hid hy1
  clear HWU
  have HWU := Lib.hid hw1
  have HB1 := Lib.hid b1
  have HR := Lib.hid rr1
  have HE := Lib.hid e1
  clear b1 rr1 e1 h1 hy1 hw1 HB0 HP0 HY0
  go_wp2_with fail
  refine wp_loop_rounds 5 ?_
  rw [rounds_succ]
  obtain ⟨⟨g0, g1, g2, g3, g4, g5, g6, g7, g8, g9, g10, g11, g12⟩, -⟩ := sq_cells HB1.out
  go_wp2_with fail
  clear g0 g1 g2 g3 g4 g5 g6 g7 g8 g9 g10 g11 g12
  refine (U0.out _ HE.out).mono ?_; rintro e w1 ⟨n1, rfl, hn1, hx1⟩
  obtain ⟨m1, m2⟩ := TlF.new (n := x0.length) rfl hn1
  have m1 := m1.ho b1'
  obtain ⟨p1, q1, r1, rfl⟩ := m1.get.slf
  have b1 : BoxIs (w1.setCell ⟨w.heap.size, 9, none⟩ (.slice p1 q1 r1)) w.heap.size #[.int .i64 gk, .int .i64 gm, .int .i64 ga, .int .i64 gb, .int .i64 gc, .int .i64 gd, .int .i64 gx, .int .i64 gy, .slice p0 q0 r0, .slice p1 q1 r1, .slice a1 l1 c1, .slice a2 l2 c2, .slice a3 l3 c3] 36 := (HB1.out.ext hx1).set (i := 9) (.slice p1 q1 r1)
  have rr1 := (HR.out.ext hx1).other (p := ⟨w.heap.size, 9, none⟩) (by show w.heap.size ≠ w.heap.size + 1; omega) (.slice p1 q1 r1)
  have hzz : w.heap.size + 2 ≤ z0.heap.size := HWU.out
  have hy1 : ∀ k, (_ ∨ (.slice p1 q1 r1 : Value).ownBlock = some k) → w.heap.size + 2 ≤ k := fun k hk => hk.elim (HY1.out k) (fun hk => by have := m2 k hk; omega)
  have h1 := ((HP1.out.ext hx1).and m1).setc (p := ⟨w.heap.size, 9, none⟩) (v := .slice p1 q1 r1) (fun h => by have : w.heap.size + 2 ≤ w.heap.size := hy1 _ h; omega)
  have hw1 : w.heap.size + 2 ≤ (w1.setCell ⟨w.heap.size, 9, none⟩ (.slice p1 q1 r1)).heap.size := by have := hx1.size; simp; omega
  have e1 := (HE.out.trans hx1).setCell (p := ⟨w.heap.size, 9, none⟩) (Nat.le_refl _) (.slice p1 q1 r1)
  obtain ⟨⟨g0, g1, g2, g3, g4, g5, g6, g7, g8, g9, g10, g11, g12⟩, f0, f1, f2, f3, f4, f5, f6, f7, f8, f9, f10, f11, f12⟩ := sq_cells (HB1.out.ext hx1)
  clear HR HE hn1 hx1 m1 m2 hzz
  go_wp2_with fail
  clear g0 g1 g2 g3 g4 g5 g6 g7 g8 g9 g10 g11 g12 f0 f1 f2 f3 f4 f5 f6 f7 f8 f9 f10 f11 f12
  generalize w1.setCell _ _ = z1 at b1 rr1 e1 h1 hw1 ⊢
  have HP2 := Lib.hid h1
  have HY2 := Lib.hid hy1
  clear HWU
  have HWU := Lib.hid hw1
  have HB2 := Lib.hid b1
  have HR := Lib.hid rr1
  have HE := Lib.hid e1
  clear b1 rr1 e1 h1 hy1 hw1 HB1 HP1 HY1
  rw [rounds_succ]
  obtain ⟨⟨g0, g1, g2, g3, g4, g5, g6, g7, g8, g9, g10, g11, g12⟩, -⟩ := sq_cells HB2.out
  go_wp2_with fail
  clear g0 g1 g2 g3 g4 g5 g6 g7 g8 g9 g10 g11 g12
  refine (U1.out _ HE.out).mono ?_; rintro e w1 ⟨n1, rfl, hn1, hx1⟩
  obtain ⟨m1, m2⟩ := TlF.new (n := x1.length) rfl hn1
  have m1 := m1.ho b2'
  obtain ⟨p2, q2, r2, rfl⟩ := m1.get.slf
  have b1 : BoxIs (w1.setCell ⟨w.heap.size, 10, none⟩ (.slice p2 q2 r2)) w.heap.size #[.int .i64 gk, .int .i64 gm, .int .i64 ga, .int .i64 gb, .int .i64 gc, .int .i64 gd, .int .i64 gx, .int .i64 gy, .slice p0 q0 r0, .slice p1 q1 r1, .slice p2 q2 r2, .slice a2 l2 c2, .slice a3 l3 c3] 36 := (HB2.out.ext hx1).set (i := 10) (.slice p2 q2 r2)
  have rr1 := (HR.out.ext hx1).other (p := ⟨w.heap.size, 10, none⟩) (by show w.heap.size ≠ w.heap.size + 1; omega) (.slice p2 q2 r2)
  have hzz : w.heap.size + 2 ≤ z1.heap.size := HWU.out
  have hy1 : ∀ k, (_ ∨ (.slice p2 q2 r2 : Value).ownBlock = some k) → w.heap.size + 2 ≤ k := fun k hk => hk.elim (HY2.out k) (fun hk => by have := m2 k hk; omega)
  have h1 := ((HP2.out.ext hx1).and m1).setc (p := ⟨w.heap.size, 10, none⟩) (v := .slice p2 q2 r2) (fun h => by have : w.heap.size + 2 ≤ w.heap.size := hy1 _ h; omega)
  have hw1 : w.heap.size + 2 ≤ (w1.setCell ⟨w.heap.size, 10, none⟩ (.slice p2 q2 r2)).heap.size := by have := hx1.size; simp; omega
  have e1 := (HE.out.trans hx1).setCell (p := ⟨w.heap.size, 10, none⟩) (Nat.le_refl _) (.slice p2 q2 r2)
  obtain ⟨⟨g0, g1, g2, g3, g4, g5, g6, g7, g8, g9, g10, g11, g12⟩, f0, f1, f2, f3, f4, f5, f6, f7, f8, f9, f10, f11, f12⟩ := sq_cells (HB2.out.ext hx1)
  clear HR HE hn1 hx1 m1 m2 hzz
  go_wp2_with fail
  clear g0 g1 g2 g3 g4 g5 g6 g7 g8 g9 g10 g11 g12 f0 f1 f2 f3 f4 f5 f6 f7 f8 f9 f10 f11 f12
  generalize w1.setCell _ _ = z2 at b1 rr1 e1 h1 hw1 ⊢
  have HP3 := Lib.hid h1
  have HY3 := Lib.hid hy1
  clear HWU
  have HWU := Lib.hid hw1
  have HB3 := Lib.hid b1
  have HR := Lib.hid rr1
  have HE := Lib.hid e1
  clear b1 rr1 e1 h1 hy1 hw1 HB2 HP2 HY2
  rw [rounds_succ]
  obtain ⟨⟨g0, g1, g2, g3, g4, g5, g6, g7, g8, g9, g10, g11, g12⟩, -⟩ := sq_cells HB3.out
  go_wp2_with fail
  clear g0 g1 g2 g3 g4 g5 g6 g7 g8 g9 g10 g11 g12
  refine (U2.out _ HE.out).mono ?_; rintro e w1 ⟨n1, rfl, hn1, hx1⟩
  obtain ⟨m1, m2⟩ := TlF.new (n := x2.length) rfl hn1
  have m1 := m1.ho b3'
  obtain ⟨p3, q3, r3, rfl⟩ := m1.get.slf
  have b1 : BoxIs (w1.setCell ⟨w.heap.size, 11, none⟩ (.slice p3 q3 r3)) w.heap.size #[.int .i64 gk, .int .i64 gm, .int .i64 ga, .int .i64 gb, .int .i64 gc, .int .i64 gd, .int .i64 gx, .int .i64 gy, .slice p0 q0 r0, .slice p1 q1 r1, .slice p2 q2 r2, .slice p3 q3 r3, .slice a3 l3 c3] 36 := (HB3.out.ext hx1).set (i := 11) (.slice p3 q3 r3)
  have rr1 := (HR.out.ext hx1).other (p := ⟨w.heap.size, 11, none⟩) (by show w.heap.size ≠ w.heap.size + 1; omega) (.slice p3 q3 r3)
  have hzz : w.heap.size + 2 ≤ z2.heap.size := HWU.out
  have hy1 : ∀ k, (_ ∨ (.slice p3 q3 r3 : Value).ownBlock = some k) → w.heap.size + 2 ≤ k := fun k hk => hk.elim (HY3.out k) (fun hk => by have := m2 k hk; omega)
  have h1 := ((HP3.out.ext hx1).and m1).setc (p := ⟨w.heap.size, 11, none⟩) (v := .slice p3 q3 r3) (fun h => by have : w.heap.size + 2 ≤ w.heap.size := hy1 _ h; omega)
  have hw1 : w.heap.size + 2 ≤ (w1.setCell ⟨w.heap.size, 11, none⟩ (.slice p3 q3 r3)).heap.size := by have := hx1.size; simp; omega
  have e1 := (HE.out.trans hx1).setCell (p := ⟨w.heap.size, 11, none⟩) (Nat.le_refl _) (.slice p3 q3 r3)
  obtain ⟨⟨g0, g1, g2, g3, g4, g5, g6, g7, g8, g9, g10, g11, g12⟩, f0, f1, f2, f3, f4, f5, f6, f7, f8, f9, f10, f11, f12⟩ := sq_cells (HB3.out.ext hx1)
  clear HR HE hn1 hx1 m1 m2 hzz
  go_wp2_with fail
  clear g0 g1 g2 g3 g4 g5 g6 g7 g8 g9 g10 g11 g12 f0 f1 f2 f3 f4 f5 f6 f7 f8 f9 f10 f11 f12
  generalize w1.setCell _ _ = z3 at b1 rr1 e1 h1 hw1 ⊢
  have HP4 := Lib.hid h1
  have HY4 := Lib.hid hy1
  clear HWU
  have HWU := Lib.hid hw1
  have HB4 := Lib.hid b1
  have HR := Lib.hid rr1
  have HE := Lib.hid e1
  clear b1 rr1 e1 h1 hy1 hw1 HB3 HP3 HY3
  rw [rounds_succ]
  obtain ⟨⟨g0, g1, g2, g3, g4, g5, g6, g7, g8, g9, g10, g11, g12⟩, -⟩ := sq_cells HB4.out
  go_wp2_with fail
  clear g0 g1 g2 g3 g4 g5 g6 g7 g8 g9 g10 g11 g12
  refine (U3.out _ HE.out).mono ?_; rintro e w1 ⟨n1, rfl, hn1, hx1⟩
  obtain ⟨m1, m2⟩ := TlF.new (n := x3.length) rfl hn1
  have m1 := m1.ho b4'
  obtain ⟨p4, q4, r4, rfl⟩ := m1.get.slf
  have b1 : BoxIs (w1.setCell ⟨w.heap.size, 12, none⟩ (.slice p4 q4 r4)) w.heap.size #[.int .i64 gk, .int .i64 gm, .int .i64 ga, .int .i64 gb, .int .i64 gc, .int .i64 gd, .int .i64 gx, .int .i64 gy, .slice p0 q0 r0, .slice p1 q1 r1, .slice p2 q2 r2, .slice p3 q3 r3, .slice p4 q4 r4] 36 := (HB4.out.ext hx1).set (i := 12) (.slice p4 q4 r4)
  have rr1 := (HR.out.ext hx1).other (p := ⟨w.heap.size, 12, none⟩) (by show w.heap.size ≠ w.heap.size + 1; omega) (.slice p4 q4 r4)
  have hzz : w.heap.size + 2 ≤ z3.heap.size := HWU.out
  have hy1 : ∀ k, (_ ∨ (.slice p4 q4 r4 : Value).ownBlock = some k) → w.heap.size + 2 ≤ k := fun k hk => hk.elim (HY4.out k) (fun hk => by have := m2 k hk; omega)
  have h1 := ((HP4.out.ext hx1).and m1).setc (p := ⟨w.heap.size, 12, none⟩) (v := .slice p4 q4 r4) (fun h => by have : w.heap.size + 2 ≤ w.heap.size := hy1 _ h; omega)
  have hw1 : w.heap.size + 2 ≤ (w1.setCell ⟨w.heap.size, 12, none⟩ (.slice p4 q4 r4)).heap.size := by have := hx1.size; simp; omega
  have e1 := (HE.out.trans hx1).setCell (p := ⟨w.heap.size, 12, none⟩) (Nat.le_refl _) (.slice p4 q4 r4)
  obtain ⟨⟨g0, g1, g2, g3, g4, g5, g6, g7, g8, g9, g10, g11, g12⟩, f0, f1, f2, f3, f4, f5, f6, f7, f8, f9, f10, f11, f12⟩ := sq_cells (HB4.out.ext hx1)
  clear HR HE hn1 hx1 m1 m2 hzz
  go_wp2_with fail
  clear g0 g1 g2 g3 g4 g5 g6 g7 g8 g9 g10 g11 g12 f0 f1 f2 f3 f4 f5 f6 f7 f8 f9 f10 f11 f12
  generalize w1.setCell _ _ = z4 at b1 rr1 e1 h1 hw1 ⊢
  have HP5 := Lib.hid h1
  have HY5 := Lib.hid hy1
  clear HWU
  have HWU := Lib.hid hw1
  have HB5 := Lib.hid b1
  have HR := Lib.hid rr1
  have HE := Lib.hid e1
  clear b1 rr1 e1 h1 hy1 hw1 HB4 HP4 HY4
  rw [rounds_succ]
  obtain ⟨⟨g0, g1, g2, g3, g4, g5, g6, g7, g8, g9, g10, g11, g12⟩, -⟩ := sq_cells HB5.out
  obtain ⟨⟨e0, e1, e2, e3, e4, e5, e6, e7, e8, e9, e10, e11, e12⟩, f0, f1, f2, f3, f4, f5, f6, f7, f8, f9, f10, f11, f12⟩ := sq_cells HR.out
  go_wp2
  obtain ⟨⟨k0, k1, k2, k3, k4, k5, k6, k7, k8, k9, k10, k11, k12⟩, -⟩ := sq_cells (sq_put (v0 := .int .i64 gk) (v1 := .int .i64 gm) (v2 := .int .i64 ga) (v3 := .int .i64 gb) (v4 := .int .i64 gc) (v5 := .int .i64 gd) (v6 := .int .i64 gx) (v7 := .int .i64 gy) (v8 := .slice p0 q0 r0) (v9 := .slice p1 q1 r1) (v10 := .slice p2 q2 r2) (v11 := .slice p3 q3 r3) (v12 := .slice p4 q4 r4) HR.out)
  exact bodyPost_ret (v := .agg #[.int .i64 gk, .int .i64 gm, .int .i64 ga, .int .i64 gb, .int .i64 gc, .int .i64 gd, .int .i64 gx, .int .i64 gy, .slice p0 q0 r0, .slice p1 q1 r1, .slice p2 q2 r2, .slice p3 q3 r3, .slice p4 q4 r4]) (by simp [results, Tryz.results10, go_sem, k0, k1, k2, k3, k4, k5, k6, k7, k8, k9, k10, k11, k12]) rfl ⟨_, _, _, _, _, _, rfl, by
    have e := HE.out
    repeat refine Ext.setCell ?_ (by show w.heap.size ≤ w.heap.size + 1; exact Nat.le_succ _) _
    exact e, fun k hk => by have := HY5.out k hk; omega, by
    have hn : ¬ _ := fun h => (by have := HY5.out (w.heap.size + 1) h; omega : False)
    have e := HP5.out.imp (fun W h => (⟨h.1.1.1.1.2, h.1.1.1.2, h.1.1.2, h.1.2, h.2⟩ : SqIs W ⟨gk, gm, ga, gb, gc, gd, gx, gy, xL, x0, x1, x2, x3⟩ _ _ _ _ _))
    repeat refine HoF.setc ?_ (by exact hn)
    exact e⟩
end Go.Proofs.YtpofabebmeickaaGreatDoor

