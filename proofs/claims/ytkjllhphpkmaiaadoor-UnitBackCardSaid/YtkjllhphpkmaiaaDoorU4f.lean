/- kinlaw4.first: its contract over this seat's translation. -/
import Derived.Test.YtkjllhphpkmaiaaDoorUnx
import Derived.Test.YtkjllhphpkmaiaaDoorUmk
import Derived.Test.YtkjllhphpkmaiaaDoorBst
import Derived.Lib.SmallJoins
namespace Go.Proofs.YtkjllhphpkmaiaaDoor
set_option linter.unusedVariables false
set_option linter.unusedSimpArgs false
open Go.RowKit Go.Extern.Stop Go.Stop Go.Extern

theorem Bys.lit (w : World) (fr : Nat × Nat) (bs : List Nat) (h : ∀ x ∈ bs, x < 256) (hl : bs.length ≤ 1000) : Bys (w.alloc (.cells (byC bs).toArray 5 fr)) (.slice (some ⟨w.heap.size, 0, none⟩) bs.length bs.length) bs := by
  refine ⟨⟨some ⟨w.heap.size, 0, none⟩, bs.length, rfl, Nat.le_refl _, by unfold maxLen; omega, fun _ => ⟨_, _, rfl⟩, fun g off ha j u hu => ?_⟩, h, by omega⟩
  simp only [Option.some.injEq, Addr.mk.injEq, and_true] at ha
  obtain ⟨rfl, rfl⟩ := ha
  have e : (w.alloc (.cells (byC bs).toArray 5 fr)).heap[w.heap.size]? = some (.cells (byC bs).toArray 5 fr) := heap_alloc_new w _
  simp only [World.cell?, e]
  simpa [byC] using hu
theorem Bys.litAt (w : World) (fr : Nat × Nat) (m : Nat) (hm : w.heap.size = m) (bs : List Nat) (h : ∀ x ∈ bs, x < 256) (hl : bs.length ≤ 1000) : Bys (w.alloc (.cells (byC bs).toArray 5 fr)) (.slice (some ⟨m, 0, none⟩) bs.length bs.length) bs := by
  subst hm
  exact Bys.lit w fr bs h hl
theorem nx_a : nxU [0, 1, 0] 0 = (none, 0, [], 0, 1) := by decide
theorem nx_b : nxU [0, 1, 0] 1 = (some ([(unS, 1)], 1), 0, [], 0, 0) := by decide
theorem uk_a : ukF 0 [120].length = some ([], 13) ∧ ukV 0 [120] = [] := by decide
theorem crc_a : crc [49, 50, 51, 52, 53, 54, 55, 56, 57] = 3421780262 := by decide +kernel
set_option maxHeartbeats 8000000 in
set_option maxRecDepth 20000 in
theorem first4_any (w : World) (hg : EtIs w) (hn : NbIs w) : Calls Tryd.prog 10 #[] w fun e w' => e = .returned (.bool true) ∧ Ext w w' := by
  have A1 : Ext w (w.alloc (.cells #[.int .u8 0, .int .u8 1, .int .u8 0] 5)) := (Ext.refl w).alloc _
  have HA1 := Lib.hid A1
  have HY1 := Lib.hid (Bys.lit w (0, 0) [0, 1, 0] (by decide) (by decide))
  have HNB := Lib.hid hn
  have HG := Lib.hid hg
  clear A1 hn hg
  go_enter Tryd.func10, Tryd.ntmps10
  go_wp2_with fail
  refine (next_any [0, 1, 0] 0 _ _ (HNB.out.ext HA1.out) HY1.out).mono ?_
  rw [nx_a]
  rintro e w1 ⟨u1, x1, rfl, ho1, he1, hx1⟩
  obtain rfl : x1 = .nilIface := he1
  obtain ⟨a1, m1, c1, rfl⟩ := own_slc ho1
  have HE1 := Lib.hid (HA1.out.trans hx1)
  clear ho1 hx1
  have A2 : Ext w1 (w1.alloc (.cells #[.int .i64 0, .slice a1 m1 c1, .int .i64 0, .int .i64 1] 44)) := (Ext.refl w1).alloc _
  have B2 := A2.alloc (.cells #[.int .u8 0, .int .u8 1, .int .u8 0] 5)
  have HB2 := Lib.hid B2
  have HU1 := Lib.hid ((UBox.new w1 0 (.slice a1 m1 c1) 0 1 44).ext ((Ext.refl _).alloc (.cells #[.int .u8 0, .int .u8 1, .int .u8 0] 5)))
  have HY2 := Lib.hid (Bys.litAt (w1.alloc (.cells #[.int .i64 0, .slice a1 m1 c1, .int .i64 0, .int .i64 1] 44)) (0, 0) (w1.heap.size + 1) (by simp) [0, 1, 0] (by decide) (by decide))
  clear A2 B2
  go_wp2_with fail
  refine (next_any [0, 1, 0] 1 _ _ ((HNB.out.ext HE1.out).ext HB2.out) HY2.out).mono ?_
  rw [nx_b]
  rintro e w2 ⟨u2, x2, rfl, ho2, he2, hx2⟩
  obtain ⟨a2, m2, c2, rfl⟩ := own_slc ho2
  have HU2 := Lib.hid (HU1.out.ext hx2)
  have HE2 := Lib.hid (HE1.out.trans (HB2.out.trans hx2))
  have HX2 := Lib.hid he2
  clear ho2 hx2 HU1 HY2 HB2
  obtain ⟨t2, y2, rfl⟩ := he2.ne
  have A3 : Ext w2 (w2.alloc (.cells #[.int .i64 0, .slice a2 m2 c2, .int .i64 0, .int .i64 0] 44)) := (Ext.refl w2).alloc _
  have HB3 := Lib.hid (A3.alloc (.cells #[.int .u8 120] 5 (1, 2)))
  have HY3 := Lib.hid (Bys.litAt (w2.alloc (.cells #[.int .i64 0, .slice a2 m2 c2, .int .i64 0, .int .i64 0] 44)) (1, 2) (w2.heap.size + 1) (by simp) [120] (by decide) (by decide))
  clear A3 he2
  have hcv := Go.Joins.run_convert_bytes_const_at (P := Tryd.prog) (w2.alloc (.cells #[.int .i64 0, .slice a2 m2 c2, .int .i64 0, .int .i64 0] 44)) 22 5 #[.int .u8 120] 1 1 (w2.heap.size + 1) (by simp) Tryd.underlying22 Tryd.underlying5
  go_wp2_with fail
  refine (make_any 0 [120] _ _ (HNB.out.ext (HE2.out.trans HB3.out)) HY3.out (.inr ⟨_, _, _, rfl⟩)).mono ?_
  rw [uk_a.1, uk_a.2]
  rintro e w3 ⟨u3, x3, rfl, ho3, he3, hx3⟩
  have HU3 := Lib.hid ((HU2.out.ext HB3.out).ext hx3)
  have HE3 := Lib.hid (HE2.out.trans (HB3.out.trans hx3))
  have HX3 := Lib.hid he3
  have HX2b := Lib.hid ((HX2.out.ext HB3.out).ext hx3)
  obtain ⟨t3, y3, rfl⟩ := he3.ne
  clear ho3 hx3 he3 HU2 HX2 HB3 HY3
  have HB4 := Lib.hid ((Ext.refl w3).alloc (.cells #[.int .u8 49, .int .u8 50, .int .u8 51, .int .u8 52, .int .u8 53, .int .u8 54, .int .u8 55, .int .u8 56, .int .u8 57] 5 (9, 10)))
  have HY4 := Lib.hid (Bys.lit w3 (9, 10) [49, 50, 51, 52, 53, 54, 55, 56, 57] (by decide) (by decide))
  have hcv2 := Go.Joins.run_convert_bytes_const_at (P := Tryd.prog) w3 22 5 #[.int .u8 49, .int .u8 50, .int .u8 51, .int .u8 52, .int .u8 53, .int .u8 54, .int .u8 55, .int .u8 56, .int .u8 57] 9 9 w3.heap.size rfl Tryd.underlying22 Tryd.underlying5
  go_wp2_with fail
  refine (sum_any [49, 50, 51, 52, 53, 54, 55, 56, 57] _ _ (HNB.out.ext (HE3.out.trans HB4.out)) HY4.out).mono ?_
  rw [crc_a]
  rintro e w9 ⟨rfl, rfl⟩
  have HU4 := Lib.hid (HU3.out.ext HB4.out)
  obtain ⟨⟨q0, q1, q2, q3⟩, -⟩ := HU4.out
  go_wp2_with fail
  refine (wrap_any unS 1 1 _ (by decide)).mono ?_; rintro e wC ⟨v2, rfl, hoC, hxC⟩
  obtain ⟨va, vm, vc, rfl⟩ := own_slc hoC
  have HC := Lib.hid (Row.of_owns hoC)
  have HEC := Lib.hid (HE3.out.trans (HB4.out.trans hxC))
  have HX2c := Lib.hid ((HX2b.out.ext HB4.out).ext hxC)
  have HX3c := Lib.hid ((HX3.out.ext HB4.out).ext hxC)
  clear hoC hxC
  go_wp2_with fail
  refine (same_fall (some ([(unS, 1)], 1)) _ _ _ _ (HG.out.ext HEC.out) HX2c.out ⟨rfl, by decide, HC.out⟩).mono ?_; rintro e wD ⟨rfl, hxD⟩
  have HXD := Lib.hid hxD
  clear hxD
  go_wp2_with fail
  refine (fail_any 13 _).mono ?_; rintro e wE ⟨rfl, hxE⟩
  have HXE := Lib.hid (HXD.out.trans hxE)
  clear hxE
  go_wp2_with fail
  refine (same_fall (some ([], 13)) _ _ _ _ (HG.out.ext (HEC.out.trans HXE.out)) (HX3c.out.ext HXE.out) (RErrIs.code (by decide))).mono ?_; rintro e wF ⟨rfl, hxF⟩
  have HXF := Lib.hid (HEC.out.trans (HXE.out.trans hxF))
  clear hxF
  go_wp2_with fail
  refine (size_any 0 _ (by decide)).mono ?_; rintro e wG ⟨rfl, rfl⟩
  go_wp2
  go_ret
  exact ⟨rfl, HXF.out⟩
end Go.Proofs.YtkjllhphpkmaiaaDoor
