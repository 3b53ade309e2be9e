/- kinref.Unit; kinlaw4.UnitNexts: the walk. -/
import Derived.Test.YtkjllhphpkmaiaaDoorUrx
import Derived.Test.YtkjllhphpkmaiaaDoorUk1
namespace Go.Proofs.YtkjllhphpkmaiaaDoor
set_option linter.unusedVariables false
set_option linter.unusedSimpArgs false
open Go.RowKit Go.Extern.Stop Go.Stop Go.Extern

theorem unit_same (K A E : Int) (D : List Nat) (a1 a2 : Option Addr) (n1 c1 n2 c2 : Nat) (w : World) (h : Bys w (.slice a1 n1 c1) D) (k : Bys w (.slice a2 n2 c2) D) :
    Calls Tryd.prog 23 #[.agg #[.int .i64 K, .slice a1 n1 c1, .int .i64 A, .int .i64 E], .agg #[.int .i64 K, .slice a2 n2 c2, .int .i64 A, .int .i64 E]] w fun e w' => e = .returned (.bool true) ∧ Ext w w' := by
  have E2 := ((Ext.refl w).alloc (.cells #[.int .i64 K, .slice a1 n1 c1, .int .i64 A, .int .i64 E] 44)).alloc (.cells #[.int .i64 K, .slice a2 n2 c2, .int .i64 A, .int .i64 E] 44)
  have HE2 := Lib.hid E2
  have H := Lib.hid h
  have H2 := Lib.hid k
  clear E2 h k
  go_enter Tryd.func23, Tryd.ntmps23
  go_wp2_with fail
  refine (bytes_same D _ _ _ (H.out.ext HE2.out) (H2.out.ext HE2.out)).mono ?_; rintro e w1 ⟨rfl, rfl⟩
  go_wp2
  go_ret
  exact ⟨rfl, HE2.out⟩
set_option maxHeartbeats 8000000 in
set_option maxRecDepth 20000 in
theorem nexts_law (bs : List Nat) (at' : Int) (v : Value) (w : World) (hg : EtIs w) (hnb : NbIs w) (rb : Row w v bs.length (bs.map fun x : Nat => Value.int .u8 (x : Int))) (hb : ∀ x ∈ bs, x < 256) :
    Calls Tryd.prog 5 #[v, .int .i64 at'] w fun e w' => e = .returned (.bool true) ∧ Ext w w' := by
  have HG := Lib.hid hg
  have HNB := Lib.hid hnb
  obtain ⟨a, cap, rfl⟩ := rb.form
  obtain ⟨l, hl⟩ : ∃ l, bs.length = l := ⟨_, rfl⟩
  rw [hl] at rb ⊢
  by_cases h1 : 20000 < l
  · have h1' : (20000 : Int) < (l : Int) := by omega
    clear hg hnb rb hl
    go_enter Tryd.func5, Tryd.ntmps5
    go_wp2_with fail
    refine (first4_any _ HG.out HNB.out).mono ?_; rintro e w1 ⟨rfl, hx1⟩
    have HX1 := Lib.hid hx1
    clear hx1
    go_wp2_with fail
    refine (first4_any _ (HG.out.ext HX1.out) (HNB.out.ext HX1.out)).mono ?_; rintro e w2 ⟨rfl, hx2⟩
    have HX2 := Lib.hid hx2
    clear hx2
    go_wp2
    go_ret
    exact ⟨rfl, HX1.out.trans HX2.out⟩
  · have h1' : ¬ (20000 : Int) < (l : Int) := by omega
    have HB : Hid (Bys w (.slice a l cap) bs) := ⟨by rw [hl]; exact rb, hb, by rw [hl]; omega⟩
    have UN := Lib.hid (next_any bs at')
    have UR := Lib.hid (rnext_any bs at')
    obtain ⟨⟨F, K, D, A, E⟩, hR⟩ : ∃ R, nxU bs at' = R := ⟨_, rfl⟩
    rw [hR] at UN UR
    clear hg hnb rb hl hb hR
    go_enter Tryd.func5, Tryd.ntmps5
    go_wp2_with fail
    refine (first4_any _ HG.out HNB.out).mono ?_; rintro e w1 ⟨rfl, hx1⟩
    have HX1 := Lib.hid hx1
    clear hx1
    go_wp2_with fail
    refine (UN.out _ _ (HNB.out.ext HX1.out) (HB.out.ext HX1.out)).mono ?_; rintro e w2 ⟨u, z, rfl, ho, he, hx2⟩
    obtain ⟨a1, c1, rfl⟩ := own_frm ho
    have E3 : Ext w2 (w2.alloc (.cells #[.int .i64 (K : Int), .slice a1 D.length c1, .int .i64 A, .int .i64 E] 44)) := (Ext.refl w2).alloc _
    have HX3 := Lib.hid ((HX1.out.trans hx2).trans E3)
    have HO3 := Lib.hid (ownsRow_ext ho E3)
    have HZ3 := Lib.hid (he.ext E3)
    have HU3 := Lib.hid (UBox.new w2 (K : Int) (.slice a1 D.length c1) A E 44)
    clear ho he hx2 E3
    go_wp2_with fail
    refine (UR.out _ _ (HB.out.ext HX3.out)).mono ?_; rintro e w4 ⟨u4, c, x, rfl, hy4, hz4, hx4⟩
    obtain ⟨xa, xn, xc, rfl⟩ := hz4.frm
    obtain ⟨a4, c4, rfl⟩ := hy4.form
    have E5 := ((Ext.refl w4).alloc (.cells #[.int .i64 (K : Int), .slice a4 D.length c4, .int .i64 A, .int .i64 E] 44)).alloc (.cells #[.int .i64 c, .slice xa xn xc] 32)
    have HX5 := Lib.hid ((HX3.out.trans hx4).trans E5)
    have HY5 := Lib.hid ((Bys.of_owns (ownsRow_ext HO3.out hx4) hy4.2.1 hy4.2.2).ext E5)
    have HC5 := Lib.hid (hy4.ext E5)
    have HZ5 := Lib.hid ((HZ3.out.ext hx4).ext E5)
    have HR5 := Lib.hid (hz4.ext E5)
    have HU5 := Lib.hid ((HU3.out.ext hx4).ext E5)
    have HV5 := Lib.hid ((UBox.new w4 (K : Int) (.slice a4 D.length c4) A E 44).ext ((Ext.refl _).alloc (.cells #[.int .i64 c, .slice xa xn xc] 32)))
    have HQ0 : Hid ((((w4.alloc (.cells #[.int .i64 (K : Int), .slice a4 D.length c4, .int .i64 A, .int .i64 E] 44)).alloc (.cells #[.int .i64 c, .slice xa xn xc] 32))).cell? ⟨w4.heap.size + 1, 0, none⟩ = some (.int .i64 c)) := by show _ = _; simp
    have HQ1 : Hid ((((w4.alloc (.cells #[.int .i64 (K : Int), .slice a4 D.length c4, .int .i64 A, .int .i64 E] 44)).alloc (.cells #[.int .i64 c, .slice xa xn xc] 32))).cell? ⟨w4.heap.size + 1, 1, none⟩ = some (.slice xa xn xc)) := by show _ = _; simp
    clear hy4 hz4 hx4 E5 HO3 HZ3 HU3
    go_wp2_with fail
    refine (first4_any _ (HG.out.ext HX5.out) (HNB.out.ext HX5.out)).mono ?_; rintro e w6 ⟨rfl, hx6⟩
    have HX6 := Lib.hid (HX5.out.trans hx6)
    have HY6 := Lib.hid (HY5.out.ext hx6)
    have HC6 := Lib.hid (HC5.out.ext hx6)
    have HZ6 := Lib.hid (HZ5.out.ext hx6)
    have HR6 := Lib.hid (HR5.out.ext hx6)
    have HU6 := Lib.hid (HU5.out.ext hx6)
    have HV6 := Lib.hid (HV5.out.ext hx6)
    have HQ6 := Lib.hid (hx6.cell HQ0.out)
    have HQ7 := Lib.hid (hx6.cell HQ1.out)
    obtain ⟨⟨q0, q1, q2, q3⟩, -⟩ := HU6.out
    obtain ⟨⟨r0, r1, r2, r3⟩, -⟩ := HV6.out
    clear hx6
    go_wp2_with fail
    refine (unit_same (K : Int) A E D _ _ _ _ _ _ _ HY6.out HC6.out).mono ?_; rintro e w7 ⟨rfl, hx7⟩
    have HX7 := Lib.hid (HX6.out.trans hx7)
    have HZ7 := Lib.hid (HZ6.out.ext hx7)
    have HR7 := Lib.hid (HR6.out.ext hx7)
    have s0 := hx7.cell HQ6.out
    have s1 := hx7.cell HQ7.out
    clear hx7
    go_wp2_with fail
    refine (same_fall F _ _ _ _ (HG.out.ext HX7.out) HZ7.out HR7.out).mono ?_; rintro e w8 ⟨rfl, hx8⟩
    have HX8 := Lib.hid (HX7.out.trans hx8)
    clear hx8
    go_wp2
    go_ret
    exact ⟨rfl, HX8.out⟩
end Go.Proofs.YtkjllhphpkmaiaaDoor
