/- Contracts of this seat: Syq. -/
import Derived.Test.YtpofabebmeickaaDoorZm
import Derived.Test.YtpofabebmeickaaDoorZo
/- kinlaw20.SyntaxPairs. -/
namespace Go.Proofs.YtpofabebmeickaaDoor
set_option linter.unusedVariables false
set_option linter.unusedSimpArgs false
open Go.RowKit Go.Extern.Stop Go.Stop Go.Extern

set_option maxHeartbeats 4000000 in
set_option maxRecDepth 20000 in
theorem pairs20 (k q k2 : Int) (bs cs : List Nat) (v v2 : Value) (w : World) (hg : EtIs w) (nb : NbIs w) (h : Row w v bs.length (bs.map fun x : Nat => Value.int .u8 (x : Int))) (hb : ∀ x ∈ bs, x < 256) (hc : Row w v2 cs.length (cs.map fun x : Nat => Value.int .u8 (x : Int))) (hcb : ∀ x ∈ cs, x < 256) : Calls Tryd.prog 4 #[.agg #[.int .i64 k, .int .i64 q, v], .agg #[.int .i64 k2, v2]] w fun e w' => e = .returned (.bool true) ∧ Ext w w' := by
  obtain ⟨va, vc, rfl⟩ := h.form
  obtain ⟨ua, uc, rfl⟩ := hc.form
  obtain ⟨n, hn⟩ : ∃ n, bs.length = n := ⟨_, rfl⟩
  obtain ⟨m, hm⟩ : ∃ m, cs.length = m := ⟨_, rfl⟩
  have HN := Lib.hid hn
  have HM := Lib.hid hm
  rw [hn] at h ⊢
  rw [hm] at hc ⊢
  have A0 := (BoxIs.new w #[.int .i64 k, .int .i64 q, .slice va n vc] 24).ext ((Ext.refl _).alloc (.cells #[.int .i64 k2, .slice ua m uc] 26))
  have A1 := BoxIs.new (w.alloc (.cells #[.int .i64 k, .int .i64 q, .slice va n vc] 24)) #[.int .i64 k2, .slice ua m uc] 26
  have hs : (w.alloc (.cells #[.int .i64 k, .int .i64 q, .slice va n vc] 24)).heap.size = w.heap.size + 1 := by simp
  rw [hs] at A1
  have E2 := ((Ext.refl w).alloc (.cells #[.int .i64 k, .int .i64 q, .slice va n vc] 24)).alloc (.cells #[.int .i64 k2, .slice ua m uc] 26)
  obtain ⟨w2, hw2⟩ : ∃ z, (w.alloc (.cells #[.int .i64 k, .int .i64 q, .slice va n vc] 24)).alloc (.cells #[.int .i64 k2, .slice ua m uc] 26) = z := ⟨_, rfl⟩
  rw [hw2] at A0 A1 E2
  have HW2 := Lib.hid hw2
  have A0 := Lib.hid A0
  have A1 := Lib.hid A1
  have HBR := Lib.hid (h.ext E2)
  have HCR := Lib.hid (hc.ext E2)
  have HBB := Lib.hid hb
  have HCB := Lib.hid hcb
  have HG := Lib.hid (hg.ext E2)
  have HNB := Lib.hid (nb.ext E2)
  have E2 := Lib.hid E2
  clear hw2 hs h hc hg hn hm hb hcb nb
  go_enter Tryd.func4, Tryd.ntmps4
  go_wp2_with fail
  have hw2 := HW2.out
  rw [hw2]
  clear hw2 HW2
  refine (first20_any _ HG.out).mono ?_; rintro e w3 ⟨rfl, x3⟩
  have E3 := Lib.hid x3
  have c0 := (A0.out.ext x3).cell (i := 0) (v := .int .i64 k) rfl
  have c1 := (A0.out.ext x3).cell (i := 1) (v := .int .i64 q) rfl
  have c2 := (A0.out.ext x3).cell (i := 2) (v := .slice va n vc) rfl
  have d0 := (A1.out.ext x3).cell (i := 0) (v := .int .i64 k2) rfl
  have d1 := (A1.out.ext x3).cell (i := 1) (v := .slice ua m uc) rfl
  clear x3
  have short : ∀ b : Bool, b = true → True := fun _ _ => trivial
  by_cases h1 : 70000 < n
  · have h1' : (70000 : Int) < (n : Int) := by omega
    go_wp2_with fail
    refine (first20_any _ (HG.out.ext E3.out)).mono ?_; rintro e w4 ⟨rfl, x4⟩
    go_wp2
    go_ret
    exact ⟨rfl, E2.out.trans (E3.out.trans x4)⟩
  have h1' : ¬ (70000 : Int) < (n : Int) := by omega
  by_cases h2 : 70000 < m
  · have h2' : (70000 : Int) < (m : Int) := by omega
    go_wp2_with fail
    refine (first20_any _ (HG.out.ext E3.out)).mono ?_; rintro e w4 ⟨rfl, x4⟩
    go_wp2
    go_ret
    exact ⟨rfl, E2.out.trans (E3.out.trans x4)⟩
  have h2' : ¬ (70000 : Int) < (m : Int) := by omega
  have HL : Hid (bs.length ≤ 1000000) := by show _ ≤ _; rw [HN.out]; omega
  have HLC : Hid (cs.length ≤ 1000000) := by show _ ≤ _; rw [HM.out]; omega
  have HB : Hid (Bys w2 (.slice va n vc) bs) := Lib.hid ⟨by rw [HN.out]; exact HBR.out, HBB.out, Nat.le_trans HL.out (by decide)⟩
  have HC : Hid (Bys w2 (.slice ua m uc) cs) := Lib.hid ⟨by rw [HM.out]; exact HCR.out, HCB.out, Nat.le_trans HLC.out (by decide)⟩
  clear h1 h2 short HBR HCR HBB HCB
  have P1 := Lib.hid (pack_any k q bs (.slice va n vc) w3 (HB.out.ext E3.out) HL.out)
  go_wp2_with fail
  refine (P1.out).mono ?_; rintro e w4 ⟨pu, px, rfl, ⟨hpu, hpp⟩, hpe, x4⟩
  obtain ⟨⟨K1, D1⟩, hp1⟩ : ∃ r, pkV k q bs = r := ⟨_, rfl⟩
  rw [hp1] at hpu ⊢
  have hpu : Bys w4 pu D1 := hpu
  obtain ⟨pa, pc, rfl⟩ := hpu.form
  have X4 := Lib.hid (x4.alloc (.cells #[.int .i64 K1, .slice pa D1.length pc] 26))
  have B4 := Lib.hid (BoxIs.new w4 #[.int .i64 K1, .slice pa D1.length pc] 26)
  have Z4 := Lib.hid (hpu.ext ((Ext.refl w4).alloc (.cells #[.int .i64 K1, .slice pa D1.length pc] 26)))
  have HPP := Lib.hid hpp
  have E4 := Lib.hid (E3.out.trans X4.out)
  clear c0 c1 c2 d0 d1 x4 hpu P1 hpp
  by_cases hz : pkC k q bs.length = 0
  · have hF : pkF k q bs.length = none := by unfold pkF; rw [if_pos hz]
    rw [hF] at hpe
    obtain rfl : px = .nilIface := hpe
    obtain ⟨hr1, hr2⟩ := rd_pk hz
    rw [hp1] at hr1 hr2
    have hr1 : rdC K1 D1 = 0 := hr1
    have hr2 : rdV K1 D1 = (k, q, bs) := hr2
    have hfr : rdF K1 D1 = none := by unfold rdF; rw [if_pos hr1]
    obtain ⟨b1, b2, b3, b4, b5, -⟩ := pkC_ok hz
    have hK : K1 = k := by
      have := congrArg Prod.fst hp1
      unfold pkV at this
      rw [if_pos hz] at this
      exact this.symm
    have hD : D1 = if 2 < k then [] else q.toNat :: bs := by
      have := congrArg Prod.snd hp1
      unfold pkV at this
      rw [if_pos hz] at this
      exact this.symm
    have hDl : D1.length ≤ 65536 := by rw [hD]; split <;> simp <;> omega
    have uk : ukF K1 D1.length = none := by unfold ukF; rw [if_neg (by omega), if_neg (by omega)]
    have hEl : (ukV K1 D1).length = D1.length + 8 := by
      unfold ukV
      rw [uk]
      show (encB K1.toNat D1).length = _
      unfold encB
      rw [if_neg (by omega), List.length_append, hdB_len]
      simp [be4]
    have P2 := read_any K1 D1 _ _ Z4.out (Nat.le_trans hDl (by decide))
    rw [hr2, hfr] at P2
    have P2 := Lib.hid P2
    have UK := Lib.hid uk
    have HEL := Lib.hid hEl
    have HDL := Lib.hid hDl
    have c0 := B4.out.cell (i := 0) (v := .int .i64 K1) rfl
    have c1 := B4.out.cell (i := 1) (v := .slice pa D1.length pc) rfl
    clear hr1 hr2 hfr b1 b2 b3 b4 b5 hD hDl uk hEl hF hz hp1 hK
    go_wp2_with fail
    refine (P2.out).mono ?_; rintro e w5 ⟨gu, gx, rfl, hgu, hge, x5⟩
    obtain rfl : gx = .nilIface := hge
    have hgu : Bys w5 gu bs := hgu
    obtain ⟨ga, gc, rfl⟩ := hgu.form
    have X5 := Lib.hid (x5.alloc (.cells #[.int .i64 k, .int .i64 q, .slice ga bs.length gc] 24))
    have B5 := Lib.hid (BoxIs.new w5 #[.int .i64 k, .int .i64 q, .slice ga bs.length gc] 24)
    have Z5 := Lib.hid (hgu.ext ((Ext.refl w5).alloc (.cells #[.int .i64 k, .int .i64 q, .slice ga bs.length gc] 24)))
    have E5 := Lib.hid (E4.out.trans X5.out)
    clear x5 hgu c0 c1 P2
    have c0 := (B4.out.ext X5.out).cell (i := 0) (v := .int .i64 K1) rfl
    have c1 := (B4.out.ext X5.out).cell (i := 1) (v := .slice pa D1.length pc) rfl
    go_wp2_with fail
    refine (make_any K1 D1 _ _ (HNB.out.ext E5.out) (Z4.out.ext X5.out) HPP.out).mono ?_; rintro e w6 ⟨mu, mx, rfl, hmo, hme, x6⟩
    rw [UK.out] at hme
    obtain rfl : mx = .nilIface := hme
    obtain ⟨ma, mc, rfl⟩ := (Row.of_owns hmo).form
    rw [HEL.out]
    obtain ⟨N, hNN⟩ : ∃ N, D1.length + 8 = N := ⟨_, rfl⟩
    rw [hNN]
    have HNN := Lib.hid hNN
    have E6 := Lib.hid (E5.out.trans x6)
    have X6 := Lib.hid x6
    clear x6 hmo c0 c1 hNN
    have c0 := (B5.out.ext X6.out).cell (i := 0) (v := .int .i64 k) rfl
    have c1 := (B5.out.ext X6.out).cell (i := 1) (v := .int .i64 q) rfl
    have c2 := (B5.out.ext X6.out).cell (i := 2) (v := .slice ga bs.length gc) rfl
    have d0 := (A0.out.ext E6.out).cell (i := 0) (v := .int .i64 k) rfl
    have d1 := (A0.out.ext E6.out).cell (i := 1) (v := .int .i64 q) rfl
    have d2 := (A0.out.ext E6.out).cell (i := 2) (v := .slice va n vc) rfl
    have a0 := (B4.out.ext (X5.out.trans X6.out)).cell (i := 0) (v := .int .i64 K1) rfl
    have a1 := (B4.out.ext (X5.out.trans X6.out)).cell (i := 1) (v := .slice pa D1.length pc) rfl
    have kk : (k != k) = false := bne_self_eq_false k
    have qq : (q != q) = false := bne_self_eq_false q
    have nn : ((N : Int) != (N : Int)) = false := bne_self_eq_false _
    go_wp2_with fail
    refine (bytes_same bs _ _ _ (Z5.out.ext X6.out) (HB.out.ext E6.out)).mono ?_; rintro e w7 ⟨rfl, rfl⟩
    go_wp2_with fail
    refine (cost_any K1 D1 _ _ (Z4.out.ext (X5.out.trans X6.out)) (Nat.le_trans HDL.out (by decide))).mono ?_; rintro e wt ⟨rfl, x7⟩
    rw [show ((D1.length : Int) + 8) = (N : Int) by have := HNN.out; omega]
    have ET := Lib.hid (E6.out.trans x7)
    clear x7 c0 c1 c2 d0 d1 d2 a0 a1 kk qq
    clear E5 E6 X5 X6 B5 Z5
    have c0 := (A1.out.ext ET.out).cell (i := 0) (v := .int .i64 k2) rfl
    have c1 := (A1.out.ext ET.out).cell (i := 1) (v := .slice ua m uc) rfl
    have P3 := Lib.hid (read_any k2 cs (.slice ua m uc) _ (HC.out.ext ET.out) HLC.out)
    go_wp2_with fail
    refine (P3.out).mono ?_; rintro e w7 ⟨qu, qx, rfl, hqu, hqe, x7⟩
    clear c0 c1 P3
    obtain ⟨⟨K2, Q2, D2⟩, hp2⟩ : ∃ r, rdV k2 cs = r := ⟨_, rfl⟩
    rw [hp2] at hqu ⊢
    have hqu : Bys w7 qu D2 := hqu
    obtain ⟨qa, qc, rfl⟩ := hqu.form
    by_cases hy : rdC k2 cs = 0
    · have hf2 : rdF k2 cs = none := by unfold rdF; rw [if_pos hy]
      rw [hf2] at hqe
      obtain rfl : qx = .nilIface := hqe
      obtain ⟨hs1, hs2⟩ := pk_rd hy
      rw [hp2] at hs1 hs2
      have hs2 : pkV K2 Q2 D2 = (k2, cs) := hs2
      have hs1 : pkC K2 Q2 D2.length = 0 := hs1
      have hs3 : pkF K2 Q2 D2.length = none := by unfold pkF; rw [if_pos hs1]
      have hDl : D2.length ≤ 1000000 := by
        obtain ⟨-, -, -, -, h5, -⟩ := pkC_ok hs1
        exact Nat.le_trans (Nat.le_of_lt h5) (by decide)
      have X7 := Lib.hid (x7.alloc (.cells #[.int .i64 K2, .int .i64 Q2, .slice qa D2.length qc] 24))
      have B7 := BoxIs.new w7 #[.int .i64 K2, .int .i64 Q2, .slice qa D2.length qc] 24
      have P4 := pack_any K2 Q2 D2 _ _ (hqu.ext ((Ext.refl w7).alloc (.cells #[.int .i64 K2, .int .i64 Q2, .slice qa D2.length qc] 24))) hDl
      rw [hs2, hs3] at P4
      have P4 := Lib.hid P4
      have c0 := B7.cell (i := 0) (v := .int .i64 K2) rfl
      have c1 := B7.cell (i := 1) (v := .int .i64 Q2) rfl
      have c2 := B7.cell (i := 2) (v := .slice qa D2.length qc) rfl
      clear x7 hqu hp2 hs1 hs2 hs3 hf2 hDl B7
      go_wp2_with fail
      refine (P4.out).mono ?_; rintro e w8 ⟨yu, yx, rfl, ⟨hyu, -⟩, hye, x8⟩
      obtain rfl : yx = .nilIface := hye
      have hyu : Bys w8 yu cs := hyu
      obtain ⟨ya, yc, rfl⟩ := hyu.form
      have X8 := Lib.hid (x8.alloc (.cells #[.int .i64 k2, .slice ya cs.length yc] 26))
      have B8 := Lib.hid (BoxIs.new w8 #[.int .i64 k2, .slice ya cs.length yc] 26)
      have Z8 := Lib.hid (hyu.ext ((Ext.refl w8).alloc (.cells #[.int .i64 k2, .slice ya cs.length yc] 26)))
      clear x8 hyu c0 c1 c2 P4
      go_wp2_with fail
      refine (first20_any _ (HG.out.ext (ET.out.trans (X7.out.trans X8.out)))).mono ?_; rintro e w9 ⟨rfl, x9⟩
      have E9 := Lib.hid (ET.out.trans (X7.out.trans (X8.out.trans x9)))
      have c0 := (B8.out.ext x9).cell (i := 0) (v := .int .i64 k2) rfl
      have c1 := (B8.out.ext x9).cell (i := 1) (v := .slice ya cs.length yc) rfl
      have d0 := (A1.out.ext E9.out).cell (i := 0) (v := .int .i64 k2) rfl
      have d1 := (A1.out.ext E9.out).cell (i := 1) (v := .slice ua m uc) rfl
      have Z9 := Lib.hid (Z8.out.ext x9)
      clear x9
      go_wp2_with fail
      refine (coded_same k2 cs _ _ _ Z9.out (HC.out.ext E9.out)).mono ?_; rintro e wA ⟨rfl, xA⟩
      go_wp2
      go_ret
      exact ⟨rfl, E2.out.trans (E9.out.trans xA)⟩
    · have hf2 : rdF k2 cs = some ([], rdC k2 cs) := by unfold rdF; rw [if_neg hy]
      rw [hf2] at hqe
      obtain ⟨ty, ry, rfl⟩ := hqe.ne
      have X7 := Lib.hid (x7.alloc (.cells #[.int .i64 K2, .int .i64 Q2, .slice qa D2.length qc] 24))
      clear x7 hqu hqe hp2
      go_wp2_with fail
      refine (first20_any _ (HG.out.ext (ET.out.trans X7.out))).mono ?_; rintro e w8 ⟨rfl, x8⟩
      go_wp2
      go_ret
      exact ⟨rfl, E2.out.trans (ET.out.trans (X7.out.trans x8))⟩
  · have hF : pkF k q bs.length = some ([], pkC k q bs.length) := by unfold pkF; rw [if_neg hz]
    rw [hF] at hpe
    obtain ⟨tz, rz, rfl⟩ := hpe.ne
    have ET := E4
    clear hpe hF hz hp1
    have c0 := (A1.out.ext ET.out).cell (i := 0) (v := .int .i64 k2) rfl
    have c1 := (A1.out.ext ET.out).cell (i := 1) (v := .slice ua m uc) rfl
    have P3 := Lib.hid (read_any k2 cs (.slice ua m uc) _ (HC.out.ext ET.out) HLC.out)
    go_wp2_with fail
    refine (P3.out).mono ?_; rintro e w7 ⟨qu, qx, rfl, hqu, hqe, x7⟩
    clear c0 c1 P3
    obtain ⟨⟨K2, Q2, D2⟩, hp2⟩ : ∃ r, rdV k2 cs = r := ⟨_, rfl⟩
    rw [hp2] at hqu ⊢
    have hqu : Bys w7 qu D2 := hqu
    obtain ⟨qa, qc, rfl⟩ := hqu.form
    by_cases hy : rdC k2 cs = 0
    · have hf2 : rdF k2 cs = none := by unfold rdF; rw [if_pos hy]
      rw [hf2] at hqe
      obtain rfl : qx = .nilIface := hqe
      obtain ⟨hs1, hs2⟩ := pk_rd hy
      rw [hp2] at hs1 hs2
      have hs2 : pkV K2 Q2 D2 = (k2, cs) := hs2
      have hs1 : pkC K2 Q2 D2.length = 0 := hs1
      have hs3 : pkF K2 Q2 D2.length = none := by unfold pkF; rw [if_pos hs1]
      have hDl : D2.length ≤ 1000000 := by
        obtain ⟨-, -, -, -, h5, -⟩ := pkC_ok hs1
        exact Nat.le_trans (Nat.le_of_lt h5) (by decide)
      have X7 := Lib.hid (x7.alloc (.cells #[.int .i64 K2, .int .i64 Q2, .slice qa D2.length qc] 24))
      have B7 := BoxIs.new w7 #[.int .i64 K2, .int .i64 Q2, .slice qa D2.length qc] 24
      have P4 := pack_any K2 Q2 D2 _ _ (hqu.ext ((Ext.refl w7).alloc (.cells #[.int .i64 K2, .int .i64 Q2, .slice qa D2.length qc] 24))) hDl
      rw [hs2, hs3] at P4
      have P4 := Lib.hid P4
      have c0 := B7.cell (i := 0) (v := .int .i64 K2) rfl
      have c1 := B7.cell (i := 1) (v := .int .i64 Q2) rfl
      have c2 := B7.cell (i := 2) (v := .slice qa D2.length qc) rfl
      clear x7 hqu hp2 hs1 hs2 hs3 hf2 hDl B7
      go_wp2_with fail
      refine (P4.out).mono ?_; rintro e w8 ⟨yu, yx, rfl, ⟨hyu, -⟩, hye, x8⟩
      obtain rfl : yx = .nilIface := hye
      have hyu : Bys w8 yu cs := hyu
      obtain ⟨ya, yc, rfl⟩ := hyu.form
      have X8 := Lib.hid (x8.alloc (.cells #[.int .i64 k2, .slice ya cs.length yc] 26))
      have B8 := Lib.hid (BoxIs.new w8 #[.int .i64 k2, .slice ya cs.length yc] 26)
      have Z8 := Lib.hid (hyu.ext ((Ext.refl w8).alloc (.cells #[.int .i64 k2, .slice ya cs.length yc] 26)))
      clear x8 hyu c0 c1 c2 P4
      go_wp2_with fail
      refine (first20_any _ (HG.out.ext (ET.out.trans (X7.out.trans X8.out)))).mono ?_; rintro e w9 ⟨rfl, x9⟩
      have E9 := Lib.hid (ET.out.trans (X7.out.trans (X8.out.trans x9)))
      have c0 := (B8.out.ext x9).cell (i := 0) (v := .int .i64 k2) rfl
      have c1 := (B8.out.ext x9).cell (i := 1) (v := .slice ya cs.length yc) rfl
      have d0 := (A1.out.ext E9.out).cell (i := 0) (v := .int .i64 k2) rfl
      have d1 := (A1.out.ext E9.out).cell (i := 1) (v := .slice ua m uc) rfl
      have Z9 := Lib.hid (Z8.out.ext x9)
      clear x9
      go_wp2_with fail
      refine (coded_same k2 cs _ _ _ Z9.out (HC.out.ext E9.out)).mono ?_; rintro e wA ⟨rfl, xA⟩
      go_wp2
      go_ret
      exact ⟨rfl, E2.out.trans (E9.out.trans xA)⟩
    · have hf2 : rdF k2 cs = some ([], rdC k2 cs) := by unfold rdF; rw [if_neg hy]
      rw [hf2] at hqe
      obtain ⟨ty, ry, rfl⟩ := hqe.ne
      have X7 := Lib.hid (x7.alloc (.cells #[.int .i64 K2, .int .i64 Q2, .slice qa D2.length qc] 24))
      clear x7 hqu hqe hp2
      go_wp2_with fail
      refine (first20_any _ (HG.out.ext (ET.out.trans X7.out))).mono ?_; rintro e w8 ⟨rfl, x8⟩
      go_wp2
      go_ret
      exact ⟨rfl, E2.out.trans (ET.out.trans (X7.out.trans x8))⟩
end Go.Proofs.YtpofabebmeickaaDoor
