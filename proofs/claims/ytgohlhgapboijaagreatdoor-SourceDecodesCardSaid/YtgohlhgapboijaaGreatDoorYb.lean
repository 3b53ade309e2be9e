/- Contracts of this seat: Sdc. -/
import Derived.Test.YtgohlhgapboijaaGreatDoorYa
import Derived.Test.YtgohlhgapboijaaGreatDoorZs
/- kinlaw15.SourceDecodes: the walk. -/
namespace Go.Proofs.YtgohlhgapboijaaGreatDoor
set_option linter.unusedVariables false
set_option linter.unusedSimpArgs false
open Go.RowKit Go.Extern.Stop Go.Stop Go.Extern

theorem dcR_smallF (bs : List Nat) : (dcR bs).2.length ≤ 1000000 ∧ ∀ (q : Nat) (f : Fr), (dcR bs).2[q]? = some f → f.2.2.length ≤ 1000000 := by
  cases hR : (dcR bs).1 with
  | none =>
    obtain ⟨h0, hlen, hlk⟩ := dcR_like hR
    obtain ⟨-, -, -, hX, hY, hNb⟩ := hdC_zero h0
    refine ⟨by omega, fun q f hq => ?_⟩
    obtain ⟨-, -, h3, -⟩ := hlk f (List.mem_of_getElem? hq)
    have : 8 * bs.getD 2 0 * (8 * bs.getD 3 0) ≤ 32 * 32 := Nat.mul_le_mul (by omega) (by omega)
    omega
  | some a =>
    rw [dcR_err (by rw [hR]; simp)]
    exact ⟨by simp, fun q f hq => by simp at hq⟩
set_option maxHeartbeats 8000000 in
set_option maxRecDepth 100000 in
theorem decodes_few (bs : List Nat) (v : Value) (w : World) (hg : EtIs w) (hT : PwIs w) (h : Bys w v bs) (hl : bs.length ≤ 20000) :
    Calls Tryz.prog 4 #[v] w fun e w' => e = .returned (.bool true) ∧ Ext w w' := by
  obtain ⟨a, cap, rfl⟩ := h.form
  obtain ⟨n, hn⟩ : ∃ n, bs.length = n := ⟨_, rfl⟩
  have HN := Lib.hid hn
  have HSM := Lib.hid (dcR_smallF bs)
  rw [hn] at h hl ⊢
  have HB := Lib.hid h
  have HG := Lib.hid hg
  have HT := Lib.hid hT
  have hl' : ¬ (20000 : Int) < (n : Int) := by omega
  clear h hg hT hn hl
  go_enter Tryz.func4, Tryz.ntmps4
  go_wp2_with fail
  refine (first15_any _ HG.out HT.out).mono ?_; rintro e w1 ⟨rfl, x1⟩
  have HX1 := Lib.hid x1
  clear x1
  go_wp2_with fail
  refine (cpb_any bs _ _ (HB.out.ext HX1.out)).mono ?_; rintro e w2 ⟨u2, rfl, ho2, x2⟩
  have HX2 := Lib.hid (HX1.out.trans x2)
  have HB2 : Hid (Bys w2 u2 bs) := Bys.of_owns ho2 HB.out.2.1 HB.out.2.2
  obtain ⟨a2, c2, rfl⟩ := HB2.out.form
  rw [HN.out] at HB2 ⊢
  clear ho2 x2 HX1
  go_wp2_with fail
  refine (decode_any bs _ _ HB2.out).mono ?_; rintro e w3 ⟨lv, xe, rfl, x3, he3, hf3⟩
  have HX3 := Lib.hid (HX2.out.trans x3)
  have HB3 := Lib.hid (HB2.out.ext x3)
  have HE3 := Lib.hid he3
  have HF3 := Lib.hid hf3
  clear he3 hf3 x3 HX2 HB2
  go_wp2_with fail
  refine (rdecode_any bs _ _ (HB.out.ext HX3.out)).mono ?_; rintro e w4 ⟨mv, c4, u4, rfl, x4, he4, hf4⟩
  obtain ⟨ua, un, uc, rfl⟩ := rerr_form15 he4
  have HX4 := Lib.hid (HX3.out.trans x4)
  have HB4 := Lib.hid (HB3.out.ext x4)
  have HE4 := Lib.hid (HE3.out.ext x4)
  have HF4 := Lib.hid (HF3.out.ext x4)
  have HR4 := Lib.hid he4
  have HM4 := Lib.hid hf4
  clear he4 hf4 x4 HX3 HB3 HE3 HF3
  go_wp2_with fail
  have E6 := Lib.hid ((Ext.refl w4).alloc (.cells #[.int .i64 c4, .slice ua un uc] 34))
  have c0 : (w4.alloc (.cells #[.int .i64 c4, .slice ua un uc] 34)).cell? ⟨w4.heap.size, 0, none⟩ = some (.int .i64 c4) := by simp
  have c1 : (w4.alloc (.cells #[.int .i64 c4, .slice ua un uc] 34)).cell? ⟨w4.heap.size, 1, none⟩ = some (.slice ua un uc) := by simp
  have C0 := Lib.hid c0
  have C1 := Lib.hid c1
  clear c0 c1
  refine (first15_any _ (HG.out.ext (HX4.out.trans E6.out)) (HT.out.ext (HX4.out.trans E6.out))).mono ?_; rintro e w6 ⟨rfl, x6⟩
  have HX6 := Lib.hid (E6.out.trans x6)
  have k0 := x6.cell C0.out
  have k1 := x6.cell C1.out
  have UFS := Lib.hid (frames_same (dcR bs).2 lv mv w6 (HF4.out.ext HX6.out) (HM4.out.ext HX6.out) HSM.out.1 HSM.out.2)
  clear x6 E6 C0 C1
  go_wp2_with fail
  refine UFS.out.mono ?_; rintro e w7 ⟨rfl, x7⟩
  have HX7 := Lib.hid (HX6.out.trans x7)
  have m0 := x7.cell k0
  have m1 := x7.cell k1
  have US := Lib.hid (same_fall (dcR bs).1 xe (.slice ua un uc) c4 w7 (HG.out.ext (HX4.out.trans HX7.out)) (HE4.out.ext HX7.out) (HR4.out.ext HX7.out))
  clear x7 k0 k1 UFS
  go_wp2_with fail
  refine US.out.mono ?_; rintro e w8 ⟨rfl, x8⟩
  have HX8 := Lib.hid (HX7.out.trans x8)
  clear x8
  go_wp2_with fail
  refine (bytes_same bs _ _ w8 (HB4.out.ext HX8.out) (HB.out.ext (HX4.out.trans HX8.out))).mono ?_; rintro e w9 ⟨rfl, rfl⟩
  go_wp2
  go_ret
  exact ⟨rfl, HX4.out.trans HX8.out⟩
set_option maxHeartbeats 4000000 in
set_option maxRecDepth 100000 in
theorem decodes_law (bs : List Nat) (v : Value) (w : World) (hg : EtIs w) (hT : PwIs w) (rb : Row w v bs.length (bs.map fun x : Nat => Value.int .u8 (x : Int))) (hb : ∀ x ∈ bs, x < 256) :
    Calls Tryz.prog 4 #[v] w fun e w' => e = .returned (.bool true) ∧ Ext w w' := by
  by_cases hs : bs.length ≤ 20000
  · exact decodes_few bs v w hg hT ⟨rb, hb, by omega⟩ hs
  · obtain ⟨a, cap, rfl⟩ := rb.form
    obtain ⟨n, hn⟩ : ∃ n, bs.length = n := ⟨_, rfl⟩
    rw [hn] at rb hs ⊢
    have hl : (20000 : Int) < (n : Int) := by omega
    have HG := Lib.hid hg
    have HT := Lib.hid hT
    clear rb hg hT hn hs
    go_enter Tryz.func4, Tryz.ntmps4
    go_wp2_with fail
    refine (first15_any _ HG.out HT.out).mono ?_; rintro e w2 ⟨rfl, x2⟩
    have HX2 := Lib.hid x2
    clear x2
    go_wp2_with fail
    refine (first15_any _ (HG.out.ext HX2.out) (HT.out.ext HX2.out)).mono ?_; rintro e w3 ⟨rfl, x3⟩
    go_wp2
    go_ret
    exact ⟨rfl, HX2.out.trans x3⟩
end Go.Proofs.YtgohlhgapboijaaGreatDoor
