/- Contracts of this seat: Sy6, Pk, Sy7, Sy8. -/
import Derived.Test.YtpofabebmeickaaDoorZk
import Derived.Deep.RegionHeld3
import Derived.Deep.RegionWith
import Derived.Test.YtpofabebmeickaaDoorZb
import Derived.Test.YtpofabebmeickaaDoorMd4
/- kinref20.Read: its contract over this seat's translation. -/
namespace Go.Proofs.YtpofabebmeickaaDoor
set_option linter.unusedVariables false
set_option linter.unusedSimpArgs false
open Go.RowKit Go.Extern.Stop Go.Stop Go.Extern

def RRdPost (w : World) (r : Int × Int × List Nat) (f : Fall) (e : Ending) (w' : World) : Prop := ∃ u c x, e = .returned (.tuple #[.agg #[.int .i64 r.1, .int .i64 r.2.1, u], .agg #[.int .i64 c, x]]) ∧ Bys w' u r.2.2 ∧ RErrIs w' f c x ∧ Ext w w'
theorem hdr_new (w : World) : HdAt (w.alloc (.cells #[.int .i64 0, .int .i64 0, .slice none 0 0] 39)) w.heap.size := by
  refine ⟨⟨by simp, by simp, by simp⟩, by simp, by simp, by simp⟩
/-- a head and an error of the call's own -/
theorem hd_res {w : World} {B C : Nat} (hne : B ≠ C) {d : Int} (x y z v : Value) (h : HdAt w B) (k : ResAt w C) :
    (((((w.setCell ⟨B, 0, none⟩ x).setCell ⟨B, 1, none⟩ y).setCell ⟨B, 2, none⟩ z).setCell ⟨C, 0, none⟩ (.int .i64 d)).setCell ⟨C, 1, none⟩ v).cell? ⟨B, 0, none⟩ = some x ∧ (((((w.setCell ⟨B, 0, none⟩ x).setCell ⟨B, 1, none⟩ y).setCell ⟨B, 2, none⟩ z).setCell ⟨C, 0, none⟩ (.int .i64 d)).setCell ⟨C, 1, none⟩ v).cell? ⟨B, 1, none⟩ = some y ∧ (((((w.setCell ⟨B, 0, none⟩ x).setCell ⟨B, 1, none⟩ y).setCell ⟨B, 2, none⟩ z).setCell ⟨C, 0, none⟩ (.int .i64 d)).setCell ⟨C, 1, none⟩ v).cell? ⟨B, 2, none⟩ = some z ∧ (((((w.setCell ⟨B, 0, none⟩ x).setCell ⟨B, 1, none⟩ y).setCell ⟨B, 2, none⟩ z).setCell ⟨C, 0, none⟩ (.int .i64 d)).setCell ⟨C, 1, none⟩ v).cell? ⟨C, 0, none⟩ = some (.int .i64 d) ∧ (((((w.setCell ⟨B, 0, none⟩ x).setCell ⟨B, 1, none⟩ y).setCell ⟨B, 2, none⟩ z).setCell ⟨C, 0, none⟩ (.int .i64 d)).setCell ⟨C, 1, none⟩ v).cell? ⟨C, 1, none⟩ = some v := by
  obtain ⟨a0, a1, a2⟩ := hd_cells x y z h.1.1 h.1.2.1 h.1.2.2
  generalize hw1 : ((w.setCell ⟨B, 0, none⟩ x).setCell ⟨B, 1, none⟩ y).setCell ⟨B, 2, none⟩ z = w1 at a0 a1 a2 ⊢
  have e : ∀ i : Nat, w1.cell? ⟨C, i, none⟩ = w.cell? ⟨C, i, none⟩ := fun i => by
    rw [← hw1]
    exact ((World.cell?_setCell_other _ _ _ _ (by simp [Ne.symm hne])).trans (World.cell?_setCell_other _ _ _ _ (by simp [Ne.symm hne]))).trans (World.cell?_setCell_other _ _ _ _ (by simp [Ne.symm hne]))
  obtain ⟨b0, b1⟩ := res_cells ((e 0).trans k.1) ((e 1).trans k.2.1) (c := d) v
  have e2 : ∀ i : Nat, ((w1.setCell ⟨C, 0, none⟩ (.int .i64 d)).setCell ⟨C, 1, none⟩ v).cell? ⟨B, i, none⟩ = w1.cell? ⟨B, i, none⟩ := fun i => (World.cell?_setCell_other _ _ _ _ (by simp [hne])).trans (World.cell?_setCell_other _ _ _ _ (by simp [hne]))
  exact ⟨(e2 0).trans a0, (e2 1).trans a1, (e2 2).trans a2, b0, b1⟩
theorem below_setR1 {B i : Nat} {a w : World} {u : Value} (h : Below B a w) : Below B a (w.setCell ⟨B + 1, i, none⟩ u) := Below.setCell h (p := ⟨B + 1, i, none⟩) (Nat.le_succ _) u
set_option maxHeartbeats 4000000 in
set_option maxRecDepth 20000 in
theorem rread_any (k : Int) (bs : List Nat) (v : Value) (w : World) (h : Bys w v bs) (hlen : bs.length ≤ 1000000) : Calls Tryd.prog 11 #[.agg #[.int .i64 k, v]] w (RRdPost w (rdV k bs) (rdF k bs)) := by
  obtain ⟨a, cap, rfl⟩ := h.form
  obtain ⟨n, hn⟩ : ∃ n, bs.length = n := ⟨_, rfl⟩
  have HN := Lib.hid hn
  have HB : Hid (Bys w (.slice a n cap) bs) := by show Bys _ _ _; rw [← hn]; exact h
  rw [hn] at hlen ⊢
  obtain ⟨b0, hb0⟩ : ∃ z, w.alloc (.cells #[.int .i64 k, .slice a n cap] 26) = z := ⟨_, rfl⟩
  have hz : b0.heap.size = w.heap.size + 1 := by rw [← hb0]; simp
  have hr0 := hdr_new b0
  have hr2 := ResAt.new (b0.alloc (.cells #[.int .i64 0, .int .i64 0, .slice none 0 0] 39))
  have hz2 : (b0.alloc (.cells #[.int .i64 0, .int .i64 0, .slice none 0 0] 39)).heap.size = w.heap.size + 1 + 1 := by simp [hz]
  have he0 : Ext w b0 := by rw [← hb0]; exact (Ext.refl w).alloc _
  rw [hz] at hr0
  rw [hz2] at hr2
  have HE0 := Lib.hid ((he0.alloc (.cells #[.int .i64 0, .int .i64 0, .slice none 0 0] 39)).alloc (.cells #[.int .i64 0, .slice none 0 0] 36))
  have HR2 := Lib.hid hr2
  have HR0 := Lib.hid (hr0.ext ((Ext.refl _).alloc (.cells #[.int .i64 0, .slice none 0 0] 36)))
  subst hb0
  clear hn h hr0 hr2 hz hz2 he0
  by_cases h1 : k < 1
  · have HF : Hid (rdC k bs = 13) := by show _ = _; unfold rdC; rw [if_pos (.inl h1)]
    obtain ⟨hv0, hf0⟩ := rd_no HF.out (by decide)
    have HV := Lib.hid hv0
    have HFF := Lib.hid hf0
    clear hv0 hf0 HF
    go_enter Tryd.func11, Tryd.ntmps11
    go_wp2_with fail
    refine (fail_any 13 _).mono ?_; rintro e w1 ⟨rfl, hx1⟩
    obtain ⟨⟨d0, d1, d2⟩, d3, d4, d5⟩ := HR0.out.ext hx1
    obtain ⟨q0, q1, q2, q3⟩ := HR2.out.ext hx1
    have HE2 := Lib.hid (HE0.out.trans hx1)
    have HRa := Lib.hid (HR0.out.ext hx1)
    have HRb := Lib.hid (HR2.out.ext hx1)
    clear hx1
    go_wp2
    obtain ⟨e0, e1, e2, e3, e4⟩ := hd_res (d := 13) (by omega) (.int .i64 0) (.int .i64 0) (.slice none 0 0) (.slice none 0 0) HRa.out HRb.out
    exact bodyPost_ret (v := .tuple #[.agg #[.int .i64 0, .int .i64 0, .slice none 0 0], .agg #[.int .i64 13, .slice none 0 0]]) (by simp [results, Tryd.results11, go_sem, e0, e1, e2, e3, e4]) rfl ⟨_, _, _, by rw [HV.out], by rw [HV.out]; exact Bys.nil _, by rw [HFF.out]; exact RErrIs.code (by decide), ((((HE2.out.setCell (p := ⟨w.heap.size + 1, 0, none⟩) (Nat.le_succ _) _).setCell (p := ⟨w.heap.size + 1, 1, none⟩) (Nat.le_succ _) _).setCell (p := ⟨w.heap.size + 1, 2, none⟩) (Nat.le_succ _) _).setCell (p := ⟨w.heap.size + 1 + 1, 0, none⟩) (by show w.heap.size ≤ w.heap.size + 1 + 1; omega) _).setCell (p := ⟨w.heap.size + 1 + 1, 1, none⟩) (by show w.heap.size ≤ w.heap.size + 1 + 1; omega) _⟩
  by_cases h2 : 4 < k
  · have HF : Hid (rdC k bs = 13) := by show _ = _; unfold rdC; rw [if_pos (.inr h2)]
    obtain ⟨hv0, hf0⟩ := rd_no HF.out (by decide)
    have HV := Lib.hid hv0
    have HFF := Lib.hid hf0
    clear hv0 hf0 HF
    go_enter Tryd.func11, Tryd.ntmps11
    go_wp2_with fail
    refine (fail_any 13 _).mono ?_; rintro e w1 ⟨rfl, hx1⟩
    obtain ⟨⟨d0, d1, d2⟩, d3, d4, d5⟩ := HR0.out.ext hx1
    obtain ⟨q0, q1, q2, q3⟩ := HR2.out.ext hx1
    have HE2 := Lib.hid (HE0.out.trans hx1)
    have HRa := Lib.hid (HR0.out.ext hx1)
    have HRb := Lib.hid (HR2.out.ext hx1)
    clear hx1
    go_wp2
    obtain ⟨e0, e1, e2, e3, e4⟩ := hd_res (d := 13) (by omega) (.int .i64 0) (.int .i64 0) (.slice none 0 0) (.slice none 0 0) HRa.out HRb.out
    exact bodyPost_ret (v := .tuple #[.agg #[.int .i64 0, .int .i64 0, .slice none 0 0], .agg #[.int .i64 13, .slice none 0 0]]) (by simp [results, Tryd.results11, go_sem, e0, e1, e2, e3, e4]) rfl ⟨_, _, _, by rw [HV.out], by rw [HV.out]; exact Bys.nil _, by rw [HFF.out]; exact RErrIs.code (by decide), ((((HE2.out.setCell (p := ⟨w.heap.size + 1, 0, none⟩) (Nat.le_succ _) _).setCell (p := ⟨w.heap.size + 1, 1, none⟩) (Nat.le_succ _) _).setCell (p := ⟨w.heap.size + 1, 2, none⟩) (Nat.le_succ _) _).setCell (p := ⟨w.heap.size + 1 + 1, 0, none⟩) (by show w.heap.size ≤ w.heap.size + 1 + 1; omega) _).setCell (p := ⟨w.heap.size + 1 + 1, 1, none⟩) (by show w.heap.size ≤ w.heap.size + 1 + 1; omega) _⟩
  by_cases h5 : 2 < k
  · by_cases h7 : 0 < n
    · have HF : Hid (rdC k bs = 2) := by show _ = _; unfold rdC; rw [if_neg (by omega), if_pos h5, HN.out, if_pos h7]
      have h7' : (0 : Int) < (n : Int) := by omega
      obtain ⟨hv0, hf0⟩ := rd_no HF.out (by decide)
      have HV := Lib.hid hv0
      have HFF := Lib.hid hf0
      clear hv0 hf0 HF
      go_enter Tryd.func11, Tryd.ntmps11
      go_wp2_with fail
      refine (fail_any 2 _).mono ?_; rintro e w1 ⟨rfl, hx1⟩
      obtain ⟨⟨d0, d1, d2⟩, d3, d4, d5⟩ := HR0.out.ext hx1
      obtain ⟨q0, q1, q2, q3⟩ := HR2.out.ext hx1
      have HE2 := Lib.hid (HE0.out.trans hx1)
      have HRa := Lib.hid (HR0.out.ext hx1)
      have HRb := Lib.hid (HR2.out.ext hx1)
      clear hx1
      go_wp2
      obtain ⟨e0, e1, e2, e3, e4⟩ := hd_res (d := 2) (by omega) (.int .i64 0) (.int .i64 0) (.slice none 0 0) (.slice none 0 0) HRa.out HRb.out
      exact bodyPost_ret (v := .tuple #[.agg #[.int .i64 0, .int .i64 0, .slice none 0 0], .agg #[.int .i64 2, .slice none 0 0]]) (by simp [results, Tryd.results11, go_sem, e0, e1, e2, e3, e4]) rfl ⟨_, _, _, by rw [HV.out], by rw [HV.out]; exact Bys.nil _, by rw [HFF.out]; exact RErrIs.code (by decide), ((((HE2.out.setCell (p := ⟨w.heap.size + 1, 0, none⟩) (Nat.le_succ _) _).setCell (p := ⟨w.heap.size + 1, 1, none⟩) (Nat.le_succ _) _).setCell (p := ⟨w.heap.size + 1, 2, none⟩) (Nat.le_succ _) _).setCell (p := ⟨w.heap.size + 1 + 1, 0, none⟩) (by show w.heap.size ≤ w.heap.size + 1 + 1; omega) _).setCell (p := ⟨w.heap.size + 1 + 1, 1, none⟩) (by show w.heap.size ≤ w.heap.size + 1 + 1; omega) _⟩
    · have HF : rdC k bs = 0 := by unfold rdC; rw [if_neg (by omega), if_pos h5, HN.out, if_neg h7]
      have HV : Hid (rdV k bs = (k, 0, [])) := by show _ = _; unfold rdV; rw [if_pos HF, if_pos h5]
      have HFF : Hid (rdF k bs = none) := by show _ = _; unfold rdF; rw [if_pos HF]
      obtain rfl : n = 0 := by omega
      clear h7 HF
      go_enter Tryd.func11, Tryd.ntmps11
      go_wp2
      exact bodyPost_ret (v := .tuple #[.agg #[.int .i64 k, .int .i64 0, .slice none 0 0], .agg #[.int .i64 0, .slice none 0 0]]) (by simp [results, Tryd.results11, go_sem]) rfl ⟨_, _, _, by rw [HV.out], by rw [HV.out]; exact Bys.nil _, by rw [HFF.out]; exact RErrIs.zero, (((Ext.refl w).alloc _).alloc _).alloc _⟩
  by_cases h0 : n = 0
  · have HF : Hid (rdC k bs = 1) := by show _ = _; unfold rdC; rw [if_neg (by omega), if_neg h5, if_pos (by rw [HN.out]; exact h0)]
    subst h0
    obtain ⟨hv0, hf0⟩ := rd_no HF.out (by decide)
    have HV := Lib.hid hv0
    have HFF := Lib.hid hf0
    clear hv0 hf0 HF
    go_enter Tryd.func11, Tryd.ntmps11
    go_wp2_with fail
    refine (fail_any 1 _).mono ?_; rintro e w1 ⟨rfl, hx1⟩
    obtain ⟨⟨d0, d1, d2⟩, d3, d4, d5⟩ := HR0.out.ext hx1
    obtain ⟨q0, q1, q2, q3⟩ := HR2.out.ext hx1
    have HE2 := Lib.hid (HE0.out.trans hx1)
    have HRa := Lib.hid (HR0.out.ext hx1)
    have HRb := Lib.hid (HR2.out.ext hx1)
    clear hx1
    go_wp2
    obtain ⟨e0, e1, e2, e3, e4⟩ := hd_res (d := 1) (by omega) (.int .i64 0) (.int .i64 0) (.slice none 0 0) (.slice none 0 0) HRa.out HRb.out
    exact bodyPost_ret (v := .tuple #[.agg #[.int .i64 0, .int .i64 0, .slice none 0 0], .agg #[.int .i64 1, .slice none 0 0]]) (by simp [results, Tryd.results11, go_sem, e0, e1, e2, e3, e4]) rfl ⟨_, _, _, by rw [HV.out], by rw [HV.out]; exact Bys.nil _, by rw [HFF.out]; exact RErrIs.code (by decide), ((((HE2.out.setCell (p := ⟨w.heap.size + 1, 0, none⟩) (Nat.le_succ _) _).setCell (p := ⟨w.heap.size + 1, 1, none⟩) (Nat.le_succ _) _).setCell (p := ⟨w.heap.size + 1, 2, none⟩) (Nat.le_succ _) _).setCell (p := ⟨w.heap.size + 1 + 1, 0, none⟩) (by show w.heap.size ≤ w.heap.size + 1 + 1; omega) _).setCell (p := ⟨w.heap.size + 1 + 1, 1, none⟩) (by show w.heap.size ≤ w.heap.size + 1 + 1; omega) _⟩
  have n0 : ((n : Int) == 0) = false := by rw [beq_eq_false_iff_ne]; omega
  obtain ⟨g, off, rfl⟩ := HB.out.had (by omega)
  obtain ⟨b, cs, hb⟩ : ∃ b cs, bs = b :: cs := by
    cases bs with
    | nil => exact absurd (HN.out.symm) h0
    | cons b cs => exact ⟨b, cs, rfl⟩
  have cb : w.cell? ⟨g, off, none⟩ = some (.int .u8 (b : Int)) := by
    have := HB.out.at (j := 0) (x := b) (by rw [hb]; rfl)
    simpa using this
  have hh : bs.headD 0 = b := by rw [hb]; rfl
  have ht : bs.tail = cs := by rw [hb]; rfl
  have hb256 : b < 256 := HB.out.2.1 b (by rw [hb]; simp)
  have HHB := Lib.hid hh
  have HTT := Lib.hid ht
  have x0 : (0 : Int) < (n : Int) := by omega
  have HBT := HB.out.restIf (by omega)
  rw [ht] at HBT
  clear hb hh ht
  have cb1 := HE0.out.cell cb
  by_cases h6 : 15 < b
  · have HF : Hid (rdC k bs = 3) := by show _ = _; unfold rdC; rw [if_neg (by omega), if_neg h5, if_neg (by rw [HN.out]; exact h0), HHB.out, if_pos h6]
    have h6' : (15 : Int) < (b : Int) := by omega
    clear HBT hb256
    obtain ⟨hv0, hf0⟩ := rd_no HF.out (by decide)
    have HV := Lib.hid hv0
    have HFF := Lib.hid hf0
    clear hv0 hf0 HF
    go_enter Tryd.func11, Tryd.ntmps11
    go_wp2_with fail
    refine (fail_any 3 _).mono ?_; rintro e w1 ⟨rfl, hx1⟩
    obtain ⟨⟨d0, d1, d2⟩, d3, d4, d5⟩ := HR0.out.ext hx1
    obtain ⟨q0, q1, q2, q3⟩ := HR2.out.ext hx1
    have HE2 := Lib.hid (HE0.out.trans hx1)
    have HRa := Lib.hid (HR0.out.ext hx1)
    have HRb := Lib.hid (HR2.out.ext hx1)
    clear hx1
    go_wp2
    obtain ⟨e0, e1, e2, e3, e4⟩ := hd_res (d := 3) (by omega) (.int .i64 0) (.int .i64 0) (.slice none 0 0) (.slice none 0 0) HRa.out HRb.out
    exact bodyPost_ret (v := .tuple #[.agg #[.int .i64 0, .int .i64 0, .slice none 0 0], .agg #[.int .i64 3, .slice none 0 0]]) (by simp [results, Tryd.results11, go_sem, e0, e1, e2, e3, e4]) rfl ⟨_, _, _, by rw [HV.out], by rw [HV.out]; exact Bys.nil _, by rw [HFF.out]; exact RErrIs.code (by decide), ((((HE2.out.setCell (p := ⟨w.heap.size + 1, 0, none⟩) (Nat.le_succ _) _).setCell (p := ⟨w.heap.size + 1, 1, none⟩) (Nat.le_succ _) _).setCell (p := ⟨w.heap.size + 1, 2, none⟩) (Nat.le_succ _) _).setCell (p := ⟨w.heap.size + 1 + 1, 0, none⟩) (by show w.heap.size ≤ w.heap.size + 1 + 1; omega) _).setCell (p := ⟨w.heap.size + 1 + 1, 1, none⟩) (by show w.heap.size ≤ w.heap.size + 1 + 1; omega) _⟩
  have h6' : ¬ (15 : Int) < (b : Int) := by omega
  by_cases h8 : 65536 < n
  · have HF : Hid (rdC k bs = 5) := by show _ = _; unfold rdC; rw [if_neg (by omega), if_neg h5, if_neg (by rw [HN.out]; exact h0), HHB.out, if_neg h6, if_pos (by rw [HN.out]; exact h8)]
    have h8q : decide ((65536 : Int) < (n : Int)) = true := decide_eq_true (by omega)
    clear h8 hlen HBT hb256
    obtain ⟨hv0, hf0⟩ := rd_no HF.out (by decide)
    have HV := Lib.hid hv0
    have HFF := Lib.hid hf0
    clear hv0 hf0 HF
    go_enter Tryd.func11, Tryd.ntmps11
    go_wp2_with fail
    refine (fail_any 5 _).mono ?_; rintro e w1 ⟨rfl, hx1⟩
    obtain ⟨⟨d0, d1, d2⟩, d3, d4, d5⟩ := HR0.out.ext hx1
    obtain ⟨q0, q1, q2, q3⟩ := HR2.out.ext hx1
    have HE2 := Lib.hid (HE0.out.trans hx1)
    have HRa := Lib.hid (HR0.out.ext hx1)
    have HRb := Lib.hid (HR2.out.ext hx1)
    clear hx1
    go_wp2
    obtain ⟨e0, e1, e2, e3, e4⟩ := hd_res (d := 5) (by omega) (.int .i64 0) (.int .i64 0) (.slice none 0 0) (.slice none 0 0) HRa.out HRb.out
    exact bodyPost_ret (v := .tuple #[.agg #[.int .i64 0, .int .i64 0, .slice none 0 0], .agg #[.int .i64 5, .slice none 0 0]]) (by simp [results, Tryd.results11, go_sem, e0, e1, e2, e3, e4]) rfl ⟨_, _, _, by rw [HV.out], by rw [HV.out]; exact Bys.nil _, by rw [HFF.out]; exact RErrIs.code (by decide), ((((HE2.out.setCell (p := ⟨w.heap.size + 1, 0, none⟩) (Nat.le_succ _) _).setCell (p := ⟨w.heap.size + 1, 1, none⟩) (Nat.le_succ _) _).setCell (p := ⟨w.heap.size + 1, 2, none⟩) (Nat.le_succ _) _).setCell (p := ⟨w.heap.size + 1 + 1, 0, none⟩) (by show w.heap.size ≤ w.heap.size + 1 + 1; omega) _).setCell (p := ⟨w.heap.size + 1 + 1, 1, none⟩) (by show w.heap.size ≤ w.heap.size + 1 + 1; omega) _⟩
  have HF : rdC k bs = 0 := by unfold rdC; rw [if_neg (by omega), if_neg h5, if_neg (by rw [HN.out]; exact h0), HHB.out, if_neg h6, if_neg (by rw [HN.out]; exact h8)]
  have HV : Hid (rdV k bs = (k, (b : Int), cs)) := by show _ = _; unfold rdV; rw [if_pos HF, if_neg h5, HHB.out, HTT.out]
  have HFF : Hid (rdF k bs = none) := by show _ = _; unfold rdF; rw [if_pos HF]
  have h8q : decide ((65536 : Int) < (n : Int)) = false := decide_eq_false (by omega)
  have HX1 := HE0
  have c00 : (w.alloc (.cells #[.int .i64 k, .slice (some ⟨g, off, none⟩) n cap] 26)).cell? ⟨w.heap.size, 0, none⟩ = some (.int .i64 k) := by simp
  have c10 : (w.alloc (.cells #[.int .i64 k, .slice (some ⟨g, off, none⟩) n cap] 26)).cell? ⟨w.heap.size, 1, none⟩ = some (.slice (some ⟨g, off, none⟩) n cap) := by simp
  have E2 := ((Ext.refl (w.alloc (.cells #[.int .i64 k, .slice (some ⟨g, off, none⟩) n cap] 26))).alloc (.cells #[.int .i64 0, .int .i64 0, .slice none 0 0] 39)).alloc (.cells #[.int .i64 0, .slice none 0 0] 36)
  have c0 := E2.cell c00
  have c1 := E2.cell c10
  have x1n : (1 : Int) ≤ (n : Int) := by omega
  have x1c : (n : Int) ≤ (cap : Int) := by have := HB.out.caps; omega
  have hcl : cs.length ≤ 1000000 := by rw [← HTT.out, List.length_tail, HN.out]; omega
  have m5 : IntKind.i64.wrap (b : Int) = (b : Int) := by rw [IntKind.wrap_i64]; omega
  have hlt : ∀ x ∈ cs, x < 256 := HBT.2.1
  obtain ⟨w1, hw1⟩ : ∃ z, ((w.alloc (.cells #[.int .i64 k, .slice (some ⟨g, off, none⟩) n cap] 26)).alloc (.cells #[.int .i64 0, .int .i64 0, .slice none 0 0] 39)).alloc (.cells #[.int .i64 0, .slice none 0 0] 36) = z := ⟨_, rfl⟩
  have HW1 := Lib.hid hw1
  have HGB := Lib.hid (Ext.lt cb)
  have HSZ : Hid (w1.heap.size = w.heap.size + 1 + 2) := by show _ = _; rw [← hw1]; simp
  have HX0 := Lib.hid x0
  have HX1N := Lib.hid x1n
  have HX1C := Lib.hid x1c
  clear hw1 x1n x1c E2 HE0
  have HBU := Lib.hid HBT
  have HLT := Lib.hid hlt
  have HCL := Lib.hid hcl
  clear c00 c10 hlen h8 HF HBT hlt hcl
  by_cases hc1 : cap = 1
  · subst hc1
    obtain rfl : n = 1 := by
      have h1 := HX1C.out
      have h2 := HX1N.out
      omega
    rw [if_pos rfl] at HBU
    have q16 : ¬ ((1 : Nat) : Int) < 1 := by omega
    go_enter Tryd.func11, Tryd.ntmps11
    go_wp2
    have hw1 := HW1.out
    rw [hw1] at c0 c1 cb1 HX1 HR0 HR2 ⊢
    clear hw1 HW1 x0
    have x0 := HX0.out
    have x1n := HX1N.out
    have x1c := HX1C.out
    have y0 : 0 < 1 := Int.natCast_pos.1 x0
    have y1 : 1 ≤ 1 := y0
    have y2 : 1 ≤ 1 := Int.ofNat_le.1 x1c
    have K0 : Hid (∀ w', Below (w.heap.size + 1) w1 w' → w'.cell? ⟨w.heap.size, 0, none⟩ = some (.int .i64 k) ∧ w'.cell? ⟨w.heap.size, 1, none⟩ = some (.slice (some ⟨g, off, none⟩) 1 1) ∧ w'.cell? ⟨g, off, none⟩ = some (.int .u8 (b : Int)) ∧ Below (w.heap.size + 1) w1 w') := fun w' h => ⟨(Below.cell h (p := ⟨w.heap.size, 0, none⟩) (Nat.lt_succ_self _)).trans c0, (Below.cell h (p := ⟨w.heap.size, 1, none⟩) (Nat.lt_succ_self _)).trans c1, (Below.cell h (p := ⟨g, off, none⟩) (Nat.lt_succ_of_lt HGB.out)).trans cb1, h⟩
    have UC := Lib.hid (fun w' (h : Below (w.heap.size + 1) w1 w') => cpb_any cs _ w' (HBU.out.ext (HX1.out.of_below h (Nat.le_succ _))))
    clear c0 c1 cb1
    refine wp_region_held_drew (S := fun w' => w'.cell? ⟨w.heap.size, 0, none⟩ = some (.int .i64 k) ∧ w'.cell? ⟨w.heap.size, 1, none⟩ = some (.slice (some ⟨g, off, none⟩) 1 1) ∧ w'.cell? ⟨g, off, none⟩ = some (.int .u8 (b : Int)) ∧ Below (w.heap.size + 1) w1 w') (by kernel_rfl) (K0.out _ (Below.refl _ _).drew) (fun hHeld => ?_)
    refine wpAnyH_take (i := 0) (oi := { dst := some 57, op := Op.fieldAddr 26 (Operand.tmp 1) 0, type := 0, pos := "ref.go:59", after := #[], guard := none }) (v := ?_) rfl (by kernel_rfl) (by kernel_rfl) (by kernel_rfl) (fun _ _ _ h => h) (Or.inl ⟨by rfl, ?_⟩) (by assumption) ?_
    case refine_2 => (intro w hSw; (try dsimp only at hSw); go_simp; (try with_reducible rfl))
    try simp only [Act.put, List.setIfInBounds_toArray, List.set_cons_zero, List.set_cons_succ]
    refine wpAnyH_take (i := 1) (oi := { dst := some 58, op := Op.load 3 (Operand.tmp 57), type := 3, pos := "ref.go:59", after := #[{ on := 0, ground := Ground.data }], guard := none }) (v := ?_) rfl (by kernel_rfl) (by kernel_rfl) (by kernel_rfl) (fun _ _ _ h => h) (Or.inl ⟨by rfl, ?_⟩) (by assumption) ?_
    case refine_2 => (intro w hSw; (try dsimp only at hSw); go_simp; (try with_reducible rfl))
    try simp only [Act.put, List.setIfInBounds_toArray, List.set_cons_zero, List.set_cons_succ]
    refine wpAnyH_take (i := 2) (oi := { dst := some 59, op := Op.fieldAddr 26 (Operand.tmp 1) 1, type := 0, pos := "ref.go:59", after := #[], guard := none }) (v := ?_) rfl (by kernel_rfl) (by kernel_rfl) (by kernel_rfl) (fun _ _ _ h => h) (Or.inl ⟨by rfl, ?_⟩) (by assumption) ?_
    case refine_2 => (intro w hSw; (try dsimp only at hSw); go_simp; (try with_reducible rfl))
    try simp only [Act.put, List.setIfInBounds_toArray, List.set_cons_zero, List.set_cons_succ]
    refine wpAnyH_take (i := 3) (oi := { dst := some 60, op := Op.load 22 (Operand.tmp 59), type := 22, pos := "ref.go:59", after := #[{ on := 2, ground := Ground.data }], guard := none }) (v := ?_) rfl (by kernel_rfl) (by kernel_rfl) (by kernel_rfl) (fun _ _ _ h => h) (Or.inl ⟨by rfl, ?_⟩) (by assumption) ?_
    case refine_2 => (intro w hSw; (try dsimp only at hSw); go_simp; (try with_reducible rfl))
    try simp only [Act.put, List.setIfInBounds_toArray, List.set_cons_zero, List.set_cons_succ]
    refine wpAnyH_take (i := 4) (oi := { dst := some 61, op := Op.indexAddr 22 (Operand.tmp 60) (Operand.const (Value.int IntKind.i64 0)), type := 0, pos := "ref.go:59", after := #[{ on := 3, ground := Ground.data }], guard := none }) (v := ?_) rfl (by kernel_rfl) (by kernel_rfl) (by kernel_rfl) (fun _ _ _ h => h) (Or.inl ⟨by rfl, ?_⟩) (by assumption) ?_
    case refine_2 => (intro w hSw; (try dsimp only at hSw); go_simp; (try with_reducible rfl))
    try simp only [Act.put, List.setIfInBounds_toArray, List.set_cons_zero, List.set_cons_succ]
    refine wpAnyH_take (i := 5) (oi := { dst := some 62, op := Op.load 5 (Operand.tmp 61), type := 5, pos := "ref.go:59", after := #[{ on := 4, ground := Ground.data }], guard := none }) (v := ?_) rfl (by kernel_rfl) (by kernel_rfl) (by kernel_rfl) (fun _ _ _ h => h) (Or.inl ⟨by rfl, ?_⟩) (by assumption) ?_
    case refine_2 => (intro w hSw; (try dsimp only at hSw); go_simp; (try with_reducible rfl))
    try simp only [Act.put, List.setIfInBounds_toArray, List.set_cons_zero, List.set_cons_succ]
    refine wpAnyH_take (i := 6) (oi := { dst := some 63, op := Op.convert 5 3 (Operand.tmp 62), type := 3, pos := "ref.go:59", after := #[{ on := 5, ground := Ground.data }], guard := none }) (v := ?_) rfl (by kernel_rfl) (by kernel_rfl) (by kernel_rfl) (fun _ _ _ h => h) (Or.inl ⟨by rfl, ?_⟩) (by assumption) ?_
    case refine_2 => (intro w hSw; (try dsimp only at hSw); go_simp; (try with_reducible rfl))
    try simp only [Act.put, List.setIfInBounds_toArray, List.set_cons_zero, List.set_cons_succ]
    refine wpAnyH_take (i := 7) (oi := { dst := some 64, op := Op.fieldAddr 26 (Operand.tmp 1) 1, type := 0, pos := "ref.go:59", after := #[], guard := none }) (v := ?_) rfl (by kernel_rfl) (by kernel_rfl) (by kernel_rfl) (fun _ _ _ h => h) (Or.inl ⟨by rfl, ?_⟩) (by assumption) ?_
    case refine_2 => (intro w hSw; (try dsimp only at hSw); go_simp; (try with_reducible rfl))
    try simp only [Act.put, List.setIfInBounds_toArray, List.set_cons_zero, List.set_cons_succ]
    refine wpAnyH_take (i := 8) (oi := { dst := some 65, op := Op.load 22 (Operand.tmp 64), type := 22, pos := "ref.go:59", after := #[{ on := 7, ground := Ground.data }], guard := none }) (v := ?_) rfl (by kernel_rfl) (by kernel_rfl) (by kernel_rfl) (fun _ _ _ h => h) (Or.inl ⟨by rfl, ?_⟩) (by assumption) ?_
    case refine_2 => (intro w hSw; (try dsimp only at hSw); go_simp; (try with_reducible rfl))
    try simp only [Act.put, List.setIfInBounds_toArray, List.set_cons_zero, List.set_cons_succ]
    refine wpAnyH_take (i := 9) (oi := { dst := some 66, op := Op.slice 22 (Operand.tmp 65) (some (Operand.const (Value.int IntKind.i64 1))) none none, type := 22, pos := "ref.go:59", after := #[{ on := 8, ground := Ground.data }], guard := none }) (v := ?_) rfl (by kernel_rfl) (by kernel_rfl) (by kernel_rfl) (fun _ _ _ h => h) (Or.inl ⟨by rfl, ?_⟩) (by assumption) ?_
    case refine_2 => (intro w hSw; (try dsimp only at hSw); go_simp; (try with_reducible rfl))
    try simp only [Act.put, List.setIfInBounds_toArray, List.set_cons_zero, List.set_cons_succ]
    refine wpAnyH_take (i := 12) (oi := { dst := some 69, op := Op.build 36 #[], type := 36, pos := "ref.go:59", after := #[{ on := 13, ground := Ground.gcOnly Departure.lateStores }], guard := none }) (v := ?_) rfl (by kernel_rfl) (by kernel_rfl) (by kernel_rfl) (fun _ _ _ h => h) (Or.inl ⟨by rfl, ?_⟩) (by assumption) ?_
    case refine_2 => (intro w hSw; (try dsimp only at hSw); go_simp; (try with_reducible rfl))
    try simp only [Act.put, List.setIfInBounds_toArray, List.set_cons_zero, List.set_cons_succ]
    refine wpAnyH_ready (rs := [10]) (by kernel_rfl) (by simp) ?_
    refine AllReadyH.cons (o := { dst := some 67, op := Op.call { callee := Callee.value (Operand.func 7), args := #[Operand.tmp 66], argTypes := #[22] }, type := 22, pos := "ref.go:59", after := #[{ on := 9, ground := Ground.data }], guard := none }) rfl (fun K hK => ?_) AllReadyH.nil
    go_simp
    go_at_call 7
    refine (UC.out _ (Below.refl _ _).drew).mono ?_; rintro e wc ⟨cu, rfl, hown, hxc⟩; obtain ⟨ca, cm, cc, rfl⟩ := own_slcS hown; have HO := Lib.hid hown; have EC := ((Ext.refl w1).drew).trans hxc; have EB : Below (w.heap.size + 1) w1 wc := EC.mono (by rw [HSZ.out]; exact Nat.le_add_right _ 2); obtain ⟨⟨z0, z1, z2⟩, f0, f1, f2⟩ := HR0.out.ext EC; obtain ⟨q0, q1, q2, q3⟩ := HR2.out.ext EC; have HRa := Lib.hid (HR0.out.ext EC); have HRb := Lib.hid (HR2.out.ext EC); clear hown
    refine hK.out _ _ (K0.out _ EB) (fun hHeld => ?_)
    clear hK K
    try simp only [Act.put, List.setIfInBounds_toArray, List.set_cons_zero, List.set_cons_succ]
    refine wpAnyH_take (i := 11) (oi := { dst := some 68, op := Op.build 39 #[(0, Operand.tmp 58), (1, Operand.tmp 63), (2, Operand.tmp 67)], type := 39, pos := "ref.go:59", after := #[{ on := 1, ground := Ground.data }, { on := 6, ground := Ground.data }, { on := 10, ground := Ground.data }], guard := none }) (v := ?_) rfl (by kernel_rfl) (by kernel_rfl) (by kernel_rfl) (fun _ _ _ h => h) (Or.inl ⟨by rfl, ?_⟩) (by assumption) ?_
    case refine_2 => (intro w hSw; (try dsimp only at hSw); go_simp; (try with_reducible rfl))
    try simp only [Act.put, List.setIfInBounds_toArray, List.set_cons_zero, List.set_cons_succ]
    refine wpAnyH_ready (rs := [13]) (by kernel_rfl) (by simp) ?_
    refine AllReadyH.cons (o := { dst := none, op := Op.store 39 (Operand.tmp 2) (Operand.tmp 68), type := 0, pos := "ref.go:59", after := #[{ on := 11, ground := Ground.data }, { on := 10, ground := Ground.chain }, { on := 0, ground := Ground.phase }, { on := 1, ground := Ground.phase }, { on := 2, ground := Ground.phase }, { on := 3, ground := Ground.phase }, { on := 4, ground := Ground.phase }, { on := 5, ground := Ground.phase }, { on := 6, ground := Ground.phase }, { on := 7, ground := Ground.phase }, { on := 8, ground := Ground.phase }, { on := 9, ground := Ground.phase }, { on := 10, ground := Ground.phase }, { on := 11, ground := Ground.phase }, { on := 12, ground := Ground.textOnly Departure.lateStores }], guard := none }) rfl (fun K hK => ?_) AllReadyH.nil
    go_simp
    refine hK.out _ _ (K0.out _ (below_setR (below_setR (below_setR EB)))) (fun hHeld => ?_)
    clear hK K
    try simp only [Act.put, List.setIfInBounds_toArray, List.set_cons_zero, List.set_cons_succ]
    refine wpAnyH_ready (rs := [14]) (by kernel_rfl) (by simp) ?_
    refine AllReadyH.cons (o := { dst := none, op := Op.store 36 (Operand.tmp 3) (Operand.tmp 69), type := 0, pos := "ref.go:59", after := #[{ on := 12, ground := Ground.data }, { on := 13, ground := Ground.chain }, { on := 0, ground := Ground.phase }, { on := 1, ground := Ground.phase }, { on := 2, ground := Ground.phase }, { on := 3, ground := Ground.phase }, { on := 4, ground := Ground.phase }, { on := 5, ground := Ground.phase }, { on := 6, ground := Ground.phase }, { on := 7, ground := Ground.phase }, { on := 8, ground := Ground.phase }, { on := 9, ground := Ground.phase }, { on := 10, ground := Ground.phase }, { on := 11, ground := Ground.phase }, { on := 12, ground := Ground.phase }, { on := 13, ground := Ground.phase }], guard := none }) rfl (fun K hK => ?_) AllReadyH.nil
    go_simp
    refine hK.out _ _ (K0.out _ (below_setR1 (below_setR1 (below_setR (below_setR (below_setR EB)))))) (fun hHeld => ?_)
    clear hK K
    try simp only [Act.put, List.setIfInBounds_toArray, List.set_cons_zero, List.set_cons_succ]
    refine wpAnyH_done (by kernel_rfl) ?_ _
    have HEC := Lib.hid (HX1.out.trans EC)
    obtain ⟨e0, e1, e2, e3, e4⟩ := hd_res (d := 0) (by omega) (.int .i64 k) (.int .i64 (b : Int)) (.slice ca cm cc) (.slice none 0 0) HRa.out HRb.out
    go_wp2_with fail
    exact bodyPost_ret (v := .tuple #[.agg #[.int .i64 k, .int .i64 (b : Int), .slice ca cm cc], .agg #[.int .i64 0, .slice none 0 0]]) (by simp [results, Tryd.results11, go_sem, e0, e1, e2, e3, e4]) rfl ⟨_, _, _, by rw [HV.out], by
      rw [HV.out]
      have hb : w.heap.size + 1 < w1.heap.size := by rw [HSZ.out]; omega
      have hb2 : w.heap.size + 1 + 1 < w1.heap.size := by rw [HSZ.out]; omega
      exact Bys.of_owns (ownsRow_setCell_below (ownsRow_setCell_below (ownsRow_setCell_below (ownsRow_setCell_below (ownsRow_setCell_below HO.out (a := ⟨w.heap.size + 1, 0, none⟩) hb (.int .i64 k)) (a := ⟨w.heap.size + 1, 1, none⟩) hb (.int .i64 (b : Int))) (a := ⟨w.heap.size + 1, 2, none⟩) hb (.slice ca cm cc)) (a := ⟨w.heap.size + 1 + 1, 0, none⟩) hb2 (.int .i64 0)) (a := ⟨w.heap.size + 1 + 1, 1, none⟩) hb2 (.slice none 0 0)) HLT.out (Nat.le_trans HCL.out (by decide)), by rw [HFF.out]; exact RErrIs.zero, ((((HEC.out.setCell (p := ⟨w.heap.size + 1, 0, none⟩) (Nat.le_succ _) _).setCell (p := ⟨w.heap.size + 1, 1, none⟩) (Nat.le_succ _) _).setCell (p := ⟨w.heap.size + 1, 2, none⟩) (Nat.le_succ _) _).setCell (p := ⟨w.heap.size + 1 + 1, 0, none⟩) (by show w.heap.size ≤ w.heap.size + 1 + 1; omega) _).setCell (p := ⟨w.heap.size + 1 + 1, 1, none⟩) (by show w.heap.size ≤ w.heap.size + 1 + 1; omega) _⟩
  · rw [if_neg hc1] at HBU
    have q16 : ¬ ((n : Nat) : Int) < 1 := by omega
    go_enter Tryd.func11, Tryd.ntmps11
    go_wp2
    have hw1 := HW1.out
    rw [hw1] at c0 c1 cb1 HX1 HR0 HR2 ⊢
    clear hw1 HW1 x0
    have x0 := HX0.out
    have x1n := HX1N.out
    have x1c := HX1C.out
    have y0 : 0 < n := Int.natCast_pos.1 x0
    have y1 : 1 ≤ n := y0
    have y2 : n ≤ cap := Int.ofNat_le.1 x1c
    have K0 : Hid (∀ w', Below (w.heap.size + 1) w1 w' → w'.cell? ⟨w.heap.size, 0, none⟩ = some (.int .i64 k) ∧ w'.cell? ⟨w.heap.size, 1, none⟩ = some (.slice (some ⟨g, off, none⟩) n cap) ∧ w'.cell? ⟨g, off, none⟩ = some (.int .u8 (b : Int)) ∧ Below (w.heap.size + 1) w1 w') := fun w' h => ⟨(Below.cell h (p := ⟨w.heap.size, 0, none⟩) (Nat.lt_succ_self _)).trans c0, (Below.cell h (p := ⟨w.heap.size, 1, none⟩) (Nat.lt_succ_self _)).trans c1, (Below.cell h (p := ⟨g, off, none⟩) (Nat.lt_succ_of_lt HGB.out)).trans cb1, h⟩
    have UC := Lib.hid (fun w' (h : Below (w.heap.size + 1) w1 w') => cpb_any cs _ w' (HBU.out.ext (HX1.out.of_below h (Nat.le_succ _))))
    clear c0 c1 cb1
    refine wp_region_held_drew (S := fun w' => w'.cell? ⟨w.heap.size, 0, none⟩ = some (.int .i64 k) ∧ w'.cell? ⟨w.heap.size, 1, none⟩ = some (.slice (some ⟨g, off, none⟩) n cap) ∧ w'.cell? ⟨g, off, none⟩ = some (.int .u8 (b : Int)) ∧ Below (w.heap.size + 1) w1 w') (by kernel_rfl) (K0.out _ (Below.refl _ _).drew) (fun hHeld => ?_)
    refine wpAnyH_take (i := 0) (oi := { dst := some 57, op := Op.fieldAddr 26 (Operand.tmp 1) 0, type := 0, pos := "ref.go:59", after := #[], guard := none }) (v := ?_) rfl (by kernel_rfl) (by kernel_rfl) (by kernel_rfl) (fun _ _ _ h => h) (Or.inl ⟨by rfl, ?_⟩) (by assumption) ?_
    case refine_2 => (intro w hSw; (try dsimp only at hSw); go_simp; (try with_reducible rfl))
    try simp only [Act.put, List.setIfInBounds_toArray, List.set_cons_zero, List.set_cons_succ]
    refine wpAnyH_take (i := 1) (oi := { dst := some 58, op := Op.load 3 (Operand.tmp 57), type := 3, pos := "ref.go:59", after := #[{ on := 0, ground := Ground.data }], guard := none }) (v := ?_) rfl (by kernel_rfl) (by kernel_rfl) (by kernel_rfl) (fun _ _ _ h => h) (Or.inl ⟨by rfl, ?_⟩) (by assumption) ?_
    case refine_2 => (intro w hSw; (try dsimp only at hSw); go_simp; (try with_reducible rfl))
    try simp only [Act.put, List.setIfInBounds_toArray, List.set_cons_zero, List.set_cons_succ]
    refine wpAnyH_take (i := 2) (oi := { dst := some 59, op := Op.fieldAddr 26 (Operand.tmp 1) 1, type := 0, pos := "ref.go:59", after := #[], guard := none }) (v := ?_) rfl (by kernel_rfl) (by kernel_rfl) (by kernel_rfl) (fun _ _ _ h => h) (Or.inl ⟨by rfl, ?_⟩) (by assumption) ?_
    case refine_2 => (intro w hSw; (try dsimp only at hSw); go_simp; (try with_reducible rfl))
    try simp only [Act.put, List.setIfInBounds_toArray, List.set_cons_zero, List.set_cons_succ]
    refine wpAnyH_take (i := 3) (oi := { dst := some 60, op := Op.load 22 (Operand.tmp 59), type := 22, pos := "ref.go:59", after := #[{ on := 2, ground := Ground.data }], guard := none }) (v := ?_) rfl (by kernel_rfl) (by kernel_rfl) (by kernel_rfl) (fun _ _ _ h => h) (Or.inl ⟨by rfl, ?_⟩) (by assumption) ?_
    case refine_2 => (intro w hSw; (try dsimp only at hSw); go_simp; (try with_reducible rfl))
    try simp only [Act.put, List.setIfInBounds_toArray, List.set_cons_zero, List.set_cons_succ]
    refine wpAnyH_take (i := 4) (oi := { dst := some 61, op := Op.indexAddr 22 (Operand.tmp 60) (Operand.const (Value.int IntKind.i64 0)), type := 0, pos := "ref.go:59", after := #[{ on := 3, ground := Ground.data }], guard := none }) (v := ?_) rfl (by kernel_rfl) (by kernel_rfl) (by kernel_rfl) (fun _ _ _ h => h) (Or.inl ⟨by rfl, ?_⟩) (by assumption) ?_
    case refine_2 => (intro w hSw; (try dsimp only at hSw); go_simp; (try with_reducible rfl))
    try simp only [Act.put, List.setIfInBounds_toArray, List.set_cons_zero, List.set_cons_succ]
    refine wpAnyH_take (i := 5) (oi := { dst := some 62, op := Op.load 5 (Operand.tmp 61), type := 5, pos := "ref.go:59", after := #[{ on := 4, ground := Ground.data }], guard := none }) (v := ?_) rfl (by kernel_rfl) (by kernel_rfl) (by kernel_rfl) (fun _ _ _ h => h) (Or.inl ⟨by rfl, ?_⟩) (by assumption) ?_
    case refine_2 => (intro w hSw; (try dsimp only at hSw); go_simp; (try with_reducible rfl))
    try simp only [Act.put, List.setIfInBounds_toArray, List.set_cons_zero, List.set_cons_succ]
    refine wpAnyH_take (i := 6) (oi := { dst := some 63, op := Op.convert 5 3 (Operand.tmp 62), type := 3, pos := "ref.go:59", after := #[{ on := 5, ground := Ground.data }], guard := none }) (v := ?_) rfl (by kernel_rfl) (by kernel_rfl) (by kernel_rfl) (fun _ _ _ h => h) (Or.inl ⟨by rfl, ?_⟩) (by assumption) ?_
    case refine_2 => (intro w hSw; (try dsimp only at hSw); go_simp; (try with_reducible rfl))
    try simp only [Act.put, List.setIfInBounds_toArray, List.set_cons_zero, List.set_cons_succ]
    refine wpAnyH_take (i := 7) (oi := { dst := some 64, op := Op.fieldAddr 26 (Operand.tmp 1) 1, type := 0, pos := "ref.go:59", after := #[], guard := none }) (v := ?_) rfl (by kernel_rfl) (by kernel_rfl) (by kernel_rfl) (fun _ _ _ h => h) (Or.inl ⟨by rfl, ?_⟩) (by assumption) ?_
    case refine_2 => (intro w hSw; (try dsimp only at hSw); go_simp; (try with_reducible rfl))
    try simp only [Act.put, List.setIfInBounds_toArray, List.set_cons_zero, List.set_cons_succ]
    refine wpAnyH_take (i := 8) (oi := { dst := some 65, op := Op.load 22 (Operand.tmp 64), type := 22, pos := "ref.go:59", after := #[{ on := 7, ground := Ground.data }], guard := none }) (v := ?_) rfl (by kernel_rfl) (by kernel_rfl) (by kernel_rfl) (fun _ _ _ h => h) (Or.inl ⟨by rfl, ?_⟩) (by assumption) ?_
    case refine_2 => (intro w hSw; (try dsimp only at hSw); go_simp; (try with_reducible rfl))
    try simp only [Act.put, List.setIfInBounds_toArray, List.set_cons_zero, List.set_cons_succ]
    refine wpAnyH_take (i := 9) (oi := { dst := some 66, op := Op.slice 22 (Operand.tmp 65) (some (Operand.const (Value.int IntKind.i64 1))) none none, type := 22, pos := "ref.go:59", after := #[{ on := 8, ground := Ground.data }], guard := none }) (v := ?_) rfl (by kernel_rfl) (by kernel_rfl) (by kernel_rfl) (fun _ _ _ h => h) (Or.inl ⟨by rfl, ?_⟩) (by assumption) ?_
    case refine_2 => (intro w hSw; (try dsimp only at hSw); go_simp; (try with_reducible rfl))
    try simp only [Act.put, List.setIfInBounds_toArray, List.set_cons_zero, List.set_cons_succ]
    refine wpAnyH_take (i := 12) (oi := { dst := some 69, op := Op.build 36 #[], type := 36, pos := "ref.go:59", after := #[{ on := 13, ground := Ground.gcOnly Departure.lateStores }], guard := none }) (v := ?_) rfl (by kernel_rfl) (by kernel_rfl) (by kernel_rfl) (fun _ _ _ h => h) (Or.inl ⟨by rfl, ?_⟩) (by assumption) ?_
    case refine_2 => (intro w hSw; (try dsimp only at hSw); go_simp; (try with_reducible rfl))
    try simp only [Act.put, List.setIfInBounds_toArray, List.set_cons_zero, List.set_cons_succ]
    refine wpAnyH_ready (rs := [10]) (by kernel_rfl) (by simp) ?_
    refine AllReadyH.cons (o := { dst := some 67, op := Op.call { callee := Callee.value (Operand.func 7), args := #[Operand.tmp 66], argTypes := #[22] }, type := 22, pos := "ref.go:59", after := #[{ on := 9, ground := Ground.data }], guard := none }) rfl (fun K hK => ?_) AllReadyH.nil
    go_simp
    go_at_call 7
    refine (UC.out _ (Below.refl _ _).drew).mono ?_; rintro e wc ⟨cu, rfl, hown, hxc⟩; obtain ⟨ca, cm, cc, rfl⟩ := own_slcS hown; have HO := Lib.hid hown; have EC := ((Ext.refl w1).drew).trans hxc; have EB : Below (w.heap.size + 1) w1 wc := EC.mono (by rw [HSZ.out]; exact Nat.le_add_right _ 2); obtain ⟨⟨z0, z1, z2⟩, f0, f1, f2⟩ := HR0.out.ext EC; obtain ⟨q0, q1, q2, q3⟩ := HR2.out.ext EC; have HRa := Lib.hid (HR0.out.ext EC); have HRb := Lib.hid (HR2.out.ext EC); clear hown
    refine hK.out _ _ (K0.out _ EB) (fun hHeld => ?_)
    clear hK K
    try simp only [Act.put, List.setIfInBounds_toArray, List.set_cons_zero, List.set_cons_succ]
    refine wpAnyH_take (i := 11) (oi := { dst := some 68, op := Op.build 39 #[(0, Operand.tmp 58), (1, Operand.tmp 63), (2, Operand.tmp 67)], type := 39, pos := "ref.go:59", after := #[{ on := 1, ground := Ground.data }, { on := 6, ground := Ground.data }, { on := 10, ground := Ground.data }], guard := none }) (v := ?_) rfl (by kernel_rfl) (by kernel_rfl) (by kernel_rfl) (fun _ _ _ h => h) (Or.inl ⟨by rfl, ?_⟩) (by assumption) ?_
    case refine_2 => (intro w hSw; (try dsimp only at hSw); go_simp; (try with_reducible rfl))
    try simp only [Act.put, List.setIfInBounds_toArray, List.set_cons_zero, List.set_cons_succ]
    refine wpAnyH_ready (rs := [13]) (by kernel_rfl) (by simp) ?_
    refine AllReadyH.cons (o := { dst := none, op := Op.store 39 (Operand.tmp 2) (Operand.tmp 68), type := 0, pos := "ref.go:59", after := #[{ on := 11, ground := Ground.data }, { on := 10, ground := Ground.chain }, { on := 0, ground := Ground.phase }, { on := 1, ground := Ground.phase }, { on := 2, ground := Ground.phase }, { on := 3, ground := Ground.phase }, { on := 4, ground := Ground.phase }, { on := 5, ground := Ground.phase }, { on := 6, ground := Ground.phase }, { on := 7, ground := Ground.phase }, { on := 8, ground := Ground.phase }, { on := 9, ground := Ground.phase }, { on := 10, ground := Ground.phase }, { on := 11, ground := Ground.phase }, { on := 12, ground := Ground.textOnly Departure.lateStores }], guard := none }) rfl (fun K hK => ?_) AllReadyH.nil
    go_simp
    refine hK.out _ _ (K0.out _ (below_setR (below_setR (below_setR EB)))) (fun hHeld => ?_)
    clear hK K
    try simp only [Act.put, List.setIfInBounds_toArray, List.set_cons_zero, List.set_cons_succ]
    refine wpAnyH_ready (rs := [14]) (by kernel_rfl) (by simp) ?_
    refine AllReadyH.cons (o := { dst := none, op := Op.store 36 (Operand.tmp 3) (Operand.tmp 69), type := 0, pos := "ref.go:59", after := #[{ on := 12, ground := Ground.data }, { on := 13, ground := Ground.chain }, { on := 0, ground := Ground.phase }, { on := 1, ground := Ground.phase }, { on := 2, ground := Ground.phase }, { on := 3, ground := Ground.phase }, { on := 4, ground := Ground.phase }, { on := 5, ground := Ground.phase }, { on := 6, ground := Ground.phase }, { on := 7, ground := Ground.phase }, { on := 8, ground := Ground.phase }, { on := 9, ground := Ground.phase }, { on := 10, ground := Ground.phase }, { on := 11, ground := Ground.phase }, { on := 12, ground := Ground.phase }, { on := 13, ground := Ground.phase }], guard := none }) rfl (fun K hK => ?_) AllReadyH.nil
    go_simp
    refine hK.out _ _ (K0.out _ (below_setR1 (below_setR1 (below_setR (below_setR (below_setR EB)))))) (fun hHeld => ?_)
    clear hK K
    try simp only [Act.put, List.setIfInBounds_toArray, List.set_cons_zero, List.set_cons_succ]
    refine wpAnyH_done (by kernel_rfl) ?_ _
    have HEC := Lib.hid (HX1.out.trans EC)
    obtain ⟨e0, e1, e2, e3, e4⟩ := hd_res (d := 0) (by omega) (.int .i64 k) (.int .i64 (b : Int)) (.slice ca cm cc) (.slice none 0 0) HRa.out HRb.out
    go_wp2_with fail
    exact bodyPost_ret (v := .tuple #[.agg #[.int .i64 k, .int .i64 (b : Int), .slice ca cm cc], .agg #[.int .i64 0, .slice none 0 0]]) (by simp [results, Tryd.results11, go_sem, e0, e1, e2, e3, e4]) rfl ⟨_, _, _, by rw [HV.out], by
      rw [HV.out]
      have hb : w.heap.size + 1 < w1.heap.size := by rw [HSZ.out]; omega
      have hb2 : w.heap.size + 1 + 1 < w1.heap.size := by rw [HSZ.out]; omega
      exact Bys.of_owns (ownsRow_setCell_below (ownsRow_setCell_below (ownsRow_setCell_below (ownsRow_setCell_below (ownsRow_setCell_below HO.out (a := ⟨w.heap.size + 1, 0, none⟩) hb (.int .i64 k)) (a := ⟨w.heap.size + 1, 1, none⟩) hb (.int .i64 (b : Int))) (a := ⟨w.heap.size + 1, 2, none⟩) hb (.slice ca cm cc)) (a := ⟨w.heap.size + 1 + 1, 0, none⟩) hb2 (.int .i64 0)) (a := ⟨w.heap.size + 1 + 1, 1, none⟩) hb2 (.slice none 0 0)) HLT.out (Nat.le_trans HCL.out (by decide)), by rw [HFF.out]; exact RErrIs.zero, ((((HEC.out.setCell (p := ⟨w.heap.size + 1, 0, none⟩) (Nat.le_succ _) _).setCell (p := ⟨w.heap.size + 1, 1, none⟩) (Nat.le_succ _) _).setCell (p := ⟨w.heap.size + 1, 2, none⟩) (Nat.le_succ _) _).setCell (p := ⟨w.heap.size + 1 + 1, 0, none⟩) (by show w.heap.size ≤ w.heap.size + 1 + 1; omega) _).setCell (p := ⟨w.heap.size + 1 + 1, 1, none⟩) (by show w.heap.size ≤ w.heap.size + 1 + 1; omega) _⟩
end Go.Proofs.YtpofabebmeickaaDoor

/- An append of one int, and what it leaves of blocks of other types. -/
namespace Go.Proofs.YtpofabebmeickaaDoor
set_option linter.unusedVariables false
set_option linter.unusedSimpArgs false
open Go.RowKit Go.Extern.Stop Go.Stop Go.Extern

theorem push_grow {ops : Array Oper} {rest : List Oper} {o : Oper} {a : Act} {Q : Exit → Act → World → Prop} {W : World} {base : Nat} (hgd : o.guard = none) (s y : Operand) (t : TypeId)
    (ho : o.op = .call { callee := .builtin .append, args := #[s, y], argTypes := #[t, t] }) (ht : Tryd.prog.underlying t = some (.slice 3))
    (v : Value) (n : Nat) (xs : List Value) (x : Int) (hs : a.eval s = v) (hown : W.ownsRow base 3 1 v n xs) (hx : a.eval y = .slice (some ⟨W.heap.size, 0, none⟩) 1 1) (hb : base ≤ W.heap.size) (hn : n ≤ 1000000000000)
    (h : ∀ v' w', w'.ownsRow base 3 1 v' (n + 1) (xs ++ [.int .i64 x]) → Below base W w' → W.grownBy w' v.ownBlock → wpList Tryd.prog ops Q rest (a.put o.dst v') w') :
    wpList Tryd.prog ops Q (o :: rest) a (W.alloc (.cells #[.int .i64 x] 3)) := by
  obtain ⟨i0, hi, hz0, hz1, hz2⟩ := info_parts infoInt
  refine wpList_append_own _ hgd s y t ho base 3 i0 (.int .i64 0) 1 8 ht hi hz0 hz1 hz2 rfl (by decide) v n xs hs (hown.alloc _) ⟨W.heap.size, 0, none⟩ 1 1 [.int .i64 x] hx rfl (cell_one_new _ _ _) (one_int _) (by unfold maxLen; omega) (by omega) (by simp; omega) ?_
  intro v' w' h1 h2 _
  refine h v' w' h1 (Below.grown ((Below.refl base W).alloc hb _) h2 (by simp; omega) (fun k hk => (hown.lt k hk).1)) ?_
  have g := World.grownBy_alloc W (.cells #[.int .i64 x] 3) v.ownBlock
  exact ⟨h2.os.trans g.os, h2.tape.trans g.tape, h2.output.trans g.output, Nat.le_trans g.size h2.size, fun k hk hne => (h2.block k (Nat.lt_of_lt_of_le hk g.size) hne).trans (g.block k hk hne)⟩
/-- a block known whole -/
def BoxIs (w : World) (b : Nat) (cs : Array Value) (T : TypeId) : Prop := w.heap[b]? = some (.cells cs T (0, 0))
theorem BoxIs.new (w : World) (cs : Array Value) (T : TypeId) : BoxIs (w.alloc (.cells cs T)) w.heap.size cs T := heap_alloc_new w _
theorem BoxIs.lt {w : World} {b : Nat} {cs : Array Value} {T : TypeId} (h : BoxIs w b cs T) : b < w.heap.size := (Array.getElem?_eq_some_iff.1 h).1
theorem BoxIs.ext {w w' : World} {b : Nat} {cs : Array Value} {T : TypeId} (h : BoxIs w b cs T) (k : Ext w w') : BoxIs w' b cs T := (k.block h.lt).trans h
theorem BoxIs.cell {w : World} {b i : Nat} {cs : Array Value} {T : TypeId} {v : Value} (h : BoxIs w b cs T) (hi : cs[i]? = some v) : w.cell? ⟨b, i, none⟩ = some v := by
  unfold BoxIs at h
  simp [World.cell?, h, hi]
theorem BoxIs.free {w : World} {b i : Nat} {cs : Array Value} {T : TypeId} (h : BoxIs w b cs T) : w.frozen? ⟨b, i, none⟩ = false := by
  unfold BoxIs at h
  simp [World.frozen?, h]
theorem BoxIs.apart {w : World} {b : Nat} {cs : Array Value} {T : TypeId} (h : BoxIs w b cs T) {base : Nat} {e : TypeId} {size : Nat} {v : Value} {n : Nat} {xs : List Value} (k : w.ownsRow base e size v n xs) (hT : T ≠ e) : some b ≠ v.ownBlock := by
  intro hb
  rcases k.2 with ⟨rfl, -⟩ | ⟨g, cap, cur, rfl, -, hg, -⟩
  · simp [Value.ownBlock] at hb
  · simp only [Value.ownBlock, Option.some.injEq] at hb
    subst hb
    unfold BoxIs at h
    rw [h] at hg
    simp only [Option.some.injEq, Obj.cells.injEq] at hg
    exact hT hg.2.1
theorem BoxIs.grown {w w' : World} {b : Nat} {cs : Array Value} {T : TypeId} (h : BoxIs w b cs T) {base : Nat} {e : TypeId} {size : Nat} {v : Value} {n : Nat} {xs : List Value} (k : w.ownsRow base e size v n xs) (hT : T ≠ e) (hg : w.grownBy w' v.ownBlock) : BoxIs w' b cs T :=
  (hg.block b h.lt (h.apart k hT)).trans h
end Go.Proofs.YtpofabebmeickaaDoor

/- A square in memory; syntax.blank. -/
namespace Go.Proofs.YtpofabebmeickaaDoor
set_option linter.unusedVariables false
set_option linter.unusedSimpArgs false
open Go.RowKit Go.Extern.Stop Go.Stop Go.Extern

theorem BoxIs.set {w : World} {b i : Nat} {cs : Array Value} {T : TypeId} (h : BoxIs w b cs T) (v : Value) : BoxIs (w.setCell ⟨b, i, none⟩ v) b (cs.setIfInBounds i v) T := heap_setCell_same w b i cs T v h
theorem BoxIs.other {w : World} {b : Nat} {p : Addr} {cs : Array Value} {T : TypeId} (h : BoxIs w b cs T) (hp : p.block ≠ b) (v : Value) : BoxIs (w.setCell p v) b cs T := (Below.heap_setCell w p v b (Ne.symm hp)).trans h
theorem BoxIs.below {w w' : World} {b B : Nat} {cs : Array Value} {T : TypeId} (h : BoxIs w b cs T) (k : Below B w w') (hb : b < B) : BoxIs w' b cs T := (Below.block k b hb).trans h
theorem sq_put {w : World} {B : Nat} {c0 c1 c2 c3 c4 c5 c6 c7 c8 c9 c10 c11 c12 v0 v1 v2 v3 v4 v5 v6 v7 v8 v9 v10 v11 v12 : Value} {T : TypeId} (h : BoxIs w B #[c0, c1, c2, c3, c4, c5, c6, c7, c8, c9, c10, c11, c12] T) : BoxIs (((((((((((((w.setCell ⟨B, 0, none⟩ v0).setCell ⟨B, 1, none⟩ v1).setCell ⟨B, 2, none⟩ v2).setCell ⟨B, 3, none⟩ v3).setCell ⟨B, 4, none⟩ v4).setCell ⟨B, 5, none⟩ v5).setCell ⟨B, 6, none⟩ v6).setCell ⟨B, 7, none⟩ v7).setCell ⟨B, 8, none⟩ v8).setCell ⟨B, 9, none⟩ v9).setCell ⟨B, 10, none⟩ v10).setCell ⟨B, 11, none⟩ v11).setCell ⟨B, 12, none⟩ v12) B #[v0, v1, v2, v3, v4, v5, v6, v7, v8, v9, v10, v11, v12] T := by
  have h0 : BoxIs (w.setCell ⟨B, 0, none⟩ v0) B #[v0, c1, c2, c3, c4, c5, c6, c7, c8, c9, c10, c11, c12] T := h.set (i := 0) v0
  have h1 : BoxIs ((w.setCell ⟨B, 0, none⟩ v0).setCell ⟨B, 1, none⟩ v1) B #[v0, v1, c2, c3, c4, c5, c6, c7, c8, c9, c10, c11, c12] T := h0.set (i := 1) v1
  have h2 : BoxIs (((w.setCell ⟨B, 0, none⟩ v0).setCell ⟨B, 1, none⟩ v1).setCell ⟨B, 2, none⟩ v2) B #[v0, v1, v2, c3, c4, c5, c6, c7, c8, c9, c10, c11, c12] T := h1.set (i := 2) v2
  have h3 : BoxIs ((((w.setCell ⟨B, 0, none⟩ v0).setCell ⟨B, 1, none⟩ v1).setCell ⟨B, 2, none⟩ v2).setCell ⟨B, 3, none⟩ v3) B #[v0, v1, v2, v3, c4, c5, c6, c7, c8, c9, c10, c11, c12] T := h2.set (i := 3) v3
  have h4 : BoxIs (((((w.setCell ⟨B, 0, none⟩ v0).setCell ⟨B, 1, none⟩ v1).setCell ⟨B, 2, none⟩ v2).setCell ⟨B, 3, none⟩ v3).setCell ⟨B, 4, none⟩ v4) B #[v0, v1, v2, v3, v4, c5, c6, c7, c8, c9, c10, c11, c12] T := h3.set (i := 4) v4
  have h5 : BoxIs ((((((w.setCell ⟨B, 0, none⟩ v0).setCell ⟨B, 1, none⟩ v1).setCell ⟨B, 2, none⟩ v2).setCell ⟨B, 3, none⟩ v3).setCell ⟨B, 4, none⟩ v4).setCell ⟨B, 5, none⟩ v5) B #[v0, v1, v2, v3, v4, v5, c6, c7, c8, c9, c10, c11, c12] T := h4.set (i := 5) v5
  have h6 : BoxIs (((((((w.setCell ⟨B, 0, none⟩ v0).setCell ⟨B, 1, none⟩ v1).setCell ⟨B, 2, none⟩ v2).setCell ⟨B, 3, none⟩ v3).setCell ⟨B, 4, none⟩ v4).setCell ⟨B, 5, none⟩ v5).setCell ⟨B, 6, none⟩ v6) B #[v0, v1, v2, v3, v4, v5, v6, c7, c8, c9, c10, c11, c12] T := h5.set (i := 6) v6
  have h7 : BoxIs ((((((((w.setCell ⟨B, 0, none⟩ v0).setCell ⟨B, 1, none⟩ v1).setCell ⟨B, 2, none⟩ v2).setCell ⟨B, 3, none⟩ v3).setCell ⟨B, 4, none⟩ v4).setCell ⟨B, 5, none⟩ v5).setCell ⟨B, 6, none⟩ v6).setCell ⟨B, 7, none⟩ v7) B #[v0, v1, v2, v3, v4, v5, v6, v7, c8, c9, c10, c11, c12] T := h6.set (i := 7) v7
  have h8 : BoxIs (((((((((w.setCell ⟨B, 0, none⟩ v0).setCell ⟨B, 1, none⟩ v1).setCell ⟨B, 2, none⟩ v2).setCell ⟨B, 3, none⟩ v3).setCell ⟨B, 4, none⟩ v4).setCell ⟨B, 5, none⟩ v5).setCell ⟨B, 6, none⟩ v6).setCell ⟨B, 7, none⟩ v7).setCell ⟨B, 8, none⟩ v8) B #[v0, v1, v2, v3, v4, v5, v6, v7, v8, c9, c10, c11, c12] T := h7.set (i := 8) v8
  have h9 : BoxIs ((((((((((w.setCell ⟨B, 0, none⟩ v0).setCell ⟨B, 1, none⟩ v1).setCell ⟨B, 2, none⟩ v2).setCell ⟨B, 3, none⟩ v3).setCell ⟨B, 4, none⟩ v4).setCell ⟨B, 5, none⟩ v5).setCell ⟨B, 6, none⟩ v6).setCell ⟨B, 7, none⟩ v7).setCell ⟨B, 8, none⟩ v8).setCell ⟨B, 9, none⟩ v9) B #[v0, v1, v2, v3, v4, v5, v6, v7, v8, v9, c10, c11, c12] T := h8.set (i := 9) v9
  have h10 : BoxIs (((((((((((w.setCell ⟨B, 0, none⟩ v0).setCell ⟨B, 1, none⟩ v1).setCell ⟨B, 2, none⟩ v2).setCell ⟨B, 3, none⟩ v3).setCell ⟨B, 4, none⟩ v4).setCell ⟨B, 5, none⟩ v5).setCell ⟨B, 6, none⟩ v6).setCell ⟨B, 7, none⟩ v7).setCell ⟨B, 8, none⟩ v8).setCell ⟨B, 9, none⟩ v9).setCell ⟨B, 10, none⟩ v10) B #[v0, v1, v2, v3, v4, v5, v6, v7, v8, v9, v10, c11, c12] T := h9.set (i := 10) v10
  have h11 : BoxIs ((((((((((((w.setCell ⟨B, 0, none⟩ v0).setCell ⟨B, 1, none⟩ v1).setCell ⟨B, 2, none⟩ v2).setCell ⟨B, 3, none⟩ v3).setCell ⟨B, 4, none⟩ v4).setCell ⟨B, 5, none⟩ v5).setCell ⟨B, 6, none⟩ v6).setCell ⟨B, 7, none⟩ v7).setCell ⟨B, 8, none⟩ v8).setCell ⟨B, 9, none⟩ v9).setCell ⟨B, 10, none⟩ v10).setCell ⟨B, 11, none⟩ v11) B #[v0, v1, v2, v3, v4, v5, v6, v7, v8, v9, v10, v11, c12] T := h10.set (i := 11) v11
  have h12 : BoxIs (((((((((((((w.setCell ⟨B, 0, none⟩ v0).setCell ⟨B, 1, none⟩ v1).setCell ⟨B, 2, none⟩ v2).setCell ⟨B, 3, none⟩ v3).setCell ⟨B, 4, none⟩ v4).setCell ⟨B, 5, none⟩ v5).setCell ⟨B, 6, none⟩ v6).setCell ⟨B, 7, none⟩ v7).setCell ⟨B, 8, none⟩ v8).setCell ⟨B, 9, none⟩ v9).setCell ⟨B, 10, none⟩ v10).setCell ⟨B, 11, none⟩ v11).setCell ⟨B, 12, none⟩ v12) B #[v0, v1, v2, v3, v4, v5, v6, v7, v8, v9, v10, v11, v12] T := h11.set (i := 12) v12
  exact h12
theorem sq_cells {w : World} {B : Nat} {v0 v1 v2 v3 v4 v5 v6 v7 v8 v9 v10 v11 v12 : Value} {T : TypeId} (h : BoxIs w B #[v0, v1, v2, v3, v4, v5, v6, v7, v8, v9, v10, v11, v12] T) : (w.cell? ⟨B, 0, none⟩ = some v0 ∧ w.cell? ⟨B, 1, none⟩ = some v1 ∧ w.cell? ⟨B, 2, none⟩ = some v2 ∧ w.cell? ⟨B, 3, none⟩ = some v3 ∧ w.cell? ⟨B, 4, none⟩ = some v4 ∧ w.cell? ⟨B, 5, none⟩ = some v5 ∧ w.cell? ⟨B, 6, none⟩ = some v6 ∧ w.cell? ⟨B, 7, none⟩ = some v7 ∧ w.cell? ⟨B, 8, none⟩ = some v8 ∧ w.cell? ⟨B, 9, none⟩ = some v9 ∧ w.cell? ⟨B, 10, none⟩ = some v10 ∧ w.cell? ⟨B, 11, none⟩ = some v11 ∧ w.cell? ⟨B, 12, none⟩ = some v12) ∧ w.frozen? ⟨B, 0, none⟩ = false ∧ w.frozen? ⟨B, 1, none⟩ = false ∧ w.frozen? ⟨B, 2, none⟩ = false ∧ w.frozen? ⟨B, 3, none⟩ = false ∧ w.frozen? ⟨B, 4, none⟩ = false ∧ w.frozen? ⟨B, 5, none⟩ = false ∧ w.frozen? ⟨B, 6, none⟩ = false ∧ w.frozen? ⟨B, 7, none⟩ = false ∧ w.frozen? ⟨B, 8, none⟩ = false ∧ w.frozen? ⟨B, 9, none⟩ = false ∧ w.frozen? ⟨B, 10, none⟩ = false ∧ w.frozen? ⟨B, 11, none⟩ = false ∧ w.frozen? ⟨B, 12, none⟩ = false :=
  ⟨⟨h.cell rfl, h.cell rfl, h.cell rfl, h.cell rfl, h.cell rfl, h.cell rfl, h.cell rfl, h.cell rfl, h.cell rfl, h.cell rfl, h.cell rfl, h.cell rfl, h.cell rfl⟩, h.free, h.free, h.free, h.free, h.free, h.free, h.free, h.free, h.free, h.free, h.free, h.free, h.free⟩
def sqV (k m a b c d x y : Int) (L s0 s1 s2 s3 : Value) : Value := .agg #[.int .i64 k, .int .i64 m, .int .i64 a, .int .i64 b, .int .i64 c, .int .i64 d, .int .i64 x, .int .i64 y, L, s0, s1, s2, s3]
set_option maxHeartbeats 4000000 in
set_option maxRecDepth 20000 in
theorem blank_ext (w : World) : Calls Tryd.prog 34 #[] w fun e w' => ∃ L s0 s1 s2 s3 : Addr, e = .returned (sqV 0 0 0 0 0 0 0 0 (.slice (some L) 64 64) (.slice (some s0) 16 16) (.slice (some s1) 16 16) (.slice (some s2) 16 16) (.slice (some s3) 16 16)) ∧ Ext w w' := by
  obtain ⟨i0, hi, hz0, hz1, hz2⟩ := info_parts infoInt
  have B0 := BoxIs.new w #[.int .i64 0, .int .i64 0, .int .i64 0, .int .i64 0, .int .i64 0, .int .i64 0, .int .i64 0, .int .i64 0, .slice none 0 0, .slice none 0 0, .slice none 0 0, .slice none 0 0, .slice none 0 0] 62
  have E0 := (Ext.refl w).alloc (.cells #[.int .i64 0, .int .i64 0, .int .i64 0, .int .i64 0, .int .i64 0, .int .i64 0, .int .i64 0, .int .i64 0, .slice none 0 0, .slice none 0 0, .slice none 0 0, .slice none 0 0, .slice none 0 0] 62)
  go_enter Tryd.func34, Tryd.ntmps34
  go_wp2_with (at_make; generalize hw0 : w.alloc (.cells #[.int .i64 0, .int .i64 0, .int .i64 0, .int .i64 0, .int .i64 0, .int .i64 0, .int .i64 0, .int .i64 0, .slice none 0 0, .slice none 0 0, .slice none 0 0, .slice none 0 0, .slice none 0 0] 62) = w0 at B0 E0 ⊢; clear hw0; refine wpList_make_full _ rfl _ _ 59 rfl w0.heap.size 3 i0 (.int .i64 0) 1 Tryd.underlying59 hi hz0 hz1 .i64 .i64 _ _ 64 rfl rfl rfl rfl (by rw [hz2]; decide) (by decide) (Nat.le_refl _) ?_; intro w1 hown hgrow)
  have B0 := Lib.hid B0
  have E0 := Lib.hid E0
  have E1 : Ext w0 w1 := Below.grown (Ext.refl w0) hgrow (Nat.le_refl _) (fun k hk => by cases hk)
  have b2 := BoxIs.new w1 #[.int .i64 0, .int .i64 0, .int .i64 0, .int .i64 0, .int .i64 0, .int .i64 0, .int .i64 0, .int .i64 0, .slice (some ⟨w0.heap.size, 0, none⟩) 64 64, .slice none 0 0, .slice none 0 0, .slice none 0 0, .slice none 0 0] 62
  have hE2 : Ext w0 (w1.alloc (.cells #[.int .i64 0, .int .i64 0, .int .i64 0, .int .i64 0, .int .i64 0, .int .i64 0, .int .i64 0, .int .i64 0, .slice (some ⟨w0.heap.size, 0, none⟩) 64 64, .slice none 0 0, .slice none 0 0, .slice none 0 0, .slice none 0 0] 62)) := E1.alloc _
  generalize hu0 : w1.alloc (.cells #[.int .i64 0, .int .i64 0, .int .i64 0, .int .i64 0, .int .i64 0, .int .i64 0, .int .i64 0, .int .i64 0, .slice (some ⟨w0.heap.size, 0, none⟩) 64 64, .slice none 0 0, .slice none 0 0, .slice none 0 0, .slice none 0 0] 62) = u0 at b2 hE2 ⊢
  have B2 := Lib.hid b2
  have R2 := Lib.hid (B0.out.ext hE2)
  have E2 := Lib.hid (E0.out.trans hE2)
  have hlt := B2.out.lt
  have hne : w.heap.size ≠ w1.heap.size := by have := B0.out.lt; have := E1.size; omega
  have hbl : w.heap.size ≤ w1.heap.size := by have := B0.out.lt; have := E1.size; omega
  clear hu0 b2 hE2 E1 hown hgrow B0 E0
  refine wp_loop_rounds 5 ?_
  rw [rounds_succ]
  have c := B2.out.cell (i := 9) (v := .slice none 0 0) rfl
  have f := B2.out.free (i := 9)
  go_wp2_with (at_make; refine wpList_make_full _ rfl _ _ 59 rfl u0.heap.size 3 i0 (.int .i64 0) 1 Tryd.underlying59 hi hz0 hz1 .i64 .i64 _ _ 16 rfl rfl rfl rfl (by rw [hz2]; decide) (by decide) (Nat.le_refl _) ?_; intro x0 hown hgrow; have EE : Ext u0 x0 := Below.grown (Ext.refl u0) hgrow (Nat.le_refl _) (fun k hk => by cases hk); have d := EE.cell c; have g := (B2.out.ext EE).free (i := 9))
  have b2 : BoxIs (x0.setCell ⟨w1.heap.size, 9, none⟩ (.slice (some ⟨u0.heap.size, 0, none⟩) 16 16)) w1.heap.size #[.int .i64 0, .int .i64 0, .int .i64 0, .int .i64 0, .int .i64 0, .int .i64 0, .int .i64 0, .int .i64 0, .slice (some ⟨w0.heap.size, 0, none⟩) 64 64, .slice (some ⟨u0.heap.size, 0, none⟩) 16 16, .slice none 0 0, .slice none 0 0, .slice none 0 0] 62 := (B2.out.ext EE).set (i := 9) (.slice (some ⟨u0.heap.size, 0, none⟩) 16 16)
  have e2 := (E2.out.trans EE).setCell (p := ⟨w1.heap.size, 9, none⟩) hbl (.slice (some ⟨u0.heap.size, 0, none⟩) 16 16)
  have r2 := (R2.out.ext EE).other (p := ⟨w1.heap.size, 9, none⟩) (Ne.symm hne) (.slice (some ⟨u0.heap.size, 0, none⟩) 16 16)
  clear B2 R2 E2 c f d g hown hgrow EE
  generalize x0.setCell ⟨w1.heap.size, 9, none⟩ (.slice (some ⟨u0.heap.size, 0, none⟩) 16 16) = u1 at b2 e2 r2 ⊢
  have B2 := Lib.hid b2
  have R2 := Lib.hid r2
  have E2 := Lib.hid e2
  clear b2 e2 r2
  rw [rounds_succ]
  have c := B2.out.cell (i := 10) (v := .slice none 0 0) rfl
  have f := B2.out.free (i := 10)
  go_wp2_with (at_make; refine wpList_make_full _ rfl _ _ 59 rfl u1.heap.size 3 i0 (.int .i64 0) 1 Tryd.underlying59 hi hz0 hz1 .i64 .i64 _ _ 16 rfl rfl rfl rfl (by rw [hz2]; decide) (by decide) (Nat.le_refl _) ?_; intro x1 hown hgrow; have EE : Ext u1 x1 := Below.grown (Ext.refl u1) hgrow (Nat.le_refl _) (fun k hk => by cases hk); have d := EE.cell c; have g := (B2.out.ext EE).free (i := 10))
  have b2 : BoxIs (x1.setCell ⟨w1.heap.size, 10, none⟩ (.slice (some ⟨u1.heap.size, 0, none⟩) 16 16)) w1.heap.size #[.int .i64 0, .int .i64 0, .int .i64 0, .int .i64 0, .int .i64 0, .int .i64 0, .int .i64 0, .int .i64 0, .slice (some ⟨w0.heap.size, 0, none⟩) 64 64, .slice (some ⟨u0.heap.size, 0, none⟩) 16 16, .slice (some ⟨u1.heap.size, 0, none⟩) 16 16, .slice none 0 0, .slice none 0 0] 62 := (B2.out.ext EE).set (i := 10) (.slice (some ⟨u1.heap.size, 0, none⟩) 16 16)
  have e2 := (E2.out.trans EE).setCell (p := ⟨w1.heap.size, 10, none⟩) hbl (.slice (some ⟨u1.heap.size, 0, none⟩) 16 16)
  have r2 := (R2.out.ext EE).other (p := ⟨w1.heap.size, 10, none⟩) (Ne.symm hne) (.slice (some ⟨u1.heap.size, 0, none⟩) 16 16)
  clear B2 R2 E2 c f d g hown hgrow EE
  generalize x1.setCell ⟨w1.heap.size, 10, none⟩ (.slice (some ⟨u1.heap.size, 0, none⟩) 16 16) = u2 at b2 e2 r2 ⊢
  have B2 := Lib.hid b2
  have R2 := Lib.hid r2
  have E2 := Lib.hid e2
  clear b2 e2 r2
  rw [rounds_succ]
  have c := B2.out.cell (i := 11) (v := .slice none 0 0) rfl
  have f := B2.out.free (i := 11)
  go_wp2_with (at_make; refine wpList_make_full _ rfl _ _ 59 rfl u2.heap.size 3 i0 (.int .i64 0) 1 Tryd.underlying59 hi hz0 hz1 .i64 .i64 _ _ 16 rfl rfl rfl rfl (by rw [hz2]; decide) (by decide) (Nat.le_refl _) ?_; intro x2 hown hgrow; have EE : Ext u2 x2 := Below.grown (Ext.refl u2) hgrow (Nat.le_refl _) (fun k hk => by cases hk); have d := EE.cell c; have g := (B2.out.ext EE).free (i := 11))
  have b2 : BoxIs (x2.setCell ⟨w1.heap.size, 11, none⟩ (.slice (some ⟨u2.heap.size, 0, none⟩) 16 16)) w1.heap.size #[.int .i64 0, .int .i64 0, .int .i64 0, .int .i64 0, .int .i64 0, .int .i64 0, .int .i64 0, .int .i64 0, .slice (some ⟨w0.heap.size, 0, none⟩) 64 64, .slice (some ⟨u0.heap.size, 0, none⟩) 16 16, .slice (some ⟨u1.heap.size, 0, none⟩) 16 16, .slice (some ⟨u2.heap.size, 0, none⟩) 16 16, .slice none 0 0] 62 := (B2.out.ext EE).set (i := 11) (.slice (some ⟨u2.heap.size, 0, none⟩) 16 16)
  have e2 := (E2.out.trans EE).setCell (p := ⟨w1.heap.size, 11, none⟩) hbl (.slice (some ⟨u2.heap.size, 0, none⟩) 16 16)
  have r2 := (R2.out.ext EE).other (p := ⟨w1.heap.size, 11, none⟩) (Ne.symm hne) (.slice (some ⟨u2.heap.size, 0, none⟩) 16 16)
  clear B2 R2 E2 c f d g hown hgrow EE
  generalize x2.setCell ⟨w1.heap.size, 11, none⟩ (.slice (some ⟨u2.heap.size, 0, none⟩) 16 16) = u3 at b2 e2 r2 ⊢
  have B2 := Lib.hid b2
  have R2 := Lib.hid r2
  have E2 := Lib.hid e2
  clear b2 e2 r2
  rw [rounds_succ]
  have c := B2.out.cell (i := 12) (v := .slice none 0 0) rfl
  have f := B2.out.free (i := 12)
  go_wp2_with (at_make; refine wpList_make_full _ rfl _ _ 59 rfl u3.heap.size 3 i0 (.int .i64 0) 1 Tryd.underlying59 hi hz0 hz1 .i64 .i64 _ _ 16 rfl rfl rfl rfl (by rw [hz2]; decide) (by decide) (Nat.le_refl _) ?_; intro x3 hown hgrow; have EE : Ext u3 x3 := Below.grown (Ext.refl u3) hgrow (Nat.le_refl _) (fun k hk => by cases hk); have d := EE.cell c; have g := (B2.out.ext EE).free (i := 12))
  have b2 : BoxIs (x3.setCell ⟨w1.heap.size, 12, none⟩ (.slice (some ⟨u3.heap.size, 0, none⟩) 16 16)) w1.heap.size #[.int .i64 0, .int .i64 0, .int .i64 0, .int .i64 0, .int .i64 0, .int .i64 0, .int .i64 0, .int .i64 0, .slice (some ⟨w0.heap.size, 0, none⟩) 64 64, .slice (some ⟨u0.heap.size, 0, none⟩) 16 16, .slice (some ⟨u1.heap.size, 0, none⟩) 16 16, .slice (some ⟨u2.heap.size, 0, none⟩) 16 16, .slice (some ⟨u3.heap.size, 0, none⟩) 16 16] 62 := (B2.out.ext EE).set (i := 12) (.slice (some ⟨u3.heap.size, 0, none⟩) 16 16)
  have e2 := (E2.out.trans EE).setCell (p := ⟨w1.heap.size, 12, none⟩) hbl (.slice (some ⟨u3.heap.size, 0, none⟩) 16 16)
  have r2 := (R2.out.ext EE).other (p := ⟨w1.heap.size, 12, none⟩) (Ne.symm hne) (.slice (some ⟨u3.heap.size, 0, none⟩) 16 16)
  clear B2 R2 E2 c f d g hown hgrow EE
  generalize x3.setCell ⟨w1.heap.size, 12, none⟩ (.slice (some ⟨u3.heap.size, 0, none⟩) 16 16) = u4 at b2 e2 r2 ⊢
  have B2 := Lib.hid b2
  have R2 := Lib.hid r2
  have E2 := Lib.hid e2
  clear b2 e2 r2
  rw [rounds_succ]
  obtain ⟨⟨c0, c1, c2, c3, c4, c5, c6, c7, c8, c9, c10, c11, c12⟩, -⟩ := sq_cells B2.out
  obtain ⟨⟨e0, e1, e2, e3, e4, e5, e6, e7, e8, e9, e10, e11, e12⟩, f0, f1, f2, f3, f4, f5, f6, f7, f8, f9, f10, f11, f12⟩ := sq_cells R2.out
  go_wp2
  obtain ⟨⟨g0, g1, g2, g3, g4, g5, g6, g7, g8, g9, g10, g11, g12⟩, -⟩ := sq_cells (sq_put (v0 := .int .i64 0) (v1 := .int .i64 0) (v2 := .int .i64 0) (v3 := .int .i64 0) (v4 := .int .i64 0) (v5 := .int .i64 0) (v6 := .int .i64 0) (v7 := .int .i64 0) (v8 := .slice (some ⟨w0.heap.size, 0, none⟩) 64 64) (v9 := .slice (some ⟨u0.heap.size, 0, none⟩) 16 16) (v10 := .slice (some ⟨u1.heap.size, 0, none⟩) 16 16) (v11 := .slice (some ⟨u2.heap.size, 0, none⟩) 16 16) (v12 := .slice (some ⟨u3.heap.size, 0, none⟩) 16 16) R2.out)
  exact bodyPost_ret (v := .agg #[.int .i64 0, .int .i64 0, .int .i64 0, .int .i64 0, .int .i64 0, .int .i64 0, .int .i64 0, .int .i64 0, .slice (some ⟨w0.heap.size, 0, none⟩) 64 64, .slice (some ⟨u0.heap.size, 0, none⟩) 16 16, .slice (some ⟨u1.heap.size, 0, none⟩) 16 16, .slice (some ⟨u2.heap.size, 0, none⟩) 16 16, .slice (some ⟨u3.heap.size, 0, none⟩) 16 16]) (by simp [results, Tryd.results34, go_sem, g0, g1, g2, g3, g4, g5, g6, g7, g8, g9, g10, g11, g12]) rfl ⟨_, _, _, _, _, rfl, by
    have e := E2.out
    repeat refine Ext.setCell ?_ (by show w.heap.size ≤ w.heap.size; exact Nat.le_refl _) _
    exact e⟩
end Go.Proofs.YtpofabebmeickaaDoor

/- syntax.Code of two special squares. -/
namespace Go.Proofs.YtpofabebmeickaaDoor
set_option linter.unusedVariables false
set_option linter.unusedSimpArgs false
open Go.RowKit Go.Extern.Stop Go.Stop Go.Extern

abbrev nilS : Value := .slice none 0 0
theorem isr_no (p : Value) (xT : TypeId) (w : World) : (Instr.typeAssert (.iface 54 p) xT 52 true).run Tryd.prog w = .ok (.tuple #[.pointer none, .bool false]) w := by
  have hz : (Tryd.prog.info? 52).map (·.zero) = some (some (.pointer none)) := by kernel_rfl
  obtain ⟨j, hj, hz'⟩ := Option.map_eq_some_iff.1 hz
  simp [Instr.typeAssert, run_underlying Tryd.underlying52, typeInfo, zeroValue, hj, hz']
theorem isr_yes (p : Value) (xT : TypeId) (w : World) : (Instr.typeAssert (.iface 52 p) xT 52 true).run Tryd.prog w = .ok (.tuple #[p, .bool true]) w := by
  simp [Instr.typeAssert, run_underlying Tryd.underlying52, Result.andThen]
set_option maxRecDepth 20000 in
theorem isr_w (p : Value) (w : World) : Calls Tryd.prog 35 #[.iface 54 p] w fun e w' => e = .returned (.bool false) ∧ Ext w w' := by
  go_enter Tryd.func35, Tryd.ntmps35
  have hn := isr_no p
  go_wp2
  go_ret
  exact ⟨rfl, Ext.refl w⟩
set_option maxRecDepth 20000 in
theorem isr_r (p : Value) (w : World) : Calls Tryd.prog 35 #[.iface 52 p] w fun e w' => e = .returned (.bool true) ∧ Ext w w' := by
  have hn := isr_yes p
  go_enter Tryd.func35, Tryd.ntmps35
  go_wp2
  go_ret
  exact ⟨rfl, Ext.refl w⟩
set_option maxHeartbeats 1000000 in
theorem chk_1 (w : World) : Calls Tryd.prog 36 #[.bool true, sqV 1 0 0 0 0 0 0 0 nilS nilS nilS nilS nilS] w fun e w' => e = .returned (.iface 33 (.int .i64 13)) ∧ Ext w w' := by
  unfold sqV nilS
  go_enter Tryd.func36, Tryd.ntmps36
  go_wp2
  go_ret
  exact ⟨rfl, (Ext.refl w).alloc _⟩
set_option maxHeartbeats 1000000 in
theorem chk_0 (w : World) : Calls Tryd.prog 36 #[.bool false, sqV 0 2 0 0 0 0 0 0 nilS nilS nilS nilS nilS] w fun e w' => e = .returned .nilIface ∧ Ext w w' := by
  unfold sqV nilS
  go_enter Tryd.func36, Tryd.ntmps36
  go_wp2
  go_ret
  exact ⟨rfl, (Ext.refl w).alloc _⟩
set_option maxHeartbeats 1000000 in
theorem tak_0 (R : Value) (w : World) : Calls Tryd.prog 37 #[R, sqV 0 2 0 0 0 0 0 0 nilS nilS nilS nilS nilS] w fun e w' => e = .returned (.tuple #[]) ∧ Ext w w' := by
  unfold sqV nilS
  go_enter Tryd.func37, Tryd.ntmps37
  go_wp2
  go_end0
  exact ⟨rfl, (Ext.refl w).alloc _⟩
end Go.Proofs.YtpofabebmeickaaDoor
