/- kinlaw6.PlanePuts: the walk. -/
import Derived.Test.YtkighedghgcdjaaDoorPl1
import Derived.Test.YtkighedghgcdjaaDoorRPut
import Derived.Test.YtkighedghgcdjaaDoorGet
import Derived.BigRegion
import Derived.Deep.RegionHeld3
namespace Go.Proofs.YtkighedghgcdjaaDoor
set_option linter.unusedVariables false
set_option linter.unusedSimpArgs false
open Go.RowKit Go.Extern.Stop Go.Stop Go.Extern

theorem FrBox.same {w w' : World} {B : Nat} {W H : Int} {v : Value} (h : FrBox w B W H v) (k : w'.heap[B]? = w.heap[B]?) : FrBox w' B W H v := by
  obtain ⟨h0, h1, h2⟩ := h
  exact ⟨(World.cell?_of_block (a := ⟨B, 0, none⟩) k).trans h0, (World.cell?_of_block (a := ⟨B, 1, none⟩) k).trans h1, (World.cell?_of_block (a := ⟨B, 2, none⟩) k).trans h2⟩
def GetPost (w : World) (G : List Int) (e : Ending) (w' : World) : Prop := ∃ u, e = .returned u ∧ Ext w w' ∧ Ints w' u G
theorem list_row (L : List Int) : rowL L.length (fun i => L.getD i 0) = L := rowL_getD L
set_option maxHeartbeats 2000000 in
set_option maxRecDepth 20000 in
theorem puts_long (W H x y i : Int) (a b : Option Addr) (n m cap cb : Nat) (w : World) (hg : EtIs w) (hl : 5000 < n ∨ ¬ 5000 < n ∧ 5000 < m) :
    Calls Tryd.prog 5 #[.agg #[.int .i64 W, .int .i64 H, .slice a n cap], .int .i64 x, .int .i64 y, .int .i64 i, .slice b m cb] w fun e w' => e = .returned (.bool true) ∧ Ext w w' := by
  rcases hl with h1 | ⟨h1, h2⟩
  · have HB := Lib.hid (FrBox.new w W H (.slice a n cap))
    go_enter Tryd.func5, Tryd.ntmps5
    go_wp2_with fail
    refine (first6_any _ (hg.ext (by repeat (first | exact Ext.refl _ | assumption | refine Ext.alloc ?_ _ | refine Ext.drew ?_ | refine Ext.drewN ?_ _ | refine Ext.setCell ?_ (by first | exact Nat.le_refl _ | (simp; done) | omega) _ | refine Ext.trans ?_ (by assumption))))).mono ?_; rintro e w1 ⟨rfl, hx1⟩
    have F1 := Lib.hid (HB.out.ext hx1)
    obtain ⟨p0, p1, p2⟩ := F1.out
    go_wp2_with fail
    refine (few_any W H a n cap _).mono ?_; rintro e w2 ⟨rfl, hx2⟩
    have F2 := Lib.hid (F1.out.ext hx2)
    clear p0 p1 p2 F1 HB
    rw [decide_eq_false (by omega)]
    go_wp2_with fail
    refine (first6_any _ (hg.ext (by repeat (first | exact Ext.refl _ | assumption | refine Ext.alloc ?_ _ | refine Ext.drew ?_ | refine Ext.drewN ?_ _ | refine Ext.setCell ?_ (by first | exact Nat.le_refl _ | (simp; done) | omega) _ | refine Ext.trans ?_ (by assumption))))).mono ?_; rintro e w9 ⟨rfl, hx9⟩
    go_wp2
    go_ret
    exact ⟨rfl, (by repeat (first | exact Ext.refl _ | assumption | refine Ext.alloc ?_ _ | refine Ext.drew ?_ | refine Ext.drewN ?_ _ | refine Ext.setCell ?_ (by first | exact Nat.le_refl _ | (simp; done) | omega) _ | refine Ext.trans ?_ (by assumption)))⟩
  · have HB := Lib.hid (FrBox.new w W H (.slice a n cap))
    go_enter Tryd.func5, Tryd.ntmps5
    go_wp2_with fail
    refine (first6_any _ (hg.ext (by repeat (first | exact Ext.refl _ | assumption | refine Ext.alloc ?_ _ | refine Ext.drew ?_ | refine Ext.drewN ?_ _ | refine Ext.setCell ?_ (by first | exact Nat.le_refl _ | (simp; done) | omega) _ | refine Ext.trans ?_ (by assumption))))).mono ?_; rintro e w1 ⟨rfl, hx1⟩
    have F1 := Lib.hid (HB.out.ext hx1)
    obtain ⟨p0, p1, p2⟩ := F1.out
    go_wp2_with fail
    refine (few_any W H a n cap _).mono ?_; rintro e w2 ⟨rfl, hx2⟩
    have F2 := Lib.hid (F1.out.ext hx2)
    clear p0 p1 p2 F1 HB
    rw [decide_eq_true (by omega)]
    go_wp2_with fail
    refine (first6_any _ (hg.ext (by repeat (first | exact Ext.refl _ | assumption | refine Ext.alloc ?_ _ | refine Ext.drew ?_ | refine Ext.drewN ?_ _ | refine Ext.setCell ?_ (by first | exact Nat.le_refl _ | (simp; done) | omega) _ | refine Ext.trans ?_ (by assumption))))).mono ?_; rintro e w9 ⟨rfl, hx9⟩
    go_wp2
    go_ret
    exact ⟨rfl, (by repeat (first | exact Ext.refl _ | assumption | refine Ext.alloc ?_ _ | refine Ext.drew ?_ | refine Ext.drewN ?_ _ | refine Ext.setCell ?_ (by first | exact Nat.le_refl _ | (simp; done) | omega) _ | refine Ext.trans ?_ (by assumption)))⟩
set_option maxHeartbeats 8000000 in
set_option maxRecDepth 20000 in
theorem puts_walk (W H x y i A B : Int) (zs bs L G : List Int) (f : Fall) (a b : Option Addr) (n m cap cb : Nat) (w : World) (hg : EtIs w) (h : Ints w (.slice a n cap) zs) (hb : Ints w (.slice b m cb) bs) (h1 : ¬ 5000 < n) (h2 : ¬ 5000 < m)
    (c1 : Hid (∀ a n cap w, Ints w (.slice a n cap) zs → Ints w (.slice b m cb) bs → Calls Tryd.prog 33 #[.agg #[.int .i64 W, .int .i64 H, .slice a n cap], .int .i64 x, .int .i64 y, .int .i64 i, .slice b m cb] w (OPost w A B L f)))
    (c2 : Hid (∀ w, Ints w (.slice a n cap) zs → Ints w (.slice b m cb) bs → Calls Tryd.prog 34 #[.agg #[.int .i64 W, .int .i64 H, .slice a n cap], .int .i64 x, .int .i64 y, .int .i64 i, .slice b m cb] w (RFPost w A B L f)))
    (c3 : Hid (∀ a n cap w, Ints w (.slice a n cap) zs → Calls Tryd.prog 36 #[.agg #[.int .i64 W, .int .i64 H, .slice a n cap], .int .i64 x, .int .i64 y, .int .i64 i] w (GetPost w G)))
    (c4 : Hid (∀ a n cap w, Ints w (.slice a n cap) zs → Calls Tryd.prog 37 #[.agg #[.int .i64 W, .int .i64 H, .slice a n cap], .int .i64 x, .int .i64 y, .int .i64 i] w (GetPost w G))) :
    Calls Tryd.prog 5 #[.agg #[.int .i64 W, .int .i64 H, .slice a n cap], .int .i64 x, .int .i64 y, .int .i64 i, .slice b m cb] w fun e w' => e = .returned (.bool true) ∧ Ext w w' := by
  have hzl : zs.length ≤ 1000000 := by have := h.len; omega
  have CF := Lib.hid (fun w k => copy_frame W H zs a n cap w k hzl)
  clear hzl
  have HB := Lib.hid (FrBox.new w W H (.slice a n cap))
  go_enter Tryd.func5, Tryd.ntmps5
  go_wp2_with fail
  refine (first6_any _ (hg.ext (by repeat (first | exact Ext.refl _ | assumption | refine Ext.alloc ?_ _ | refine Ext.drew ?_ | refine Ext.drewN ?_ _ | refine Ext.setCell ?_ (by first | exact Nat.le_refl _ | (simp; done) | omega) _ | refine Ext.trans ?_ (by assumption))))).mono ?_; rintro e w1 ⟨rfl, hx1⟩
  have F1 := Lib.hid (HB.out.ext hx1)
  obtain ⟨p0, p1, p2⟩ := F1.out
  go_wp2_with fail
  refine (few_any W H a n cap _).mono ?_; rintro e w2 ⟨rfl, hx2⟩
  have F2 := Lib.hid (F1.out.ext hx2)
  clear p0 p1 p2 F1 HB
  rw [decide_eq_true (by omega)]
  obtain ⟨p0, p1, p2⟩ := F2.out
  go_wp2_with fail
  refine (CF.out _ (h.ext (by repeat (first | exact Ext.refl _ | assumption | refine Ext.alloc ?_ _ | refine Ext.drew ?_ | refine Ext.drewN ?_ _ | refine Ext.setCell ?_ (by first | exact Nat.le_refl _ | (simp; done) | omega) _ | refine Ext.trans ?_ (by assumption))))).mono ?_; rintro e w3 ⟨u3, rfl, hz3, hx3⟩
  obtain ⟨a3, k3, rfl⟩ := hz3.form
  obtain ⟨n3, hn3⟩ : ∃ n3, n3 = zs.length := ⟨_, rfl⟩
  rw [← hn3] at hz3 ⊢
  clear hn3
  have A3 : Ext w3 (w3.alloc (.cells #[.int .i64 W, .int .i64 H, .slice a3 n3 k3] 24)) := (Ext.refl w3).alloc _
  have F3 := Lib.hid ((F2.out.ext hx3).ext A3)
  have G3 := Lib.hid (FrBox.new w3 W H (.slice a3 n3 k3))
  have HZ3 := Lib.hid (hz3.ext A3)
  have E3 : Ext w (w3.alloc (.cells #[.int .i64 W, .int .i64 H, .slice a3 n3 k3] 24)) := (by repeat (first | exact Ext.refl _ | assumption | refine Ext.alloc ?_ _ | refine Ext.drew ?_ | refine Ext.drewN ?_ _ | refine Ext.setCell ?_ (by first | exact Nat.le_refl _ | (simp; done) | omega) _ | refine Ext.trans ?_ (by assumption)))
  clear p0 p1 p2 F2 A3 hx1 hx2 hx3 hz3 CF
  go_wp2_with fail
  have hw3 : w3.heap.size < (w3.alloc (.cells #[.int .i64 W, .int .i64 H, .slice a3 n3 k3] 24)).heap.size := by simp
  revert F3 G3 HZ3 E3 hw3
  generalize w3.alloc (.cells #[.int .i64 W, .int .i64 H, .slice a3 n3 k3] 24) = wP
  intro F3 G3 HZ3 E3 hw3
  refine (c1.out _ _ _ _ HZ3.out (hb.ext E3)).mono ?_; rintro e w4 ⟨a4, n4, k4, x4, rfl, hx4, hn4, hl4, ho4, he4⟩
  have hP4 : wP.heap.size ≤ w4.heap.size := hx4.size
  have HN4 := Lib.hid hn4
  clear hn4
  have hwP : w.heap.size < wP.heap.size := Ext.lt F3.out.1
  have A4 : Ext w4 (w4.alloc (.cells #[.int .i64 A, .int .i64 B, .slice a4 n4 k4] 24)) := (Ext.refl w4).alloc _
  have F4 := Lib.hid ((F3.out.ext hx4).ext A4)
  have G4 := Lib.hid ((G3.out.ext hx4).ext A4)
  have H4 := Lib.hid (FrBox.new w4 A B (.slice a4 n4 k4))
  have E4 : Ext w (w4.alloc (.cells #[.int .i64 A, .int .i64 B, .slice a4 n4 k4] 24)) := (E3.trans hx4).trans A4
  have EP4 : Ext wP (w4.alloc (.cells #[.int .i64 A, .int .i64 B, .slice a4 n4 k4] 24)) := hx4.trans A4
  have O4 := Lib.hid (own_ext ho4 A4)
  have X4 := Lib.hid (he4.ext A4)
  have hlt4 : ∀ g, (Value.slice a4 n4 k4).ownBlock = some g → g < w4.heap.size := fun g hg => (ho4.lt g hg).2
  have HL4 := Lib.hid hlt4
  have hw4 : w4.heap.size < (w4.alloc (.cells #[.int .i64 A, .int .i64 B, .slice a4 n4 k4] 24)).heap.size := by simp
  have HEP := Lib.hid E3
  clear F3 G3 A4 hx4 ho4 he4 E3 hlt4
  obtain ⟨p0, p1, p2⟩ := F4.out
  go_wp2_with fail
  revert F4 G4 H4 E4 EP4 O4 X4 p0 p1 p2 hw4
  generalize w4.alloc (.cells #[.int .i64 A, .int .i64 B, .slice a4 n4 k4] 24) = wQ
  intro F4 G4 H4 E4 EP4 O4 X4 p0 p1 p2 hw4
  refine (c2.out _ (h.ext E4) (hb.ext E4)).mono ?_; rintro e w5 ⟨a5, n5, k5, c, d, q, r, rfl, hx5, hz5, he5⟩
  have A5 : Ext w5 ((w5.alloc (.cells #[.int .i64 A, .int .i64 B, .slice a5 n5 k5] 24)).alloc (.cells #[.int .i64 c, .slice d q r] 34)) := ((Ext.refl w5).alloc _).alloc _
  have F5 := Lib.hid ((F4.out.ext hx5).ext A5)
  have G5 := Lib.hid ((G4.out.ext hx5).ext A5)
  have H5 := Lib.hid ((H4.out.ext hx5).ext A5)
  have I5 := Lib.hid ((FrBox.new w5 A B (.slice a5 n5 k5)).ext ((Ext.refl _).alloc (.cells #[.int .i64 c, .slice d q r] 34)))
  have s0 : ((w5.alloc (.cells #[.int .i64 A, .int .i64 B, .slice a5 n5 k5] 24)).alloc (.cells #[.int .i64 c, .slice d q r] 34)).cell? ⟨w5.heap.size + 1, 0, none⟩ = some (.int .i64 c) := by simp
  have s1 : ((w5.alloc (.cells #[.int .i64 A, .int .i64 B, .slice a5 n5 k5] 24)).alloc (.cells #[.int .i64 c, .slice d q r] 34)).cell? ⟨w5.heap.size + 1, 1, none⟩ = some (.slice d q r) := by simp
  have E5 : Ext w ((w5.alloc (.cells #[.int .i64 A, .int .i64 B, .slice a5 n5 k5] 24)).alloc (.cells #[.int .i64 c, .slice d q r] 34)) := (E4.trans hx5).trans A5
  have EP5 : Ext wP ((w5.alloc (.cells #[.int .i64 A, .int .i64 B, .slice a5 n5 k5] 24)).alloc (.cells #[.int .i64 c, .slice d q r] 34)) := (EP4.trans hx5).trans A5
  have O5 := Lib.hid (own_ext (own_ext O4.out hx5) A5)
  have Z5 := Lib.hid (hz5.ext A5)
  have X5 := Lib.hid (X4.out.ext (hx5.trans A5))
  have Y5 := Lib.hid (he5.ext A5)
  clear F4 G4 H4 E4 EP4 O4 X4 A5 hx5 hz5 he5 p0 p1 p2
  obtain ⟨q0, q1, q2⟩ := H5.out
  obtain ⟨r0, r1, r2⟩ := I5.out
  go_wp2_with fail
  clear q0 q1 q2 r0 r1 r2
  revert F5 G5 H5 I5 s0 s1 E5 EP5 O5 Z5 X5 Y5
  generalize (w5.alloc (.cells #[.int .i64 A, .int .i64 B, .slice a5 n5 k5] 24)).alloc (.cells #[.int .i64 c, .slice d q r] 34) = wS
  intro F5 G5 H5 I5 s0 s1 E5 EP5 O5 Z5 X5 Y5
  have Z4 := Lib.hid (show Ints wS (.slice a4 n4 k4) L from by have e := O5.out; have hL := HN4.out; rw [hL] at e ⊢; exact Ints.of_owns e (by omega))
  refine (frame_same A B L _ _ _ _ _ _ _ Z4.out Z5.out).mono ?_; rintro e w6 ⟨rfl, hx6⟩
  have S0 := hx6.cell s0
  have S1 := hx6.cell s1
  go_wp2_with fail
  refine (same_fall f _ _ _ _ (hg.ext (E5.trans hx6)) (X5.out.ext hx6) (Y5.out.ext hx6)).mono ?_; rintro e w7 ⟨rfl, hx7⟩
  obtain ⟨p0, p1, p2⟩ := (F5.out.ext hx6).ext hx7
  obtain ⟨q0, q1, q2⟩ := (G5.out.ext hx6).ext hx7
  clear S0 S1
  go_wp2_with fail
  refine (frame_same W H zs _ _ _ _ _ _ _ (HZ3.out.ext (EP5.trans (hx6.trans hx7))) (h.ext (E5.trans (hx6.trans hx7)))).mono ?_; rintro e w8 ⟨rfl, hx8⟩
  have E678 := hx6.trans (hx7.trans hx8)
  have F8 := Lib.hid (F5.out.ext E678)
  have G8 := Lib.hid (G5.out.ext E678)
  have H8 := Lib.hid (H5.out.ext E678)
  have O8 := Lib.hid (own_ext O5.out E678)
  have E8 := E5.trans E678
  have EP8 := EP5.trans E678
  clear F5 G5 H5 I5 s0 s1 E5 EP5 O5 Z5 X5 Y5 Z4 p0 p1 p2 q0 q1 q2 hx6 hx7 hx8 E678 c1 c2
  go_wp2_with fail
  by_cases hn0 : n4 = 0
  · obtain ⟨q0, q1, q2⟩ := H8.out
    subst hn0
    refine wp_loop_rounds 1 ?_
    rw [rounds_succ]
    obtain ⟨p0, p1, p2⟩ := F8.out
    obtain ⟨r0, r1, r2⟩ := G8.out
    have EW := E8
    have EW0 := E8
    have HZ := Lib.hid (HZ3.out.ext EP8)
    have HA := Lib.hid (h.ext EW)
    have HG := Lib.hid (hg.ext EW)
    clear EW0
    go_wp2_with fail
    go_region_held3 (fun w' => w'.cell? ⟨w.heap.size, 0, none⟩ = some (.int .i64 W) ∧ w'.cell? ⟨w.heap.size, 1, none⟩ = some (.int .i64 H) ∧ w'.cell? ⟨w.heap.size, 2, none⟩ = some (.slice a n cap) ∧ w'.cell? ⟨w3.heap.size, 0, none⟩ = some (.int .i64 W) ∧ w'.cell? ⟨w3.heap.size, 1, none⟩ = some (.int .i64 H) ∧ w'.cell? ⟨w3.heap.size, 2, none⟩ = some (.slice a3 n3 k3) ∧ Ext w8 w')
      (first | assumption | (exact ⟨p0, p1, p2, r0, r1, r2, Ext.refl _⟩) | (exact ⟨p0, p1, p2, r0, r1, r2, (Ext.refl _).drew⟩) | (go_split_ands; exact ⟨hx.cell (by assumption), hx.cell (by assumption), hx.cell (by assumption), hx.cell (by assumption), hx.cell (by assumption), hx.cell (by assumption), Ext.trans (by assumption) hx⟩))
      ((first | (go_at_call 15; obtain ⟨_, _, _, _, _, _, hE1⟩ : _ ∧ _ ∧ _ ∧ _ ∧ _ ∧ _ ∧ Ext w8 _ := (by assumption); refine (first6_any _ (HG.out.ext hE1)).mono ?_; rintro e w' ⟨rfl, hx⟩) | (go_at_call 19; obtain ⟨_, _, _, _, _, _, hE1⟩ : _ ∧ _ ∧ _ ∧ _ ∧ _ ∧ _ ∧ Ext w8 _ := (by assumption); refine (frame_same W H zs _ _ _ _ _ _ _ (HZ.out.ext hE1) (HA.out.ext hE1)).mono ?_; rintro e w' ⟨rfl, hx⟩) | (go_at_call 36; obtain ⟨_, _, _, _, _, _, hE1⟩ : _ ∧ _ ∧ _ ∧ _ ∧ _ ∧ _ ∧ Ext w8 _ := (by assumption); refine (c3.out _ _ _ _ (HZ.out.ext hE1)).mono ?_; rintro e w' ⟨ug, rfl, hx, hzg⟩) | (go_at_call 37; obtain ⟨_, _, _, _, _, _, hE1⟩ : _ ∧ _ ∧ _ ∧ _ ∧ _ ∧ _ ∧ Ext w8 _ := (by assumption); refine (c4.out _ _ _ _ (HA.out.ext hE1)).mono ?_; rintro e w' ⟨ur, rfl, hx, hzr⟩) | (go_at_call 35; obtain ⟨_, _, _, _, _, _, hE1⟩ : _ ∧ _ ∧ _ ∧ _ ∧ _ ∧ _ ∧ Ext w8 _ := (by assumption); refine (ints_same _ _ _ _ _ (hzg.ext hx) hzr).mono ?_; rintro e w' ⟨rfl, hx⟩; rw [decide_eq_true rfl])))
    obtain ⟨_, _, _, _, _, _, hE1⟩ : _ ∧ _ ∧ _ ∧ _ ∧ _ ∧ _ ∧ Ext w8 _ := by assumption
    go_wp2
    go_ret
    exact ⟨rfl, EW.trans hE1⟩
  · obtain ⟨g, cg, hv, hbg, hgs⟩ := own_addr O8.out (by omega)
    simp only [Value.slice.injEq, true_and] at hv
    obtain ⟨rfl, rfl⟩ := hv
    have hg4 : g < w4.heap.size := HL4.out g rfl
    have HRW : Hid (L.map (Value.int .i64) = (rowL n4 (fun i => L.getD i 0)).map (Value.int .i64)) := by show _ = _; rw [HN4.out, rowL_getD]
    have HO : Hid (w8.ownsRow wP.heap.size 3 1 (.slice (some ⟨g, 0, none⟩) n4 k4) n4 ((rowL n4 (fun i => L.getD i 0)).map (Value.int .i64))) := by
      have := O8.out
      rwa [HRW.out] at this
    clear O8 HL4 HRW hgs
    go_loopw [16] (fun iv wr => ∃ (k : Nat) (F : Nat → Int), k ≤ n4 ∧ iv = .int .i64 k ∧ Hid (wr.ownsRow wP.heap.size 3 1 (.slice (some ⟨g, 0, none⟩) n4 k4) n4 ((rowL n4 F).map (Value.int .i64))) ∧ Hid (∀ c, c ≠ g → wr.heap[c]? = w8.heap[c]?) ∧ Ext wP wr) (fun iv _ => n4 - (intOf iv).toNat)
    case atStart => exact ⟨0, _, Nat.zero_le _, rfl, HO, fun c _ => rfl, EP8⟩
    case round =>
      clear HO
      obtain ⟨k, F, hk, rfl, HO, HK, hE⟩ := hrel
      obtain ⟨q0, q1, q2⟩ := H8.out.same (HK.out w4.heap.size (by omega))
      by_cases hlt : k < n4
      · obtain ⟨cq, fq⟩ := own_cell HO.out hlt
        have HOW := Lib.hid (own_set (x := -1) HO.out hlt)
        have k1 : (0 : Int) ≤ (k : Int) ∧ (k : Int) < (n4 : Int) := by omega
        go_wp2
        first
          | (refine ⟨⟨k + 1, _, by omega, by go_num, HOW, ?_, Below.setCell (p := ⟨g, k, none⟩) hE hbg _⟩, by simp [intOf]; omega⟩
             intro c hc
             show (wr.setCell _ _).heap[c]? = _
             rw [← HK.out c hc]
             exact Below.heap_setCell _ _ _ _ hc)
          | (go_roundw
             case rel => exact ⟨k + 1, _, by omega, by go_num, HOW, fun c hc => by
               show (wr.setCell _ _).heap[c]? = _
               rw [← HK.out c hc]
               exact Below.heap_setCell _ _ _ _ hc, Below.setCell (p := ⟨g, k, none⟩) hE hbg _⟩
             case measure => simp [intOf]; omega)
      · have hkn : ¬ (k : Int) < (n4 : Int) := by omega
        have hE8 : Ext wP w8 := EP8
        have EPW : Ext w wP := HEP.out
        have EW := EPW.trans hE
        have EW0 := EW
        obtain ⟨p0, p1, p2⟩ := F8.out.same (HK.out w.heap.size (by omega))
        obtain ⟨r0, r1, r2⟩ := G8.out.same (HK.out w3.heap.size (by omega))
        have HZ := Lib.hid (HZ3.out.ext hE)
        clear hlt HO
        have HA := Lib.hid (h.ext EW)
        have HG := Lib.hid (hg.ext EW)
        clear EW0
        go_wp2_with fail
        go_region_held3 (fun w' => w'.cell? ⟨w.heap.size, 0, none⟩ = some (.int .i64 W) ∧ w'.cell? ⟨w.heap.size, 1, none⟩ = some (.int .i64 H) ∧ w'.cell? ⟨w.heap.size, 2, none⟩ = some (.slice a n cap) ∧ w'.cell? ⟨w3.heap.size, 0, none⟩ = some (.int .i64 W) ∧ w'.cell? ⟨w3.heap.size, 1, none⟩ = some (.int .i64 H) ∧ w'.cell? ⟨w3.heap.size, 2, none⟩ = some (.slice a3 n3 k3) ∧ Ext wr w')
          (first | assumption | (exact ⟨p0, p1, p2, r0, r1, r2, Ext.refl _⟩) | (exact ⟨p0, p1, p2, r0, r1, r2, (Ext.refl _).drew⟩) | (go_split_ands; exact ⟨hx.cell (by assumption), hx.cell (by assumption), hx.cell (by assumption), hx.cell (by assumption), hx.cell (by assumption), hx.cell (by assumption), Ext.trans (by assumption) hx⟩))
          ((first | (go_at_call 15; obtain ⟨_, _, _, _, _, _, hE1⟩ : _ ∧ _ ∧ _ ∧ _ ∧ _ ∧ _ ∧ Ext wr _ := (by assumption); refine (first6_any _ (HG.out.ext hE1)).mono ?_; rintro e w' ⟨rfl, hx⟩) | (go_at_call 19; obtain ⟨_, _, _, _, _, _, hE1⟩ : _ ∧ _ ∧ _ ∧ _ ∧ _ ∧ _ ∧ Ext wr _ := (by assumption); refine (frame_same W H zs _ _ _ _ _ _ _ (HZ.out.ext hE1) (HA.out.ext hE1)).mono ?_; rintro e w' ⟨rfl, hx⟩) | (go_at_call 36; obtain ⟨_, _, _, _, _, _, hE1⟩ : _ ∧ _ ∧ _ ∧ _ ∧ _ ∧ _ ∧ Ext wr _ := (by assumption); refine (c3.out _ _ _ _ (HZ.out.ext hE1)).mono ?_; rintro e w' ⟨ug, rfl, hx, hzg⟩) | (go_at_call 37; obtain ⟨_, _, _, _, _, _, hE1⟩ : _ ∧ _ ∧ _ ∧ _ ∧ _ ∧ _ ∧ Ext wr _ := (by assumption); refine (c4.out _ _ _ _ (HA.out.ext hE1)).mono ?_; rintro e w' ⟨ur, rfl, hx, hzr⟩) | (go_at_call 35; obtain ⟨_, _, _, _, _, _, hE1⟩ : _ ∧ _ ∧ _ ∧ _ ∧ _ ∧ _ ∧ Ext wr _ := (by assumption); refine (ints_same _ _ _ _ _ (hzg.ext hx) hzr).mono ?_; rintro e w' ⟨rfl, hx⟩; rw [decide_eq_true rfl])))
        obtain ⟨_, _, _, _, _, _, hE1⟩ : _ ∧ _ ∧ _ ∧ _ ∧ _ ∧ _ ∧ Ext wr _ := by assumption
        go_wp2
        go_ret
        exact ⟨rfl, EW.trans hE1⟩
theorem puts_law (W H x y i : Int) (zs bs : List Int) (va vb : Value) (w : World) (hg : EtIs w) (hra : Row w va zs.length (zs.map (Value.int .i64))) (hrb : Row w vb bs.length (bs.map (Value.int .i64))) :
    Calls Tryd.prog 5 #[.agg #[.int .i64 W, .int .i64 H, va], .int .i64 x, .int .i64 y, .int .i64 i, vb] w fun e w' => e = .returned (.bool true) ∧ Ext w w' := by
  by_cases h1 : 5000 < zs.length
  · obtain ⟨a, ca, rfl⟩ := hra.form
    obtain ⟨b, cb, rfl⟩ := hrb.form
    exact puts_long W H x y i a b _ _ ca cb w hg (Or.inl h1)
  · by_cases h2 : 5000 < bs.length
    · obtain ⟨a, ca, rfl⟩ := hra.form
      obtain ⟨b, cb, rfl⟩ := hrb.form
      exact puts_long W H x y i a b _ _ ca cb w hg (Or.inr ⟨h1, h2⟩)
    · have ha : Ints w va zs := ⟨hra, by omega⟩
      have hb : Ints w vb bs := ⟨hrb, by omega⟩
      obtain ⟨a, ca, rfl⟩ := ha.form
      obtain ⟨b, cb, rfl⟩ := hb.form
      exact puts_walk W H x y i _ _ zs bs _ _ _ a b _ _ ca cb w hg ha hb h1 h2 (fun a n cap w h k => put_any W H x y i zs bs a b n _ cap cb w h k) (fun w h k => rput_any W H x y i zs bs a b _ _ ca cb w h k)
        (fun a n cap w h => get_any W H x y i zs a n cap w h) (fun a n cap w h => rget_any W H x y i zs a n cap w h)
end Go.Proofs.YtkighedghgcdjaaDoor
