/- kinlaw6.PlaneBack: the walk. -/
import Derived.Test.YtkighedghgcdjaaDoorPl1
import Derived.Test.YtkighedghgcdjaaDoorPutB
import Derived.BigRegion
import Derived.Deep.RegionHeld3
import Derived.Deep.QuietTactic
import Derived.BigQuiet
namespace Go.Proofs.YtkighedghgcdjaaDoor
set_option linter.unusedVariables false
set_option linter.unusedSimpArgs false
open Go.RowKit Go.Extern.Stop Go.Stop Go.Extern

theorem OPost.fpb {w w' : World} {W H : Int} {L : List Int} {f : Fall} {e : Ending} (h : OPost w W H L f e w') : FPost w W H L f e w' := by
  obtain ⟨a, n, cap, x, h1, h2, h3, h4, h5, h6⟩ := h
  refine ⟨a, n, cap, x, h1, h2, ?_, h6⟩
  rw [h3] at h5 ⊢
  exact Ints.of_owns h5 (by omega)
set_option maxHeartbeats 2000000 in
set_option maxRecDepth 20000 in
theorem back_long (W H x y i : Int) (a b : Option Addr) (n m cap cb : Nat) (w : World) (hg : EtIs w) (hl : 5000 < n ∨ ¬ 5000 < n ∧ 5000 < m) :
    Calls Tryd.prog 6 #[.agg #[.int .i64 W, .int .i64 H, .slice a n cap], .int .i64 x, .int .i64 y, .int .i64 i, .slice b m cb] w fun e w' => e = .returned (.bool true) ∧ Ext w w' := by
  rcases hl with h1 | ⟨h1, h2⟩
  · have HB := Lib.hid (FrBox.new w W H (.slice a n cap))
    go_enter Tryd.func6, Tryd.ntmps6
    go_wp2_with fail
    refine (first6_any _ (hg.ext (by repeat (first | exact Ext.refl _ | assumption | refine Ext.alloc ?_ _ | refine Ext.drew ?_ | refine Ext.drewN ?_ _ | refine Ext.setCell ?_ (by first | exact Nat.le_refl _ | (simp; done) | omega) _ | refine Ext.trans ?_ (by assumption))))).mono ?_; rintro e w1 ⟨rfl, hx1⟩
    have F1 := Lib.hid (HB.out.ext hx1)
    obtain ⟨p0, p1, p2⟩ := F1.out
    go_wp2_with fail
    refine (few_any W H a n cap _).mono ?_; rintro e w2 ⟨rfl, hx2⟩
    have F2 := Lib.hid (F1.out.ext hx2)
    clear p0 p1 p2 F1 HB
    rw [decide_eq_false (by omega)]
    go_wp2_with fail
    refine (first6_any _ (hg.ext (by repeat (first | exact Ext.refl _ | assumption | refine Ext.alloc ?_ _ | refine Ext.drew ?_ | refine Ext.drewN ?_ _ | refine Ext.setCell ?_ (by first | exact Nat.le_refl _ | (simp; done) | omega) _ | refine Ext.trans ?_ (by assumption))))).mono ?_; rintro e w9 ⟨rfl, hx9⟩
    go_wp2
    go_ret
    exact ⟨rfl, (by repeat (first | exact Ext.refl _ | assumption | refine Ext.alloc ?_ _ | refine Ext.drew ?_ | refine Ext.drewN ?_ _ | refine Ext.setCell ?_ (by first | exact Nat.le_refl _ | (simp; done) | omega) _ | refine Ext.trans ?_ (by assumption)))⟩
  · have HB := Lib.hid (FrBox.new w W H (.slice a n cap))
    go_enter Tryd.func6, Tryd.ntmps6
    go_wp2_with fail
    refine (first6_any _ (hg.ext (by repeat (first | exact Ext.refl _ | assumption | refine Ext.alloc ?_ _ | refine Ext.drew ?_ | refine Ext.drewN ?_ _ | refine Ext.setCell ?_ (by first | exact Nat.le_refl _ | (simp; done) | omega) _ | refine Ext.trans ?_ (by assumption))))).mono ?_; rintro e w1 ⟨rfl, hx1⟩
    have F1 := Lib.hid (HB.out.ext hx1)
    obtain ⟨p0, p1, p2⟩ := F1.out
    go_wp2_with fail
    refine (few_any W H a n cap _).mono ?_; rintro e w2 ⟨rfl, hx2⟩
    have F2 := Lib.hid (F1.out.ext hx2)
    clear p0 p1 p2 F1 HB
    rw [decide_eq_true (by omega)]
    go_wp2_with fail
    refine (first6_any _ (hg.ext (by repeat (first | exact Ext.refl _ | assumption | refine Ext.alloc ?_ _ | refine Ext.drew ?_ | refine Ext.drewN ?_ _ | refine Ext.setCell ?_ (by first | exact Nat.le_refl _ | (simp; done) | omega) _ | refine Ext.trans ?_ (by assumption))))).mono ?_; rintro e w9 ⟨rfl, hx9⟩
    go_wp2
    go_ret
    exact ⟨rfl, (by repeat (first | exact Ext.refl _ | assumption | refine Ext.alloc ?_ _ | refine Ext.drew ?_ | refine Ext.drewN ?_ _ | refine Ext.setCell ?_ (by first | exact Nat.le_refl _ | (simp; done) | omega) _ | refine Ext.trans ?_ (by assumption)))⟩
set_option maxHeartbeats 2000000 in
set_option maxRecDepth 20000 in
theorem back_no (W H x y i A B : Int) (zs bs : List Int) (f : List (ByteArray × Int) × Int) (a b : Option Addr) (n m cap cb : Nat) (w : World) (hg : EtIs w) (h : Ints w (.slice a n cap) zs) (hb : Ints w (.slice b m cb) bs) (h1 : ¬ 5000 < n) (h2 : ¬ 5000 < m)
    (c1 : Hid (∀ w, Ints w (.slice a n cap) zs → Ints w (.slice b m cb) bs → Calls Tryd.prog 33 #[.agg #[.int .i64 W, .int .i64 H, .slice a n cap], .int .i64 x, .int .i64 y, .int .i64 i, .slice b m cb] w (FPost w A B [] (some f)))) :
    Calls Tryd.prog 6 #[.agg #[.int .i64 W, .int .i64 H, .slice a n cap], .int .i64 x, .int .i64 y, .int .i64 i, .slice b m cb] w fun e w' => e = .returned (.bool true) ∧ Ext w w' := by
  have HB := Lib.hid (FrBox.new w W H (.slice a n cap))
  go_enter Tryd.func6, Tryd.ntmps6
  go_wp2_with fail
  refine (first6_any _ (hg.ext (by repeat (first | exact Ext.refl _ | assumption | refine Ext.alloc ?_ _ | refine Ext.drew ?_ | refine Ext.drewN ?_ _ | refine Ext.setCell ?_ (by first | exact Nat.le_refl _ | (simp; done) | omega) _ | refine Ext.trans ?_ (by assumption))))).mono ?_; rintro e w1 ⟨rfl, hx1⟩
  have F1 := Lib.hid (HB.out.ext hx1)
  obtain ⟨p0, p1, p2⟩ := F1.out
  go_wp2_with fail
  refine (few_any W H a n cap _).mono ?_; rintro e w2 ⟨rfl, hx2⟩
  have F2 := Lib.hid (F1.out.ext hx2)
  clear p0 p1 p2 F1 HB
  rw [decide_eq_true (by omega)]
  obtain ⟨p0, p1, p2⟩ := F2.out
  go_wp2_with fail
  refine (c1.out _ (h.ext (by repeat (first | exact Ext.refl _ | assumption | refine Ext.alloc ?_ _ | refine Ext.drew ?_ | refine Ext.drewN ?_ _ | refine Ext.setCell ?_ (by first | exact Nat.le_refl _ | (simp; done) | omega) _ | refine Ext.trans ?_ (by assumption)))) (hb.ext (by repeat (first | exact Ext.refl _ | assumption | refine Ext.alloc ?_ _ | refine Ext.drew ?_ | refine Ext.drewN ?_ _ | refine Ext.setCell ?_ (by first | exact Nat.le_refl _ | (simp; done) | omega) _ | refine Ext.trans ?_ (by assumption))))).mono ?_; rintro e w3 ⟨a3, n3, k3, x3, rfl, hx3, hz3, he3⟩
  have hn3 : n3 = 0 := hz3.len
  subst hn3
  obtain ⟨t3, y3, rfl⟩ := he3.ne
  have G3 := Lib.hid (FrBox.new w3 A B (.slice a3 0 k3))
  clear p0 p1 p2
  go_wp2_with fail
  refine (first6_any _ (hg.ext (by repeat (first | exact Ext.refl _ | assumption | refine Ext.alloc ?_ _ | refine Ext.drew ?_ | refine Ext.drewN ?_ _ | refine Ext.setCell ?_ (by first | exact Nat.le_refl _ | (simp; done) | omega) _ | refine Ext.trans ?_ (by assumption))))).mono ?_; rintro e w9 ⟨rfl, hx9⟩
  obtain ⟨p0, p1, p2⟩ := G3.out.ext hx9
  go_wp2
  go_ret
  exact ⟨rfl, (by repeat (first | exact Ext.refl _ | assumption | refine Ext.alloc ?_ _ | refine Ext.drew ?_ | refine Ext.drewN ?_ _ | refine Ext.setCell ?_ (by first | exact Nat.le_refl _ | (simp; done) | omega) _ | refine Ext.trans ?_ (by assumption)))⟩
set_option maxHeartbeats 8000000 in
set_option maxRecDepth 20000 in
theorem back_ok (W H x y i : Int) (zs bs L : List Int) (a b : Option Addr) (n m cap cb : Nat) (w : World) (hg : EtIs w) (h : Ints w (.slice a n cap) zs) (hb : Ints w (.slice b m cb) bs) (h1 : ¬ 5000 < n) (h2 : ¬ 5000 < m)
    (bW : 8 ≤ W ∧ W ≤ 32) (bH : 8 ≤ H ∧ H ≤ 32) (l1 : 1 ≤ i ∧ i ≤ 8) (l2 : 0 ≤ x ∧ x ≤ W - i) (l3 : 0 ≤ y ∧ y ≤ H - i)
    (c1 : Hid (∀ w, Ints w (.slice a n cap) zs → Ints w (.slice b m cb) bs → Calls Tryd.prog 33 #[.agg #[.int .i64 W, .int .i64 H, .slice a n cap], .int .i64 x, .int .i64 y, .int .i64 i, .slice b m cb] w (FPost w W H L none)))
    (c2 : Hid (∀ a n cap w, Ints w (.slice a n cap) L → Calls Tryd.prog 21 #[.agg #[.int .i64 W, .int .i64 H, .slice a n cap]] w fun e w' => e = .returned (.bool true) ∧ Ext w w'))
    (c3 : Hid (∀ a n cap w, Ints w (.slice a n cap) L → Calls Tryd.prog 36 #[.agg #[.int .i64 W, .int .i64 H, .slice a n cap], .int .i64 x, .int .i64 y, .int .i64 i] w fun e w' => ∃ u, e = .returned u ∧ Ext w w' ∧ Ints w' u bs))
    (c4 : Hid (∀ p q : Nat, (p : Int) < W → (q : Int) < H → ((p : Int) < x ∨ x + i ≤ p ∨ (q : Int) < y ∨ y + i ≤ q) → atA W H L p q = atA W H zs p q)) :
    Calls Tryd.prog 6 #[.agg #[.int .i64 W, .int .i64 H, .slice a n cap], .int .i64 x, .int .i64 y, .int .i64 i, .slice b m cb] w fun e w' => e = .returned (.bool true) ∧ Ext w w' := by
  have e1 : IntKind.i64.wrap (x + i) = x + i := by rw [IntKind.wrap_i64]; omega
  have e2 : IntKind.i64.wrap (y + i) = y + i := by rw [IntKind.wrap_i64]; omega
  have HB := Lib.hid (FrBox.new w W H (.slice a n cap))
  go_enter Tryd.func6, Tryd.ntmps6
  go_wp2_with fail
  refine (first6_any _ (hg.ext (by repeat (first | exact Ext.refl _ | assumption | refine Ext.alloc ?_ _ | refine Ext.drew ?_ | refine Ext.drewN ?_ _ | refine Ext.setCell ?_ (by first | exact Nat.le_refl _ | (simp; done) | omega) _ | refine Ext.trans ?_ (by assumption))))).mono ?_; rintro e w1 ⟨rfl, hx1⟩
  have F1 := Lib.hid (HB.out.ext hx1)
  obtain ⟨p0, p1, p2⟩ := F1.out
  go_wp2_with fail
  refine (few_any W H a n cap _).mono ?_; rintro e w2 ⟨rfl, hx2⟩
  have F2 := Lib.hid (F1.out.ext hx2)
  clear p0 p1 p2 F1 HB
  rw [decide_eq_true (by omega)]
  obtain ⟨p0, p1, p2⟩ := F2.out
  go_wp2_with fail
  refine (c1.out _ (h.ext (by repeat (first | exact Ext.refl _ | assumption | refine Ext.alloc ?_ _ | refine Ext.drew ?_ | refine Ext.drewN ?_ _ | refine Ext.setCell ?_ (by first | exact Nat.le_refl _ | (simp; done) | omega) _ | refine Ext.trans ?_ (by assumption)))) (hb.ext (by repeat (first | exact Ext.refl _ | assumption | refine Ext.alloc ?_ _ | refine Ext.drew ?_ | refine Ext.drewN ?_ _ | refine Ext.setCell ?_ (by first | exact Nat.le_refl _ | (simp; done) | omega) _ | refine Ext.trans ?_ (by assumption))))).mono ?_; rintro e w3 ⟨a3, n3, k3, x3, rfl, hx3, hz3, he3⟩
  obtain rfl : x3 = .nilIface := he3
  have A3 : Ext w3 (w3.alloc (.cells #[.int .i64 W, .int .i64 H, .slice a3 n3 k3] 24)) := (Ext.refl w3).alloc _
  have F3 := Lib.hid ((F2.out.ext hx3).ext A3)
  have G3 := Lib.hid (FrBox.new w3 W H (.slice a3 n3 k3))
  have HZ3 := Lib.hid (hz3.ext A3)
  have E3 : Ext w (w3.alloc (.cells #[.int .i64 W, .int .i64 H, .slice a3 n3 k3] 24)) := (by repeat (first | exact Ext.refl _ | assumption | refine Ext.alloc ?_ _ | refine Ext.drew ?_ | refine Ext.drewN ?_ _ | refine Ext.setCell ?_ (by first | exact Nat.le_refl _ | (simp; done) | omega) _ | refine Ext.trans ?_ (by assumption)))
  clear p0 p1 p2 F2 A3 hx1 hx2 hx3 hz3 c1
  obtain ⟨q0, q1, q2⟩ := G3.out
  go_wp2_with fail
  clear q0 q1 q2
  revert F3 G3 HZ3 E3
  generalize w3.alloc (.cells #[.int .i64 W, .int .i64 H, .slice a3 n3 k3] 24) = wB
  intro F3 G3 HZ3 E3
  refine (c2.out _ _ _ _ HZ3.out).mono ?_; rintro e w4 ⟨rfl, hx4⟩
  obtain ⟨q0, q1, q2⟩ := G3.out.ext hx4
  go_wp2_with fail
  refine (c3.out _ _ _ _ (HZ3.out.ext hx4)).mono ?_; rintro e w5 ⟨u5, rfl, hx5, hz5⟩
  go_wp2_with fail
  refine (ints_same _ _ _ _ _ hz5 (hb.ext (E3.trans (hx4.trans hx5)))).mono ?_; rintro e w6 ⟨rfl, hx6⟩
  rw [decide_eq_true rfl]
  have EB : Ext wB w6 := hx4.trans (hx5.trans hx6)
  have F5 := Lib.hid (F3.out.ext EB)
  have G5 := Lib.hid (G3.out.ext EB)
  clear F3 G3 hx4 hx5 hx6 q0 q1 q2 hz5 c2 c3
  go_wp2_with fail
  go_loopw [13] (fun jv wr => ∃ q : Nat, (q : Int) ≤ H ∧ jv = .int .i64 q ∧ Ext w6 wr) (fun jv _ => H.toNat - (intOf jv).toNat)
  case atStart => exact ⟨0, by omega, rfl, Ext.refl _⟩
  case round =>
    obtain ⟨q, hq, rfl, hE⟩ := hrel
    obtain ⟨p0, p1, p2⟩ := F5.out.ext hE
    by_cases hqt : (q : Int) < H
    · go_wp2_with fail
      go_loopw [14] (fun iv wr => ∃ p : Nat, (p : Int) ≤ W ∧ iv = .int .i64 p ∧ Ext w6 wr) (fun iv _ => W.toNat - (intOf iv).toNat)
      case atStart => exact ⟨0, by omega, rfl, hE⟩
      case round =>
        clear hE p0 p1 p2
        obtain ⟨p, hp, rfl, hE⟩ := hrel
        by_cases hpt : (p : Int) < W
        · by_cases j1 : (p : Int) < x
          · have HV := c4.out p q (by omega) (by omega) (by omega)
            have B1 : ∀ w', Ints w' (.slice a3 n3 k3) L → Calls Tryd.prog 29 #[.agg #[.int .i64 W, .int .i64 H, .slice a3 n3 k3], .int .i64 (p : Int), .int .i64 (q : Int)] w' fun e w'' => e = .returned (.int .i64 (atA W H zs p q)) ∧ Ext w' w'' := fun w' k => by
              rw [← HV]
              exact At_any W H p q L a3 n3 k3 w' k
            have B2 := fun w' k => At_any W H p q zs a n cap w' k
            clear HV
            revert B1 B2
            generalize atA W H zs (p : Int) (q : Int) = V
            intro B1 B2
            obtain ⟨p0, p1, p2⟩ := F5.out.ext hE
            obtain ⟨q0, q1, q2⟩ := G5.out.ext hE
            go_wp2_with fail
            go_region_held3 (fun w' => w'.cell? ⟨w.heap.size, 0, none⟩ = some (.int .i64 W) ∧ w'.cell? ⟨w.heap.size, 1, none⟩ = some (.int .i64 H) ∧ w'.cell? ⟨w.heap.size, 2, none⟩ = some (.slice a n cap) ∧ w'.cell? ⟨w3.heap.size, 0, none⟩ = some (.int .i64 W) ∧ w'.cell? ⟨w3.heap.size, 1, none⟩ = some (.int .i64 H) ∧ w'.cell? ⟨w3.heap.size, 2, none⟩ = some (.slice a3 n3 k3) ∧ Ext wr w')
              (first | assumption | (exact ⟨p0, p1, p2, q0, q1, q2, Ext.refl _⟩) | (exact ⟨p0, p1, p2, q0, q1, q2, (Ext.refl _).drew⟩) | (go_split_ands; exact ⟨hx.cell (by assumption), hx.cell (by assumption), hx.cell (by assumption), hx.cell (by assumption), hx.cell (by assumption), hx.cell (by assumption), Ext.trans (by assumption) hx⟩))
              ((first | (go_at_call 29; obtain ⟨_, _, _, _, _, _, hE1⟩ : _ ∧ _ ∧ _ ∧ _ ∧ _ ∧ _ ∧ Ext wr _ := (by assumption); (first | with_reducible refine (B1 _ (HZ3.out.ext (EB.trans (hE.trans hE1)))).mono ?_ | refine (B2 _ (h.ext (E3.trans (EB.trans (hE.trans hE1))))).mono ?_); rintro e w' ⟨rfl, hx⟩)))
            obtain ⟨_, _, _, _, _, _, hE1⟩ : _ ∧ _ ∧ _ ∧ _ ∧ _ ∧ _ ∧ Ext wr _ := by assumption
            have hE9 := hE.trans hE1
            clear hE1 p0 p1 p2 q0 q1 q2
            go_wp2
            go_roundw
            case rel => first
              | exact ⟨p + 1, by omega, by go_num, hE9⟩
              | ((repeat apply Exists.intro); exact ⟨⟨p + 1, by omega, by go_num, hE9⟩, rfl⟩)
            case measure => simp [intOf]; omega
          · by_cases j2 : x + i ≤ (p : Int)
            · have HV := c4.out p q (by omega) (by omega) (by omega)
              have B1 : ∀ w', Ints w' (.slice a3 n3 k3) L → Calls Tryd.prog 29 #[.agg #[.int .i64 W, .int .i64 H, .slice a3 n3 k3], .int .i64 (p : Int), .int .i64 (q : Int)] w' fun e w'' => e = .returned (.int .i64 (atA W H zs p q)) ∧ Ext w' w'' := fun w' k => by
                rw [← HV]
                exact At_any W H p q L a3 n3 k3 w' k
              have B2 := fun w' k => At_any W H p q zs a n cap w' k
              clear HV
              revert B1 B2
              generalize atA W H zs (p : Int) (q : Int) = V
              intro B1 B2
              obtain ⟨p0, p1, p2⟩ := F5.out.ext hE
              obtain ⟨q0, q1, q2⟩ := G5.out.ext hE
              go_wp2_with fail
              go_region_held3 (fun w' => w'.cell? ⟨w.heap.size, 0, none⟩ = some (.int .i64 W) ∧ w'.cell? ⟨w.heap.size, 1, none⟩ = some (.int .i64 H) ∧ w'.cell? ⟨w.heap.size, 2, none⟩ = some (.slice a n cap) ∧ w'.cell? ⟨w3.heap.size, 0, none⟩ = some (.int .i64 W) ∧ w'.cell? ⟨w3.heap.size, 1, none⟩ = some (.int .i64 H) ∧ w'.cell? ⟨w3.heap.size, 2, none⟩ = some (.slice a3 n3 k3) ∧ Ext wr w')
                (first | assumption | (exact ⟨p0, p1, p2, q0, q1, q2, Ext.refl _⟩) | (exact ⟨p0, p1, p2, q0, q1, q2, (Ext.refl _).drew⟩) | (go_split_ands; exact ⟨hx.cell (by assumption), hx.cell (by assumption), hx.cell (by assumption), hx.cell (by assumption), hx.cell (by assumption), hx.cell (by assumption), Ext.trans (by assumption) hx⟩))
                ((first | (go_at_call 29; obtain ⟨_, _, _, _, _, _, hE1⟩ : _ ∧ _ ∧ _ ∧ _ ∧ _ ∧ _ ∧ Ext wr _ := (by assumption); (first | with_reducible refine (B1 _ (HZ3.out.ext (EB.trans (hE.trans hE1)))).mono ?_ | refine (B2 _ (h.ext (E3.trans (EB.trans (hE.trans hE1))))).mono ?_); rintro e w' ⟨rfl, hx⟩)))
              obtain ⟨_, _, _, _, _, _, hE1⟩ : _ ∧ _ ∧ _ ∧ _ ∧ _ ∧ _ ∧ Ext wr _ := by assumption
              have hE9 := hE.trans hE1
              clear hE1 p0 p1 p2 q0 q1 q2
              go_wp2
              go_roundw
              case rel => first
                | exact ⟨p + 1, by omega, by go_num, hE9⟩
                | ((repeat apply Exists.intro); exact ⟨⟨p + 1, by omega, by go_num, hE9⟩, rfl⟩)
              case measure => simp [intOf]; omega
            · by_cases j3 : (q : Int) < y
              · have HV := c4.out p q (by omega) (by omega) (by omega)
                have B1 : ∀ w', Ints w' (.slice a3 n3 k3) L → Calls Tryd.prog 29 #[.agg #[.int .i64 W, .int .i64 H, .slice a3 n3 k3], .int .i64 (p : Int), .int .i64 (q : Int)] w' fun e w'' => e = .returned (.int .i64 (atA W H zs p q)) ∧ Ext w' w'' := fun w' k => by
                  rw [← HV]
                  exact At_any W H p q L a3 n3 k3 w' k
                have B2 := fun w' k => At_any W H p q zs a n cap w' k
                clear HV
                revert B1 B2
                generalize atA W H zs (p : Int) (q : Int) = V
                intro B1 B2
                obtain ⟨p0, p1, p2⟩ := F5.out.ext hE
                obtain ⟨q0, q1, q2⟩ := G5.out.ext hE
                go_wp2_with fail
                go_region_held3 (fun w' => w'.cell? ⟨w.heap.size, 0, none⟩ = some (.int .i64 W) ∧ w'.cell? ⟨w.heap.size, 1, none⟩ = some (.int .i64 H) ∧ w'.cell? ⟨w.heap.size, 2, none⟩ = some (.slice a n cap) ∧ w'.cell? ⟨w3.heap.size, 0, none⟩ = some (.int .i64 W) ∧ w'.cell? ⟨w3.heap.size, 1, none⟩ = some (.int .i64 H) ∧ w'.cell? ⟨w3.heap.size, 2, none⟩ = some (.slice a3 n3 k3) ∧ Ext wr w')
                  (first | assumption | (exact ⟨p0, p1, p2, q0, q1, q2, Ext.refl _⟩) | (exact ⟨p0, p1, p2, q0, q1, q2, (Ext.refl _).drew⟩) | (go_split_ands; exact ⟨hx.cell (by assumption), hx.cell (by assumption), hx.cell (by assumption), hx.cell (by assumption), hx.cell (by assumption), hx.cell (by assumption), Ext.trans (by assumption) hx⟩))
                  ((first | (go_at_call 29; obtain ⟨_, _, _, _, _, _, hE1⟩ : _ ∧ _ ∧ _ ∧ _ ∧ _ ∧ _ ∧ Ext wr _ := (by assumption); (first | with_reducible refine (B1 _ (HZ3.out.ext (EB.trans (hE.trans hE1)))).mono ?_ | refine (B2 _ (h.ext (E3.trans (EB.trans (hE.trans hE1))))).mono ?_); rintro e w' ⟨rfl, hx⟩)))
                obtain ⟨_, _, _, _, _, _, hE1⟩ : _ ∧ _ ∧ _ ∧ _ ∧ _ ∧ _ ∧ Ext wr _ := by assumption
                have hE9 := hE.trans hE1
                clear hE1 p0 p1 p2 q0 q1 q2
                go_wp2
                go_roundw
                case rel => first
                  | exact ⟨p + 1, by omega, by go_num, hE9⟩
                  | ((repeat apply Exists.intro); exact ⟨⟨p + 1, by omega, by go_num, hE9⟩, rfl⟩)
                case measure => simp [intOf]; omega
              · by_cases j4 : y + i ≤ (q : Int)
                · have t1 : decide ((q : Int) < y + i) = false := decide_eq_false (by omega)
                  have HV := c4.out p q (by omega) (by omega) (by omega)
                  have B1 : ∀ w', Ints w' (.slice a3 n3 k3) L → Calls Tryd.prog 29 #[.agg #[.int .i64 W, .int .i64 H, .slice a3 n3 k3], .int .i64 (p : Int), .int .i64 (q : Int)] w' fun e w'' => e = .returned (.int .i64 (atA W H zs p q)) ∧ Ext w' w'' := fun w' k => by
                    rw [← HV]
                    exact At_any W H p q L a3 n3 k3 w' k
                  have B2 := fun w' k => At_any W H p q zs a n cap w' k
                  clear HV
                  revert B1 B2
                  generalize atA W H zs (p : Int) (q : Int) = V
                  intro B1 B2
                  obtain ⟨p0, p1, p2⟩ := F5.out.ext hE
                  obtain ⟨q0, q1, q2⟩ := G5.out.ext hE
                  go_wp2_with fail
                  go_region_held3 (fun w' => w'.cell? ⟨w.heap.size, 0, none⟩ = some (.int .i64 W) ∧ w'.cell? ⟨w.heap.size, 1, none⟩ = some (.int .i64 H) ∧ w'.cell? ⟨w.heap.size, 2, none⟩ = some (.slice a n cap) ∧ w'.cell? ⟨w3.heap.size, 0, none⟩ = some (.int .i64 W) ∧ w'.cell? ⟨w3.heap.size, 1, none⟩ = some (.int .i64 H) ∧ w'.cell? ⟨w3.heap.size, 2, none⟩ = some (.slice a3 n3 k3) ∧ Ext wr w')
                    (first | assumption | (exact ⟨p0, p1, p2, q0, q1, q2, Ext.refl _⟩) | (exact ⟨p0, p1, p2, q0, q1, q2, (Ext.refl _).drew⟩) | (go_split_ands; exact ⟨hx.cell (by assumption), hx.cell (by assumption), hx.cell (by assumption), hx.cell (by assumption), hx.cell (by assumption), hx.cell (by assumption), Ext.trans (by assumption) hx⟩))
                    ((first | (go_at_call 29; obtain ⟨_, _, _, _, _, _, hE1⟩ : _ ∧ _ ∧ _ ∧ _ ∧ _ ∧ _ ∧ Ext wr _ := (by assumption); (first | with_reducible refine (B1 _ (HZ3.out.ext (EB.trans (hE.trans hE1)))).mono ?_ | refine (B2 _ (h.ext (E3.trans (EB.trans (hE.trans hE1))))).mono ?_); rintro e w' ⟨rfl, hx⟩)))
                  obtain ⟨_, _, _, _, _, _, hE1⟩ : _ ∧ _ ∧ _ ∧ _ ∧ _ ∧ _ ∧ Ext wr _ := by assumption
                  have hE9 := hE.trans hE1
                  clear hE1 p0 p1 p2 q0 q1 q2
                  go_wp2
                  go_roundw
                  case rel => first
                    | exact ⟨p + 1, by omega, by go_num, hE9⟩
                    | ((repeat apply Exists.intro); exact ⟨⟨p + 1, by omega, by go_num, hE9⟩, rfl⟩)
                  case measure => simp [intOf]; omega
                · obtain ⟨p0, p1, p2⟩ := F5.out.ext hE
                  have t1 : decide ((q : Int) < y + i) = true := decide_eq_true (by omega)
                  go_wp2
                  first
                    | (go_quiet (fail)
                       go_wp2
                       go_roundw)
                    | (go_region_held (fun w' => Ext wr w' ∧ Ext wr w') (first | assumption | (exact ⟨Ext.refl _, Ext.refl _⟩) | (exact ⟨(Ext.refl _).drew, (Ext.refl _).drew⟩)) (fail)
                       go_wp2
                       go_roundw)
                  case rel => first
                    | exact ⟨p + 1, by omega, by go_num, hE⟩
                    | exact ⟨p + 1, by omega, by go_num, hE.drewN _⟩
                    | ((repeat apply Exists.intro); exact ⟨⟨p + 1, by omega, by go_num, hE⟩, rfl⟩)
                    | ((repeat apply Exists.intro); exact ⟨⟨p + 1, by omega, by go_num, hE.drewN _⟩, rfl⟩)
                  case measure => simp [intOf]; omega
        · obtain ⟨p0, p1, p2⟩ := F5.out.ext hE
          go_wp2
          go_roundw
          case rel => first
            | exact ⟨q + 1, by omega, by go_num, hE⟩
            | ((repeat apply Exists.intro); exact ⟨⟨q + 1, by omega, by go_num, hE⟩, rfl⟩)
          case measure => simp [intOf]; omega
    · go_wp2_with fail
      refine (first6_any _ (hg.ext (E3.trans (EB.trans hE)))).mono ?_; rintro e w9 ⟨rfl, hx9⟩
      go_wp2
      go_ret
      exact ⟨rfl, E3.trans (EB.trans (hE.trans hx9))⟩
end Go.Proofs.YtkighedghgcdjaaDoor
