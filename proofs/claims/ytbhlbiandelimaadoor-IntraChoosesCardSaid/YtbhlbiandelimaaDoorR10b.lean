/- kinref10.Best: its contract over this seat's translation. -/
import Derived.Test.YtbhlbiandelimaaDoorR10
import Derived.Test.YtbhlbiandelimaaDoorR7s
import Derived.Test.YtbhlbiandelimaaDoorIBest
namespace Go.Proofs.YtbhlbiandelimaaDoor
set_option linter.unusedVariables false
set_option linter.unusedSimpArgs false
open Go.RowKit Go.Extern.Stop Go.Stop Go.Extern

/-- two ints and the document's error -/
def RI2Post (w : World) (n m : Int) (f : Fall) (e : Ending) (w' : World) : Prop := ∃ c a l k, e = .returned (.tuple #[.int .i64 n, .int .i64 m, .agg #[.int .i64 c, .slice a l k]]) ∧ Ext w w' ∧ RErrIs w' f c (.slice a l k)
theorem RErrIs.flat {w w' : World} {C c : Int} {v : Value} (h : RErrIs w (some ([], C)) c v) : RErrIs w' (some ([], C)) c v :=
  ⟨h.1, h.2.1, by
    obtain ⟨a, cap, e, h1, h2, h3, h4⟩ := h.2.2
    exact ⟨a, cap, e, h1, h2, h3, fun _ _ _ j u hj => by simp [stepCells] at hj⟩⟩
theorem chk_code {ts ls : List Int} {c : Int} {f : List (ByteArray × Int) × Int} (h : chkAns ts ls c = some f) : ∃ C, f = ([], C) := by
  unfold chkAns at h
  split at h
  · split at h
    · cases h; exact ⟨_, rfl⟩
    · cases h
  · cases h; exact ⟨_, rfl⟩
set_option maxHeartbeats 8000000 in
set_option maxRecDepth 20000 in
theorem rbest_some (bs ts ls : List Int) (c C : Int) (a0 a b : Option Addr) (n m l c0 ca cb : Nat) (w : World) (ha : Ints w (.slice a m ca) ts) (hb : Ints w (.slice b l cb) ls)
    (PR : Hid (∀ v u W, Ints W v ts → Ints W u ls → Calls Tryd.prog 23 #[.int .i64 0, v, u, .int .i64 c] W (RZPost W [] (some ([], C))))) :
    Calls Tryd.prog 26 #[.slice a0 n c0, .slice a m ca, .slice b l cb, .int .i64 c] w (RI2Post w 0 0 (some ([], C))) := by
  go_enter Tryd.func26, Tryd.ntmps26
  go_wp2_with fail
  refine (PR.out _ _ _ (ha.ext (by repeat (first | exact Ext.refl _ | assumption | refine Ext.alloc ?_ _ | refine Ext.drew ?_ | refine Ext.drewN ?_ _ | refine Ext.setCell ?_ (by first | exact Nat.le_refl _ | (simp; done) | omega) _ | refine Ext.trans ?_ (by assumption)))) (hb.ext (by repeat (first | exact Ext.refl _ | assumption | refine Ext.alloc ?_ _ | refine Ext.drew ?_ | refine Ext.drewN ?_ _ | refine Ext.setCell ?_ (by first | exact Nat.le_refl _ | (simp; done) | omega) _ | refine Ext.trans ?_ (by assumption))))).mono ?_; rintro e w1 ⟨u1, c1, e1, n1, k1, rfl, hx1, hz1, he1⟩
  clear hz1
  have E1 : Ext w (w1.alloc (.cells #[.int .i64 c1, .slice e1 n1 k1] 40)) := (by repeat (first | exact Ext.refl _ | assumption | refine Ext.alloc ?_ _ | refine Ext.drew ?_ | refine Ext.drewN ?_ _ | refine Ext.setCell ?_ (by first | exact Nat.le_refl _ | (simp; done) | omega) _ | refine Ext.trans ?_ (by assumption)))
  have RV := (ResAt.new w).ext (hx1.alloc (.cells #[.int .i64 c1, .slice e1 n1 k1] 40))
  have EE := he1.ext ((Ext.refl w1).alloc (.cells #[.int .i64 c1, .slice e1 n1 k1] 40))
  obtain ⟨p0, p1⟩ := evar w1 c1 e1 n1 k1 (Ext.refl _)
  go_wp2_with fail
  obtain ⟨B, hB⟩ : ∃ B, B = w1.heap.size := ⟨_, rfl⟩
  rw [← hB] at p0 p1 ⊢
  clear hB he1
  revert E1 RV EE p0 p1
  generalize w1.alloc (.cells #[.int .i64 c1, .slice e1 n1 k1] 40) = wS
  intro E1 RV EE p0 p1
  clear hx1
  have hc0 : (c1 == 0) = false := by
    obtain ⟨h1, h2, -⟩ := EE
    have : c1 ≠ 0 := by rw [h1]; exact h2
    simpa using this
  have HE := Lib.hid EE
  clear EE
  go_wp2_with fail
  refine (ok_any c1 _ _).mono ?_; rintro e wA ⟨rfl, hxA⟩
  rw [hc0]
  obtain ⟨r0, r1, f0, f1⟩ := RV.ext hxA
  have q0 := hxA.cell p0
  have q1 := hxA.cell p1
  have EA : Ext w wA := E1.trans hxA
  have HF := Lib.hid (HE.out.ext hxA)
  clear RV p0 p1 E1 hxA HE
  go_wp2
  go_region
  go_wp2
  obtain ⟨g0, g1⟩ := res_cells (c := c1) r0 r1 (.slice e1 n1 k1)
  exact bodyPost_ret (v := .tuple #[.int .i64 0, .int .i64 0, .agg #[.int .i64 c1, .slice e1 n1 k1]]) (by simp [results, Tryd.results26, go_sem, g0, g1]) rfl ⟨_, _, _, _, rfl, (by repeat (first | exact Ext.refl _ | assumption | refine Ext.alloc ?_ _ | refine Ext.drew ?_ | refine Ext.drewN ?_ _ | refine Ext.setCell ?_ (by first | exact Nat.le_refl _ | (simp; done) | omega) _ | refine Ext.trans ?_ (by assumption))), HF.out.flat⟩
set_option maxHeartbeats 8000000 in
set_option maxRecDepth 20000 in
theorem rbest_fit (bs ts ls A : List Int) (c : Int) (a0 a b : Option Addr) (n m l c0 ca cb : Nat) (w : World) (ha : Ints w (.slice a m ca) ts) (hb : Ints w (.slice b l cb) ls) (hbd : 0 ≤ (m : Int) * (m : Int) ∧ (m : Int) * (m : Int) ≤ 64) (hlI : ((n : Int) != (m : Int) * (m : Int)) = true)
    (PR : Hid (∀ v u W, Ints W v ts → Ints W u ls → Calls Tryd.prog 23 #[.int .i64 0, v, u, .int .i64 c] W (RZPost W A none))) :
    Calls Tryd.prog 26 #[.slice a0 n c0, .slice a m ca, .slice b l cb, .int .i64 c] w (RI2Post w 0 0 fit) := by
  go_enter Tryd.func26, Tryd.ntmps26
  go_wp2_with fail
  refine (PR.out _ _ _ (ha.ext (by repeat (first | exact Ext.refl _ | assumption | refine Ext.alloc ?_ _ | refine Ext.drew ?_ | refine Ext.drewN ?_ _ | refine Ext.setCell ?_ (by first | exact Nat.le_refl _ | (simp; done) | omega) _ | refine Ext.trans ?_ (by assumption)))) (hb.ext (by repeat (first | exact Ext.refl _ | assumption | refine Ext.alloc ?_ _ | refine Ext.drew ?_ | refine Ext.drewN ?_ _ | refine Ext.setCell ?_ (by first | exact Nat.le_refl _ | (simp; done) | omega) _ | refine Ext.trans ?_ (by assumption))))).mono ?_; rintro e w1 ⟨u1, c1, e1, n1, k1, rfl, hx1, hz1, he1⟩
  clear hz1
  have he0 := he1
  obtain ⟨rfl, hv⟩ := he0
  simp only [Value.slice.injEq] at hv
  obtain ⟨rfl, rfl, rfl⟩ := hv
  have E1 : Ext w (w1.alloc (.cells #[.int .i64 0, .slice none 0 0] 40)) := (by repeat (first | exact Ext.refl _ | assumption | refine Ext.alloc ?_ _ | refine Ext.drew ?_ | refine Ext.drewN ?_ _ | refine Ext.setCell ?_ (by first | exact Nat.le_refl _ | (simp; done) | omega) _ | refine Ext.trans ?_ (by assumption)))
  have RV := (ResAt.new w).ext (hx1.alloc (.cells #[.int .i64 0, .slice none 0 0] 40))
  have EE := he1.ext ((Ext.refl w1).alloc (.cells #[.int .i64 0, .slice none 0 0] 40))
  obtain ⟨p0, p1⟩ := evar w1 0 none 0 0 (Ext.refl _)
  go_wp2_with fail
  obtain ⟨B, hB⟩ : ∃ B, B = w1.heap.size := ⟨_, rfl⟩
  rw [← hB] at p0 p1 ⊢
  clear hB he1
  revert E1 RV EE p0 p1
  generalize w1.alloc (.cells #[.int .i64 0, .slice none 0 0] 40) = wS
  intro E1 RV EE p0 p1
  clear hx1
  clear EE
  go_wp2_with fail
  refine (ok_any 0 _ _).mono ?_; rintro e wA ⟨rfl, hxA⟩
  rw [show ((0 : Int) == 0) = true from rfl]
  have EA : Ext w wA := E1.trans hxA
  have RA := Lib.hid (RV.ext hxA)
  have P0 := hxA.cell p0
  have P1 := hxA.cell p1
  clear E1 RV p0 p1 hxA
  go_wp2_with fail
  refine (fail_any 14 _).mono ?_; rintro e w9 ⟨rfl, hx9⟩
  obtain ⟨r0, r1, f0, f1⟩ := RA.out.ext (show Ext wA w9 from (by repeat (first | exact Ext.refl _ | assumption | refine Ext.alloc ?_ _ | refine Ext.drew ?_ | refine Ext.drewN ?_ _ | refine Ext.setCell ?_ (by first | exact Nat.le_refl _ | (simp; done) | omega) _ | refine Ext.trans ?_ (by assumption))))
  have EW : Ext w w9 := (by repeat (first | exact Ext.refl _ | assumption | refine Ext.alloc ?_ _ | refine Ext.drew ?_ | refine Ext.drewN ?_ _ | refine Ext.setCell ?_ (by first | exact Nat.le_refl _ | (simp; done) | omega) _ | refine Ext.trans ?_ (by assumption)))
  clear RA P0 P1
  go_wp2
  obtain ⟨e0, e1⟩ := res_cells (c := 14) r0 r1 (.slice none 0 0)
  exact bodyPost_ret (v := .tuple #[.int .i64 0, .int .i64 0, .agg #[.int .i64 14, .slice none 0 0]]) (by simp [results, Tryd.results26, go_sem, e0, e1]) rfl ⟨_, _, _, _, rfl, (EW.setCell (by simp) _).setCell (by simp) _, RErrIs.code (by decide)⟩
set_option maxHeartbeats 8000000 in
set_option maxRecDepth 20000 in
theorem rbest_range (bs ts ls A : List Int) (c : Int) (a0 a b : Option Addr) (n m l c0 ca cb : Nat) (w : World) (h0 : Ints w (.slice a0 n c0) bs) (ha : Ints w (.slice a m ca) ts) (hb : Ints w (.slice b l cb) ls) (hbd : 0 ≤ (m : Int) * (m : Int) ∧ (m : Int) * (m : Int) ≤ 64) (hlI : ((n : Int) != (m : Int) * (m : Int)) = false) (HB : Hid (¬ within 0 255 bs))
    (PR : Hid (∀ v u W, Ints W v ts → Ints W u ls → Calls Tryd.prog 23 #[.int .i64 0, v, u, .int .i64 c] W (RZPost W A none))) :
    Calls Tryd.prog 26 #[.slice a0 n c0, .slice a m ca, .slice b l cb, .int .i64 c] w (RI2Post w 0 0 range) := by
  go_enter Tryd.func26, Tryd.ntmps26
  go_wp2_with fail
  refine (PR.out _ _ _ (ha.ext (by repeat (first | exact Ext.refl _ | assumption | refine Ext.alloc ?_ _ | refine Ext.drew ?_ | refine Ext.drewN ?_ _ | refine Ext.setCell ?_ (by first | exact Nat.le_refl _ | (simp; done) | omega) _ | refine Ext.trans ?_ (by assumption)))) (hb.ext (by repeat (first | exact Ext.refl _ | assumption | refine Ext.alloc ?_ _ | refine Ext.drew ?_ | refine Ext.drewN ?_ _ | refine Ext.setCell ?_ (by first | exact Nat.le_refl _ | (simp; done) | omega) _ | refine Ext.trans ?_ (by assumption))))).mono ?_; rintro e w1 ⟨u1, c1, e1, n1, k1, rfl, hx1, hz1, he1⟩
  clear hz1
  have he0 := he1
  obtain ⟨rfl, hv⟩ := he0
  simp only [Value.slice.injEq] at hv
  obtain ⟨rfl, rfl, rfl⟩ := hv
  have E1 : Ext w (w1.alloc (.cells #[.int .i64 0, .slice none 0 0] 40)) := (by repeat (first | exact Ext.refl _ | assumption | refine Ext.alloc ?_ _ | refine Ext.drew ?_ | refine Ext.drewN ?_ _ | refine Ext.setCell ?_ (by first | exact Nat.le_refl _ | (simp; done) | omega) _ | refine Ext.trans ?_ (by assumption)))
  have RV := (ResAt.new w).ext (hx1.alloc (.cells #[.int .i64 0, .slice none 0 0] 40))
  have EE := he1.ext ((Ext.refl w1).alloc (.cells #[.int .i64 0, .slice none 0 0] 40))
  obtain ⟨p0, p1⟩ := evar w1 0 none 0 0 (Ext.refl _)
  go_wp2_with fail
  obtain ⟨B, hB⟩ : ∃ B, B = w1.heap.size := ⟨_, rfl⟩
  rw [← hB] at p0 p1 ⊢
  clear hB he1
  revert E1 RV EE p0 p1
  generalize w1.alloc (.cells #[.int .i64 0, .slice none 0 0] 40) = wS
  intro E1 RV EE p0 p1
  clear hx1
  clear EE
  go_wp2_with fail
  refine (ok_any 0 _ _).mono ?_; rintro e wA ⟨rfl, hxA⟩
  rw [show ((0 : Int) == 0) = true from rfl]
  have EA : Ext w wA := E1.trans hxA
  have RA := Lib.hid (RV.ext hxA)
  have P0 := hxA.cell p0
  have P1 := hxA.cell p1
  clear E1 RV p0 p1 hxA
  go_wp2_with fail
  refine (within_any bs 0 255 _ _ (h0.ext EA)).mono ?_; rintro e w8 ⟨rfl, hx8⟩
  rw [decide_eq_false HB.out]
  go_wp2_with fail
  refine (fail_any 3 _).mono ?_; rintro e w9 ⟨rfl, hx9⟩
  obtain ⟨r0, r1, f0, f1⟩ := RA.out.ext (show Ext wA w9 from (by repeat (first | exact Ext.refl _ | assumption | refine Ext.alloc ?_ _ | refine Ext.drew ?_ | refine Ext.drewN ?_ _ | refine Ext.setCell ?_ (by first | exact Nat.le_refl _ | (simp; done) | omega) _ | refine Ext.trans ?_ (by assumption))))
  have EW : Ext w w9 := (by repeat (first | exact Ext.refl _ | assumption | refine Ext.alloc ?_ _ | refine Ext.drew ?_ | refine Ext.drewN ?_ _ | refine Ext.setCell ?_ (by first | exact Nat.le_refl _ | (simp; done) | omega) _ | refine Ext.trans ?_ (by assumption)))
  clear RA P0 P1
  go_wp2
  obtain ⟨e0, e1⟩ := res_cells (c := 3) r0 r1 (.slice none 0 0)
  exact bodyPost_ret (v := .tuple #[.int .i64 0, .int .i64 0, .agg #[.int .i64 3, .slice none 0 0]]) (by simp [results, Tryd.results26, go_sem, e0, e1]) rfl ⟨_, _, _, _, rfl, (EW.setCell (by simp) _).setCell (by simp) _, RErrIs.code (by decide)⟩
set_option maxHeartbeats 8000000 in
set_option maxRecDepth 20000 in
theorem rbest_ok (bs ts ls A : List Int) (c : Int) (T : Nat → Int) (a0 a b : Option Addr) (n m l c0 ca cb : Nat) (w : World) (h0 : Ints w (.slice a0 n c0) bs) (ha : Ints w (.slice a m ca) ts) (hb : Ints w (.slice b l cb) ls) (hbd : 0 ≤ (m : Int) * (m : Int) ∧ (m : Int) * (m : Int) ≤ 64) (hlI : ((n : Int) != (m : Int) * (m : Int)) = false) (HB : Hid (within 0 255 bs))
    (PR : Hid (∀ v u W, Ints W v ts → Ints W u ls → Calls Tryd.prog 23 #[.int .i64 0, v, u, .int .i64 c] W (RZPost W A none)))
    (PK : Hid (∀ k : Nat, k < 4 → ∀ v u W, Ints W v ts → Ints W u ls → Calls Tryd.prog 23 #[.int .i64 (k : Int), v, u, .int .i64 c] W (RZPost W (prdL (k : Int) ts ls c) none)))
    (SK : Hid (∀ k : Nat, k < 4 → ∀ v u W, Ints W v (prdL (k : Int) ts ls c) → Ints W u bs → Calls Tryd.prog 54 #[v, u] W (RIPost W (T k) none)))
    (HT : Hid (∀ k, 0 ≤ T k)) :
    Calls Tryd.prog 26 #[.slice a0 n c0, .slice a m ca, .slice b l cb, .int .i64 c] w (RI2Post w ((bestTo T 4).1 : Nat) (bestTo T 4).2 none) := by
  go_enter Tryd.func26, Tryd.ntmps26
  go_wp2_with fail
  refine (PR.out _ _ _ (ha.ext (by repeat (first | exact Ext.refl _ | assumption | refine Ext.alloc ?_ _ | refine Ext.drew ?_ | refine Ext.drewN ?_ _ | refine Ext.setCell ?_ (by first | exact Nat.le_refl _ | (simp; done) | omega) _ | refine Ext.trans ?_ (by assumption)))) (hb.ext (by repeat (first | exact Ext.refl _ | assumption | refine Ext.alloc ?_ _ | refine Ext.drew ?_ | refine Ext.drewN ?_ _ | refine Ext.setCell ?_ (by first | exact Nat.le_refl _ | (simp; done) | omega) _ | refine Ext.trans ?_ (by assumption))))).mono ?_; rintro e w1 ⟨u1, c1, e1, n1, k1, rfl, hx1, hz1, he1⟩
  clear hz1
  have he0 := he1
  obtain ⟨rfl, hv⟩ := he0
  simp only [Value.slice.injEq] at hv
  obtain ⟨rfl, rfl, rfl⟩ := hv
  have E1 : Ext w (w1.alloc (.cells #[.int .i64 0, .slice none 0 0] 40)) := (by repeat (first | exact Ext.refl _ | assumption | refine Ext.alloc ?_ _ | refine Ext.drew ?_ | refine Ext.drewN ?_ _ | refine Ext.setCell ?_ (by first | exact Nat.le_refl _ | (simp; done) | omega) _ | refine Ext.trans ?_ (by assumption)))
  have RV := (ResAt.new w).ext (hx1.alloc (.cells #[.int .i64 0, .slice none 0 0] 40))
  have EE := he1.ext ((Ext.refl w1).alloc (.cells #[.int .i64 0, .slice none 0 0] 40))
  obtain ⟨p0, p1⟩ := evar w1 0 none 0 0 (Ext.refl _)
  go_wp2_with fail
  obtain ⟨B, hB⟩ : ∃ B, B = w1.heap.size := ⟨_, rfl⟩
  rw [← hB] at p0 p1 ⊢
  clear hB he1
  revert E1 RV EE p0 p1
  generalize w1.alloc (.cells #[.int .i64 0, .slice none 0 0] 40) = wS
  intro E1 RV EE p0 p1
  clear hx1
  clear EE
  go_wp2_with fail
  refine (ok_any 0 _ _).mono ?_; rintro e wA ⟨rfl, hxA⟩
  rw [show ((0 : Int) == 0) = true from rfl]
  have EA : Ext w wA := E1.trans hxA
  have RA := Lib.hid (RV.ext hxA)
  have P0 := hxA.cell p0
  have P1 := hxA.cell p1
  clear E1 RV p0 p1 hxA
  go_wp2_with fail
  refine (within_any bs 0 255 _ _ (h0.ext EA)).mono ?_; rintro e w8 ⟨rfl, hx8⟩
  rw [decide_eq_true HB.out]
  have E8 := EA.trans hx8
  have R8 := Lib.hid (RA.out.ext hx8)
  have Q0 := Lib.hid (hx8.cell P0)
  have Q1 := Lib.hid (hx8.cell P1)
  clear EA RA P0 P1 hx8
  go_wp2
  go_loopw [13, 14, 15] (fun mv sv iv wr => ∃ (k M : Nat) (S : Int), k ≤ 4 ∧ iv = .int .i64 k ∧ mv = .int .i64 M ∧ sv = .int .i64 S ∧ Hid (k = 0 ∧ S = -1 ∧ M = 0 ∨ 0 < k ∧ 0 ≤ S ∧ bestTo T k = (M, S)) ∧ Ext w8 wr) (fun _ _ iv _ => 4 - (intOf iv).toNat)
  case atStart => exact ⟨0, 0, -1, Nat.zero_le _, rfl, rfl, rfl, Or.inl ⟨rfl, rfl, rfl⟩, Ext.refl _⟩
  case round =>
    obtain ⟨k, M, S, hk, rfl, rfl, rfl, HS, hE⟩ := hrel
    by_cases hlt : k < 4
    · have P1 := Lib.hid (PK.out k hlt)
      have S1 := Lib.hid (SK.out k hlt)
      have hp := HT.out k
      obtain ⟨t, hT⟩ : ∃ t, T k = t := ⟨_, rfl⟩
      rw [hT] at S1 hp
      have t4 : decide ((k : Int) < 4) = true := decide_eq_true (by omega)
      go_wp2_with fail
      refine (P1.out _ _ _ (ha.ext (E8.trans hE)) (hb.ext (E8.trans hE))).mono ?_; rintro e w3 ⟨u3, c3, e3, n3, k3, rfl, hx3, hz3, he3⟩
      go_wp2_with fail
      refine (S1.out _ _ _ (hz3.ext (by repeat (first | exact Ext.refl _ | assumption | refine Ext.alloc ?_ _ | refine Ext.drew ?_ | refine Ext.drewN ?_ _ | refine Ext.setCell ?_ (by first | exact Nat.le_refl _ | (simp; done) | omega) _ | refine Ext.trans ?_ (by assumption)))) ((h0.ext E8).ext (by repeat (first | exact Ext.refl _ | assumption | refine Ext.alloc ?_ _ | refine Ext.drew ?_ | refine Ext.drewN ?_ _ | refine Ext.setCell ?_ (by first | exact Nat.le_refl _ | (simp; done) | omega) _ | refine Ext.trans ?_ (by assumption))))).mono ?_; rintro e w4 ⟨c4, e4, n4, k4, rfl, hx4, he4⟩
      have E6 : Ext w8 (w4.alloc (.cells #[.int .i64 c4, .slice e4 n4 k4] 40)) := (by repeat (first | exact Ext.refl _ | assumption | refine Ext.alloc ?_ _ | refine Ext.drew ?_ | refine Ext.drewN ?_ _ | refine Ext.setCell ?_ (by first | exact Nat.le_refl _ | (simp; done) | omega) _ | refine Ext.trans ?_ (by assumption)))
      by_cases hs : S < 0
      · have HN : Hid (bestTo T (k + 1) = (k, t)) := by
          show _ = _
          rcases HS.out with ⟨h1, -, -⟩ | ⟨-, h2, -⟩
          · unfold bestTo; rw [if_pos (Or.inl h1), hT]
          · omega
        clear hT HS
        go_wp2
        go_roundw
        case rel => exact ⟨k + 1, k, t, by omega, by go_num, rfl, rfl, Or.inr ⟨by omega, hp, HN.out⟩, E6⟩
        case measure => simp [intOf]; omega
      · by_cases hs2 : t < S
        · have HN : Hid (bestTo T (k + 1) = (k, t)) := by
            show _ = _
            rcases HS.out with ⟨-, h1, -⟩ | ⟨-, -, h2⟩
            · omega
            · unfold bestTo; rw [h2, hT]; exact if_pos (Or.inr hs2)
          clear hT HS
          go_wp2
          go_roundw
          case rel => exact ⟨k + 1, k, t, by omega, by go_num, rfl, rfl, Or.inr ⟨by omega, hp, HN.out⟩, E6⟩
          case measure => simp [intOf]; omega
        · have HN : Hid (0 ≤ S ∧ bestTo T (k + 1) = (M, S)) := by
            show _ ∧ _
            rcases HS.out with ⟨-, h1, -⟩ | ⟨h1, h3, h2⟩
            · omega
            · refine ⟨h3, ?_⟩
              unfold bestTo; rw [h2, hT]; exact if_neg (by rintro (e | e); omega; exact hs2 e)
          clear hT HS
          go_wp2
          go_roundw
          case rel => exact ⟨k + 1, M, S, by omega, by go_num, rfl, rfl, Or.inr ⟨by omega, HN.out.1, HN.out.2⟩, E6⟩
          case measure => simp [intOf]; omega
    · obtain rfl : k = 4 := by omega
      have HB4 : Hid (bestTo T 4 = (M, S)) := by
        show _ = _
        rcases HS.out with ⟨h1, -, -⟩ | ⟨-, -, h2⟩
        · omega
        · exact h2
      obtain ⟨r0, r1, f0, f1⟩ := R8.out.ext hE
      have q0 := hE.cell Q0.out
      have q1 := hE.cell Q1.out
      clear HS
      go_wp2
      go_region
      go_wp2
      obtain ⟨e0, e1⟩ := res_cells (c := 0) r0 r1 (.slice none 0 0)
      exact bodyPost_ret (v := .tuple #[.int .i64 M, .int .i64 S, .agg #[.int .i64 0, .slice none 0 0]]) (by simp [results, Tryd.results26, go_sem, e0, e1]) rfl ⟨_, _, _, _, by rw [HB4.out], (by repeat (first | exact Ext.refl _ | assumption | refine Ext.alloc ?_ _ | refine Ext.drew ?_ | refine Ext.drewN ?_ _ | refine Ext.setCell ?_ (by first | exact Nat.le_refl _ | (simp; done) | omega) _ | refine Ext.trans ?_ (by assumption))), RErrIs.zero⟩
theorem RBest_any (bs ts ls : List Int) (c : Int) (v0 v u : Value) (w : World) (h0 : Ints w v0 bs) (ha : Ints w v ts) (hb : Ints w u ls) (hN : bs.length ≤ 5000) :
    Calls Tryd.prog 26 #[v0, v, u, .int .i64 c] w (RI2Post w (bstM bs ts ls c) (bstS bs ts ls c) (bstAns bs ts ls c)) := by
  have p0 := fun v u W (h : Ints W v ts) (k : Ints W u ls) => RPredict_any 0 ts ls c v u W h k
  have ep : prdAns 0 ts ls c = chkAns ts ls c := by unfold prdAns; rw [if_neg (by decide)]
  obtain ⟨a0, c0, rfl⟩ := h0.form
  obtain ⟨a, ca, rfl⟩ := ha.form
  obtain ⟨b, cb, rfl⟩ := hb.form
  cases hc : chkAns ts ls c with
  | some f =>
    have HA : bstAns bs ts ls c = some f := by unfold bstAns; rw [hc]
    have HM : bstM bs ts ls c = 0 := by unfold bstM; rw [HA]
    have HS : bstS bs ts ls c = 0 := by unfold bstS; rw [HA]
    have HV : prdV 0 ts ls c = [] := by unfold prdV; rw [ep, hc]
    rw [ep, hc, HV] at p0
    rw [HA, HM, HS]
    obtain ⟨C, rfl⟩ := chk_code hc
    exact rbest_some bs ts ls c C a0 a b _ _ _ c0 ca cb w ha hb p0
  | none =>
    rw [ep, hc] at p0
    obtain ⟨hn, hll, hT, hL, hcc⟩ := chkAns_none hc
    have hbd : 0 ≤ (ts.length : Int) * (ts.length : Int) ∧ (ts.length : Int) * (ts.length : Int) ≤ 64 := by rcases hn with hn | hn <;> rw [hn] <;> decide
    by_cases hl : bs.length = ts.length * ts.length
    · have hlI : ((bs.length : Int) != (ts.length : Int) * (ts.length : Int)) = false := by
        simp only [bne_eq_false_iff_eq]
        rw [hl]; push_cast; rfl
      by_cases hw : within 0 255 bs
      · have HA : bstAns bs ts ls c = none := by unfold bstAns; rw [hc]; simp only; rw [if_pos hl, if_neg (by rw [within_smp.1 hw]; decide)]
        have HM : bstM bs ts ls c = ((bestTo (modeT bs ts ls c) 4).1 : Nat) := by unfold bstM; rw [HA]
        have HS : bstS bs ts ls c = (bestTo (modeT bs ts ls c) 4).2 := by unfold bstS; rw [HA]
        rw [HA, HM, HS]
        refine rbest_ok bs ts ls _ c (modeT bs ts ls c) a0 a b _ _ _ c0 ca cb w h0 ha hb hbd hlI hw p0 (fun k hk v u W h1 h2 => ?_) (fun k hk v u W h1 h2 => ?_) (fun k => (sadV_bound hN).1)
        · have := RPredict_any (k : Int) ts ls c v u W h1 h2
          have e : prdAns (k : Int) ts ls c = none := by unfold prdAns; rw [if_neg (by omega), hc]
          have e2 : prdV (k : Int) ts ls c = prdL (k : Int) ts ls c := by unfold prdV; rw [e]
          rwa [e, e2] at this
        · have := rsad_any (prdL (k : Int) ts ls c) bs v u W h1 h2 (by rw [prdL_len]; rcases hn with e | e <;> rw [e] <;> decide)
          rw [matAns_comm, sadV_comm, mode_mat HA] at this
          exact this
      · have HA : bstAns bs ts ls c = range := by unfold bstAns; rw [hc]; simp only; rw [if_pos hl, if_pos (within_smp_no hw)]
        have HM : bstM bs ts ls c = 0 := by unfold bstM; rw [HA]; rfl
        have HS : bstS bs ts ls c = 0 := by unfold bstS; rw [HA]; rfl
        rw [HA, HM, HS]
        exact rbest_range bs ts ls _ c a0 a b _ _ _ c0 ca cb w h0 ha hb hbd hlI hw p0
    · have hlI : ((bs.length : Int) != (ts.length : Int) * (ts.length : Int)) = true := by
        simp only [bne_iff_ne, ne_eq]
        intro h
        exact hl (by exact_mod_cast h)
      have HA : bstAns bs ts ls c = fit := by unfold bstAns; rw [hc]; simp only; rw [if_neg hl]
      have HM : bstM bs ts ls c = 0 := by unfold bstM; rw [HA]; rfl
      have HS : bstS bs ts ls c = 0 := by unfold bstS; rw [HA]; rfl
      rw [HA, HM, HS]
      exact rbest_fit bs ts ls _ c a0 a b _ _ _ c0 ca cb w ha hb hbd hlI p0
end Go.Proofs.YtbhlbiandelimaaDoor
