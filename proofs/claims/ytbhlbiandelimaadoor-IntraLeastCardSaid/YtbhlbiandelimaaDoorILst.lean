/- kinlaw10.IntraLeast: the walk. -/
import Derived.Test.YtbhlbiandelimaaDoorIBest
namespace Go.Proofs.YtbhlbiandelimaaDoor
set_option linter.unusedVariables false
set_option linter.unusedSimpArgs false
open Go.RowKit Go.Extern.Stop Go.Stop Go.Extern

set_option maxHeartbeats 2000000 in
set_option maxRecDepth 20000 in
theorem least_long (mo c : Int) (a0 a b : Option Addr) (k n m c0 ca cb : Nat) (w : World) (hg : EtIs w) (hl : 5000 < k ∨ ¬ 5000 < k ∧ 5000 < n ∨ ¬ 5000 < k ∧ ¬ 5000 < n ∧ 5000 < m) :
    Calls Tryd.prog 7 #[.slice a0 k c0, .slice a n ca, .slice b m cb, .int .i64 c, .int .i64 mo] w fun e w' => e = .returned (.bool true) ∧ Ext w w' := by
  rcases hl with h1 | ⟨h1, h2⟩ | ⟨h1, h2, h3⟩
  all_goals
    go_enter Tryd.func7, Tryd.ntmps7
    go_wp2_with fail
    refine (first10_any _ hg).mono ?_; rintro e w1 ⟨rfl, hx1⟩
    go_wp2_with fail
    refine (first10_any _ (hg.ext (by repeat (first | exact Ext.refl _ | assumption | refine Ext.alloc ?_ _ | refine Ext.drew ?_ | refine Ext.drewN ?_ _ | refine Ext.setCell ?_ (by first | exact Nat.le_refl _ | (simp; done) | omega) _ | refine Ext.trans ?_ (by assumption))))).mono ?_; rintro e w2 ⟨rfl, hx2⟩
    go_wp2
    go_ret
    exact ⟨rfl, (by repeat (first | exact Ext.refl _ | assumption | refine Ext.alloc ?_ _ | refine Ext.drew ?_ | refine Ext.drewN ?_ _ | refine Ext.setCell ?_ (by first | exact Nat.le_refl _ | (simp; done) | omega) _ | refine Ext.trans ?_ (by assumption)))⟩
set_option maxHeartbeats 8000000 in
set_option maxRecDepth 20000 in
theorem least_ss (mo c M S N0 : Int) (bs ts ls A : List Int) (f q : List (ByteArray × Int) × Int) (a0 a b : Option Addr) (k n m c0 ca cb : Nat) (w : World) (hg : EtIs w) (h0 : Ints w (.slice a0 k c0) bs) (ha : Ints w (.slice a n ca) ts) (hb : Ints w (.slice b m cb) ls) (h1 : ¬ 5000 < k) (h2 : ¬ 5000 < n) (h3 : ¬ 5000 < m)
    (B1 : Hid (∀ v0 v u W, Ints W v0 bs → Ints W v ts → Ints W u ls → Calls Tryd.prog 25 #[v0, v, u, .int .i64 c] W (I2Post W M S (some f))))
    (P0 : Hid (∀ v u W, Ints W v ts → Ints W u ls → Calls Tryd.prog 22 #[.int .i64 mo, v, u, .int .i64 c] W (ZPost W A (some q))))
    (B2 : Hid ((some q : Fall) = none → ∀ v0 v u W, Ints W v0 A → Ints W v ts → Ints W u ls → Calls Tryd.prog 25 #[v0, v, u, .int .i64 c] W (I2Post W N0 0 none))) (hN0 : (some q : Fall) = none → N0 ≤ mo)
    (HL : Hid ((some f : Fall) = none → ∀ j : Nat, j < 4 → ∃ T, (S ≤ T ∧ ((j : Int) < M → S < T) ∧ ((j : Int) = M → T = S)) ∧
      (∀ v u W, Ints W v ts → Ints W u ls → Calls Tryd.prog 22 #[.int .i64 (j : Int), v, u, .int .i64 c] W (ZPost W (prdL (j : Int) ts ls c) none)) ∧
      ∀ v u W, Ints W v (prdL (j : Int) ts ls c) → Ints W u bs → Calls Tryd.prog 28 #[v, u] W (IPost W T none))) :
    Calls Tryd.prog 7 #[.slice a0 k c0, .slice a n ca, .slice b m cb, .int .i64 c, .int .i64 mo] w fun e w' => e = .returned (.bool true) ∧ Ext w w' := by
  clear B2 hN0
  go_enter Tryd.func7, Tryd.ntmps7
  go_wp2_with fail
  refine (first10_any _ hg).mono ?_; rintro e w1 ⟨rfl, hx1⟩
  go_wp2_with fail
  refine (B1.out _ _ _ _ (h0.ext (by repeat (first | exact Ext.refl _ | assumption | refine Ext.alloc ?_ _ | refine Ext.drew ?_ | refine Ext.drewN ?_ _ | refine Ext.setCell ?_ (by first | exact Nat.le_refl _ | (simp; done) | omega) _ | refine Ext.trans ?_ (by assumption)))) (ha.ext (by repeat (first | exact Ext.refl _ | assumption | refine Ext.alloc ?_ _ | refine Ext.drew ?_ | refine Ext.drewN ?_ _ | refine Ext.setCell ?_ (by first | exact Nat.le_refl _ | (simp; done) | omega) _ | refine Ext.trans ?_ (by assumption)))) (hb.ext (by repeat (first | exact Ext.refl _ | assumption | refine Ext.alloc ?_ _ | refine Ext.drew ?_ | refine Ext.drewN ?_ _ | refine Ext.setCell ?_ (by first | exact Nat.le_refl _ | (simp; done) | omega) _ | refine Ext.trans ?_ (by assumption))))).mono ?_; rintro e w2 ⟨x2, rfl, hx2, he2⟩
  obtain ⟨t2, y2, rfl⟩ := he2.ne
  have EW : Ext w w2 := (by repeat (first | exact Ext.refl _ | assumption | refine Ext.alloc ?_ _ | refine Ext.drew ?_ | refine Ext.drewN ?_ _ | refine Ext.setCell ?_ (by first | exact Nat.le_refl _ | (simp; done) | omega) _ | refine Ext.trans ?_ (by assumption)))
  go_wp2_with fail
  refine (P0.out _ _ _ (ha.ext EW) (hb.ext EW)).mono ?_; rintro e w7 ⟨u7, x7, rfl, hx7, hz7, he7⟩
  obtain ⟨t7, y7, rfl⟩ := he7.ne
  go_wp2_with fail
  refine (first10_any _ (hg.ext (EW.trans hx7))).mono ?_; rintro e w9 ⟨rfl, hx9⟩
  go_wp2
  go_ret
  exact ⟨rfl, (EW.trans hx7).trans hx9⟩
set_option maxHeartbeats 8000000 in
set_option maxRecDepth 20000 in
theorem least_sn (mo c M S N0 : Int) (bs ts ls A : List Int) (f q : List (ByteArray × Int) × Int) (a0 a b : Option Addr) (k n m c0 ca cb : Nat) (w : World) (hg : EtIs w) (h0 : Ints w (.slice a0 k c0) bs) (ha : Ints w (.slice a n ca) ts) (hb : Ints w (.slice b m cb) ls) (h1 : ¬ 5000 < k) (h2 : ¬ 5000 < n) (h3 : ¬ 5000 < m)
    (B1 : Hid (∀ v0 v u W, Ints W v0 bs → Ints W v ts → Ints W u ls → Calls Tryd.prog 25 #[v0, v, u, .int .i64 c] W (I2Post W M S (some f))))
    (P0 : Hid (∀ v u W, Ints W v ts → Ints W u ls → Calls Tryd.prog 22 #[.int .i64 mo, v, u, .int .i64 c] W (ZPost W A (none))))
    (B2 : Hid ((none : Fall) = none → ∀ v0 v u W, Ints W v0 A → Ints W v ts → Ints W u ls → Calls Tryd.prog 25 #[v0, v, u, .int .i64 c] W (I2Post W N0 0 none))) (hN0 : (none : Fall) = none → N0 ≤ mo)
    (HL : Hid ((some f : Fall) = none → ∀ j : Nat, j < 4 → ∃ T, (S ≤ T ∧ ((j : Int) < M → S < T) ∧ ((j : Int) = M → T = S)) ∧
      (∀ v u W, Ints W v ts → Ints W u ls → Calls Tryd.prog 22 #[.int .i64 (j : Int), v, u, .int .i64 c] W (ZPost W (prdL (j : Int) ts ls c) none)) ∧
      ∀ v u W, Ints W v (prdL (j : Int) ts ls c) → Ints W u bs → Calls Tryd.prog 28 #[v, u] W (IPost W T none))) :
    Calls Tryd.prog 7 #[.slice a0 k c0, .slice a n ca, .slice b m cb, .int .i64 c, .int .i64 mo] w fun e w' => e = .returned (.bool true) ∧ Ext w w' := by
  have BB := Lib.hid (B2.out rfl)
  have hNN := hN0 rfl
  clear B2 hN0
  go_enter Tryd.func7, Tryd.ntmps7
  go_wp2_with fail
  refine (first10_any _ hg).mono ?_; rintro e w1 ⟨rfl, hx1⟩
  go_wp2_with fail
  refine (B1.out _ _ _ _ (h0.ext (by repeat (first | exact Ext.refl _ | assumption | refine Ext.alloc ?_ _ | refine Ext.drew ?_ | refine Ext.drewN ?_ _ | refine Ext.setCell ?_ (by first | exact Nat.le_refl _ | (simp; done) | omega) _ | refine Ext.trans ?_ (by assumption)))) (ha.ext (by repeat (first | exact Ext.refl _ | assumption | refine Ext.alloc ?_ _ | refine Ext.drew ?_ | refine Ext.drewN ?_ _ | refine Ext.setCell ?_ (by first | exact Nat.le_refl _ | (simp; done) | omega) _ | refine Ext.trans ?_ (by assumption)))) (hb.ext (by repeat (first | exact Ext.refl _ | assumption | refine Ext.alloc ?_ _ | refine Ext.drew ?_ | refine Ext.drewN ?_ _ | refine Ext.setCell ?_ (by first | exact Nat.le_refl _ | (simp; done) | omega) _ | refine Ext.trans ?_ (by assumption))))).mono ?_; rintro e w2 ⟨x2, rfl, hx2, he2⟩
  obtain ⟨t2, y2, rfl⟩ := he2.ne
  have EW : Ext w w2 := (by repeat (first | exact Ext.refl _ | assumption | refine Ext.alloc ?_ _ | refine Ext.drew ?_ | refine Ext.drewN ?_ _ | refine Ext.setCell ?_ (by first | exact Nat.le_refl _ | (simp; done) | omega) _ | refine Ext.trans ?_ (by assumption)))
  go_wp2_with fail
  refine (P0.out _ _ _ (ha.ext EW) (hb.ext EW)).mono ?_; rintro e w7 ⟨u7, x7, rfl, hx7, hz7, he7⟩
  obtain rfl : x7 = .nilIface := he7
  have EX := EW.trans hx7
  go_wp2_with fail
  refine (BB.out _ _ _ _ hz7 (ha.ext EX) (hb.ext EX)).mono ?_; rintro e w8 ⟨x8, rfl, hx8, he8⟩
  obtain rfl : x8 = .nilIface := he8
  have EY := EX.trans hx8
  go_wp2_with fail
  refine (first10_any _ (hg.ext EY)).mono ?_; rintro e w9 ⟨rfl, hx9⟩
  go_wp2
  go_ret
  exact ⟨rfl, EY.trans hx9⟩
set_option maxHeartbeats 8000000 in
set_option maxRecDepth 20000 in
theorem least_ns (mo c M S N0 : Int) (bs ts ls A : List Int) (f q : List (ByteArray × Int) × Int) (a0 a b : Option Addr) (k n m c0 ca cb : Nat) (w : World) (hg : EtIs w) (h0 : Ints w (.slice a0 k c0) bs) (ha : Ints w (.slice a n ca) ts) (hb : Ints w (.slice b m cb) ls) (h1 : ¬ 5000 < k) (h2 : ¬ 5000 < n) (h3 : ¬ 5000 < m)
    (B1 : Hid (∀ v0 v u W, Ints W v0 bs → Ints W v ts → Ints W u ls → Calls Tryd.prog 25 #[v0, v, u, .int .i64 c] W (I2Post W M S (none))))
    (P0 : Hid (∀ v u W, Ints W v ts → Ints W u ls → Calls Tryd.prog 22 #[.int .i64 mo, v, u, .int .i64 c] W (ZPost W A (some q))))
    (B2 : Hid ((some q : Fall) = none → ∀ v0 v u W, Ints W v0 A → Ints W v ts → Ints W u ls → Calls Tryd.prog 25 #[v0, v, u, .int .i64 c] W (I2Post W N0 0 none))) (hN0 : (some q : Fall) = none → N0 ≤ mo)
    (HL : Hid ((none : Fall) = none → ∀ j : Nat, j < 4 → ∃ T, (S ≤ T ∧ ((j : Int) < M → S < T) ∧ ((j : Int) = M → T = S)) ∧
      (∀ v u W, Ints W v ts → Ints W u ls → Calls Tryd.prog 22 #[.int .i64 (j : Int), v, u, .int .i64 c] W (ZPost W (prdL (j : Int) ts ls c) none)) ∧
      ∀ v u W, Ints W v (prdL (j : Int) ts ls c) → Ints W u bs → Calls Tryd.prog 28 #[v, u] W (IPost W T none))) :
    Calls Tryd.prog 7 #[.slice a0 k c0, .slice a n ca, .slice b m cb, .int .i64 c, .int .i64 mo] w fun e w' => e = .returned (.bool true) ∧ Ext w w' := by
  clear B2 hN0
  have HL2 := Lib.hid (HL.out rfl)
  clear HL
  go_enter Tryd.func7, Tryd.ntmps7
  go_wp2_with fail
  refine (first10_any _ hg).mono ?_; rintro e w1 ⟨rfl, hx1⟩
  go_wp2_with fail
  refine (B1.out _ _ _ _ (h0.ext (by repeat (first | exact Ext.refl _ | assumption | refine Ext.alloc ?_ _ | refine Ext.drew ?_ | refine Ext.drewN ?_ _ | refine Ext.setCell ?_ (by first | exact Nat.le_refl _ | (simp; done) | omega) _ | refine Ext.trans ?_ (by assumption)))) (ha.ext (by repeat (first | exact Ext.refl _ | assumption | refine Ext.alloc ?_ _ | refine Ext.drew ?_ | refine Ext.drewN ?_ _ | refine Ext.setCell ?_ (by first | exact Nat.le_refl _ | (simp; done) | omega) _ | refine Ext.trans ?_ (by assumption)))) (hb.ext (by repeat (first | exact Ext.refl _ | assumption | refine Ext.alloc ?_ _ | refine Ext.drew ?_ | refine Ext.drewN ?_ _ | refine Ext.setCell ?_ (by first | exact Nat.le_refl _ | (simp; done) | omega) _ | refine Ext.trans ?_ (by assumption))))).mono ?_; rintro e w2 ⟨x2, rfl, hx2, he2⟩
  obtain rfl : x2 = .nilIface := he2
  have E2 : Ext w w2 := (by repeat (first | exact Ext.refl _ | assumption | refine Ext.alloc ?_ _ | refine Ext.drew ?_ | refine Ext.drewN ?_ _ | refine Ext.setCell ?_ (by first | exact Nat.le_refl _ | (simp; done) | omega) _ | refine Ext.trans ?_ (by assumption)))
  clear hx1 hx2
  go_wp2
  go_loopw [14] (fun iv wr => ∃ j : Nat, j ≤ 4 ∧ iv = .int .i64 j ∧ Ext w wr) (fun iv _ => 4 - (intOf iv).toNat)
  case atStart => exact ⟨0, Nat.zero_le _, rfl, E2⟩
  case round =>
    clear E2
    obtain ⟨j, hj, rfl, EW⟩ := hrel
    by_cases hlt : j < 4
    · obtain ⟨T, hT, P1, S1⟩ := HL2.out j hlt
      obtain ⟨hT1, hT2, hT3⟩ := hT
      have HP := Lib.hid P1
      have HS := Lib.hid S1
      clear P1 S1
      have t4 : decide ((j : Int) < 4) = true := decide_eq_true (by omega)
      go_wp2_with fail
      refine (HP.out _ _ _ (ha.ext EW) (hb.ext EW)).mono ?_; rintro e w3 ⟨u3, x3, rfl, hx3, hz3, he3⟩
      obtain rfl : x3 = .nilIface := he3
      go_wp2_with fail
      refine (HS.out _ _ _ hz3 (h0.ext (by repeat (first | exact Ext.refl _ | assumption | refine Ext.alloc ?_ _ | refine Ext.drew ?_ | refine Ext.drewN ?_ _ | refine Ext.setCell ?_ (by first | exact Nat.le_refl _ | (simp; done) | omega) _ | refine Ext.trans ?_ (by assumption))))).mono ?_; rintro e w4 ⟨x4, rfl, hx4, he4⟩
      obtain rfl : x4 = .nilIface := he4
      have E5 : Ext w w4 := (by repeat (first | exact Ext.refl _ | assumption | refine Ext.alloc ?_ _ | refine Ext.drew ?_ | refine Ext.drewN ?_ _ | refine Ext.setCell ?_ (by first | exact Nat.le_refl _ | (simp; done) | omega) _ | refine Ext.trans ?_ (by assumption)))
      clear hx3 hx4
      by_cases h1 : (j : Int) < M
      · have b1 : (T == S) = false := by have := hT2 h1; simp; omega
        have b2 : ((j : Int) == M) = false := by simp; omega
        have b3 : ¬ T < S := by omega
        clear hT2 hT3
        go_wp2
        go_roundw
        case rel => exact ⟨j + 1, by omega, by go_num, E5⟩
        case measure => simp [intOf]; omega
      · by_cases h2 : (j : Int) = M
        · have b1 : (T != S) = false := by have := hT3 h2; simp; omega
          have b2 : ((j : Int) == M) = true := by simpa using h2
          have b3 : ¬ T < S := by omega
          clear hT2 hT3 h2
          go_wp2
          go_roundw
          case rel => exact ⟨j + 1, by omega, by go_num, E5⟩
          case measure => simp [intOf]; omega
        · have b2 : ((j : Int) == M) = false := by simpa using h2
          have b3 : ¬ T < S := by omega
          clear hT2 hT3 h2
          go_wp2
          go_roundw
          case rel => exact ⟨j + 1, by omega, by go_num, E5⟩
          case measure => simp [intOf]; omega
    · skip
      go_wp2_with fail
      refine (P0.out _ _ _ (ha.ext EW) (hb.ext EW)).mono ?_; rintro e w7 ⟨u7, x7, rfl, hx7, hz7, he7⟩
      obtain ⟨t7, y7, rfl⟩ := he7.ne
      go_wp2_with fail
      refine (first10_any _ (hg.ext (EW.trans hx7))).mono ?_; rintro e w9 ⟨rfl, hx9⟩
      go_wp2
      go_ret
      exact ⟨rfl, (EW.trans hx7).trans hx9⟩
set_option maxHeartbeats 8000000 in
set_option maxRecDepth 20000 in
theorem least_nn (mo c M S N0 : Int) (bs ts ls A : List Int) (f q : List (ByteArray × Int) × Int) (a0 a b : Option Addr) (k n m c0 ca cb : Nat) (w : World) (hg : EtIs w) (h0 : Ints w (.slice a0 k c0) bs) (ha : Ints w (.slice a n ca) ts) (hb : Ints w (.slice b m cb) ls) (h1 : ¬ 5000 < k) (h2 : ¬ 5000 < n) (h3 : ¬ 5000 < m)
    (B1 : Hid (∀ v0 v u W, Ints W v0 bs → Ints W v ts → Ints W u ls → Calls Tryd.prog 25 #[v0, v, u, .int .i64 c] W (I2Post W M S (none))))
    (P0 : Hid (∀ v u W, Ints W v ts → Ints W u ls → Calls Tryd.prog 22 #[.int .i64 mo, v, u, .int .i64 c] W (ZPost W A (none))))
    (B2 : Hid ((none : Fall) = none → ∀ v0 v u W, Ints W v0 A → Ints W v ts → Ints W u ls → Calls Tryd.prog 25 #[v0, v, u, .int .i64 c] W (I2Post W N0 0 none))) (hN0 : (none : Fall) = none → N0 ≤ mo)
    (HL : Hid ((none : Fall) = none → ∀ j : Nat, j < 4 → ∃ T, (S ≤ T ∧ ((j : Int) < M → S < T) ∧ ((j : Int) = M → T = S)) ∧
      (∀ v u W, Ints W v ts → Ints W u ls → Calls Tryd.prog 22 #[.int .i64 (j : Int), v, u, .int .i64 c] W (ZPost W (prdL (j : Int) ts ls c) none)) ∧
      ∀ v u W, Ints W v (prdL (j : Int) ts ls c) → Ints W u bs → Calls Tryd.prog 28 #[v, u] W (IPost W T none))) :
    Calls Tryd.prog 7 #[.slice a0 k c0, .slice a n ca, .slice b m cb, .int .i64 c, .int .i64 mo] w fun e w' => e = .returned (.bool true) ∧ Ext w w' := by
  have BB := Lib.hid (B2.out rfl)
  have hNN := hN0 rfl
  clear B2 hN0
  have HL2 := Lib.hid (HL.out rfl)
  clear HL
  go_enter Tryd.func7, Tryd.ntmps7
  go_wp2_with fail
  refine (first10_any _ hg).mono ?_; rintro e w1 ⟨rfl, hx1⟩
  go_wp2_with fail
  refine (B1.out _ _ _ _ (h0.ext (by repeat (first | exact Ext.refl _ | assumption | refine Ext.alloc ?_ _ | refine Ext.drew ?_ | refine Ext.drewN ?_ _ | refine Ext.setCell ?_ (by first | exact Nat.le_refl _ | (simp; done) | omega) _ | refine Ext.trans ?_ (by assumption)))) (ha.ext (by repeat (first | exact Ext.refl _ | assumption | refine Ext.alloc ?_ _ | refine Ext.drew ?_ | refine Ext.drewN ?_ _ | refine Ext.setCell ?_ (by first | exact Nat.le_refl _ | (simp; done) | omega) _ | refine Ext.trans ?_ (by assumption)))) (hb.ext (by repeat (first | exact Ext.refl _ | assumption | refine Ext.alloc ?_ _ | refine Ext.drew ?_ | refine Ext.drewN ?_ _ | refine Ext.setCell ?_ (by first | exact Nat.le_refl _ | (simp; done) | omega) _ | refine Ext.trans ?_ (by assumption))))).mono ?_; rintro e w2 ⟨x2, rfl, hx2, he2⟩
  obtain rfl : x2 = .nilIface := he2
  have E2 : Ext w w2 := (by repeat (first | exact Ext.refl _ | assumption | refine Ext.alloc ?_ _ | refine Ext.drew ?_ | refine Ext.drewN ?_ _ | refine Ext.setCell ?_ (by first | exact Nat.le_refl _ | (simp; done) | omega) _ | refine Ext.trans ?_ (by assumption)))
  clear hx1 hx2
  go_wp2
  go_loopw [14] (fun iv wr => ∃ j : Nat, j ≤ 4 ∧ iv = .int .i64 j ∧ Ext w wr) (fun iv _ => 4 - (intOf iv).toNat)
  case atStart => exact ⟨0, Nat.zero_le _, rfl, E2⟩
  case round =>
    clear E2
    obtain ⟨j, hj, rfl, EW⟩ := hrel
    by_cases hlt : j < 4
    · obtain ⟨T, hT, P1, S1⟩ := HL2.out j hlt
      obtain ⟨hT1, hT2, hT3⟩ := hT
      have HP := Lib.hid P1
      have HS := Lib.hid S1
      clear P1 S1
      have t4 : decide ((j : Int) < 4) = true := decide_eq_true (by omega)
      go_wp2_with fail
      refine (HP.out _ _ _ (ha.ext EW) (hb.ext EW)).mono ?_; rintro e w3 ⟨u3, x3, rfl, hx3, hz3, he3⟩
      obtain rfl : x3 = .nilIface := he3
      go_wp2_with fail
      refine (HS.out _ _ _ hz3 (h0.ext (by repeat (first | exact Ext.refl _ | assumption | refine Ext.alloc ?_ _ | refine Ext.drew ?_ | refine Ext.drewN ?_ _ | refine Ext.setCell ?_ (by first | exact Nat.le_refl _ | (simp; done) | omega) _ | refine Ext.trans ?_ (by assumption))))).mono ?_; rintro e w4 ⟨x4, rfl, hx4, he4⟩
      obtain rfl : x4 = .nilIface := he4
      have E5 : Ext w w4 := (by repeat (first | exact Ext.refl _ | assumption | refine Ext.alloc ?_ _ | refine Ext.drew ?_ | refine Ext.drewN ?_ _ | refine Ext.setCell ?_ (by first | exact Nat.le_refl _ | (simp; done) | omega) _ | refine Ext.trans ?_ (by assumption)))
      clear hx3 hx4
      by_cases h1 : (j : Int) < M
      · have b1 : (T == S) = false := by have := hT2 h1; simp; omega
        have b2 : ((j : Int) == M) = false := by simp; omega
        have b3 : ¬ T < S := by omega
        clear hT2 hT3
        go_wp2
        go_roundw
        case rel => exact ⟨j + 1, by omega, by go_num, E5⟩
        case measure => simp [intOf]; omega
      · by_cases h2 : (j : Int) = M
        · have b1 : (T != S) = false := by have := hT3 h2; simp; omega
          have b2 : ((j : Int) == M) = true := by simpa using h2
          have b3 : ¬ T < S := by omega
          clear hT2 hT3 h2
          go_wp2
          go_roundw
          case rel => exact ⟨j + 1, by omega, by go_num, E5⟩
          case measure => simp [intOf]; omega
        · have b2 : ((j : Int) == M) = false := by simpa using h2
          have b3 : ¬ T < S := by omega
          clear hT2 hT3 h2
          go_wp2
          go_roundw
          case rel => exact ⟨j + 1, by omega, by go_num, E5⟩
          case measure => simp [intOf]; omega
    · skip
      go_wp2_with fail
      refine (P0.out _ _ _ (ha.ext EW) (hb.ext EW)).mono ?_; rintro e w7 ⟨u7, x7, rfl, hx7, hz7, he7⟩
      obtain rfl : x7 = .nilIface := he7
      have EX := EW.trans hx7
      go_wp2_with fail
      refine (BB.out _ _ _ _ hz7 (ha.ext EX) (hb.ext EX)).mono ?_; rintro e w8 ⟨x8, rfl, hx8, he8⟩
      obtain rfl : x8 = .nilIface := he8
      have EY := EX.trans hx8
      go_wp2_with fail
      refine (first10_any _ (hg.ext EY)).mono ?_; rintro e w9 ⟨rfl, hx9⟩
      go_wp2
      go_ret
      exact ⟨rfl, EY.trans hx9⟩
theorem bst_self {ts ls : List Int} {c mo : Int} (hm : 0 ≤ mo ∧ mo ≤ 3) (h : chkAns ts ls c = none) : bstAns (prdL mo ts ls c) ts ls c = none ∧ bstS (prdL mo ts ls c) ts ls c = 0 ∧ bstM (prdL mo ts ls c) ts ls c ≤ mo := by
  have hA : bstAns (prdL mo ts ls c) ts ls c = none := by
    unfold bstAns
    rw [h]
    simp only
    rw [if_pos (prdL_len _ _ _ _), if_neg]
    intro ht
    obtain ⟨x, hx, hp⟩ := List.any_eq_true.1 ht
    have := prdL_within h x hx
    unfold nosmpB at hp
    simp at hp
    omega
  obtain ⟨k, rfl⟩ : ∃ k : Nat, mo = (k : Int) := ⟨mo.toNat, by omega⟩
  have hk : k < 4 := by omega
  obtain ⟨s1, s2, s3, s4⟩ := bestTo_spec (modeT (prdL (k : Int) ts ls c) ts ls c) 4 (by decide)
  have hz : modeT (prdL (k : Int) ts ls c) ts ls c k = 0 := by
    unfold modeT
    have := sadV_zero (mode_mat hA (k : Int))
    simpa using this
  have hp : ∀ j, 0 ≤ modeT (prdL (k : Int) ts ls c) ts ls c j := fun j => (sadV_bound (by rw [prdL_len]; have := (chkAns_none h).1; rcases this with e | e <;> rw [e] <;> decide)).1
  have h3 := s3 k hk
  rw [hz] at h3
  have h2 : 0 ≤ (bestTo (modeT (prdL (k : Int) ts ls c) ts ls c) 4).2 := by rw [s2]; exact hp _
  refine ⟨hA, by unfold bstS; rw [hA]; simp only; omega, ?_⟩
  unfold bstM
  rw [hA]
  simp only
  have : ¬ k < (bestTo (modeT (prdL (k : Int) ts ls c) ts ls c) 4).1 := fun e => by have := s4 k e; omega
  omega
theorem least_law (mo c : Int) (bs ts ls : List Int) (v0 va vb : Value) (w : World) (hg : EtIs w) (hq : Row w v0 bs.length (bs.map (Value.int .i64))) (hr : Row w va ts.length (ts.map (Value.int .i64))) (hs : Row w vb ls.length (ls.map (Value.int .i64))) :
    Calls Tryd.prog 7 #[v0, va, vb, .int .i64 c, .int .i64 mo] w fun e w' => e = .returned (.bool true) ∧ Ext w w' := by
  by_cases hl : 5000 < bs.length ∨ ¬ 5000 < bs.length ∧ 5000 < ts.length ∨ ¬ 5000 < bs.length ∧ ¬ 5000 < ts.length ∧ 5000 < ls.length
  · obtain ⟨a0, c0, rfl⟩ := hq.form
    obtain ⟨a, ca, rfl⟩ := hr.form
    obtain ⟨b, cb, rfl⟩ := hs.form
    exact least_long mo c a0 a b _ _ _ c0 ca cb w hg hl
  · have h1 : ¬ 5000 < bs.length := by omega
    have h2 : ¬ 5000 < ts.length := by omega
    have h3 : ¬ 5000 < ls.length := by omega
    have h0 : Ints w v0 bs := ⟨hq, by omega⟩
    have ha : Ints w va ts := ⟨hr, by omega⟩
    have hb : Ints w vb ls := ⟨hs, by omega⟩
    obtain ⟨a0, c0, rfl⟩ := h0.form
    obtain ⟨a, ca, rfl⟩ := ha.form
    obtain ⟨b, cb, rfl⟩ := hb.form
    have b1 := fun v0 v u W (h0 : Ints W v0 bs) (h : Ints W v ts) (k : Ints W u ls) => Best_any bs ts ls c v0 v u W h0 h k (by omega)
    have p0 := fun v u W (h : Ints W v ts) (k : Ints W u ls) => Predict_any mo ts ls c v u W h k
    have b2 : prdAns mo ts ls c = none → ∀ v0 v u W, Ints W v0 (prdV mo ts ls c) → Ints W v ts → Ints W u ls → Calls Tryd.prog 25 #[v0, v, u, .int .i64 c] W (I2Post W (bstM (prdV mo ts ls c) ts ls c) 0 none) := fun hm v0 v u W h0 h k => by
      obtain ⟨hmo, hc⟩ := prdAns_none hm
      have ev : prdV mo ts ls c = prdL mo ts ls c := by unfold prdV; rw [hm]
      rw [ev] at h0 ⊢
      obtain ⟨e1, e2, -⟩ := bst_self hmo hc
      have := Best_any _ ts ls c v0 v u W h0 h k (by rw [prdL_len]; rcases (chkAns_none hc).1 with e | e <;> rw [e] <;> decide)
      rwa [e1, e2] at this
    have hN : prdAns mo ts ls c = none → bstM (prdV mo ts ls c) ts ls c ≤ mo := fun hm => by
      obtain ⟨hmo, hc⟩ := prdAns_none hm
      have ev : prdV mo ts ls c = prdL mo ts ls c := by unfold prdV; rw [hm]
      rw [ev]
      exact (bst_self hmo hc).2.2
    have hH : bstAns bs ts ls c = none → ∀ j : Nat, j < 4 → ∃ T, (bstS bs ts ls c ≤ T ∧ ((j : Int) < bstM bs ts ls c → bstS bs ts ls c < T) ∧ ((j : Int) = bstM bs ts ls c → T = bstS bs ts ls c)) ∧
        (∀ v u W, Ints W v ts → Ints W u ls → Calls Tryd.prog 22 #[.int .i64 (j : Int), v, u, .int .i64 c] W (ZPost W (prdL (j : Int) ts ls c) none)) ∧
        ∀ v u W, Ints W v (prdL (j : Int) ts ls c) → Ints W u bs → Calls Tryd.prog 28 #[v, u] W (IPost W T none) := fun hA j hj => by
      obtain ⟨hc, -, -⟩ := bstAns_none hA
      obtain ⟨s1, s2, s3, s4⟩ := bestTo_spec (modeT bs ts ls c) 4 (by decide)
      have eM : bstM bs ts ls c = ((bestTo (modeT bs ts ls c) 4).1 : Nat) := by unfold bstM; rw [hA]
      have eS : bstS bs ts ls c = (bestTo (modeT bs ts ls c) 4).2 := by unfold bstS; rw [hA]
      refine ⟨modeT bs ts ls c j, ⟨?_, ?_, ?_⟩, fun v u W h k => ?_, fun v u W h k => ?_⟩
      · rw [eS]; exact s3 j hj
      · intro h; rw [eM] at h; rw [eS]; exact s4 j (by omega)
      · intro h; rw [eM] at h; rw [eS, s2]; congr 1; omega
      · have := Predict_any (j : Int) ts ls c v u W h k
        have e : prdAns (j : Int) ts ls c = none := by unfold prdAns; rw [if_neg (by omega), hc]
        have e2 : prdV (j : Int) ts ls c = prdL (j : Int) ts ls c := by unfold prdV; rw [e]
        rwa [e, e2] at this
      · have := sad_any (prdL (j : Int) ts ls c) bs v u W h k (by rw [prdL_len]; rcases (chkAns_none hc).1 with e | e <;> rw [e] <;> decide)
        rw [matAns_comm, sadV_comm, mode_mat hA] at this
        exact this
    cases hA : bstAns bs ts ls c with
    | some f =>
      rw [hA] at b1
      cases hm : prdAns mo ts ls c with
      | some q =>
        rw [hm] at p0
        exact least_ss mo c _ _ 0 bs ts ls _ f q a0 a b _ _ _ c0 ca cb w hg h0 ha hb h1 h2 h3 b1 p0 (fun h => by cases h) (fun h => by cases h) (fun h => by cases h)
      | none =>
        rw [hm] at p0
        exact least_sn mo c _ _ _ bs ts ls _ f f a0 a b _ _ _ c0 ca cb w hg h0 ha hb h1 h2 h3 b1 p0 (fun _ => b2 hm) (fun _ => hN hm) (fun h => by cases h)
    | none =>
      have hH' := hH hA
      rw [hA] at b1
      cases hm : prdAns mo ts ls c with
      | some q =>
        rw [hm] at p0
        exact least_ns mo c _ _ 0 bs ts ls _ q q a0 a b _ _ _ c0 ca cb w hg h0 ha hb h1 h2 h3 b1 p0 (fun h => by cases h) (fun h => by cases h) (fun _ => hH')
      | none =>
        rw [hm] at p0
        exact least_nn mo c _ _ _ bs ts ls _ ([], 0) ([], 0) a0 a b _ _ _ c0 ca cb w hg h0 ha hb h1 h2 h3 b1 p0 (fun _ => b2 hm) (fun _ => hN hm) (fun _ => hH')
end Go.Proofs.YtbhlbiandelimaaDoor
