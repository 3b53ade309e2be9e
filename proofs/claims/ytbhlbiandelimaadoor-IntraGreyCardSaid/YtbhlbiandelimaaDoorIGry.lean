/- kinlaw10.IntraGrey: the walk. -/
import Derived.Test.YtbhlbiandelimaaDoorISmp
import Derived.Test.YtbhlbiandelimaaDoorIEdg
import Derived.Test.YtbhlbiandelimaaDoorRMay
namespace Go.Proofs.YtbhlbiandelimaaDoor
set_option linter.unusedVariables false
set_option linter.unusedSimpArgs false
open Go.RowKit Go.Extern.Stop Go.Stop Go.Extern

set_option maxHeartbeats 2000000 in
set_option maxRecDepth 20000 in
theorem grey_long (n W H : Int) (a : Option Addr) (m cap : Nat) (w : World) (hg : EtIs w) (hl : 5000 < m) :
    Calls Tryd.prog 8 #[.agg #[.int .i64 W, .int .i64 H, .slice a m cap], .int .i64 n] w fun e w' => e = .returned (.bool true) ∧ Ext w w' := by
  go_enter Tryd.func8, Tryd.ntmps8
  go_wp2_with fail
  refine (first10_any _ (hg.ext (by repeat (first | exact Ext.refl _ | assumption | refine Ext.alloc ?_ _ | refine Ext.drew ?_ | refine Ext.drewN ?_ _ | refine Ext.setCell ?_ (by first | exact Nat.le_refl _ | (simp; done) | omega) _ | refine Ext.trans ?_ (by assumption))))).mono ?_; rintro e w1 ⟨rfl, hx1⟩
  have p0 : w1.cell? ⟨w.heap.size, 0, none⟩ = some (.int .i64 W) := hx1.cell (by simp)
  have p1 : w1.cell? ⟨w.heap.size, 1, none⟩ = some (.int .i64 H) := hx1.cell (by simp)
  have p2 : w1.cell? ⟨w.heap.size, 2, none⟩ = some (.slice a m cap) := hx1.cell (by simp)
  go_wp2_with fail
  refine (first10_any _ (hg.ext (by repeat (first | exact Ext.refl _ | assumption | refine Ext.alloc ?_ _ | refine Ext.drew ?_ | refine Ext.drewN ?_ _ | refine Ext.setCell ?_ (by first | exact Nat.le_refl _ | (simp; done) | omega) _ | refine Ext.trans ?_ (by assumption))))).mono ?_; rintro e w9 ⟨rfl, hx9⟩
  go_wp2
  go_ret
  exact ⟨rfl, (by repeat (first | exact Ext.refl _ | assumption | refine Ext.alloc ?_ _ | refine Ext.drew ?_ | refine Ext.drewN ?_ _ | refine Ext.setCell ?_ (by first | exact Nat.le_refl _ | (simp; done) | omega) _ | refine Ext.trans ?_ (by assumption)))⟩
set_option maxHeartbeats 2000000 in
set_option maxRecDepth 20000 in
theorem grey_no (n W H : Int) (zs : List Int) (a : Option Addr) (m cap : Nat) (w : World) (hg : EtIs w) (h : Ints w (.slice a m cap) zs) (hl : ¬ 5000 < m) (HM : Hid (¬ may W H zs)) :
    Calls Tryd.prog 8 #[.agg #[.int .i64 W, .int .i64 H, .slice a m cap], .int .i64 n] w fun e w' => e = .returned (.bool true) ∧ Ext w w' := by
  have M1 := Lib.hid (fun W' k => rmay_any W H zs a m cap W' k)
  go_enter Tryd.func8, Tryd.ntmps8
  go_wp2_with fail
  refine (first10_any _ (hg.ext (by repeat (first | exact Ext.refl _ | assumption | refine Ext.alloc ?_ _ | refine Ext.drew ?_ | refine Ext.drewN ?_ _ | refine Ext.setCell ?_ (by first | exact Nat.le_refl _ | (simp; done) | omega) _ | refine Ext.trans ?_ (by assumption))))).mono ?_; rintro e w1 ⟨rfl, hx1⟩
  have p0 : w1.cell? ⟨w.heap.size, 0, none⟩ = some (.int .i64 W) := hx1.cell (by simp)
  have p1 : w1.cell? ⟨w.heap.size, 1, none⟩ = some (.int .i64 H) := hx1.cell (by simp)
  have p2 : w1.cell? ⟨w.heap.size, 2, none⟩ = some (.slice a m cap) := hx1.cell (by simp)
  go_wp2_with fail
  refine (M1.out _ (h.ext (by repeat (first | exact Ext.refl _ | assumption | refine Ext.alloc ?_ _ | refine Ext.drew ?_ | refine Ext.drewN ?_ _ | refine Ext.setCell ?_ (by first | exact Nat.le_refl _ | (simp; done) | omega) _ | refine Ext.trans ?_ (by assumption))))).mono ?_; rintro e w2 ⟨rfl, hx2⟩
  rw [decide_eq_false HM.out]
  go_wp2_with fail
  refine (first10_any _ (hg.ext (by repeat (first | exact Ext.refl _ | assumption | refine Ext.alloc ?_ _ | refine Ext.drew ?_ | refine Ext.drewN ?_ _ | refine Ext.setCell ?_ (by first | exact Nat.le_refl _ | (simp; done) | omega) _ | refine Ext.trans ?_ (by assumption))))).mono ?_; rintro e w9 ⟨rfl, hx9⟩
  go_wp2
  go_ret
  exact ⟨rfl, (by repeat (first | exact Ext.refl _ | assumption | refine Ext.alloc ?_ _ | refine Ext.drew ?_ | refine Ext.drewN ?_ _ | refine Ext.setCell ?_ (by first | exact Nat.le_refl _ | (simp; done) | omega) _ | refine Ext.trans ?_ (by assumption)))⟩
set_option maxHeartbeats 2000000 in
set_option maxRecDepth 20000 in
theorem grey_n (n W H : Int) (zs : List Int) (a : Option Addr) (m cap : Nat) (w : World) (hg : EtIs w) (h : Ints w (.slice a m cap) zs) (hl : ¬ 5000 < m) (HM : Hid (may W H zs)) (b1 : (n != 4) = true) (b2 : (n != 8) = true) :
    Calls Tryd.prog 8 #[.agg #[.int .i64 W, .int .i64 H, .slice a m cap], .int .i64 n] w fun e w' => e = .returned (.bool true) ∧ Ext w w' := by
  have M1 := Lib.hid (fun W' k => rmay_any W H zs a m cap W' k)
  go_enter Tryd.func8, Tryd.ntmps8
  go_wp2_with fail
  refine (first10_any _ (hg.ext (by repeat (first | exact Ext.refl _ | assumption | refine Ext.alloc ?_ _ | refine Ext.drew ?_ | refine Ext.drewN ?_ _ | refine Ext.setCell ?_ (by first | exact Nat.le_refl _ | (simp; done) | omega) _ | refine Ext.trans ?_ (by assumption))))).mono ?_; rintro e w1 ⟨rfl, hx1⟩
  have p0 : w1.cell? ⟨w.heap.size, 0, none⟩ = some (.int .i64 W) := hx1.cell (by simp)
  have p1 : w1.cell? ⟨w.heap.size, 1, none⟩ = some (.int .i64 H) := hx1.cell (by simp)
  have p2 : w1.cell? ⟨w.heap.size, 2, none⟩ = some (.slice a m cap) := hx1.cell (by simp)
  go_wp2_with fail
  refine (M1.out _ (h.ext (by repeat (first | exact Ext.refl _ | assumption | refine Ext.alloc ?_ _ | refine Ext.drew ?_ | refine Ext.drewN ?_ _ | refine Ext.setCell ?_ (by first | exact Nat.le_refl _ | (simp; done) | omega) _ | refine Ext.trans ?_ (by assumption))))).mono ?_; rintro e w2 ⟨rfl, hx2⟩
  rw [decide_eq_true HM.out]
  go_wp2_with fail
  refine (first10_any _ (hg.ext (by repeat (first | exact Ext.refl _ | assumption | refine Ext.alloc ?_ _ | refine Ext.drew ?_ | refine Ext.drewN ?_ _ | refine Ext.setCell ?_ (by first | exact Nat.le_refl _ | (simp; done) | omega) _ | refine Ext.trans ?_ (by assumption))))).mono ?_; rintro e w9 ⟨rfl, hx9⟩
  go_wp2
  go_ret
  exact ⟨rfl, (by repeat (first | exact Ext.refl _ | assumption | refine Ext.alloc ?_ _ | refine Ext.drew ?_ | refine Ext.drewN ?_ _ | refine Ext.setCell ?_ (by first | exact Nat.le_refl _ | (simp; done) | omega) _ | refine Ext.trans ?_ (by assumption)))⟩
set_option maxHeartbeats 4000000 in
set_option maxRecDepth 20000 in
theorem grey_4 (W H : Int) (zs : List Int) (a : Option Addr) (m cap : Nat) (w : World) (hg : EtIs w) (h : Ints w (.slice a m cap) zs) (hl : ¬ 5000 < m) (HM : Hid (may W H zs))
    (P : Hid (∀ k : Int, 0 ≤ k ∧ k ≤ 3 → ∀ u u' W, Ints W u (rowL 4 fun _ => 128) → Ints W u' (rowL 4 fun _ => 128) → Calls Tryd.prog 22 #[.int .i64 k, u, u', .int .i64 128] W (ZPost W (rowL (4 * 4) fun _ => 128) none))) :
    Calls Tryd.prog 8 #[.agg #[.int .i64 W, .int .i64 H, .slice a m cap], .int .i64 4] w fun e w' => e = .returned (.bool true) ∧ Ext w w' := by
  have M1 := Lib.hid (fun W' k => rmay_any W H zs a m cap W' k)
  have E1 := Lib.hid (fun W' k => edges_corner_4 W H zs a m cap W' k HM.out)
  go_enter Tryd.func8, Tryd.ntmps8
  go_wp2_with fail
  refine (first10_any _ (hg.ext (by repeat (first | exact Ext.refl _ | assumption | refine Ext.alloc ?_ _ | refine Ext.drew ?_ | refine Ext.drewN ?_ _ | refine Ext.setCell ?_ (by first | exact Nat.le_refl _ | (simp; done) | omega) _ | refine Ext.trans ?_ (by assumption))))).mono ?_; rintro e w1 ⟨rfl, hx1⟩
  have p0 : w1.cell? ⟨w.heap.size, 0, none⟩ = some (.int .i64 W) := hx1.cell (by simp)
  have p1 : w1.cell? ⟨w.heap.size, 1, none⟩ = some (.int .i64 H) := hx1.cell (by simp)
  have p2 : w1.cell? ⟨w.heap.size, 2, none⟩ = some (.slice a m cap) := hx1.cell (by simp)
  go_wp2_with fail
  refine (M1.out _ (h.ext (by repeat (first | exact Ext.refl _ | assumption | refine Ext.alloc ?_ _ | refine Ext.drew ?_ | refine Ext.drewN ?_ _ | refine Ext.setCell ?_ (by first | exact Nat.le_refl _ | (simp; done) | omega) _ | refine Ext.trans ?_ (by assumption))))).mono ?_; rintro e w2 ⟨rfl, hx2⟩
  rw [decide_eq_true HM.out]
  have q0 := hx2.cell p0
  have q1 := hx2.cell p1
  have q2 := hx2.cell p2
  go_wp2_with fail
  refine (E1.out _ (h.ext (by repeat (first | exact Ext.refl _ | assumption | refine Ext.alloc ?_ _ | refine Ext.drew ?_ | refine Ext.drewN ?_ _ | refine Ext.setCell ?_ (by first | exact Nat.le_refl _ | (simp; done) | omega) _ | refine Ext.trans ?_ (by assumption))))).mono ?_; rintro e w3 ⟨u3, v3, rfl, hx3, hz3, hy3⟩
  obtain ⟨a3, c3, e3⟩ := hz3.form
  obtain ⟨a4, c4, e4⟩ := hy3.form
  rw [rowL_length] at e3 e4
  subst e3 e4
  have E3 : Ext w w3 := (by repeat (first | exact Ext.refl _ | assumption | refine Ext.alloc ?_ _ | refine Ext.drew ?_ | refine Ext.drewN ?_ _ | refine Ext.setCell ?_ (by first | exact Nat.le_refl _ | (simp; done) | omega) _ | refine Ext.trans ?_ (by assumption)))
  have HI := Lib.hid hz3
  have HJ := Lib.hid hy3
  clear hx1 hx2 hx3 p0 p1 p2 q0 q1 q2 hz3 hy3
  go_wp2
  go_loopw [8] (fun iv wz => ∃ k : Nat, k ≤ 4 ∧ iv = .int .i64 k ∧ Ext w3 wz) (fun iv _ => 4 - (intOf iv).toNat)
  case atStart => exact ⟨0, Nat.zero_le _, rfl, Ext.refl _⟩
  case round =>
    obtain ⟨k, hk, rfl, hz⟩ := hrel
    by_cases hlt : k < 4
    · have t4 : decide ((k : Int) < 4) = true := decide_eq_true (by omega)
      have P2 := Lib.hid (P.out (k : Int) (by omega))
      go_wp2_with fail
      refine (P2.out _ _ _ (HI.out.ext hz) (HJ.out.ext hz)).mono ?_; rintro e w5 ⟨u5, x5, rfl, hx5, hz5, he5⟩
      obtain rfl : x5 = .nilIface := he5
      obtain ⟨a5, c5, e5⟩ := hz5.form
      rw [rowL_length] at e5
      subst e5
      go_wp2_with fail
      refine (within_any _ 128 128 _ _ hz5).mono ?_; rintro e w6 ⟨rfl, hx6⟩
      rw [decide_eq_true (p := within 128 128 _) (fun x hx => by obtain ⟨j, _, rfl⟩ := rowL_mem hx; exact ⟨Int.le_refl _, Int.le_refl _⟩)]
      have E6 := hz.trans (hx5.trans hx6)
      go_wp2
      go_roundw
      case rel =>
        first
          | exact ⟨k + 1, by omega, by go_num, E6⟩
          | ((repeat apply Exists.intro); exact ⟨⟨k + 1, by omega, by go_num, E6⟩, rfl⟩)
      case measure => simp [intOf]; omega
    · have E7 := E3.trans hz
      go_wp2_with fail
      refine (first10_any _ (hg.ext E7)).mono ?_; rintro e w9 ⟨rfl, hx9⟩
      go_wp2
      go_ret
      exact ⟨rfl, E7.trans hx9⟩
set_option maxHeartbeats 4000000 in
set_option maxRecDepth 20000 in
theorem grey_8 (W H : Int) (zs : List Int) (a : Option Addr) (m cap : Nat) (w : World) (hg : EtIs w) (h : Ints w (.slice a m cap) zs) (hl : ¬ 5000 < m) (HM : Hid (may W H zs))
    (P : Hid (∀ k : Int, 0 ≤ k ∧ k ≤ 3 → ∀ u u' W, Ints W u (rowL 8 fun _ => 128) → Ints W u' (rowL 8 fun _ => 128) → Calls Tryd.prog 22 #[.int .i64 k, u, u', .int .i64 128] W (ZPost W (rowL (8 * 8) fun _ => 128) none))) :
    Calls Tryd.prog 8 #[.agg #[.int .i64 W, .int .i64 H, .slice a m cap], .int .i64 8] w fun e w' => e = .returned (.bool true) ∧ Ext w w' := by
  have M1 := Lib.hid (fun W' k => rmay_any W H zs a m cap W' k)
  have E1 := Lib.hid (fun W' k => edges_corner_8 W H zs a m cap W' k HM.out)
  go_enter Tryd.func8, Tryd.ntmps8
  go_wp2_with fail
  refine (first10_any _ (hg.ext (by repeat (first | exact Ext.refl _ | assumption | refine Ext.alloc ?_ _ | refine Ext.drew ?_ | refine Ext.drewN ?_ _ | refine Ext.setCell ?_ (by first | exact Nat.le_refl _ | (simp; done) | omega) _ | refine Ext.trans ?_ (by assumption))))).mono ?_; rintro e w1 ⟨rfl, hx1⟩
  have p0 : w1.cell? ⟨w.heap.size, 0, none⟩ = some (.int .i64 W) := hx1.cell (by simp)
  have p1 : w1.cell? ⟨w.heap.size, 1, none⟩ = some (.int .i64 H) := hx1.cell (by simp)
  have p2 : w1.cell? ⟨w.heap.size, 2, none⟩ = some (.slice a m cap) := hx1.cell (by simp)
  go_wp2_with fail
  refine (M1.out _ (h.ext (by repeat (first | exact Ext.refl _ | assumption | refine Ext.alloc ?_ _ | refine Ext.drew ?_ | refine Ext.drewN ?_ _ | refine Ext.setCell ?_ (by first | exact Nat.le_refl _ | (simp; done) | omega) _ | refine Ext.trans ?_ (by assumption))))).mono ?_; rintro e w2 ⟨rfl, hx2⟩
  rw [decide_eq_true HM.out]
  have q0 := hx2.cell p0
  have q1 := hx2.cell p1
  have q2 := hx2.cell p2
  go_wp2_with fail
  refine (E1.out _ (h.ext (by repeat (first | exact Ext.refl _ | assumption | refine Ext.alloc ?_ _ | refine Ext.drew ?_ | refine Ext.drewN ?_ _ | refine Ext.setCell ?_ (by first | exact Nat.le_refl _ | (simp; done) | omega) _ | refine Ext.trans ?_ (by assumption))))).mono ?_; rintro e w3 ⟨u3, v3, rfl, hx3, hz3, hy3⟩
  obtain ⟨a3, c3, e3⟩ := hz3.form
  obtain ⟨a4, c4, e4⟩ := hy3.form
  rw [rowL_length] at e3 e4
  subst e3 e4
  have E3 : Ext w w3 := (by repeat (first | exact Ext.refl _ | assumption | refine Ext.alloc ?_ _ | refine Ext.drew ?_ | refine Ext.drewN ?_ _ | refine Ext.setCell ?_ (by first | exact Nat.le_refl _ | (simp; done) | omega) _ | refine Ext.trans ?_ (by assumption)))
  have HI := Lib.hid hz3
  have HJ := Lib.hid hy3
  clear hx1 hx2 hx3 p0 p1 p2 q0 q1 q2 hz3 hy3
  go_wp2
  go_loopw [8] (fun iv wz => ∃ k : Nat, k ≤ 4 ∧ iv = .int .i64 k ∧ Ext w3 wz) (fun iv _ => 4 - (intOf iv).toNat)
  case atStart => exact ⟨0, Nat.zero_le _, rfl, Ext.refl _⟩
  case round =>
    obtain ⟨k, hk, rfl, hz⟩ := hrel
    by_cases hlt : k < 4
    · have t4 : decide ((k : Int) < 4) = true := decide_eq_true (by omega)
      have P2 := Lib.hid (P.out (k : Int) (by omega))
      go_wp2_with fail
      refine (P2.out _ _ _ (HI.out.ext hz) (HJ.out.ext hz)).mono ?_; rintro e w5 ⟨u5, x5, rfl, hx5, hz5, he5⟩
      obtain rfl : x5 = .nilIface := he5
      obtain ⟨a5, c5, e5⟩ := hz5.form
      rw [rowL_length] at e5
      subst e5
      go_wp2_with fail
      refine (within_any _ 128 128 _ _ hz5).mono ?_; rintro e w6 ⟨rfl, hx6⟩
      rw [decide_eq_true (p := within 128 128 _) (fun x hx => by obtain ⟨j, _, rfl⟩ := rowL_mem hx; exact ⟨Int.le_refl _, Int.le_refl _⟩)]
      have E6 := hz.trans (hx5.trans hx6)
      go_wp2
      go_roundw
      case rel =>
        first
          | exact ⟨k + 1, by omega, by go_num, E6⟩
          | ((repeat apply Exists.intro); exact ⟨⟨k + 1, by omega, by go_num, E6⟩, rfl⟩)
      case measure => simp [intOf]; omega
    · have E7 := E3.trans hz
      go_wp2_with fail
      refine (first10_any _ (hg.ext E7)).mono ?_; rintro e w9 ⟨rfl, hx9⟩
      go_wp2
      go_ret
      exact ⟨rfl, E7.trans hx9⟩
theorem grey_law (n W H : Int) (zs : List Int) (v : Value) (w : World) (hg : EtIs w) (hr : Row w v zs.length (zs.map (Value.int .i64))) :
    Calls Tryd.prog 8 #[.agg #[.int .i64 W, .int .i64 H, v], .int .i64 n] w fun e w' => e = .returned (.bool true) ∧ Ext w w' := by
  by_cases hl : 5000 < zs.length
  · obtain ⟨a, cap, rfl⟩ := hr.form
    exact grey_long n W H a _ cap w hg hl
  · have h : Ints w v zs := ⟨hr, by omega⟩
    obtain ⟨a, cap, rfl⟩ := h.form
    have pf : ∀ N, (N = 4 ∨ N = 8) → ∀ k : Int, 0 ≤ k ∧ k ≤ 3 → ∀ u u' W, Ints W u (rowL N fun _ => 128) → Ints W u' (rowL N fun _ => 128) → Calls Tryd.prog 22 #[.int .i64 k, u, u', .int .i64 128] W (ZPost W (rowL (N * N) fun _ => 128) none) := fun N hN k hk u u' W h1 h2 => by
      have := Predict_any k _ _ 128 u u' W h1 h2
      have e : prdAns k (rowL N fun _ => 128) (rowL N fun _ => 128) 128 = none := by unfold prdAns; rw [if_neg (by omega)]; exact flat_chk hN (by decide)
      have e2 : prdV k (rowL N fun _ => 128) (rowL N fun _ => 128) 128 = rowL (N * N) fun _ => 128 := by unfold prdV; rw [e]; exact flat_prd hN (by decide) hk
      rwa [e, e2] at this
    by_cases hm : may W H zs
    · by_cases h4 : n = 4
      · subst h4
        exact grey_4 W H zs a _ cap w hg h hl hm (pf 4 (Or.inl rfl))
      · by_cases h8 : n = 8
        · subst h8
          exact grey_8 W H zs a _ cap w hg h hl hm (pf 8 (Or.inr rfl))
        · exact grey_n n W H zs a _ cap w hg h hl hm (by simpa using h4) (by simpa using h8)
    · exact grey_no n W H zs a _ cap w hg h hl hm
end Go.Proofs.YtbhlbiandelimaaDoor
