/- kinref6.May: its contract over this seat's translation. -/
import Derived.Test.YtkighedghgcdjaaDoorFr
namespace Go.Proofs.YtkighedghgcdjaaDoor
set_option linter.unusedVariables false
set_option linter.unusedSimpArgs false
open Go.RowKit Go.Extern.Stop Go.Stop Go.Extern

set_option maxRecDepth 20000 in
set_option maxHeartbeats 1000000 in
theorem rmay_any (W H : Int) (zs : List Int) (a : Option Addr) (n cap : Nat) (w : World) (h : Ints w (.slice a n cap) zs) :
    Calls Tryd.prog 22 #[.agg #[.int .i64 W, .int .i64 H, .slice a n cap]] w fun e w' => e = .returned (.bool (decide (may W H zs))) ∧ Ext w w' := by
  have E1 : Ext w (w.alloc (.cells #[.int .i64 W, .int .i64 H, .slice a n cap] 24)) := (Ext.refl w).alloc _
  have HN := Lib.hid h.len
  cases hs : sideB W with
  | false =>
    have HR : Hid (decide (may W H zs) = false) := by show _ = _; simp [may, hs]
    go_enter Tryd.func22, Tryd.ntmps22
    go_wp2_with (go_at_call 55; refine (rside_any _ _).mono ?_; rintro e w' ⟨rfl, rfl⟩)
    go_ret
    exact ⟨by rw [HR.out]; rfl, E1⟩
  | true =>
    cases ht : sideB H with
    | false =>
      have HR : Hid (decide (may W H zs) = false) := by show _ = _; simp [may, ht]
      go_enter Tryd.func22, Tryd.ntmps22
      go_wp2_with (go_at_call 55; refine (rside_any _ _).mono ?_; rintro e w' ⟨rfl, rfl⟩)
      go_ret
      exact ⟨by rw [HR.out]; rfl, E1⟩
    | true =>
      obtain ⟨b1, b2⟩ := side_area hs ht
      by_cases hl : (n : Int) = W * H
      · have hl2 : ((n : Int) == W * H) = true := by simpa using hl
        have HW := Lib.hid (within_any zs 0 255)
        have HR : Hid (decide (may W H zs) = decide (within 0 255 zs)) := by
          show _ = _
          rw [decide_eq_decide]
          exact ⟨fun k => k.2.2.2, fun k => ⟨hs, ht, by rw [← HN.out]; exact hl, k⟩⟩
        clear hl
        cases hd : decide (within 0 255 zs) with
        | true =>
          rw [hd] at HR HW
          clear hd
          go_enter Tryd.func22, Tryd.ntmps22
          go_wp2_with (go_at_call 55; refine (rside_any _ _).mono ?_; rintro e w' ⟨rfl, rfl⟩)
          refine (HW.out _ _ (h.ext (by repeat (first | exact Ext.refl _ | assumption | refine Ext.alloc ?_ _ | refine Ext.drew ?_ | refine Ext.drewN ?_ _ | refine Ext.setCell ?_ (by first | exact Nat.le_refl _ | (simp; done) | omega) _ | refine Ext.trans ?_ (by assumption))))).mono ?_; rintro e w2 ⟨rfl, hx2⟩
          go_wp2
          go_ret
          exact ⟨by rw [HR.out]; rfl, (by repeat (first | exact Ext.refl _ | assumption | refine Ext.alloc ?_ _ | refine Ext.drew ?_ | refine Ext.drewN ?_ _ | refine Ext.setCell ?_ (by first | exact Nat.le_refl _ | (simp; done) | omega) _ | refine Ext.trans ?_ (by assumption)))⟩
        | false =>
          rw [hd] at HR HW
          clear hd
          go_enter Tryd.func22, Tryd.ntmps22
          go_wp2_with (go_at_call 55; refine (rside_any _ _).mono ?_; rintro e w' ⟨rfl, rfl⟩)
          refine (HW.out _ _ (h.ext (by repeat (first | exact Ext.refl _ | assumption | refine Ext.alloc ?_ _ | refine Ext.drew ?_ | refine Ext.drewN ?_ _ | refine Ext.setCell ?_ (by first | exact Nat.le_refl _ | (simp; done) | omega) _ | refine Ext.trans ?_ (by assumption))))).mono ?_; rintro e w2 ⟨rfl, hx2⟩
          go_wp2
          go_ret
          exact ⟨by rw [HR.out]; rfl, (by repeat (first | exact Ext.refl _ | assumption | refine Ext.alloc ?_ _ | refine Ext.drew ?_ | refine Ext.drewN ?_ _ | refine Ext.setCell ?_ (by first | exact Nat.le_refl _ | (simp; done) | omega) _ | refine Ext.trans ?_ (by assumption)))⟩
      · have HR : Hid (decide (may W H zs) = false) := by show _ = _; rw [decide_eq_false (fun hm => hl (by rw [HN.out]; exact hm.2.2.1))]
        have hl2 : ((n : Int) == W * H) = false := by simpa using hl
        clear hl
        go_enter Tryd.func22, Tryd.ntmps22
        go_wp2_with (go_at_call 55; refine (rside_any _ _).mono ?_; rintro e w' ⟨rfl, rfl⟩)
        go_ret
        exact ⟨by rw [HR.out]; rfl, E1⟩
theorem place_in {W H x y : Int} {n : Nat} (hW : W ≤ 32) (hH : H ≤ 32) (hn : (n : Int) = W * H) (hx : x < W) (hy : y < H) : 0 ≤ x → 0 ≤ y → 0 ≤ y * W ∧ y * W ≤ 100000 ∧ y * W + x < n := fun h1 h2 => by
  have a1 : 0 ≤ y * W := Int.mul_nonneg h2 (by omega)
  have a2 : (y + 1) * W ≤ H * W := Int.mul_le_mul_of_nonneg_right (by omega) (by omega)
  have a3 : H * W ≤ 32 * 32 := Int.mul_le_mul hH hW (by omega) (by omega)
  have a4 : (y + 1) * W = y * W + W := by rw [Int.add_mul, Int.one_mul]
  have a5 : W * H = H * W := Int.mul_comm _ _
  omega
end Go.Proofs.YtkighedghgcdjaaDoor
