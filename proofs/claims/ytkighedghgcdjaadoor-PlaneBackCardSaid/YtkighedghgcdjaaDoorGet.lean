/- plane.isNear, plane.Get; kinref6.Get: contracts over this seat's translation. -/
import Derived.Test.YtkighedghgcdjaaDoorPlA
namespace Go.Proofs.YtkighedghgcdjaaDoor
set_option linter.unusedVariables false
set_option linter.unusedSimpArgs false
open Go.RowKit Go.Extern.Stop Go.Stop Go.Extern

def nearB (x : Int) : Bool := decide (-65536 ≤ x) && decide (x ≤ 65536)
theorem near_any (x : Int) (w : World) : Calls Tryd.prog 69 #[.int .i64 x] w fun e w' => e = .returned (.bool (nearB x)) ∧ w = w' := by
  by_cases h1 : -65536 ≤ x
  · by_cases h2 : x ≤ 65536
    · have H : Hid (nearB x = true) := by show _ = _; unfold nearB; simp [h1, h2]
      go_enter Tryd.func69, Tryd.ntmps69
      go_wp2
      go_ret
      exact ⟨by rw [H.out]; rfl, rfl⟩
    · have H : Hid (nearB x = false) := by show _ = _; unfold nearB; simp [h2]
      go_enter Tryd.func69, Tryd.ntmps69
      go_wp2
      go_ret
      exact ⟨by rw [H.out]; rfl, rfl⟩
  · have H : Hid (nearB x = false) := by show _ = _; unfold nearB; simp [h1]
    go_enter Tryd.func69, Tryd.ntmps69
    go_wp2
    go_ret
    exact ⟨by rw [H.out]; rfl, rfl⟩
/-- a square out of a frame -/
def getF (W H : Int) (zs : List Int) (x y : Int) (N k : Nat) : Int := atV W H zs (x + ((k % N : Nat) : Int)) (y + ((k / N : Nat) : Int))
def getOk (W H : Int) (zs : List Int) (x y n : Int) : Prop := may W H zs ∧ (1 ≤ n ∧ n ≤ 8) ∧ nearB x = true ∧ nearB y = true
instance (W H : Int) (zs : List Int) (x y n : Int) : Decidable (getOk W H zs x y n) := by unfold getOk; exact inferInstance
def getL (W H : Int) (zs : List Int) (x y n : Int) : List Int := if getOk W H zs x y n then rowL (n.toNat * n.toNat) (getF W H zs x y n.toNat) else []
theorem sq_small {N : Nat} (h : N ≤ 8) : N * N ≤ 64 := Nat.mul_le_mul h h
theorem get_at {N i : Nat} (W H : Int) (zs : List Int) (x y : Int) (j : Nat) (hi : i < N) : getF W H zs x y N (j * N + i) = atV W H zs (x + (i : Int)) (y + (j : Int)) := by
  unfold getF
  have e1 : (j * N + i) % N = i := by rw [Nat.add_comm, Nat.add_mul_mod_self_right, Nat.mod_eq_of_lt hi]
  have e2 : (j * N + i) / N = j := by rw [Nat.add_comm, Nat.add_mul_div_right _ _ (by omega), Nat.div_eq_of_lt hi, Nat.zero_add]
  rw [e1, e2]
/-- a frame's three cells -/
def FrB3 (w : World) (b : Nat) (W H : Int) (v : Value) : Prop := w.cell? ⟨b, 0, none⟩ = some (.int .i64 W) ∧ w.cell? ⟨b, 1, none⟩ = some (.int .i64 H) ∧ w.cell? ⟨b, 2, none⟩ = some v
theorem FrB3.ext {w w' : World} {b : Nat} {W H : Int} {v : Value} (h : FrB3 w b W H v) (k : Ext w w') : FrB3 w' b W H v := ⟨k.cell h.1, k.cell h.2.1, k.cell h.2.2⟩
theorem FrB3.new (w : World) (W H : Int) (v : Value) : FrB3 (w.alloc (.cells #[.int .i64 W, .int .i64 H, v] 24)) w.heap.size W H v := ⟨by simp, by simp, by simp⟩
set_option maxHeartbeats 4000000 in
set_option maxRecDepth 20000 in
theorem get_ok (W H x y : Int) (N : Nat) (zs : List Int) (a : Option Addr) (n cap : Nat) (w : World) (h : Ints w (.slice a n cap) zs) (hm : may W H zs) (hN : 1 ≤ N ∧ N ≤ 8) (hx : -65536 ≤ x ∧ x ≤ 65536) (hy : -65536 ≤ y ∧ y ≤ 65536) :
    Calls Tryd.prog 36 #[.agg #[.int .i64 W, .int .i64 H, .slice a n cap], .int .i64 x, .int .i64 y, .int .i64 (N : Int)] w fun e w' => ∃ u, e = .returned u ∧ Ext w w' ∧ Ints w' u (rowL (N * N) (getF W H zs x y N)) := by
  obtain ⟨i0, hi, hz0, hz1, hz2⟩ := info_parts infoInt
  have M1 := Lib.hid (fun w h => may_any W H zs a n cap w h)
  have A1 := Lib.hid (fun (w : World) (x y : Int) (h : Ints w (.slice a n cap) zs) => at_any W H x y zs a n cap w h hm)
  have H1 := Lib.hid hm
  obtain ⟨hN1, hN2⟩ := hN
  obtain ⟨hx1, hx2⟩ := hx
  obtain ⟨hy1, hy2⟩ := hy
  have hs := sq_small hN2
  have g1 : nearB x = true := by unfold nearB; simp; omega
  have g2 : nearB y = true := by unfold nearB; simp; omega
  have e1 : IntKind.i64.wrap ((N : Int) * (N : Int)) = ((N * N : Nat) : Int) := by rw [IntKind.wrap_i64]; push_cast; have := Int.ofNat_le.2 hs; push_cast at this; omega
  clear hm
  go_enter Tryd.func36, Tryd.ntmps36
  go_wp2_with fail
  refine (M1.out _ (h.ext (by repeat (first | exact Ext.refl _ | assumption | refine Ext.alloc ?_ _ | refine Ext.drew ?_ | refine Ext.drewN ?_ _ | refine Ext.setCell ?_ (by first | exact Nat.le_refl _ | (simp; done) | omega) _ | refine Ext.trans ?_ (by assumption))))).mono ?_; rintro e w1 ⟨rfl, hx1'⟩
  rw [decide_eq_true H1.out]
  have FB := Lib.hid ((FrB3.new w W H (.slice a n cap)).ext hx1')
  have E1 : Ext w w1 := (by repeat (first | exact Ext.refl _ | assumption | refine Ext.alloc ?_ _ | refine Ext.drew ?_ | refine Ext.drewN ?_ _ | refine Ext.setCell ?_ (by first | exact Nat.le_refl _ | (simp; done) | omega) _ | refine Ext.trans ?_ (by assumption)))
  clear hx1'
  go_wp2_with (first | (go_at_call 69; refine (near_any _ _).mono ?_; rintro e w' ⟨rfl, rfl⟩) | (at_make; refine wpList_make_own _ rfl _ _ 22 rfl w1.heap.size 3 i0 (.int .i64 0) 1 Tryd.underlying22 hi hz0 hz1 .i64 .i64 _ (N * N) rfl rfl rfl (by rw [hz2]; omega) (by unfold maxLen; omega) (Nat.le_refl _) ?_; intro w2 hown hgrow))
  have hE2 : Ext w1 w2 := Below.grown (Below.refl _ _) hgrow (Nat.le_refl _) (fun k hk => by cases hk)
  clear hgrow hi hz0 hz1 hz2
  go_loopw [9, 38] (fun bv jv wr => ∃ j : Nat, j ≤ N ∧ jv = .int .i64 j ∧ Hid (wr.ownsRow w1.heap.size 3 1 bv (j * N) ((rowL (j * N) (getF W H zs x y N)).map (Value.int .i64))) ∧ Ext w1 wr) (fun _ jv _ => N - (intOf jv).toNat)
  case atStart => exact ⟨0, Nat.zero_le _, rfl, by show World.ownsRow _ _ _ _ _ _ _; rw [Nat.zero_mul]; exact hown, hE2⟩
  case round =>
    clear hown hE2
    obtain ⟨j, hj, rfl, HO, hE⟩ := hrel
    by_cases hlt : j < N
    · have t1 : decide ((j : Int) < (N : Int)) = true := decide_eq_true (by omega)
      go_wp2_with fail
      go_loopw [9, 42] (fun bv iv wr => ∃ i : Nat, i ≤ N ∧ iv = .int .i64 i ∧ Hid (wr.ownsRow w1.heap.size 3 1 bv (j * N + i) ((rowL (j * N + i) (getF W H zs x y N)).map (Value.int .i64))) ∧ Ext w1 wr) (fun _ iv _ => N - (intOf iv).toNat)
      case atStart => exact ⟨0, Nat.zero_le _, rfl, by simpa using HO, hE⟩
      case round =>
        clear HO hE
        obtain ⟨i, hi, rfl, HO, hE⟩ := hrel
        obtain ⟨p0, p1, p2⟩ := FB.out.ext hE
        by_cases hit : i < N
        · have d1 : IntKind.i64.wrap (x + (i : Int)) = x + (i : Int) := by rw [IntKind.wrap_i64]; omega
          have d2 : IntKind.i64.wrap (y + (j : Int)) = y + (j : Int) := by rw [IntKind.wrap_i64]; omega
          have HS := Lib.hid (get_at W H zs x y j hit)
          have hsm : j * N + i ≤ 1000 := by
            have := Nat.mul_le_mul hj hN2
            omega
          go_wp2_with fail
          refine (A1.out _ (x + i) (y + j) (h.ext (E1.trans hE))).mono ?_; rintro e w5 ⟨rfl, hx5⟩
          have HO5 := Lib.hid (own_ext HO.out hx5)
          have E5 : Ext w1 w5 := hE.trans hx5
          have B5 := E5.size
          clear HO hE hx5 p0 p1 p2
          go_wp2_with (at_builtin; refine push_int rfl _ _ 22 rfl Tryd.underlying22 _ _ _ _ rfl HO5.out (by show Value.slice (some ⟨w5.heap.size, 0, none⟩) 1 1 = _; simp) B5 (by omega) ?_; intro v' w7 h1 h2)
          have E7 : Ext w1 w7 := E5.of_below h2 (Nat.le_refl _)
          have HO7 := Lib.hid h1
          clear h1 h2
          go_roundw
          case rel => exact ⟨i + 1, by omega, by go_num, by
            show World.ownsRow _ _ _ _ _ _ _
            rw [← Nat.add_assoc, rowL_sn, HS.out]
            exact HO7.out, E7⟩
          case measure => simp [intOf]; omega
        · obtain rfl : i = N := by omega
          go_wp2
          go_roundw
          case rel => exact ⟨j + 1, by omega, by go_num, by
            show World.ownsRow _ _ _ _ _ _ _
            rw [Nat.succ_mul]
            exact HO.out, hE⟩
          case measure => simp [intOf]; omega
    · obtain rfl : j = N := by omega
      go_wp2
      go_ret
      exact ⟨_, rfl, E1.trans hE, Ints.of_row HO.out (by omega)⟩
set_option maxHeartbeats 4000000 in
set_option maxRecDepth 20000 in
theorem rget_ok (W H x y : Int) (N : Nat) (zs : List Int) (a : Option Addr) (n cap : Nat) (w : World) (h : Ints w (.slice a n cap) zs) (hm : may W H zs) (hN : 1 ≤ N ∧ N ≤ 8) (hx : -65536 ≤ x ∧ x ≤ 65536) (hy : -65536 ≤ y ∧ y ≤ 65536) :
    Calls Tryd.prog 37 #[.agg #[.int .i64 W, .int .i64 H, .slice a n cap], .int .i64 x, .int .i64 y, .int .i64 (N : Int)] w fun e w' => ∃ u, e = .returned u ∧ Ext w w' ∧ Ints w' u (rowL (N * N) (getF W H zs x y N)) := by
  have M1 := Lib.hid (fun w h => rmay_any W H zs a n cap w h)
  have A1 := Lib.hid (fun (w : World) (x y : Int) (h : Ints w (.slice a n cap) zs) => rat_any W H x y zs a n cap w h hm)
  have H1 := Lib.hid hm
  obtain ⟨hN1, hN2⟩ := hN
  obtain ⟨hx1, hx2⟩ := hx
  obtain ⟨hy1, hy2⟩ := hy
  have hs := sq_small hN2
  have g1 : nearB x = true := by unfold nearB; simp; omega
  have g2 : nearB y = true := by unfold nearB; simp; omega
  have e1 : IntKind.i64.wrap ((N : Int) * (N : Int)) = ((N * N : Nat) : Int) := by rw [IntKind.wrap_i64]; push_cast; have := Int.ofNat_le.2 hs; push_cast at this; omega
  clear hm
  go_enter Tryd.func37, Tryd.ntmps37
  go_wp2_with fail
  refine (M1.out _ (h.ext (by repeat (first | exact Ext.refl _ | assumption | refine Ext.alloc ?_ _ | refine Ext.drew ?_ | refine Ext.drewN ?_ _ | refine Ext.setCell ?_ (by first | exact Nat.le_refl _ | (simp; done) | omega) _ | refine Ext.trans ?_ (by assumption))))).mono ?_; rintro e w1 ⟨rfl, hx1'⟩
  rw [decide_eq_true H1.out]
  have FB := Lib.hid ((FrB3.new w W H (.slice a n cap)).ext hx1')
  have E1 : Ext w w1 := (by repeat (first | exact Ext.refl _ | assumption | refine Ext.alloc ?_ _ | refine Ext.drew ?_ | refine Ext.drewN ?_ _ | refine Ext.setCell ?_ (by first | exact Nat.le_refl _ | (simp; done) | omega) _ | refine Ext.trans ?_ (by assumption)))
  clear hx1'
  go_wp2_with fail
  go_loopw [9, 10] (fun bv jv wr => ∃ j : Nat, j ≤ N ∧ jv = .int .i64 j ∧ Hid (wr.ownsRow w1.heap.size 3 1 bv (j * N) ((rowL (j * N) (getF W H zs x y N)).map (Value.int .i64))) ∧ Ext w1 wr) (fun _ jv _ => N - (intOf jv).toNat)
  case atStart => exact ⟨0, Nat.zero_le _, rfl, by show World.ownsRow _ _ _ _ _ _ _; rw [Nat.zero_mul]; exact World.ownsRow_nil _ _ _ _, Ext.refl _⟩
  case round =>
    obtain ⟨j, hj, rfl, HO, hE⟩ := hrel
    by_cases hlt : j < N
    · have t1 : decide ((j : Int) < (N : Int)) = true := decide_eq_true (by omega)
      go_wp2_with fail
      go_loopw [9, 11] (fun bv iv wr => ∃ i : Nat, i ≤ N ∧ iv = .int .i64 i ∧ Hid (wr.ownsRow w1.heap.size 3 1 bv (j * N + i) ((rowL (j * N + i) (getF W H zs x y N)).map (Value.int .i64))) ∧ Ext w1 wr) (fun _ iv _ => N - (intOf iv).toNat)
      case atStart => exact ⟨0, Nat.zero_le _, rfl, by simpa using HO, hE⟩
      case round =>
        clear HO hE
        obtain ⟨i, hi, rfl, HO, hE⟩ := hrel
        obtain ⟨p0, p1, p2⟩ := FB.out.ext hE
        by_cases hit : i < N
        · have d1 : IntKind.i64.wrap (x + (i : Int)) = x + (i : Int) := by rw [IntKind.wrap_i64]; omega
          have d2 : IntKind.i64.wrap (y + (j : Int)) = y + (j : Int) := by rw [IntKind.wrap_i64]; omega
          have HS := Lib.hid (get_at W H zs x y j hit)
          have hsm : j * N + i ≤ 1000 := by
            have := Nat.mul_le_mul hj hN2
            omega
          go_wp2_with fail
          refine (A1.out _ (x + i) (y + j) (h.ext (E1.trans hE))).mono ?_; rintro e w5 ⟨rfl, hx5⟩
          have HO5 := Lib.hid (own_ext HO.out hx5)
          have E5 : Ext w1 w5 := hE.trans hx5
          have B5 := E5.size
          clear HO hE hx5 p0 p1 p2
          go_wp2_with (at_builtin; refine push_int rfl _ _ 22 rfl Tryd.underlying22 _ _ _ _ rfl HO5.out (by show Value.slice (some ⟨w5.heap.size, 0, none⟩) 1 1 = _; simp) B5 (by omega) ?_; intro v' w7 h1 h2)
          have E7 : Ext w1 w7 := E5.of_below h2 (Nat.le_refl _)
          have HO7 := Lib.hid h1
          clear h1 h2
          go_roundw
          case rel => exact ⟨i + 1, by omega, by go_num, by
            show World.ownsRow _ _ _ _ _ _ _
            rw [← Nat.add_assoc, rowL_sn, HS.out]
            exact HO7.out, E7⟩
          case measure => simp [intOf]; omega
        · obtain rfl : i = N := by omega
          go_wp2
          go_roundw
          case rel => exact ⟨j + 1, by omega, by go_num, by
            show World.ownsRow _ _ _ _ _ _ _
            rw [Nat.succ_mul]
            exact HO.out, hE⟩
          case measure => simp [intOf]; omega
    · obtain rfl : j = N := by omega
      go_wp2
      go_ret
      exact ⟨_, rfl, E1.trans hE, Ints.of_row HO.out (by omega)⟩
set_option maxHeartbeats 2000000 in
set_option maxRecDepth 20000 in
theorem get_no (W H x y i : Int) (zs : List Int) (a : Option Addr) (n cap : Nat) (w : World) (h : Ints w (.slice a n cap) zs) (hm : ¬ getOk W H zs x y i) :
    Calls Tryd.prog 36 #[.agg #[.int .i64 W, .int .i64 H, .slice a n cap], .int .i64 x, .int .i64 y, .int .i64 i] w fun e w' => ∃ u, e = .returned u ∧ Ext w w' ∧ Ints w' u [] := by
  have M1 := Lib.hid (fun w h => may_any W H zs a n cap w h)
  by_cases h1 : may W H zs
  · have H1 := Lib.hid h1
    have hb : ¬ ((1 ≤ i ∧ i ≤ 8) ∧ (-65536 ≤ x ∧ x ≤ 65536) ∧ -65536 ≤ y ∧ y ≤ 65536) := fun ⟨k1, k2, k3⟩ => hm ⟨h1, k1, by unfold nearB; simp; omega, by unfold nearB; simp; omega⟩
    clear hm h1
    by_cases c1 : i < 1
    · clear hb
      go_enter Tryd.func36, Tryd.ntmps36
      go_wp2_with fail
      refine (M1.out _ (h.ext (by repeat (first | exact Ext.refl _ | assumption | refine Ext.alloc ?_ _ | refine Ext.drew ?_ | refine Ext.drewN ?_ _ | refine Ext.setCell ?_ (by first | exact Nat.le_refl _ | (simp; done) | omega) _ | refine Ext.trans ?_ (by assumption))))).mono ?_; rintro e w1 ⟨rfl, hx1'⟩
      rw [decide_eq_true H1.out]
      go_wp2_with (go_at_call 69; refine (near_any _ _).mono ?_; rintro e w' ⟨rfl, rfl⟩)
      go_ret
      exact ⟨_, rfl, (by repeat (first | exact Ext.refl _ | assumption | refine Ext.alloc ?_ _ | refine Ext.drew ?_ | refine Ext.drewN ?_ _ | refine Ext.setCell ?_ (by first | exact Nat.le_refl _ | (simp; done) | omega) _ | refine Ext.trans ?_ (by assumption))), Ints.nil _⟩
    · by_cases c2 : 8 < i
      · clear hb
        go_enter Tryd.func36, Tryd.ntmps36
        go_wp2_with fail
        refine (M1.out _ (h.ext (by repeat (first | exact Ext.refl _ | assumption | refine Ext.alloc ?_ _ | refine Ext.drew ?_ | refine Ext.drewN ?_ _ | refine Ext.setCell ?_ (by first | exact Nat.le_refl _ | (simp; done) | omega) _ | refine Ext.trans ?_ (by assumption))))).mono ?_; rintro e w1 ⟨rfl, hx1'⟩
        rw [decide_eq_true H1.out]
        go_wp2_with (go_at_call 69; refine (near_any _ _).mono ?_; rintro e w' ⟨rfl, rfl⟩)
        go_ret
        exact ⟨_, rfl, (by repeat (first | exact Ext.refl _ | assumption | refine Ext.alloc ?_ _ | refine Ext.drew ?_ | refine Ext.drewN ?_ _ | refine Ext.setCell ?_ (by first | exact Nat.le_refl _ | (simp; done) | omega) _ | refine Ext.trans ?_ (by assumption))), Ints.nil _⟩
      · by_cases c3 : x < -65536
        · have g1 : nearB x = false := by unfold nearB; simp; omega
          clear hb
          go_enter Tryd.func36, Tryd.ntmps36
          go_wp2_with fail
          refine (M1.out _ (h.ext (by repeat (first | exact Ext.refl _ | assumption | refine Ext.alloc ?_ _ | refine Ext.drew ?_ | refine Ext.drewN ?_ _ | refine Ext.setCell ?_ (by first | exact Nat.le_refl _ | (simp; done) | omega) _ | refine Ext.trans ?_ (by assumption))))).mono ?_; rintro e w1 ⟨rfl, hx1'⟩
          rw [decide_eq_true H1.out]
          go_wp2_with (go_at_call 69; refine (near_any _ _).mono ?_; rintro e w' ⟨rfl, rfl⟩)
          go_ret
          exact ⟨_, rfl, (by repeat (first | exact Ext.refl _ | assumption | refine Ext.alloc ?_ _ | refine Ext.drew ?_ | refine Ext.drewN ?_ _ | refine Ext.setCell ?_ (by first | exact Nat.le_refl _ | (simp; done) | omega) _ | refine Ext.trans ?_ (by assumption))), Ints.nil _⟩
        · by_cases c4 : 65536 < x
          · have g1 : nearB x = false := by unfold nearB; simp; omega
            clear hb
            go_enter Tryd.func36, Tryd.ntmps36
            go_wp2_with fail
            refine (M1.out _ (h.ext (by repeat (first | exact Ext.refl _ | assumption | refine Ext.alloc ?_ _ | refine Ext.drew ?_ | refine Ext.drewN ?_ _ | refine Ext.setCell ?_ (by first | exact Nat.le_refl _ | (simp; done) | omega) _ | refine Ext.trans ?_ (by assumption))))).mono ?_; rintro e w1 ⟨rfl, hx1'⟩
            rw [decide_eq_true H1.out]
            go_wp2_with (go_at_call 69; refine (near_any _ _).mono ?_; rintro e w' ⟨rfl, rfl⟩)
            go_ret
            exact ⟨_, rfl, (by repeat (first | exact Ext.refl _ | assumption | refine Ext.alloc ?_ _ | refine Ext.drew ?_ | refine Ext.drewN ?_ _ | refine Ext.setCell ?_ (by first | exact Nat.le_refl _ | (simp; done) | omega) _ | refine Ext.trans ?_ (by assumption))), Ints.nil _⟩
          · have g1 : nearB x = true := by unfold nearB; simp; omega
            by_cases c5 : y < -65536
            · have g2 : nearB y = false := by unfold nearB; simp; omega
              clear hb
              go_enter Tryd.func36, Tryd.ntmps36
              go_wp2_with fail
              refine (M1.out _ (h.ext (by repeat (first | exact Ext.refl _ | assumption | refine Ext.alloc ?_ _ | refine Ext.drew ?_ | refine Ext.drewN ?_ _ | refine Ext.setCell ?_ (by first | exact Nat.le_refl _ | (simp; done) | omega) _ | refine Ext.trans ?_ (by assumption))))).mono ?_; rintro e w1 ⟨rfl, hx1'⟩
              rw [decide_eq_true H1.out]
              go_wp2_with (go_at_call 69; refine (near_any _ _).mono ?_; rintro e w' ⟨rfl, rfl⟩)
              go_ret
              exact ⟨_, rfl, (by repeat (first | exact Ext.refl _ | assumption | refine Ext.alloc ?_ _ | refine Ext.drew ?_ | refine Ext.drewN ?_ _ | refine Ext.setCell ?_ (by first | exact Nat.le_refl _ | (simp; done) | omega) _ | refine Ext.trans ?_ (by assumption))), Ints.nil _⟩
            · have c6 : 65536 < y := by omega
              have g2 : nearB y = false := by unfold nearB; simp; omega
              clear hb
              go_enter Tryd.func36, Tryd.ntmps36
              go_wp2_with fail
              refine (M1.out _ (h.ext (by repeat (first | exact Ext.refl _ | assumption | refine Ext.alloc ?_ _ | refine Ext.drew ?_ | refine Ext.drewN ?_ _ | refine Ext.setCell ?_ (by first | exact Nat.le_refl _ | (simp; done) | omega) _ | refine Ext.trans ?_ (by assumption))))).mono ?_; rintro e w1 ⟨rfl, hx1'⟩
              rw [decide_eq_true H1.out]
              go_wp2_with (go_at_call 69; refine (near_any _ _).mono ?_; rintro e w' ⟨rfl, rfl⟩)
              go_ret
              exact ⟨_, rfl, (by repeat (first | exact Ext.refl _ | assumption | refine Ext.alloc ?_ _ | refine Ext.drew ?_ | refine Ext.drewN ?_ _ | refine Ext.setCell ?_ (by first | exact Nat.le_refl _ | (simp; done) | omega) _ | refine Ext.trans ?_ (by assumption))), Ints.nil _⟩
  · have H1 := Lib.hid h1
    clear hm h1
    go_enter Tryd.func36, Tryd.ntmps36
    go_wp2_with fail
    refine (M1.out _ (h.ext (by repeat (first | exact Ext.refl _ | assumption | refine Ext.alloc ?_ _ | refine Ext.drew ?_ | refine Ext.drewN ?_ _ | refine Ext.setCell ?_ (by first | exact Nat.le_refl _ | (simp; done) | omega) _ | refine Ext.trans ?_ (by assumption))))).mono ?_; rintro e w1 ⟨rfl, hx1'⟩
    rw [decide_eq_false H1.out]
    go_wp2
    go_ret
    exact ⟨_, rfl, (by repeat (first | exact Ext.refl _ | assumption | refine Ext.alloc ?_ _ | refine Ext.drew ?_ | refine Ext.drewN ?_ _ | refine Ext.setCell ?_ (by first | exact Nat.le_refl _ | (simp; done) | omega) _ | refine Ext.trans ?_ (by assumption))), Ints.nil _⟩
theorem get_any (W H x y i : Int) (zs : List Int) (a : Option Addr) (n cap : Nat) (w : World) (h : Ints w (.slice a n cap) zs) :
    Calls Tryd.prog 36 #[.agg #[.int .i64 W, .int .i64 H, .slice a n cap], .int .i64 x, .int .i64 y, .int .i64 i] w fun e w' => ∃ u, e = .returned u ∧ Ext w w' ∧ Ints w' u (getL W H zs x y i) := by
  unfold getL
  by_cases ho : getOk W H zs x y i
  · rw [if_pos ho]
    obtain ⟨h1, h2, h3, h4⟩ := ho
    unfold nearB at h3 h4
    simp only [Bool.and_eq_true, decide_eq_true_eq] at h3 h4
    obtain ⟨N, rfl⟩ : ∃ N : Nat, i = (N : Int) := ⟨i.toNat, by omega⟩
    exact get_ok W H x y N zs a n cap w h h1 (by omega) h3 h4
  · rw [if_neg ho]
    exact get_no W H x y i zs a n cap w h ho
set_option maxHeartbeats 2000000 in
set_option maxRecDepth 20000 in
theorem rget_no (W H x y i : Int) (zs : List Int) (a : Option Addr) (n cap : Nat) (w : World) (h : Ints w (.slice a n cap) zs) (hm : ¬ getOk W H zs x y i) :
    Calls Tryd.prog 37 #[.agg #[.int .i64 W, .int .i64 H, .slice a n cap], .int .i64 x, .int .i64 y, .int .i64 i] w fun e w' => ∃ u, e = .returned u ∧ Ext w w' ∧ Ints w' u [] := by
  have M1 := Lib.hid (fun w h => rmay_any W H zs a n cap w h)
  by_cases h1 : may W H zs
  · have H1 := Lib.hid h1
    have hb : ¬ ((1 ≤ i ∧ i ≤ 8) ∧ (-65536 ≤ x ∧ x ≤ 65536) ∧ -65536 ≤ y ∧ y ≤ 65536) := fun ⟨k1, k2, k3⟩ => hm ⟨h1, k1, by unfold nearB; simp; omega, by unfold nearB; simp; omega⟩
    clear hm h1
    by_cases c1 : i < 1
    · clear hb
      go_enter Tryd.func37, Tryd.ntmps37
      go_wp2_with fail
      refine (M1.out _ (h.ext (by repeat (first | exact Ext.refl _ | assumption | refine Ext.alloc ?_ _ | refine Ext.drew ?_ | refine Ext.drewN ?_ _ | refine Ext.setCell ?_ (by first | exact Nat.le_refl _ | (simp; done) | omega) _ | refine Ext.trans ?_ (by assumption))))).mono ?_; rintro e w1 ⟨rfl, hx1'⟩
      rw [decide_eq_true H1.out]
      go_wp2
      go_ret
      exact ⟨_, rfl, (by repeat (first | exact Ext.refl _ | assumption | refine Ext.alloc ?_ _ | refine Ext.drew ?_ | refine Ext.drewN ?_ _ | refine Ext.setCell ?_ (by first | exact Nat.le_refl _ | (simp; done) | omega) _ | refine Ext.trans ?_ (by assumption))), Ints.nil _⟩
    · by_cases c2 : 8 < i
      · clear hb
        go_enter Tryd.func37, Tryd.ntmps37
        go_wp2_with fail
        refine (M1.out _ (h.ext (by repeat (first | exact Ext.refl _ | assumption | refine Ext.alloc ?_ _ | refine Ext.drew ?_ | refine Ext.drewN ?_ _ | refine Ext.setCell ?_ (by first | exact Nat.le_refl _ | (simp; done) | omega) _ | refine Ext.trans ?_ (by assumption))))).mono ?_; rintro e w1 ⟨rfl, hx1'⟩
        rw [decide_eq_true H1.out]
        go_wp2
        go_ret
        exact ⟨_, rfl, (by repeat (first | exact Ext.refl _ | assumption | refine Ext.alloc ?_ _ | refine Ext.drew ?_ | refine Ext.drewN ?_ _ | refine Ext.setCell ?_ (by first | exact Nat.le_refl _ | (simp; done) | omega) _ | refine Ext.trans ?_ (by assumption))), Ints.nil _⟩
      · by_cases c3 : x < -65536
        · have g1 : nearB x = false := by unfold nearB; simp; omega
          clear hb
          go_enter Tryd.func37, Tryd.ntmps37
          go_wp2_with fail
          refine (M1.out _ (h.ext (by repeat (first | exact Ext.refl _ | assumption | refine Ext.alloc ?_ _ | refine Ext.drew ?_ | refine Ext.drewN ?_ _ | refine Ext.setCell ?_ (by first | exact Nat.le_refl _ | (simp; done) | omega) _ | refine Ext.trans ?_ (by assumption))))).mono ?_; rintro e w1 ⟨rfl, hx1'⟩
          rw [decide_eq_true H1.out]
          go_wp2
          go_ret
          exact ⟨_, rfl, (by repeat (first | exact Ext.refl _ | assumption | refine Ext.alloc ?_ _ | refine Ext.drew ?_ | refine Ext.drewN ?_ _ | refine Ext.setCell ?_ (by first | exact Nat.le_refl _ | (simp; done) | omega) _ | refine Ext.trans ?_ (by assumption))), Ints.nil _⟩
        · by_cases c4 : 65536 < x
          · have g1 : nearB x = false := by unfold nearB; simp; omega
            clear hb
            go_enter Tryd.func37, Tryd.ntmps37
            go_wp2_with fail
            refine (M1.out _ (h.ext (by repeat (first | exact Ext.refl _ | assumption | refine Ext.alloc ?_ _ | refine Ext.drew ?_ | refine Ext.drewN ?_ _ | refine Ext.setCell ?_ (by first | exact Nat.le_refl _ | (simp; done) | omega) _ | refine Ext.trans ?_ (by assumption))))).mono ?_; rintro e w1 ⟨rfl, hx1'⟩
            rw [decide_eq_true H1.out]
            go_wp2
            go_ret
            exact ⟨_, rfl, (by repeat (first | exact Ext.refl _ | assumption | refine Ext.alloc ?_ _ | refine Ext.drew ?_ | refine Ext.drewN ?_ _ | refine Ext.setCell ?_ (by first | exact Nat.le_refl _ | (simp; done) | omega) _ | refine Ext.trans ?_ (by assumption))), Ints.nil _⟩
          · have g1 : nearB x = true := by unfold nearB; simp; omega
            by_cases c5 : y < -65536
            · have g2 : nearB y = false := by unfold nearB; simp; omega
              clear hb
              go_enter Tryd.func37, Tryd.ntmps37
              go_wp2_with fail
              refine (M1.out _ (h.ext (by repeat (first | exact Ext.refl _ | assumption | refine Ext.alloc ?_ _ | refine Ext.drew ?_ | refine Ext.drewN ?_ _ | refine Ext.setCell ?_ (by first | exact Nat.le_refl _ | (simp; done) | omega) _ | refine Ext.trans ?_ (by assumption))))).mono ?_; rintro e w1 ⟨rfl, hx1'⟩
              rw [decide_eq_true H1.out]
              go_wp2
              go_ret
              exact ⟨_, rfl, (by repeat (first | exact Ext.refl _ | assumption | refine Ext.alloc ?_ _ | refine Ext.drew ?_ | refine Ext.drewN ?_ _ | refine Ext.setCell ?_ (by first | exact Nat.le_refl _ | (simp; done) | omega) _ | refine Ext.trans ?_ (by assumption))), Ints.nil _⟩
            · have c6 : 65536 < y := by omega
              have g2 : nearB y = false := by unfold nearB; simp; omega
              clear hb
              go_enter Tryd.func37, Tryd.ntmps37
              go_wp2_with fail
              refine (M1.out _ (h.ext (by repeat (first | exact Ext.refl _ | assumption | refine Ext.alloc ?_ _ | refine Ext.drew ?_ | refine Ext.drewN ?_ _ | refine Ext.setCell ?_ (by first | exact Nat.le_refl _ | (simp; done) | omega) _ | refine Ext.trans ?_ (by assumption))))).mono ?_; rintro e w1 ⟨rfl, hx1'⟩
              rw [decide_eq_true H1.out]
              go_wp2
              go_ret
              exact ⟨_, rfl, (by repeat (first | exact Ext.refl _ | assumption | refine Ext.alloc ?_ _ | refine Ext.drew ?_ | refine Ext.drewN ?_ _ | refine Ext.setCell ?_ (by first | exact Nat.le_refl _ | (simp; done) | omega) _ | refine Ext.trans ?_ (by assumption))), Ints.nil _⟩
  · have H1 := Lib.hid h1
    clear hm h1
    go_enter Tryd.func37, Tryd.ntmps37
    go_wp2_with fail
    refine (M1.out _ (h.ext (by repeat (first | exact Ext.refl _ | assumption | refine Ext.alloc ?_ _ | refine Ext.drew ?_ | refine Ext.drewN ?_ _ | refine Ext.setCell ?_ (by first | exact Nat.le_refl _ | (simp; done) | omega) _ | refine Ext.trans ?_ (by assumption))))).mono ?_; rintro e w1 ⟨rfl, hx1'⟩
    rw [decide_eq_false H1.out]
    go_wp2
    go_ret
    exact ⟨_, rfl, (by repeat (first | exact Ext.refl _ | assumption | refine Ext.alloc ?_ _ | refine Ext.drew ?_ | refine Ext.drewN ?_ _ | refine Ext.setCell ?_ (by first | exact Nat.le_refl _ | (simp; done) | omega) _ | refine Ext.trans ?_ (by assumption))), Ints.nil _⟩
theorem rget_any (W H x y i : Int) (zs : List Int) (a : Option Addr) (n cap : Nat) (w : World) (h : Ints w (.slice a n cap) zs) :
    Calls Tryd.prog 37 #[.agg #[.int .i64 W, .int .i64 H, .slice a n cap], .int .i64 x, .int .i64 y, .int .i64 i] w fun e w' => ∃ u, e = .returned u ∧ Ext w w' ∧ Ints w' u (getL W H zs x y i) := by
  unfold getL
  by_cases ho : getOk W H zs x y i
  · rw [if_pos ho]
    obtain ⟨h1, h2, h3, h4⟩ := ho
    unfold nearB at h3 h4
    simp only [Bool.and_eq_true, decide_eq_true_eq] at h3 h4
    obtain ⟨N, rfl⟩ : ∃ N : Nat, i = (N : Int) := ⟨i.toNat, by omega⟩
    exact rget_ok W H x y N zs a n cap w h h1 (by omega) h3 h4
  · rw [if_neg ho]
    exact rget_no W H x y i zs a n cap w h ho
end Go.Proofs.YtkighedghgcdjaaDoor
