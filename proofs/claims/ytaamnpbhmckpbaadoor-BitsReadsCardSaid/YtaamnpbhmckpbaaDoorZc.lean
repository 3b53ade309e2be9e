/- Contracts of this seat: Mo8, Mo5, Unl, Fms, PlN, RNew, AppRow, Grp, Grp2, Of, WtM, Wt1, Wt2, St4, Wt3, Mo6. -/
import Derived.Test.YtaamnpbhmckpbaaDoorZb
import Derived.Deep.AppendLies
import Derived.Deep.RegionHeld3
import Derived.Laws.Rows
import Derived.Deep.RegionWith
import Derived.BigRegion
import Derived.BigQuiet
/- motion.Block, kinref11.Block: contracts at all arguments over this seat's translation. -/
namespace Go.Proofs.YtaamnpbhmckpbaaDoor
set_option linter.unusedVariables false
set_option linter.unusedSimpArgs false
open Go.RowKit Go.Extern.Stop Go.Stop Go.Extern

/-- does a moved square lie where one may be taken -/
def movOk (W H : Int) (zs : List Int) (x y n vx vy : Int) : Prop := may W H zs ∧ (n = 4 ∨ n = 8) ∧ (0 ≤ x ∧ x ≤ 32) ∧ (0 ≤ y ∧ y ≤ 32) ∧ vecB vx vy = true
instance (W H : Int) (zs : List Int) (x y n vx vy : Int) : Decidable (movOk W H zs x y n vx vy) := by unfold movOk; infer_instance
def movL (W H : Int) (zs : List Int) (x y n vx vy : Int) : List Int := if movOk W H zs x y n vx vy then rowL (n.toNat * n.toNat) (mvF W H zs x y vx vy n.toNat) else []
set_option maxHeartbeats 4000000 in
set_option maxRecDepth 20000 in
theorem mblock_no (W H x y i vx vy : Int) (zs : List Int) (a : Option Addr) (n cap : Nat) (w : World) (h : Ints w (.slice a n cap) zs) (hm : ¬ movOk W H zs x y i vx vy) :
    Calls Tryd.prog 42 #[.agg #[.int .i64 W, .int .i64 H, .slice a n cap], .int .i64 x, .int .i64 y, .int .i64 i, .agg #[.int .i64 vx, .int .i64 vy]] w fun e w' => ∃ u, e = .returned u ∧ Ext w w' ∧ Ints w' u [] := by
  have M1 := Lib.hid (fun w h => may_any W H zs a n cap w h)
  have B1 := Lib.hid (fun w => vec_any vx vy w)
  by_cases h1 : may W H zs
  · have H1 := Lib.hid h1
    by_cases c1 : i = 4
    · have hb : ¬ ((0 ≤ x ∧ x ≤ 32) ∧ 0 ≤ y ∧ y ≤ 32 ∧ vecB vx vy = true) := fun ⟨k1, k2, k3, k4⟩ => hm ⟨h1, .inl c1, k1, ⟨k2, k3⟩, k4⟩
      clear hm h1
      subst c1
      by_cases c3 : x < 0
      · clear hb
        go_enter Tryd.func42, Tryd.ntmps42
        go_wp2_with fail
        refine (M1.out _ (h.ext (by repeat (first | exact Ext.refl _ | assumption | refine Ext.alloc ?_ _ | refine Ext.drew ?_ | refine Ext.drewN ?_ _ | refine Ext.setCell ?_ (by first | exact Nat.le_refl _ | (simp; done) | omega) _ | refine Ext.trans ?_ (by assumption))))).mono ?_; rintro e w1 ⟨rfl, hx1'⟩
        rw [decide_eq_true H1.out]
        go_wp2
        go_ret
        exact ⟨_, rfl, (by repeat (first | exact Ext.refl _ | assumption | refine Ext.alloc ?_ _ | refine Ext.drew ?_ | refine Ext.drewN ?_ _ | refine Ext.setCell ?_ (by first | exact Nat.le_refl _ | (simp; done) | omega) _ | refine Ext.trans ?_ (by assumption))), Ints.nil _⟩
      · by_cases c4 : 32 < x
        · clear hb
          go_enter Tryd.func42, Tryd.ntmps42
          go_wp2_with fail
          refine (M1.out _ (h.ext (by repeat (first | exact Ext.refl _ | assumption | refine Ext.alloc ?_ _ | refine Ext.drew ?_ | refine Ext.drewN ?_ _ | refine Ext.setCell ?_ (by first | exact Nat.le_refl _ | (simp; done) | omega) _ | refine Ext.trans ?_ (by assumption))))).mono ?_; rintro e w1 ⟨rfl, hx1'⟩
          rw [decide_eq_true H1.out]
          go_wp2
          go_ret
          exact ⟨_, rfl, (by repeat (first | exact Ext.refl _ | assumption | refine Ext.alloc ?_ _ | refine Ext.drew ?_ | refine Ext.drewN ?_ _ | refine Ext.setCell ?_ (by first | exact Nat.le_refl _ | (simp; done) | omega) _ | refine Ext.trans ?_ (by assumption))), Ints.nil _⟩
        · by_cases c5 : y < 0
          · clear hb
            go_enter Tryd.func42, Tryd.ntmps42
            go_wp2_with fail
            refine (M1.out _ (h.ext (by repeat (first | exact Ext.refl _ | assumption | refine Ext.alloc ?_ _ | refine Ext.drew ?_ | refine Ext.drewN ?_ _ | refine Ext.setCell ?_ (by first | exact Nat.le_refl _ | (simp; done) | omega) _ | refine Ext.trans ?_ (by assumption))))).mono ?_; rintro e w1 ⟨rfl, hx1'⟩
            rw [decide_eq_true H1.out]
            go_wp2
            go_ret
            exact ⟨_, rfl, (by repeat (first | exact Ext.refl _ | assumption | refine Ext.alloc ?_ _ | refine Ext.drew ?_ | refine Ext.drewN ?_ _ | refine Ext.setCell ?_ (by first | exact Nat.le_refl _ | (simp; done) | omega) _ | refine Ext.trans ?_ (by assumption))), Ints.nil _⟩
          · by_cases c6 : 32 < y
            · clear hb
              go_enter Tryd.func42, Tryd.ntmps42
              go_wp2_with fail
              refine (M1.out _ (h.ext (by repeat (first | exact Ext.refl _ | assumption | refine Ext.alloc ?_ _ | refine Ext.drew ?_ | refine Ext.drewN ?_ _ | refine Ext.setCell ?_ (by first | exact Nat.le_refl _ | (simp; done) | omega) _ | refine Ext.trans ?_ (by assumption))))).mono ?_; rintro e w1 ⟨rfl, hx1'⟩
              rw [decide_eq_true H1.out]
              go_wp2
              go_ret
              exact ⟨_, rfl, (by repeat (first | exact Ext.refl _ | assumption | refine Ext.alloc ?_ _ | refine Ext.drew ?_ | refine Ext.drewN ?_ _ | refine Ext.setCell ?_ (by first | exact Nat.le_refl _ | (simp; done) | omega) _ | refine Ext.trans ?_ (by assumption))), Ints.nil _⟩
            · have g2 : vecB vx vy = false := by
                cases hc : vecB vx vy with
                | false => rfl
                | true => exact absurd ⟨by omega, by omega, by omega, hc⟩ hb
              have V1 := Lib.hid g2
              clear hb g2
              obtain ⟨F0, G0⟩ := FrBox.vec w W H vx vy (.slice a n cap)
              have E0 : Ext w ((w.alloc (.cells #[.int .i64 W, .int .i64 H, .slice a n cap] 67)).alloc (.cells #[.int .i64 vx, .int .i64 vy] 69)) := (by repeat (first | exact Ext.refl _ | assumption | refine Ext.alloc ?_ _ | refine Ext.drew ?_ | refine Ext.drewN ?_ _ | refine Ext.setCell ?_ (by first | exact Nat.le_refl _ | (simp; done) | omega) _ | refine Ext.trans ?_ (by assumption)))
              go_enter Tryd.func42, Tryd.ntmps42
              go_wp2_with fail
              revert F0 G0 E0
              generalize (w.alloc (.cells #[.int .i64 W, .int .i64 H, .slice a n cap] 67)).alloc (.cells #[.int .i64 vx, .int .i64 vy] 69) = w0
              intro F0 G0 E0
              have GB := Lib.hid G0
              clear F0 G0
              refine (M1.out _ (h.ext E0)).mono ?_; rintro e w1 ⟨rfl, hx1'⟩
              rw [decide_eq_true H1.out]
              obtain ⟨q0, q1⟩ := GB.out.ext hx1'
              have E1 := E0.trans hx1'
              clear E0 hx1'
              go_wp2_with fail
              refine (B1.out _).mono ?_; rintro e w2 ⟨rfl, hx2'⟩
              rw [V1.out]
              go_wp2
              go_ret
              exact ⟨_, rfl, E1.trans hx2', Ints.nil _⟩
    · by_cases c2 : i = 8
      · have hb : ¬ ((0 ≤ x ∧ x ≤ 32) ∧ 0 ≤ y ∧ y ≤ 32 ∧ vecB vx vy = true) := fun ⟨k1, k2, k3, k4⟩ => hm ⟨h1, .inr c2, k1, ⟨k2, k3⟩, k4⟩
        clear hm h1 c1
        subst c2
        by_cases c3 : x < 0
        · clear hb
          go_enter Tryd.func42, Tryd.ntmps42
          go_wp2_with fail
          refine (M1.out _ (h.ext (by repeat (first | exact Ext.refl _ | assumption | refine Ext.alloc ?_ _ | refine Ext.drew ?_ | refine Ext.drewN ?_ _ | refine Ext.setCell ?_ (by first | exact Nat.le_refl _ | (simp; done) | omega) _ | refine Ext.trans ?_ (by assumption))))).mono ?_; rintro e w1 ⟨rfl, hx1'⟩
          rw [decide_eq_true H1.out]
          go_wp2
          go_ret
          exact ⟨_, rfl, (by repeat (first | exact Ext.refl _ | assumption | refine Ext.alloc ?_ _ | refine Ext.drew ?_ | refine Ext.drewN ?_ _ | refine Ext.setCell ?_ (by first | exact Nat.le_refl _ | (simp; done) | omega) _ | refine Ext.trans ?_ (by assumption))), Ints.nil _⟩
        · by_cases c4 : 32 < x
          · clear hb
            go_enter Tryd.func42, Tryd.ntmps42
            go_wp2_with fail
            refine (M1.out _ (h.ext (by repeat (first | exact Ext.refl _ | assumption | refine Ext.alloc ?_ _ | refine Ext.drew ?_ | refine Ext.drewN ?_ _ | refine Ext.setCell ?_ (by first | exact Nat.le_refl _ | (simp; done) | omega) _ | refine Ext.trans ?_ (by assumption))))).mono ?_; rintro e w1 ⟨rfl, hx1'⟩
            rw [decide_eq_true H1.out]
            go_wp2
            go_ret
            exact ⟨_, rfl, (by repeat (first | exact Ext.refl _ | assumption | refine Ext.alloc ?_ _ | refine Ext.drew ?_ | refine Ext.drewN ?_ _ | refine Ext.setCell ?_ (by first | exact Nat.le_refl _ | (simp; done) | omega) _ | refine Ext.trans ?_ (by assumption))), Ints.nil _⟩
          · by_cases c5 : y < 0
            · clear hb
              go_enter Tryd.func42, Tryd.ntmps42
              go_wp2_with fail
              refine (M1.out _ (h.ext (by repeat (first | exact Ext.refl _ | assumption | refine Ext.alloc ?_ _ | refine Ext.drew ?_ | refine Ext.drewN ?_ _ | refine Ext.setCell ?_ (by first | exact Nat.le_refl _ | (simp; done) | omega) _ | refine Ext.trans ?_ (by assumption))))).mono ?_; rintro e w1 ⟨rfl, hx1'⟩
              rw [decide_eq_true H1.out]
              go_wp2
              go_ret
              exact ⟨_, rfl, (by repeat (first | exact Ext.refl _ | assumption | refine Ext.alloc ?_ _ | refine Ext.drew ?_ | refine Ext.drewN ?_ _ | refine Ext.setCell ?_ (by first | exact Nat.le_refl _ | (simp; done) | omega) _ | refine Ext.trans ?_ (by assumption))), Ints.nil _⟩
            · by_cases c6 : 32 < y
              · clear hb
                go_enter Tryd.func42, Tryd.ntmps42
                go_wp2_with fail
                refine (M1.out _ (h.ext (by repeat (first | exact Ext.refl _ | assumption | refine Ext.alloc ?_ _ | refine Ext.drew ?_ | refine Ext.drewN ?_ _ | refine Ext.setCell ?_ (by first | exact Nat.le_refl _ | (simp; done) | omega) _ | refine Ext.trans ?_ (by assumption))))).mono ?_; rintro e w1 ⟨rfl, hx1'⟩
                rw [decide_eq_true H1.out]
                go_wp2
                go_ret
                exact ⟨_, rfl, (by repeat (first | exact Ext.refl _ | assumption | refine Ext.alloc ?_ _ | refine Ext.drew ?_ | refine Ext.drewN ?_ _ | refine Ext.setCell ?_ (by first | exact Nat.le_refl _ | (simp; done) | omega) _ | refine Ext.trans ?_ (by assumption))), Ints.nil _⟩
              · have g2 : vecB vx vy = false := by
                  cases hc : vecB vx vy with
                  | false => rfl
                  | true => exact absurd ⟨by omega, by omega, by omega, hc⟩ hb
                have V1 := Lib.hid g2
                clear hb g2
                obtain ⟨F0, G0⟩ := FrBox.vec w W H vx vy (.slice a n cap)
                have E0 : Ext w ((w.alloc (.cells #[.int .i64 W, .int .i64 H, .slice a n cap] 67)).alloc (.cells #[.int .i64 vx, .int .i64 vy] 69)) := (by repeat (first | exact Ext.refl _ | assumption | refine Ext.alloc ?_ _ | refine Ext.drew ?_ | refine Ext.drewN ?_ _ | refine Ext.setCell ?_ (by first | exact Nat.le_refl _ | (simp; done) | omega) _ | refine Ext.trans ?_ (by assumption)))
                go_enter Tryd.func42, Tryd.ntmps42
                go_wp2_with fail
                revert F0 G0 E0
                generalize (w.alloc (.cells #[.int .i64 W, .int .i64 H, .slice a n cap] 67)).alloc (.cells #[.int .i64 vx, .int .i64 vy] 69) = w0
                intro F0 G0 E0
                have GB := Lib.hid G0
                clear F0 G0
                refine (M1.out _ (h.ext E0)).mono ?_; rintro e w1 ⟨rfl, hx1'⟩
                rw [decide_eq_true H1.out]
                obtain ⟨q0, q1⟩ := GB.out.ext hx1'
                have E1 := E0.trans hx1'
                clear E0 hx1'
                go_wp2_with fail
                refine (B1.out _).mono ?_; rintro e w2 ⟨rfl, hx2'⟩
                rw [V1.out]
                go_wp2
                go_ret
                exact ⟨_, rfl, E1.trans hx2', Ints.nil _⟩
      · have hb := True.intro
        clear hm h1
        clear hb
        go_enter Tryd.func42, Tryd.ntmps42
        go_wp2_with fail
        refine (M1.out _ (h.ext (by repeat (first | exact Ext.refl _ | assumption | refine Ext.alloc ?_ _ | refine Ext.drew ?_ | refine Ext.drewN ?_ _ | refine Ext.setCell ?_ (by first | exact Nat.le_refl _ | (simp; done) | omega) _ | refine Ext.trans ?_ (by assumption))))).mono ?_; rintro e w1 ⟨rfl, hx1'⟩
        rw [decide_eq_true H1.out]
        go_wp2
        go_ret
        exact ⟨_, rfl, (by repeat (first | exact Ext.refl _ | assumption | refine Ext.alloc ?_ _ | refine Ext.drew ?_ | refine Ext.drewN ?_ _ | refine Ext.setCell ?_ (by first | exact Nat.le_refl _ | (simp; done) | omega) _ | refine Ext.trans ?_ (by assumption))), Ints.nil _⟩
  · have H1 := Lib.hid h1
    clear hm h1
    go_enter Tryd.func42, Tryd.ntmps42
    go_wp2_with fail
    refine (M1.out _ (h.ext (by repeat (first | exact Ext.refl _ | assumption | refine Ext.alloc ?_ _ | refine Ext.drew ?_ | refine Ext.drewN ?_ _ | refine Ext.setCell ?_ (by first | exact Nat.le_refl _ | (simp; done) | omega) _ | refine Ext.trans ?_ (by assumption))))).mono ?_; rintro e w1 ⟨rfl, hx1'⟩
    rw [decide_eq_false H1.out]
    go_wp2
    go_ret
    exact ⟨_, rfl, (by repeat (first | exact Ext.refl _ | assumption | refine Ext.alloc ?_ _ | refine Ext.drew ?_ | refine Ext.drewN ?_ _ | refine Ext.setCell ?_ (by first | exact Nat.le_refl _ | (simp; done) | omega) _ | refine Ext.trans ?_ (by assumption))), Ints.nil _⟩
theorem mblock_any (W H x y i vx vy : Int) (zs : List Int) (a : Option Addr) (n cap : Nat) (w : World) (h : Ints w (.slice a n cap) zs) :
    Calls Tryd.prog 42 #[.agg #[.int .i64 W, .int .i64 H, .slice a n cap], .int .i64 x, .int .i64 y, .int .i64 i, .agg #[.int .i64 vx, .int .i64 vy]] w fun e w' => ∃ u, e = .returned u ∧ Ext w w' ∧ Ints w' u (movL W H zs x y i vx vy) := by
  unfold movL
  by_cases ho : movOk W H zs x y i vx vy
  · rw [if_pos ho]
    obtain ⟨h1, h2, h3, h4, h5⟩ := ho
    rcases h2 with rfl | rfl
    · exact mblock_4 W H x y vx vy zs a n cap w h h1 h5 h3 h4
    · exact mblock_8 W H x y vx vy zs a n cap w h h1 h5 h3 h4
  · rw [if_neg ho]
    exact mblock_no W H x y i vx vy zs a n cap w h ho
set_option maxHeartbeats 4000000 in
set_option maxRecDepth 20000 in
theorem rblock_no (W H x y i vx vy : Int) (zs : List Int) (a : Option Addr) (n cap : Nat) (w : World) (h : Ints w (.slice a n cap) zs) (hm : ¬ movOk W H zs x y i vx vy) :
    Calls Tryd.prog 43 #[.agg #[.int .i64 W, .int .i64 H, .slice a n cap], .int .i64 x, .int .i64 y, .int .i64 i, .agg #[.int .i64 vx, .int .i64 vy]] w fun e w' => ∃ u, e = .returned u ∧ Ext w w' ∧ Ints w' u [] := by
  have M1 := Lib.hid (fun w h => rmay_any W H zs a n cap w h)
  have B1 := Lib.hid (fun w => rvec_any vx vy w)
  by_cases h1 : may W H zs
  · have H1 := Lib.hid h1
    by_cases c1 : i = 4
    · have hb : ¬ ((0 ≤ x ∧ x ≤ 32) ∧ 0 ≤ y ∧ y ≤ 32 ∧ vecB vx vy = true) := fun ⟨k1, k2, k3, k4⟩ => hm ⟨h1, .inl c1, k1, ⟨k2, k3⟩, k4⟩
      clear hm h1
      subst c1
      by_cases c3 : x < 0
      · clear hb
        go_enter Tryd.func43, Tryd.ntmps43
        go_wp2_with fail
        refine (M1.out _ (h.ext (by repeat (first | exact Ext.refl _ | assumption | refine Ext.alloc ?_ _ | refine Ext.drew ?_ | refine Ext.drewN ?_ _ | refine Ext.setCell ?_ (by first | exact Nat.le_refl _ | (simp; done) | omega) _ | refine Ext.trans ?_ (by assumption))))).mono ?_; rintro e w1 ⟨rfl, hx1'⟩
        rw [decide_eq_true H1.out]
        go_wp2
        go_ret
        exact ⟨_, rfl, (by repeat (first | exact Ext.refl _ | assumption | refine Ext.alloc ?_ _ | refine Ext.drew ?_ | refine Ext.drewN ?_ _ | refine Ext.setCell ?_ (by first | exact Nat.le_refl _ | (simp; done) | omega) _ | refine Ext.trans ?_ (by assumption))), Ints.nil _⟩
      · by_cases c4 : 32 < x
        · clear hb
          go_enter Tryd.func43, Tryd.ntmps43
          go_wp2_with fail
          refine (M1.out _ (h.ext (by repeat (first | exact Ext.refl _ | assumption | refine Ext.alloc ?_ _ | refine Ext.drew ?_ | refine Ext.drewN ?_ _ | refine Ext.setCell ?_ (by first | exact Nat.le_refl _ | (simp; done) | omega) _ | refine Ext.trans ?_ (by assumption))))).mono ?_; rintro e w1 ⟨rfl, hx1'⟩
          rw [decide_eq_true H1.out]
          go_wp2
          go_ret
          exact ⟨_, rfl, (by repeat (first | exact Ext.refl _ | assumption | refine Ext.alloc ?_ _ | refine Ext.drew ?_ | refine Ext.drewN ?_ _ | refine Ext.setCell ?_ (by first | exact Nat.le_refl _ | (simp; done) | omega) _ | refine Ext.trans ?_ (by assumption))), Ints.nil _⟩
        · by_cases c5 : y < 0
          · clear hb
            go_enter Tryd.func43, Tryd.ntmps43
            go_wp2_with fail
            refine (M1.out _ (h.ext (by repeat (first | exact Ext.refl _ | assumption | refine Ext.alloc ?_ _ | refine Ext.drew ?_ | refine Ext.drewN ?_ _ | refine Ext.setCell ?_ (by first | exact Nat.le_refl _ | (simp; done) | omega) _ | refine Ext.trans ?_ (by assumption))))).mono ?_; rintro e w1 ⟨rfl, hx1'⟩
            rw [decide_eq_true H1.out]
            go_wp2
            go_ret
            exact ⟨_, rfl, (by repeat (first | exact Ext.refl _ | assumption | refine Ext.alloc ?_ _ | refine Ext.drew ?_ | refine Ext.drewN ?_ _ | refine Ext.setCell ?_ (by first | exact Nat.le_refl _ | (simp; done) | omega) _ | refine Ext.trans ?_ (by assumption))), Ints.nil _⟩
          · by_cases c6 : 32 < y
            · clear hb
              go_enter Tryd.func43, Tryd.ntmps43
              go_wp2_with fail
              refine (M1.out _ (h.ext (by repeat (first | exact Ext.refl _ | assumption | refine Ext.alloc ?_ _ | refine Ext.drew ?_ | refine Ext.drewN ?_ _ | refine Ext.setCell ?_ (by first | exact Nat.le_refl _ | (simp; done) | omega) _ | refine Ext.trans ?_ (by assumption))))).mono ?_; rintro e w1 ⟨rfl, hx1'⟩
              rw [decide_eq_true H1.out]
              go_wp2
              go_ret
              exact ⟨_, rfl, (by repeat (first | exact Ext.refl _ | assumption | refine Ext.alloc ?_ _ | refine Ext.drew ?_ | refine Ext.drewN ?_ _ | refine Ext.setCell ?_ (by first | exact Nat.le_refl _ | (simp; done) | omega) _ | refine Ext.trans ?_ (by assumption))), Ints.nil _⟩
            · have g2 : vecB vx vy = false := by
                cases hc : vecB vx vy with
                | false => rfl
                | true => exact absurd ⟨by omega, by omega, by omega, hc⟩ hb
              have V1 := Lib.hid g2
              clear hb g2
              obtain ⟨F0, G0⟩ := FrBox.vec w W H vx vy (.slice a n cap)
              have E0 : Ext w ((w.alloc (.cells #[.int .i64 W, .int .i64 H, .slice a n cap] 67)).alloc (.cells #[.int .i64 vx, .int .i64 vy] 69)) := (by repeat (first | exact Ext.refl _ | assumption | refine Ext.alloc ?_ _ | refine Ext.drew ?_ | refine Ext.drewN ?_ _ | refine Ext.setCell ?_ (by first | exact Nat.le_refl _ | (simp; done) | omega) _ | refine Ext.trans ?_ (by assumption)))
              go_enter Tryd.func43, Tryd.ntmps43
              go_wp2_with fail
              revert F0 G0 E0
              generalize (w.alloc (.cells #[.int .i64 W, .int .i64 H, .slice a n cap] 67)).alloc (.cells #[.int .i64 vx, .int .i64 vy] 69) = w0
              intro F0 G0 E0
              have GB := Lib.hid G0
              clear F0 G0
              refine (M1.out _ (h.ext E0)).mono ?_; rintro e w1 ⟨rfl, hx1'⟩
              rw [decide_eq_true H1.out]
              obtain ⟨q0, q1⟩ := GB.out.ext hx1'
              have E1 := E0.trans hx1'
              clear E0 hx1'
              go_wp2_with fail
              refine (B1.out _).mono ?_; rintro e w2 ⟨rfl, hx2'⟩
              rw [V1.out]
              go_wp2
              go_ret
              exact ⟨_, rfl, E1.trans hx2', Ints.nil _⟩
    · by_cases c2 : i = 8
      · have hb : ¬ ((0 ≤ x ∧ x ≤ 32) ∧ 0 ≤ y ∧ y ≤ 32 ∧ vecB vx vy = true) := fun ⟨k1, k2, k3, k4⟩ => hm ⟨h1, .inr c2, k1, ⟨k2, k3⟩, k4⟩
        clear hm h1 c1
        subst c2
        by_cases c3 : x < 0
        · clear hb
          go_enter Tryd.func43, Tryd.ntmps43
          go_wp2_with fail
          refine (M1.out _ (h.ext (by repeat (first | exact Ext.refl _ | assumption | refine Ext.alloc ?_ _ | refine Ext.drew ?_ | refine Ext.drewN ?_ _ | refine Ext.setCell ?_ (by first | exact Nat.le_refl _ | (simp; done) | omega) _ | refine Ext.trans ?_ (by assumption))))).mono ?_; rintro e w1 ⟨rfl, hx1'⟩
          rw [decide_eq_true H1.out]
          go_wp2
          go_ret
          exact ⟨_, rfl, (by repeat (first | exact Ext.refl _ | assumption | refine Ext.alloc ?_ _ | refine Ext.drew ?_ | refine Ext.drewN ?_ _ | refine Ext.setCell ?_ (by first | exact Nat.le_refl _ | (simp; done) | omega) _ | refine Ext.trans ?_ (by assumption))), Ints.nil _⟩
        · by_cases c4 : 32 < x
          · clear hb
            go_enter Tryd.func43, Tryd.ntmps43
            go_wp2_with fail
            refine (M1.out _ (h.ext (by repeat (first | exact Ext.refl _ | assumption | refine Ext.alloc ?_ _ | refine Ext.drew ?_ | refine Ext.drewN ?_ _ | refine Ext.setCell ?_ (by first | exact Nat.le_refl _ | (simp; done) | omega) _ | refine Ext.trans ?_ (by assumption))))).mono ?_; rintro e w1 ⟨rfl, hx1'⟩
            rw [decide_eq_true H1.out]
            go_wp2
            go_ret
            exact ⟨_, rfl, (by repeat (first | exact Ext.refl _ | assumption | refine Ext.alloc ?_ _ | refine Ext.drew ?_ | refine Ext.drewN ?_ _ | refine Ext.setCell ?_ (by first | exact Nat.le_refl _ | (simp; done) | omega) _ | refine Ext.trans ?_ (by assumption))), Ints.nil _⟩
          · by_cases c5 : y < 0
            · clear hb
              go_enter Tryd.func43, Tryd.ntmps43
              go_wp2_with fail
              refine (M1.out _ (h.ext (by repeat (first | exact Ext.refl _ | assumption | refine Ext.alloc ?_ _ | refine Ext.drew ?_ | refine Ext.drewN ?_ _ | refine Ext.setCell ?_ (by first | exact Nat.le_refl _ | (simp; done) | omega) _ | refine Ext.trans ?_ (by assumption))))).mono ?_; rintro e w1 ⟨rfl, hx1'⟩
              rw [decide_eq_true H1.out]
              go_wp2
              go_ret
              exact ⟨_, rfl, (by repeat (first | exact Ext.refl _ | assumption | refine Ext.alloc ?_ _ | refine Ext.drew ?_ | refine Ext.drewN ?_ _ | refine Ext.setCell ?_ (by first | exact Nat.le_refl _ | (simp; done) | omega) _ | refine Ext.trans ?_ (by assumption))), Ints.nil _⟩
            · by_cases c6 : 32 < y
              · clear hb
                go_enter Tryd.func43, Tryd.ntmps43
                go_wp2_with fail
                refine (M1.out _ (h.ext (by repeat (first | exact Ext.refl _ | assumption | refine Ext.alloc ?_ _ | refine Ext.drew ?_ | refine Ext.drewN ?_ _ | refine Ext.setCell ?_ (by first | exact Nat.le_refl _ | (simp; done) | omega) _ | refine Ext.trans ?_ (by assumption))))).mono ?_; rintro e w1 ⟨rfl, hx1'⟩
                rw [decide_eq_true H1.out]
                go_wp2
                go_ret
                exact ⟨_, rfl, (by repeat (first | exact Ext.refl _ | assumption | refine Ext.alloc ?_ _ | refine Ext.drew ?_ | refine Ext.drewN ?_ _ | refine Ext.setCell ?_ (by first | exact Nat.le_refl _ | (simp; done) | omega) _ | refine Ext.trans ?_ (by assumption))), Ints.nil _⟩
              · have g2 : vecB vx vy = false := by
                  cases hc : vecB vx vy with
                  | false => rfl
                  | true => exact absurd ⟨by omega, by omega, by omega, hc⟩ hb
                have V1 := Lib.hid g2
                clear hb g2
                obtain ⟨F0, G0⟩ := FrBox.vec w W H vx vy (.slice a n cap)
                have E0 : Ext w ((w.alloc (.cells #[.int .i64 W, .int .i64 H, .slice a n cap] 67)).alloc (.cells #[.int .i64 vx, .int .i64 vy] 69)) := (by repeat (first | exact Ext.refl _ | assumption | refine Ext.alloc ?_ _ | refine Ext.drew ?_ | refine Ext.drewN ?_ _ | refine Ext.setCell ?_ (by first | exact Nat.le_refl _ | (simp; done) | omega) _ | refine Ext.trans ?_ (by assumption)))
                go_enter Tryd.func43, Tryd.ntmps43
                go_wp2_with fail
                revert F0 G0 E0
                generalize (w.alloc (.cells #[.int .i64 W, .int .i64 H, .slice a n cap] 67)).alloc (.cells #[.int .i64 vx, .int .i64 vy] 69) = w0
                intro F0 G0 E0
                have GB := Lib.hid G0
                clear F0 G0
                refine (M1.out _ (h.ext E0)).mono ?_; rintro e w1 ⟨rfl, hx1'⟩
                rw [decide_eq_true H1.out]
                obtain ⟨q0, q1⟩ := GB.out.ext hx1'
                have E1 := E0.trans hx1'
                clear E0 hx1'
                go_wp2_with fail
                refine (B1.out _).mono ?_; rintro e w2 ⟨rfl, hx2'⟩
                rw [V1.out]
                go_wp2
                go_ret
                exact ⟨_, rfl, E1.trans hx2', Ints.nil _⟩
      · have hb := True.intro
        clear hm h1
        clear hb
        go_enter Tryd.func43, Tryd.ntmps43
        go_wp2_with fail
        refine (M1.out _ (h.ext (by repeat (first | exact Ext.refl _ | assumption | refine Ext.alloc ?_ _ | refine Ext.drew ?_ | refine Ext.drewN ?_ _ | refine Ext.setCell ?_ (by first | exact Nat.le_refl _ | (simp; done) | omega) _ | refine Ext.trans ?_ (by assumption))))).mono ?_; rintro e w1 ⟨rfl, hx1'⟩
        rw [decide_eq_true H1.out]
        go_wp2
        go_ret
        exact ⟨_, rfl, (by repeat (first | exact Ext.refl _ | assumption | refine Ext.alloc ?_ _ | refine Ext.drew ?_ | refine Ext.drewN ?_ _ | refine Ext.setCell ?_ (by first | exact Nat.le_refl _ | (simp; done) | omega) _ | refine Ext.trans ?_ (by assumption))), Ints.nil _⟩
  · have H1 := Lib.hid h1
    clear hm h1
    go_enter Tryd.func43, Tryd.ntmps43
    go_wp2_with fail
    refine (M1.out _ (h.ext (by repeat (first | exact Ext.refl _ | assumption | refine Ext.alloc ?_ _ | refine Ext.drew ?_ | refine Ext.drewN ?_ _ | refine Ext.setCell ?_ (by first | exact Nat.le_refl _ | (simp; done) | omega) _ | refine Ext.trans ?_ (by assumption))))).mono ?_; rintro e w1 ⟨rfl, hx1'⟩
    rw [decide_eq_false H1.out]
    go_wp2
    go_ret
    exact ⟨_, rfl, (by repeat (first | exact Ext.refl _ | assumption | refine Ext.alloc ?_ _ | refine Ext.drew ?_ | refine Ext.drewN ?_ _ | refine Ext.setCell ?_ (by first | exact Nat.le_refl _ | (simp; done) | omega) _ | refine Ext.trans ?_ (by assumption))), Ints.nil _⟩
theorem rblock_any (W H x y i vx vy : Int) (zs : List Int) (a : Option Addr) (n cap : Nat) (w : World) (h : Ints w (.slice a n cap) zs) :
    Calls Tryd.prog 43 #[.agg #[.int .i64 W, .int .i64 H, .slice a n cap], .int .i64 x, .int .i64 y, .int .i64 i, .agg #[.int .i64 vx, .int .i64 vy]] w fun e w' => ∃ u, e = .returned u ∧ Ext w w' ∧ Ints w' u (movL W H zs x y i vx vy) := by
  unfold movL
  by_cases ho : movOk W H zs x y i vx vy
  · rw [if_pos ho]
    obtain ⟨h1, h2, h3, h4, h5⟩ := ho
    rcases h2 with rfl | rfl
    · exact rblock_4 W H x y vx vy zs a n cap w h h1 h5 h3 h4
    · exact rblock_8 W H x y vx vy zs a n cap w h h1 h5 h3 h4
  · rw [if_neg ho]
    exact rblock_no W H x y i vx vy zs a n cap w h ho
end Go.Proofs.YtaamnpbhmckpbaaDoor

/- motion.Cost: its contract over this seat's translation. -/
namespace Go.Proofs.YtaamnpbhmckpbaaDoor
set_option linter.unusedVariables false
set_option linter.unusedSimpArgs false
open Go.RowKit Go.Extern.Stop Go.Stop Go.Extern

def cstAns (xs ys : List Int) (vx vy : Int) : Fall := match matAns xs ys with
  | some f => some f
  | none => if vecB vx vy = true then none else range
def cstV (xs ys : List Int) (vx vy : Int) : Int := match cstAns xs ys vx vy with
  | none => 4 * sadV xs ys + lenV vx vy
  | some _ => 0
theorem sadV_small {xs ys : List Int} (h : xs.length ≤ 1000000) : 0 ≤ sadV xs ys ∧ sadV xs ys ≤ 2097152000000 := by
  unfold sadV
  cases hm : matAns xs ys with
  | some f => show (0 : Int) ≤ 0 ∧ (0 : Int) ≤ 2097152000000; omega
  | none =>
    obtain ⟨-, hX, hY⟩ := matAns_none hm
    refine ⟨sadF_pos _ _ _, ?_⟩
    have := sadF_bound hX hY xs.length
    show sadF _ _ _ ≤ _
    omega
theorem lenV_in {vx vy : Int} (h : vecB vx vy = true) : 0 ≤ lenV vx vy ∧ lenV vx vy ≤ 30 := by
  have := vecB_true h
  unfold lenV
  omega
set_option maxHeartbeats 2000000 in
set_option maxRecDepth 20000 in
theorem cost_any (xs ys : List Int) (vx vy : Int) (va vb : Value) (w : World) (ha : Ints w va xs) (hb : Ints w vb ys) (hN : xs.length ≤ 1000000) :
    Calls Tryd.prog 45 #[va, vb, .agg #[.int .i64 vx, .int .i64 vy]] w (IPost w (cstV xs ys vx vy) (cstAns xs ys vx vy)) := by
  have S := Lib.hid (fun w h k => sad_any xs ys va vb w h k hN)
  have E0 : Ext w (w.alloc (.cells #[.int .i64 vx, .int .i64 vy] 69)) := (Ext.refl w).alloc _
  have q0 : (w.alloc (.cells #[.int .i64 vx, .int .i64 vy] 69)).cell? ⟨w.heap.size, 0, none⟩ = some (.int .i64 vx) := by simp
  have q1 : (w.alloc (.cells #[.int .i64 vx, .int .i64 vy] 69)).cell? ⟨w.heap.size, 1, none⟩ = some (.int .i64 vy) := by simp
  have hs := sadV_small (ys := ys) hN
  cases hm : matAns xs ys with
  | some f =>
    have hc : cstAns xs ys vx vy = some f := by unfold cstAns; rw [hm]
    have HR := Lib.hid hc
    have HV : Hid (cstV xs ys vx vy = 0) := by show _ = _; unfold cstV; rw [hc]
    rw [hm] at S
    clear hm hc
    go_enter Tryd.func45, Tryd.ntmps45
    go_wp2_with fail
    refine (S.out _ (ha.ext E0) (hb.ext E0)).mono ?_; rintro e w1 ⟨x1, rfl, hx1, he1⟩
    obtain ⟨t1, y1, rfl⟩ := he1.ne
    have HX := Lib.hid he1
    clear he1 q0 q1
    go_wp2
    go_ret2
    exact ⟨_, by rw [HV.out]; rfl, E0.trans hx1, by rw [HR.out]; exact HX.out⟩
  | none =>
    rw [hm] at S
    cases hv : vecB vx vy with
    | false =>
      have hc : cstAns xs ys vx vy = range := by unfold cstAns; rw [hm]; show (if _ then _ else _) = _; rw [hv]; rfl
      have HR := Lib.hid hc
      have HV : Hid (cstV xs ys vx vy = 0) := by show _ = _; unfold cstV; rw [hc]; rfl
      have B := Lib.hid (fun w => by have := vec_any vx vy w; rwa [hv] at this)
      clear hm hc hv
      go_enter Tryd.func45, Tryd.ntmps45
      go_wp2_with fail
      refine (S.out _ (ha.ext E0) (hb.ext E0)).mono ?_; rintro e w1 ⟨x1, rfl, hx1, he1⟩
      obtain rfl : x1 = .nilIface := he1
      have p0 := hx1.cell q0
      have p1 := hx1.cell q1
      clear q0 q1
      go_wp2_with fail
      refine (B.out _).mono ?_; rintro e w2 ⟨rfl, hx2⟩
      go_wp2
      go_ret2
      exact ⟨_, by rw [HV.out]; rfl, (E0.trans hx1).trans hx2, by rw [HR.out]; exact ErrIs.code (by decide)⟩
    | true =>
      have hc : cstAns xs ys vx vy = none := by unfold cstAns; rw [hm]; show (if _ then _ else _) = _; rw [hv]; rfl
      have HR := Lib.hid hc
      have HV : Hid (cstV xs ys vx vy = 4 * sadV xs ys + lenV vx vy) := by show _ = _; unfold cstV; rw [hc]
      have B := Lib.hid (fun w => by have := vec_any vx vy w; rwa [hv] at this)
      have hl := lenV_in hv
      have hb2 := vecB_true hv
      have C := Lib.hid (fun w => len_any vx vy w (by omega) (by omega))
      clear hm hc hv hb2
      revert S HV hs C hl
      generalize sadV xs ys = s
      generalize lenV vx vy = l
      intro S hs HV hl C
      have e1 : IntKind.i64.wrap (4 * s) = 4 * s := by rw [IntKind.wrap_i64]; omega
      have e2 : IntKind.i64.wrap (4 * s + l) = 4 * s + l := by rw [IntKind.wrap_i64]; omega
      go_enter Tryd.func45, Tryd.ntmps45
      go_wp2_with fail
      refine (S.out _ (ha.ext E0) (hb.ext E0)).mono ?_; rintro e w1 ⟨x1, rfl, hx1, he1⟩
      obtain rfl : x1 = .nilIface := he1
      have p0 := hx1.cell q0
      have p1 := hx1.cell q1
      clear q0 q1
      go_wp2_with fail
      refine (B.out _).mono ?_; rintro e w2 ⟨rfl, hx2⟩
      have P0 := hx2.cell p0
      have P1 := hx2.cell p1
      clear p0 p1
      go_wp2_with fail
      refine (C.out _).mono ?_; rintro e w3 ⟨rfl, hx3⟩
      go_wp2
      go_ret2
      exact ⟨_, by rw [HV.out]; rfl, ((E0.trans hx1).trans hx2).trans hx3, by rw [HR.out]; rfl⟩
end Go.Proofs.YtaamnpbhmckpbaaDoor

/- scene.Unlike, kinref16.Unlike: contracts over this seat's translation. -/
namespace Go.Proofs.YtaamnpbhmckpbaaDoor
set_option linter.unusedVariables false
set_option linter.unusedSimpArgs false
open Go.RowKit Go.Extern.Stop Go.Stop Go.Extern

/-- how unlike two frames are, per 64 samples -/
def unlV (W H : Int) (xs : List Int) (W' H' : Int) (ys : List Int) : Int := match frAns W H xs W' H' ys with
  | none => Int.tdiv (64 * sumV W H xs W' H' ys) (W * H)
  | some _ => 0
theorem sum_small {W H W' H' : Int} {xs ys : List Int} (h : frAns W H xs W' H' ys = none) : 0 ≤ sumV W H xs W' H' ys ∧ sumV W H xs W' H' ys ≤ 255 * (W * H) ∧ 64 ≤ W * H ∧ W * H ≤ 1024 := by
  have e2 : sumV W H xs W' H' ys = sadF (fun i => xs.getD i 0) (fun i => ys.getD i 0) xs.length := by unfold sumV; rw [h]
  obtain ⟨h1, h2, -, -⟩ := frAns_none h
  have b1 := sadF_le (may_getD h1) (may_getD h2) xs.length
  rw [h1.2.2.1] at b1
  rw [e2]
  exact ⟨sadF_pos _ _ _, b1, may_area h1⟩
theorem unl_small {s A : Int} (h0 : 0 ≤ s) (h1 : s ≤ 255 * A) (h2 : 64 ≤ A) : 0 ≤ Int.tdiv (64 * s) A ∧ Int.tdiv (64 * s) A ≤ 16320 := by
  rw [Int.tdiv_eq_ediv_of_nonneg (by omega)]
  refine ⟨Int.ediv_nonneg (by omega) (by omega), ?_⟩
  have : 64 * s ≤ 16320 * A := by omega
  exact Int.ediv_le_of_le_mul (by omega) this
theorem Row.zero {w w' : World} {v : Value} (h : Row w v 0 []) : Row w' v 0 [] := by
  obtain ⟨a, cap, h0, h1, h2, h3, -⟩ := h
  exact ⟨a, cap, h0, h1, h2, h3, fun _ _ _ j u hu => by simp at hu⟩
theorem frAns_path {W H W' H' : Int} {xs ys : List Int} {f : List (ByteArray × Int) × Int} (h : frAns W H xs W' H' ys = some f) : f.1 = [] := by
  unfold frAns form fit at h
  split at h
  · split at h
    · cases h
    · cases h; rfl
  · cases h; rfl
end Go.Proofs.YtaamnpbhmckpbaaDoor

/- Lists of frames; kinlaw16.Pix: contracts over this seat's translation. -/
namespace Go.Proofs.YtaamnpbhmckpbaaDoor
set_option linter.unusedVariables false
set_option linter.unusedSimpArgs false
open Go.RowKit Go.Extern.Stop Go.Stop Go.Extern

abbrev Fr := Int × Int × List Int
/-- a frame's cells in a list -/
def FrIn (w : World) (g i : Nat) (f : Fr) : Prop := ∃ ra rn rc, w.cell? ⟨g, i, none⟩ = some (.int .i64 f.1) ∧ w.cell? ⟨g, i + 1, none⟩ = some (.int .i64 f.2.1) ∧ w.cell? ⟨g, i + 2, none⟩ = some (.slice ra rn rc) ∧ Row w (.slice ra rn rc) f.2.2.length (f.2.2.map (Value.int .i64))
/-- a slice value that reads as these frames -/
def Fms (w : World) (v : Value) (L : List Fr) : Prop := ∃ (a : Option Addr) (cap : Nat), v = .slice a L.length cap ∧ (0 < L.length → ∃ g off, a = some ⟨g, off, none⟩ ∧ ∀ q f, L[q]? = some f → FrIn w g (off + q * 3) f)
theorem FrIn.ext {w w' : World} {g i : Nat} {f : Fr} (h : FrIn w g i f) (k : Ext w w') : FrIn w' g i f := by
  obtain ⟨ra, rn, rc, h0, h1, h2, h3⟩ := h
  exact ⟨ra, rn, rc, k.cell h0, k.cell h1, k.cell h2, h3.ext k⟩
theorem Fms.ext {w w' : World} {v : Value} {L : List Fr} (h : Fms w v L) (k : Ext w w') : Fms w' v L := by
  obtain ⟨a, cap, h0, h1⟩ := h
  refine ⟨a, cap, h0, fun hl => ?_⟩
  obtain ⟨g, off, e, h2⟩ := h1 hl
  exact ⟨g, off, e, fun q f hq => (h2 q f hq).ext k⟩
theorem Fms.form {w : World} {v : Value} {L : List Fr} (h : Fms w v L) : ∃ a cap, v = .slice a L.length cap := by
  obtain ⟨a, cap, h0, _⟩ := h
  exact ⟨a, cap, h0⟩
theorem Fms.nil (w : World) : Fms w (.slice none 0 0) [] := ⟨none, 0, rfl, fun h => absurd h (Nat.lt_irrefl _)⟩
theorem Fms.len {w : World} {a : Option Addr} {n cap : Nat} {L : List Fr} (h : Fms w (.slice a n cap) L) : n = L.length := by
  obtain ⟨a', cap', e, _⟩ := h
  simp only [Value.slice.injEq] at e
  exact e.2.1
theorem Fms.had {w : World} {a : Option Addr} {n cap : Nat} {L : List Fr} (h : Fms w (.slice a n cap) L) (hn : 0 < n) : ∃ g off, a = some ⟨g, off, none⟩ := by
  have hl := h.len
  obtain ⟨a', cap', e, h3⟩ := h
  simp only [Value.slice.injEq] at e
  obtain ⟨rfl, -, rfl⟩ := e
  obtain ⟨g, off, e, _⟩ := h3 (by omega)
  exact ⟨g, off, e⟩
theorem Fms.at {w : World} {g off n cap : Nat} {L : List Fr} (h : Fms w (.slice (some ⟨g, off, none⟩) n cap) L) {q : Nat} {f : Fr} (hq : L[q]? = some f) : FrIn w g (off + q * 3) f := by
  have hl := h.len
  obtain ⟨a', cap', e, h3⟩ := h
  simp only [Value.slice.injEq] at e
  obtain ⟨rfl, -, rfl⟩ := e
  obtain ⟨hj, -⟩ := List.getElem?_eq_some_iff.1 hq
  obtain ⟨g', off', e, h4⟩ := h3 (by omega)
  obtain ⟨rfl, rfl⟩ : g = g' ∧ off = off' := by simpa using e
  exact h4 q f hq
/-- the samples of the first k frames, as Pix counts them -/
def pixN (L : List Fr) : Nat → Int
  | 0 => 0
  | k + 1 => pixN L k + min (((L.getD k (0, 0, [])).2.2.length : Nat) : Int) 20001
theorem pixN_bound (L : List Fr) (k : Nat) : 0 ≤ pixN L k ∧ pixN L k ≤ 20001 * k := by
  induction k with
  | zero => simp [pixN]
  | succ k ih => unfold pixN; push_cast; omega
def pixB (L : List Fr) : Bool := decide (L.length ≤ 40) && decide (pixN L (min L.length 40) ≤ 20000)
end Go.Proofs.YtaamnpbhmckpbaaDoor

/- plane.New: its contract over this seat's translation. -/
namespace Go.Proofs.YtaamnpbhmckpbaaDoor
set_option linter.unusedVariables false
set_option linter.unusedSimpArgs false
open Go.RowKit Go.Extern.Stop Go.Stop Go.Extern

/-- a frame and an error; the document's -/
def FPost (w : World) (W H : Int) (zs : List Int) (f : Fall) (e : Ending) (w' : World) : Prop := ∃ a n cap x, e = .returned (.tuple #[.agg #[.int .i64 W, .int .i64 H, .slice a n cap], x]) ∧ Ext w w' ∧ Ints w' (.slice a n cap) zs ∧ ErrIs w' f x
def RFPost (w : World) (W H : Int) (zs : List Int) (f : Fall) (e : Ending) (w' : World) : Prop := ∃ a n cap c b m k, e = .returned (.tuple #[.agg #[.int .i64 W, .int .i64 H, .slice a n cap], .agg #[.int .i64 c, .slice b m k]]) ∧ Ext w w' ∧ Ints w' (.slice a n cap) zs ∧ RErrIs w' f c (.slice b m k)
def newOk (W H v : Int) : Bool := sideB W && sideB H && smpB v
theorem new_size {W H : Int} (h : sideB W = true) (k : sideB H = true) : ∃ N : Nat, W * H = (N : Int) ∧ (N = 4 ∨ N = 8 ∨ N = 64 ∨ N = 128 ∨ N = 192 ∨ N = 256 ∨ N = 384 ∨ N = 512 ∨ N = 576 ∨ N = 768 ∨ N = 1024) := by
  refine ⟨(W * H).toNat, ?_, ?_⟩ <;> rcases sideB_cases h with rfl | rfl | rfl | rfl <;> rcases sideB_cases k with rfl | rfl | rfl | rfl <;> decide
end Go.Proofs.YtaamnpbhmckpbaaDoor

/- kinref6.New: its contract over this seat's translation. -/
namespace Go.Proofs.YtaamnpbhmckpbaaDoor
set_option linter.unusedVariables false
set_option linter.unusedSimpArgs false
open Go.RowKit Go.Extern.Stop Go.Stop Go.Extern

theorem frr_cells {w : World} {B C : Nat} (W H c : Int) (v l : Value) (hBC : B ≠ C) (h : w.cell? ⟨B, 0, none⟩ = some (.int .i64 0) ∧ w.cell? ⟨B, 1, none⟩ = some (.int .i64 0) ∧ w.cell? ⟨B, 2, none⟩ = some (.slice none 0 0)) (k0 : w.cell? ⟨C, 0, none⟩ = some (.int .i64 0)) (k1 : w.cell? ⟨C, 1, none⟩ = some (.slice none 0 0)) :
    (((((w.setCell ⟨B, 0, none⟩ (.int .i64 W)).setCell ⟨B, 1, none⟩ (.int .i64 H)).setCell ⟨B, 2, none⟩ v).setCell ⟨C, 0, none⟩ (.int .i64 c)).setCell ⟨C, 1, none⟩ l).cell? ⟨B, 0, none⟩ = some (.int .i64 W) ∧
    (((((w.setCell ⟨B, 0, none⟩ (.int .i64 W)).setCell ⟨B, 1, none⟩ (.int .i64 H)).setCell ⟨B, 2, none⟩ v).setCell ⟨C, 0, none⟩ (.int .i64 c)).setCell ⟨C, 1, none⟩ l).cell? ⟨B, 1, none⟩ = some (.int .i64 H) ∧
    (((((w.setCell ⟨B, 0, none⟩ (.int .i64 W)).setCell ⟨B, 1, none⟩ (.int .i64 H)).setCell ⟨B, 2, none⟩ v).setCell ⟨C, 0, none⟩ (.int .i64 c)).setCell ⟨C, 1, none⟩ l).cell? ⟨B, 2, none⟩ = some v ∧
    (((((w.setCell ⟨B, 0, none⟩ (.int .i64 W)).setCell ⟨B, 1, none⟩ (.int .i64 H)).setCell ⟨B, 2, none⟩ v).setCell ⟨C, 0, none⟩ (.int .i64 c)).setCell ⟨C, 1, none⟩ l).cell? ⟨C, 0, none⟩ = some (.int .i64 c) ∧
    (((((w.setCell ⟨B, 0, none⟩ (.int .i64 W)).setCell ⟨B, 1, none⟩ (.int .i64 H)).setCell ⟨B, 2, none⟩ v).setCell ⟨C, 0, none⟩ (.int .i64 c)).setCell ⟨C, 1, none⟩ l).cell? ⟨C, 1, none⟩ = some l := by
  obtain ⟨a0, a1, a2⟩ := fr_cells W H v h.1 h.2.1 h.2.2
  have o : ∀ (w : World) (i j : Nat) (x : Value), (w.setCell ⟨C, i, none⟩ x).cell? ⟨B, j, none⟩ = w.cell? ⟨B, j, none⟩ := fun w i j x => World.cell?_setCell_other w ⟨C, i, none⟩ ⟨B, j, none⟩ x (by simp [hBC, Ne.symm hBC])
  have o' : ∀ (w : World) (i j : Nat) (x : Value), (w.setCell ⟨B, i, none⟩ x).cell? ⟨C, j, none⟩ = w.cell? ⟨C, j, none⟩ := fun w i j x => World.cell?_setCell_other w ⟨B, i, none⟩ ⟨C, j, none⟩ x (by simp [hBC, Ne.symm hBC])
  obtain ⟨e0, e1⟩ := res_cells (c := c) (w := ((w.setCell ⟨B, 0, none⟩ (.int .i64 W)).setCell ⟨B, 1, none⟩ (.int .i64 H)).setCell ⟨B, 2, none⟩ v) (((o' _ _ _ _).trans ((o' _ _ _ _).trans (o' _ _ _ _))).trans k0) (((o' _ _ _ _).trans ((o' _ _ _ _).trans (o' _ _ _ _))).trans k1) l
  exact ⟨((o _ _ _ _).trans (o _ _ _ _)).trans a0, ((o _ _ _ _).trans (o _ _ _ _)).trans a1, ((o _ _ _ _).trans (o _ _ _ _)).trans a2, e0, e1⟩
/-- a frame's three cells, that may be written -/
def FrHas (w : World) (B : Nat) (W H : Int) (v : Value) : Prop := (w.cell? ⟨B, 0, none⟩ = some (.int .i64 W) ∧ w.cell? ⟨B, 1, none⟩ = some (.int .i64 H) ∧ w.cell? ⟨B, 2, none⟩ = some v) ∧ w.frozen? ⟨B, 0, none⟩ = false ∧ w.frozen? ⟨B, 1, none⟩ = false ∧ w.frozen? ⟨B, 2, none⟩ = false
theorem FrHas.new (w : World) (W H : Int) (v : Value) : FrHas (w.alloc (.cells #[.int .i64 W, .int .i64 H, v] 67)) w.heap.size W H v := by
  refine ⟨⟨by simp, by simp, by simp⟩, by simp, by simp, by simp⟩
theorem FrHas.under {w w' : World} {B D : Nat} {W H : Int} {v : Value} (h : FrHas w B W H v) (k : Below D w w') (hb : B < D) : FrHas w' B W H v := by
  obtain ⟨⟨h0, h1, h2⟩, f0, f1, f2⟩ := h
  exact ⟨⟨(Below.cell k (p := ⟨B, 0, none⟩) hb).trans h0, (Below.cell k (p := ⟨B, 1, none⟩) hb).trans h1, (Below.cell k (p := ⟨B, 2, none⟩) hb).trans h2⟩, (Below.frozen k (p := ⟨B, 0, none⟩) hb).trans f0, (Below.frozen k (p := ⟨B, 1, none⟩) hb).trans f1, (Below.frozen k (p := ⟨B, 2, none⟩) hb).trans f2⟩
theorem FrHas.ext {w w' : World} {B : Nat} {W H : Int} {v : Value} (h : FrHas w B W H v) (k : Ext w w') : FrHas w' B W H v := h.under k (Ext.lt h.1.1)
theorem FrHas.set {w : World} {B : Nat} {W H : Int} {v : Value} (h : FrHas w B W H v) (u : Value) : FrHas (w.setCell ⟨B, 2, none⟩ u) B W H u := by
  obtain ⟨⟨h0, h1, h2⟩, f0, f1, f2⟩ := h
  refine ⟨⟨(World.cell?_setCell_other w ⟨B, 2, none⟩ ⟨B, 0, none⟩ u (by simp)).trans h0, (World.cell?_setCell_other w ⟨B, 2, none⟩ ⟨B, 1, none⟩ u (by simp)).trans h1, World.cell?_setCell_same _ _ u h2⟩, ?_, ?_, ?_⟩
  · simpa using f0
  · simpa using f1
  · simpa using f2
theorem own_slice {w : World} {base n : Nat} {e : TypeId} {s : Nat} {v : Value} {xs : List Value} (h : w.ownsRow base e s v n xs) : ∃ a cap, v = .slice a n cap := by
  obtain ⟨hl, h⟩ := h
  rcases h with ⟨h1, h2⟩ | ⟨g, cap, cur, e, -⟩
  · exact ⟨none, 0, by rw [h1, h2]⟩
  · exact ⟨some ⟨g, 0, none⟩, cap, e⟩
theorem row_setCell {w : World} {base n : Nat} {xs : List Value} {v : Value} (h : w.ownsRow base 3 1 v n xs) (b i : Nat) (hb : b < base) (u : Value) : (w.setCell ⟨b, i, none⟩ u).ownsRow base 3 1 v n xs := ownsRow_setCell_below h (a := ⟨b, i, none⟩) hb u
end Go.Proofs.YtaamnpbhmckpbaaDoor

/- An append of a whole slice to one that the call itself made; kinref.In and kinref.Wrap: contracts over this seat's translation. -/
namespace Go.Proofs.YtaamnpbhmckpbaaDoor
set_option linter.unusedVariables false
set_option linter.unusedSimpArgs false
open Go.RowKit

theorem run_append_none {P : Program} {w : World} (base : Nat) (t ty e : TypeId) (i : TypeInfo) (size : Nat) (ht : P.underlying t = some (.slice e)) (hi : P.info? e = some i)
    (v : Value) (n c : Nat) (xs : List Value) (hown : w.ownsRow base e size v n xs) :
    (Builtin.append_ #[t, t] ty #[v, .slice none 0 c]).run P w = .ok v w := by
  rcases hown.2 with ⟨rfl, rfl⟩ | ⟨g, cap, cur, rfl, _, _, hnc, _⟩
  · simp [Builtin.append_, run_underlying ht, sizeOf, typeInfo, hi, Builtin.lenOf, Builtin.firstCells]
  · simp [Builtin.append_, run_underlying ht, sizeOf, typeInfo, hi, Builtin.lenOf, Builtin.firstCells, hnc, storeCells]

theorem append_row {P : Program} {ops : Array Oper} {rest : List Oper} {o : Oper} {a : Act} {Q : Exit → Act → World → Prop} {W : World} {base : Nat} (hgd : o.guard = none) (s y : Operand) (t : TypeId)
    (ho : o.op = .call { callee := .builtin .append, args := #[s, y], argTypes := #[t, t] })
    (e : TypeId) (i : TypeInfo) (z : Value) (size bytes : Nat) (ht : P.underlying t = some (.slice e)) (hi : P.info? e = some i) (hz : i.zero = some z) (hsize : i.size = size) (hby : i.bytes = bytes) (hzs : z.cells.size = size) (hsz : 0 < size)
    (v : Value) (n : Nat) (xs : List Value) (hs : a.eval s = v) (hown : W.ownsRow base e size v n xs) (u : Value) (m : Nat) (news : List Value) (hx : a.eval y = u) (hr : Row W u m news) (hl : news.length = m * size) (h1 : ∀ x ∈ news, x.oneCell' = true)
    (hb : base ≤ W.heap.size) (h63 : n + m ≤ maxLen) (hbytes : (n + m) * bytes ≤ 140737488355328)
    (h : ∀ v' w', w'.ownsRow base e size v' (n + m) (xs ++ news) → Below base W w' → W.grownBy w' v.ownBlock → wpList P ops Q rest (a.put o.dst v') w') :
    wpList P ops Q (o :: rest) a W := by
  obtain ⟨a0, cap, rfl, hmc, hcm, hsome, hcells⟩ := hr
  cases a0 with
  | none =>
    have hm : m = 0 := by
      rcases Nat.eq_zero_or_pos m with h0 | h0
      · exact h0
      · obtain ⟨g, off, hg⟩ := hsome h0
        cases hg
    subst hm
    obtain rfl : news = [] := List.eq_nil_of_length_eq_zero (by simpa using hl)
    refine wpList_plain hgd fun K hK => ?_
    have hrun := run_append_none (P := P) (w := W) base t o.type e i size ht hi v n cap xs hown
    unfold Oper.wp
    simp [execOp, ho, resolve, invoke, builtin, hs, hx, hrun, Result.andThen]
    exact hK _ _ (h v W (by simpa using hown) (Below.refl _ _) ⟨rfl, rfl, rfl, Nat.le_refl _, fun _ _ _ => rfl⟩)
  | some ad =>
    have hnews : ∀ j x, news[j]? = some x → W.cell? (ad.add j) = some x := fun j x hj => by
      have hm : 0 < m := by
        rcases Nat.eq_zero_or_pos m with h0 | h0
        · subst h0
          obtain rfl : news = [] := List.eq_nil_of_length_eq_zero (by simpa using hl)
          simp at hj
        · exact h0
      obtain ⟨g, off, hg⟩ := hsome hm
      cases hg
      have hadd : (⟨g, off, none⟩ : Addr).add j = ⟨g, off + j, none⟩ := by unfold Addr.add; split <;> simp_all
      rw [hadd]
      exact hcells g off rfl j x hj
    refine wpList_append_own _ hgd s y t ho base e i z size bytes ht hi hz hsize hby hzs hsz v n xs hs hown ad m cap news hx hl hnews h1 h63 hbytes hb ?_
    intro v' w' h2 h3 _
    exact h v' w' h2 (Below.grown (Below.refl base W) h3 hb (fun k hk => (hown.lt k hk).1)) h3

theorem infoRStep : (Tryd.prog.info? 99).map (fun i => (i.zero, i.size, i.bytes)) = some (some (.agg #[.string .empty, .int .i64 0]), 2, 24) := by kernel_rfl
theorem step_one (p : List (ByteArray × Int)) : ∀ x ∈ stepCells p, x.oneCell' = true := by
  induction p with
  | nil => intro x hx; cases hx
  | cons a p ih =>
    obtain ⟨s, n⟩ := a
    intro x hx
    simp only [stepCells, List.mem_cons] at hx
    rcases hx with rfl | rfl | hx
    · rfl
    · rfl
    · exact ih x hx

theorem heap_alloc2 {w1 : World} {o o' : Obj} : ((w1.alloc o).alloc o').heap[w1.heap.size + 1]? = some o' := by
  have := heap_alloc_new (w1.alloc o) o'
  simpa using this
theorem owns_base {w : World} {base b : Nat} {e : TypeId} {size : Nat} {v : Value} {n : Nat} {xs : List Value} (h : w.ownsRow base e size v n xs) (hb : b ≤ base) : w.ownsRow b e size v n xs := by
  obtain ⟨h1, h2⟩ := h
  refine ⟨h1, ?_⟩
  rcases h2 with h2 | ⟨g, cap, cur, hv, hg, r⟩
  · exact Or.inl h2
  · exact Or.inr ⟨g, cap, cur, hv, Nat.le_trans hb hg, r⟩
theorem owns_setCell_ne {w : World} {base : Nat} {e : TypeId} {size : Nat} {v : Value} {n : Nat} {xs : List Value} (h : w.ownsRow base e size v n xs) {p : Addr} (u : Value) (hne : ∀ cs, w.heap[p.block]? ≠ some (.cells cs e (0, 0))) : (w.setCell p u).ownsRow base e size v n xs := by
  obtain ⟨h1, h2⟩ := h
  refine ⟨h1, ?_⟩
  rcases h2 with h2 | ⟨g, cap, cur, hv, hg, hh, r⟩
  · exact Or.inl h2
  · exact Or.inr ⟨g, cap, cur, hv, hg, by rw [Below.heap_setCell _ _ _ _ (fun e => hne cur (by rw [← e]; exact hh))]; exact hh, r⟩
theorem in_facts {w1 w2 : World} {s : ByteArray} {n c : Int}
    (h3 : ((w1.alloc (.cells #[.string s, .int .i64 n] 99)).alloc (.cells #[.int .i64 c, .slice (some ⟨w1.heap.size, 0, none⟩) 1 1] 39)).grownBy w2 (Value.ownBlock (.slice (some ⟨w1.heap.size, 0, none⟩) 1 1))) :
    w2.cell? ⟨w1.heap.size + 1, 0, none⟩ = some (.int .i64 c) ∧ w2.cell? ⟨w1.heap.size + 1, 1, none⟩ = some (.slice (some ⟨w1.heap.size, 0, none⟩) 1 1) ∧ w2.frozen? ⟨w1.heap.size + 1, 1, none⟩ = false ∧ w2.frozen? ⟨w1.heap.size + 1, 0, none⟩ = false ∧ ∀ cs, w2.heap[w1.heap.size + 1]? ≠ some (.cells cs 99 (0, 0)) := by
  refine ⟨?_, ?_, ?_, ?_, ?_⟩
  · exact h3.cell (a := ⟨w1.heap.size + 1, 0, none⟩) (v := .int .i64 c) (by simp) (by simp [Value.ownBlock])
  · exact h3.cell (a := ⟨w1.heap.size + 1, 1, none⟩) (v := .slice (some ⟨w1.heap.size, 0, none⟩) 1 1) (by simp) (by simp [Value.ownBlock])
  · exact (h3.frozen_far ⟨w1.heap.size + 1, 1, none⟩ (by simp) (by simp [Value.ownBlock])).trans (by simp)
  · exact (h3.frozen_far ⟨w1.heap.size + 1, 0, none⟩ (by simp) (by simp [Value.ownBlock])).trans (by simp)
  · intro cs e
    rw [h3.block (w1.heap.size + 1) (by simp) (by simp [Value.ownBlock]), heap_alloc2] at e
    simp at e

set_option maxHeartbeats 1000000 in
set_option maxRecDepth 20000 in
/-- kinref.In of an error -/
theorem refIn_err (s : ByteArray) (n c : Int) (rv : Value) (p : List (ByteArray × Int)) (w : World) (hr : Row w rv p.length (stepCells p)) (hc : c ≠ 0) (hp : p.length ≤ 1000000) :
    Calls Tryd.prog 78 #[.string s, .int .i64 n, .agg #[.int .i64 c, rv]] w fun e w' => ∃ u, e = .returned (.agg #[.int .i64 c, u]) ∧ w'.ownsRow w.heap.size 99 2 u (p.length + 1) (stepCells ((s, n) :: p)) ∧ Ext w w' := by
  have hc0 : (c == 0) = false := by simpa using hc
  have E1 : Ext w (w.alloc (.cells #[.int .i64 c, rv] 39)) := (Ext.refl w).alloc _
  obtain ⟨i0, hi, hz0, hz1, hz2⟩ := info_parts infoRStep
  go_enter Tryd.func78, Tryd.ntmps78
  go_wp2_with fail
  refine (ok_any c rv _).mono ?_; rintro e w1 ⟨rfl, hx⟩
  have b0 := hx.cell (p := ⟨w.heap.size, 0, none⟩) (v := .int .i64 c) (by simp)
  have b1 := hx.cell (p := ⟨w.heap.size, 1, none⟩) (v := rv) (by simp)
  have r0 := hx.cell (p := ⟨w.heap.size + 1, 0, none⟩) (v := .int .i64 0) (by simp)
  have r1 := hx.cell (p := ⟨w.heap.size + 1, 1, none⟩) (v := .slice none 0 0) (by simp)
  have f0 : w1.frozen? ⟨w.heap.size + 1, 0, none⟩ = false := (Below.frozen hx (by simp)).trans (by simp)
  have f1 : w1.frozen? ⟨w.heap.size + 1, 1, none⟩ = false := (Below.frozen hx (by simp)).trans (by simp)
  have hsz : w.heap.size + 1 < w1.heap.size := Ext.lt r0
  have hE : Ext w w1 := (E1.alloc _).trans hx
  have hr1 := hr.ext hE
  have hown := World.ownsRow_lit (e := 99) (base := w1.heap.size) (size := 2) w1 #[.string s, .int .i64 n] 1 (Nat.le_refl _) (by unfold maxLen; omega) rfl
  clear hx hr
  have HC := Lib.hid hc
  clear hc
  have E3 : Ext w1 ((w1.alloc (.cells #[.string s, .int .i64 n] 99)).alloc (.cells #[.int .i64 c, .slice (some ⟨w1.heap.size, 0, none⟩) 1 1] 39)) := ((Ext.refl w1).alloc _).alloc _
  have b1' := E3.cell b1
  have fr0 : ((w1.alloc (.cells #[.string s, .int .i64 n] 99)).alloc (.cells #[.int .i64 c, .slice (some ⟨w1.heap.size, 0, none⟩) 1 1] 39)).frozen? ⟨w.heap.size + 1, 0, none⟩ = false := (Below.frozen E3 (by simp; omega)).trans f0
  have fr1 : ((w1.alloc (.cells #[.string s, .int .i64 n] 99)).alloc (.cells #[.int .i64 c, .slice (some ⟨w1.heap.size, 0, none⟩) 1 1] 39)).frozen? ⟨w.heap.size + 1, 1, none⟩ = false := (Below.frozen E3 (by simp; omega)).trans f1
  have cr0 := E3.cell r0
  have cr1 := E3.cell r1
  clear b1
  go_wp2_with (at_builtin; refine append_row rfl _ _ 37 rfl 99 i0 _ 2 24 Tryd.underlying37 hi hz0 hz1 hz2 rfl (by decide) (.slice (some ⟨w1.heap.size, 0, none⟩) 1 1) 1 [.string s, .int .i64 n] rfl (hown.alloc _) rv p.length (stepCells p) rfl (hr1.ext E3) (stepCells_length p) (step_one p) (by simp; omega) (by unfold maxLen; omega) (by omega) ?_; intro v' w2 h1 h2 h3; obtain ⟨ga, gcap, rfl⟩ := (Row.of_owns h1).form; obtain ⟨g0, g1, g2, g3, g4⟩ := in_facts h3; have q0 := Below.cellv h2 cr0 (by simp; omega); have q1 := Below.cellv h2 cr1 (by simp; omega); have q2 := (Below.frozen h2 (p := ⟨w.heap.size + 1, 0, none⟩) (by simp; omega)).trans fr0; have q3 := (Below.frozen h2 (p := ⟨w.heap.size + 1, 1, none⟩) (by simp; omega)).trans fr1)
  refine bodyPost_ret (v := .agg #[.int .i64 c, .slice ga (1 + p.length) gcap]) ?_ rfl ⟨_, rfl, ?_, ?_⟩
  · have e0 : (w2.setCell ⟨w1.heap.size + 1, 1, none⟩ (.slice ga (1 + p.length) gcap)).cell? ⟨w.heap.size + 1, 0, none⟩ = some (.int .i64 0) := (World.cell?_setCell_other _ _ _ _ (by simp <;> omega)).trans q0
    have e1 : (w2.setCell ⟨w1.heap.size + 1, 1, none⟩ (.slice ga (1 + p.length) gcap)).cell? ⟨w.heap.size + 1, 1, none⟩ = some (.slice none 0 0) := (World.cell?_setCell_other _ _ _ _ (by simp <;> omega)).trans q1
    have e2 := World.cell?_setCell_same _ _ (.int .i64 c) e0
    have e3 := (World.cell?_setCell_other (w2.setCell ⟨w1.heap.size + 1, 1, none⟩ (.slice ga (1 + p.length) gcap)) ⟨w.heap.size + 1, 0, none⟩ ⟨w.heap.size + 1, 1, none⟩ (.int .i64 c) (by simp)).trans e1
    have e4 := World.cell?_setCell_same _ _ (.slice ga (1 + p.length) gcap) e3
    have e5 := (World.cell?_setCell_other ((w2.setCell ⟨w1.heap.size + 1, 1, none⟩ (.slice ga (1 + p.length) gcap)).setCell ⟨w.heap.size + 1, 0, none⟩ (.int .i64 c)) ⟨w.heap.size + 1, 1, none⟩ ⟨w.heap.size + 1, 0, none⟩ (.slice ga (1 + p.length) gcap) (by simp)).trans e2
    simp [results, Tryd.results78, go_sem, e4, e5]
  · rw [show p.length + 1 = 1 + p.length from Nat.add_comm _ _]
    have o1 := owns_setCell_ne h1 (p := ⟨w1.heap.size + 1, 1, none⟩) (.slice ga (1 + p.length) gcap) g4
    have o2 := ownsRow_setCell_below o1 (a := ⟨w.heap.size + 1, 0, none⟩) hsz (.int .i64 c)
    have o3 := ownsRow_setCell_below o2 (a := ⟨w.heap.size + 1, 1, none⟩) hsz (.slice ga (1 + p.length) gcap)
    exact owns_base o3 (show w.heap.size ≤ w1.heap.size by omega)
  · exact ((hE.trans ((E3.of_below h2 (Nat.le_refl _)).setCell (by simp) _)).setCell (by simp) _).setCell (by simp) _

theorem wrap_any (s : ByteArray) (n c : Int) (w : World) (hc : c ≠ 0) :
    Calls Tryd.prog 54 #[.string s, .int .i64 n, .int .i64 c] w fun e w' => ∃ u, e = .returned (.agg #[.int .i64 c, u]) ∧ w'.ownsRow w.heap.size 99 2 u 1 (stepCells [(s, n)]) ∧ Ext w w' := by
  have HC := Lib.hid hc
  clear hc
  go_enter Tryd.func54, Tryd.ntmps54
  go_wp2_with fail
  refine (fail_any c _).mono ?_; rintro e w1 ⟨rfl, hx1⟩
  have r0 := hx1.cell (p := ⟨w.heap.size, 0, none⟩) (v := .int .i64 0) (by simp)
  have r1 := hx1.cell (p := ⟨w.heap.size, 1, none⟩) (v := .slice none 0 0) (by simp)
  have f0 : w1.frozen? ⟨w.heap.size, 0, none⟩ = false := (Below.frozen hx1 (by simp)).trans (by simp)
  have f1 : w1.frozen? ⟨w.heap.size, 1, none⟩ = false := (Below.frozen hx1 (by simp)).trans (by simp)
  go_wp2_with fail
  refine (refIn_err s n c _ [] _ (Row.nil _) HC.out (by simp)).mono ?_; rintro e w2 ⟨u, rfl, hr, hx2⟩
  obtain ⟨ga, gcap, rfl⟩ := (Row.of_owns hr).form
  have s0 := hx2.cell r0
  have s1 := hx2.cell r1
  have k0 := (Below.frozen hx2 (Ext.lt r0)).trans f0
  have k1 := (Below.frozen hx2 (Ext.lt r1)).trans f1
  have hE : Ext w w2 := ((Ext.refl w).alloc _).trans (hx1.trans hx2)
  go_wp2
  refine bodyPost_ret (v := .agg #[.int .i64 c, .slice ga 1 gcap]) ?_ rfl ⟨_, rfl, ?_, ?_⟩
  · have e0 := World.cell?_setCell_same _ _ (.int .i64 c) s0
    have e1 := (World.cell?_setCell_other w2 ⟨w.heap.size, 0, none⟩ ⟨w.heap.size, 1, none⟩ (.int .i64 c) (by simp)).trans s1
    have e2 := World.cell?_setCell_same _ _ (.slice ga 1 gcap) e1
    have e3 := (World.cell?_setCell_other (w2.setCell ⟨w.heap.size, 0, none⟩ (.int .i64 c)) ⟨w.heap.size, 1, none⟩ ⟨w.heap.size, 0, none⟩ (.slice ga 1 gcap) (by simp)).trans e0
    simp [results, Tryd.results54, go_sem, e2, e3]
  · have hlt : w.heap.size < w1.heap.size := Ext.lt r0
    exact owns_base (ownsRow_setCell_below (ownsRow_setCell_below hr hlt _) hlt _) (by omega)
  · exact (hE.setCell (Nat.le_refl _) _).setCell (Nat.le_refl _) _
end Go.Proofs.YtaamnpbhmckpbaaDoor

/- kinlaw16.plain; lists of groups; scene.Groups: contracts over this seat's translation. -/
namespace Go.Proofs.YtaamnpbhmckpbaaDoor
set_option linter.unusedVariables false
set_option linter.unusedSimpArgs false
open Go.RowKit Go.Extern.Stop Go.Stop Go.Extern

/-- cells of groups -/
def gcells (G : List (Int × Int)) : List Value := G.flatMap fun p => [.int .i64 p.1, .int .i64 p.2]
theorem gcells_len (G : List (Int × Int)) : (gcells G).length = 2 * G.length := by
  induction G with
  | nil => rfl
  | cons p G ih => simp only [gcells, List.flatMap_cons, List.length_append, List.length_cons, List.length_nil] at ih ⊢; omega
theorem gcells_snoc (G : List (Int × Int)) (a b : Int) : gcells (G ++ [(a, b)]) = gcells G ++ [.int .i64 a, .int .i64 b] := by
  unfold gcells
  rw [List.flatMap_append]
  rfl
theorem gcells_at (G : List (Int × Int)) (a b : Int) : (gcells (G ++ [(a, b)]))[G.length * 2]? = some (.int .i64 a) ∧ (gcells (G ++ [(a, b)]))[G.length * 2 + 1]? = some (.int .i64 b) := by
  have hl := gcells_len G
  rw [gcells_snoc]
  constructor
  · rw [List.getElem?_append_right (by omega), hl, show G.length * 2 - 2 * G.length = 0 by omega]
    rfl
  · rw [List.getElem?_append_right (by omega), hl, show G.length * 2 + 1 - 2 * G.length = 1 by omega]
    rfl
theorem gcells_set (G : List (Int × Int)) (a b c : Int) : (gcells (G ++ [(a, b)])).set (G.length * 2 + 1) (.int .i64 c) = gcells (G ++ [(a, c)]) := by
  have hl := gcells_len G
  rw [gcells_snoc, gcells_snoc, List.set_append, if_neg (by omega), hl, show G.length * 2 + 1 - 2 * G.length = 1 by omega]
  rfl
theorem gcells_one (G : List (Int × Int)) : ∀ x ∈ gcells G, x.oneCell' = true := fun x hx => by
  unfold gcells at hx
  obtain ⟨p, _, hp⟩ := List.mem_flatMap.1 hx
  simp only [List.mem_cons, List.not_mem_nil, or_false] at hp
  rcases hp with rfl | rfl <;> rfl
theorem own2_set {w : World} {base n cap g j : Nat} {e : TypeId} {s : Nat} {xs : List Value} (v : Value) (h : w.ownsRow base e s (.slice (some ⟨g, 0, none⟩) n cap) n xs) :
    (w.setCell ⟨g, j, none⟩ v).ownsRow base e s (.slice (some ⟨g, 0, none⟩) n cap) n (xs.set j v) := by
  obtain ⟨hl, h | ⟨g', cap', cur, e', hb, hg, h1, h2, hs, ht⟩⟩ := h
  · cases h.1
  · simp only [Value.slice.injEq, Option.some.injEq, Addr.mk.injEq, and_true, true_and] at e'
    obtain ⟨rfl, rfl⟩ := e'
    refine ⟨by simpa using hl, Or.inr ⟨g, cap, cur.setIfInBounds j v, rfl, hb, heap_setCell_same w g j cur e v hg, h1, h2, by simpa using hs, ?_⟩⟩
    rw [← ht]
    simp [List.take_set]
theorem own2_cell {w : World} {base n cap g j : Nat} {e : TypeId} {s : Nat} {xs : List Value} {v : Value} (h : w.ownsRow base e s (.slice (some ⟨g, 0, none⟩) n cap) n xs) (hj : xs[j]? = some v) : w.cell? ⟨g, j, none⟩ = some v ∧ w.frozen? ⟨g, j, none⟩ = false := by
  obtain ⟨hl, h | ⟨g', cap', cur, e', hb, hg, h1, h2, hs, ht⟩⟩ := h
  · cases h.1
  · simp only [Value.slice.injEq, Option.some.injEq, Addr.mk.injEq, and_true, true_and] at e'
    obtain ⟨rfl, rfl⟩ := e'
    rw [← ht, List.getElem?_take] at hj
    split at hj
    · constructor
      · unfold World.cell?
        simp only [hg]
        simpa using hj
      · unfold World.frozen?
        simp only [hg]
        simp
    · cases hj
end Go.Proofs.YtaamnpbhmckpbaaDoor

/- scene.Groups: its contract over this seat's translation. -/
namespace Go.Proofs.YtaamnpbhmckpbaaDoor
set_option linter.unusedVariables false
set_option linter.unusedSimpArgs false
open Go.RowKit Go.Extern.Stop Go.Stop Go.Extern

def frD (L : List Fr) (k : Nat) : Fr := L.getD k (0, 0, [])
def ansAt (L : List Fr) (k : Nat) : Fall := frAns (frD L (k - 1)).1 (frD L (k - 1)).2.1 (frD L (k - 1)).2.2 (frD L k).1 (frD L k).2.1 (frD L k).2.2
def unlAt (L : List Fr) (k : Nat) : Int := unlV (frD L (k - 1)).1 (frD L (k - 1)).2.1 (frD L (k - 1)).2.2 (frD L k).1 (frD L k).2.1 (frD L k).2.2
/-- the groups behind k frames: all but the last, the last -/
def grpS (L : List Fr) (cut gop : Int) : Nat → List (Int × Int) × Int × Int
  | 0 => ([], 0, 0)
  | k + 1 => if cut < unlAt L k ∨ (grpS L cut gop k).2.2 = gop then ((grpS L cut gop k).1 ++ [((grpS L cut gop k).2.1, (grpS L cut gop k).2.2)], (k : Int), 1) else ((grpS L cut gop k).1, (grpS L cut gop k).2.1, (grpS L cut gop k).2.2 + 1)
def grpL (L : List Fr) (cut gop : Int) (k : Nat) : List (Int × Int) := (grpS L cut gop k).1 ++ [((grpS L cut gop k).2.1, (grpS L cut gop k).2.2)]
theorem grpS_bound (L : List Fr) (cut gop : Int) (k : Nat) : (grpS L cut gop k).1.length ≤ k ∧ 0 ≤ (grpS L cut gop k).2.2 ∧ (grpS L cut gop k).2.2 ≤ k := by
  induction k with
  | zero => simp [grpS]
  | succ k ih =>
    unfold grpS
    split
    · simp only [List.length_append, List.length_cons, List.length_nil]; omega
    · simp only []; push_cast; omega
def scn : ByteArray := { data := #[115, 99, 101, 110, 101] }
def grpF (L : List Fr) : Nat → Fall
  | 0 => none
  | k + 1 => match grpF L k with
    | some f => some f
    | none => match ansAt L k with
      | none => none
      | some (p, c) => some ((scn, (k : Int)) :: p, c)
theorem grpF_some {L : List Fr} {k : Nat} {f : List (ByteArray × Int) × Int} (h : grpF L k = some f) (d : Nat) : grpF L (k + d) = some f := by
  induction d with
  | zero => exact h
  | succ d ih => show grpF L (k + d + 1) = _; unfold grpF; rw [ih]
theorem grpF_at {L : List Fr} {k n : Nat} {p : List (ByteArray × Int)} {c : Int} (h : grpF L k = none) (ha : ansAt L k = some (p, c)) (hk : k < n) : grpF L n = some ((scn, (k : Int)) :: p, c) := by
  have h1 : grpF L (k + 1) = some ((scn, (k : Int)) :: p, c) := by unfold grpF; rw [h, ha]
  have := grpF_some h1 (n - (k + 1))
  rwa [show k + 1 + (n - (k + 1)) = n by omega] at this
theorem grpF_next {L : List Fr} {k : Nat} (h : grpF L k = none) (ha : ansAt L k = none) : grpF L (k + 1) = none := by unfold grpF; rw [h, ha]
def grpAns (L : List Fr) (cut gop : Int) : Fall := if cut < 0 ∨ 16320 < cut ∨ gop < 1 ∨ 16 < gop then range else if L.length = 0 ∨ 16 < L.length then form else grpF L L.length
def grpV (L : List Fr) (cut gop : Int) : List (Int × Int) := match grpAns L cut gop with
  | none => grpL L cut gop L.length
  | some _ => []
/-- groups and an error -/
def GPost (w : World) (G : List (Int × Int)) (f : Fall) (e : Ending) (w' : World) : Prop := ∃ u x, e = .returned (.tuple #[u, x]) ∧ Ext w w' ∧ Row w' u G.length (gcells G) ∧ ErrIs w' f x
theorem own_addr2 {w : World} {base n : Nat} {e : TypeId} {s : Nat} {v : Value} {xs : List Value} (h : w.ownsRow base e s v n xs) (hn : 0 < n) : ∃ g cap, v = .slice (some ⟨g, 0, none⟩) n cap := by
  obtain ⟨hl, h'⟩ := id h
  rcases h' with ⟨h1, h2⟩ | ⟨g, cap, cur, e, -⟩
  · omega
  · exact ⟨g, cap, e⟩
end Go.Proofs.YtaamnpbhmckpbaaDoor

/- scene.Of: its contract over this seat's translation. -/
namespace Go.Proofs.YtaamnpbhmckpbaaDoor
set_option linter.unusedVariables false
set_option linter.unusedSimpArgs false
open Go.RowKit Go.Extern.Stop Go.Stop Go.Extern

def inG (x : Int) (p : Int × Int) : Prop := 0 < p.2 ∧ p.1 ≤ x ∧ x - p.1 < p.2
instance (x : Int) (p : Int × Int) : Decidable (inG x p) := by unfold inG; exact inferInstance
/-- the first group with a frame in it, from the k-th on -/
def ofV (x : Int) : List (Int × Int) → Int → Int
  | [], _ => -1
  | p :: G, k => if inG x p then k else ofV x G (k + 1)
theorem gcells_get (G : List (Int × Int)) (q : Nat) (p : Int × Int) (h : G[q]? = some p) : (gcells G)[q * 2]? = some (.int .i64 p.1) ∧ (gcells G)[q * 2 + 1]? = some (.int .i64 p.2) := by
  induction G generalizing q with
  | nil => simp at h
  | cons a G ih =>
    have e : gcells (a :: G) = .int .i64 a.1 :: .int .i64 a.2 :: gcells G := rfl
    rw [e]
    cases q with
    | zero => simp at h; subst h; exact ⟨rfl, rfl⟩
    | succ q =>
      have h' : G[q]? = some p := by simpa using h
      obtain ⟨h1, h2⟩ := ih q h'
      rw [show (q + 1) * 2 = q * 2 + 1 + 1 by omega, show q * 2 + 1 + 1 + 1 = (q * 2 + 1) + 1 + 1 by omega]
      exact ⟨by simpa using h1, by simpa using h2⟩
def small (p : Int × Int) : Prop := -9223372036854775808 ≤ p.1 ∧ p.1 ≤ 9223372036854775807 ∧ -9223372036854775808 ≤ p.2 ∧ p.2 ≤ 9223372036854775807
theorem ofV_step (x : Int) (G : List (Int × Int)) (q : Nat) (p : Int × Int) (h : G[q]? = some p) : ofV x (G.drop q) q = if inG x p then (q : Int) else ofV x (G.drop (q + 1)) ((q : Int) + 1) := by
  obtain ⟨hq, e⟩ := List.getElem?_eq_some_iff.1 h
  rw [List.drop_eq_getElem_cons hq, e]
  rfl
end Go.Proofs.YtaamnpbhmckpbaaDoor

/- Weights of frames in groups: plain. -/
namespace Go.Proofs.YtaamnpbhmckpbaaDoor
set_option linter.unusedVariables false
set_option linter.unusedSimpArgs false

/-- do groups lie one behind the other, from a place on, up to the end -/
def covS (N : Int) : List (Int × Int) → Int → Bool
  | [], a => decide (a = N)
  | p :: G, a => if p.1 ≠ a ∨ p.2 < 1 ∨ N - a < p.2 then false else covS N G (a + p.2)
def covB (N : Nat) (G : List (Int × Int)) : Bool := decide (1 ≤ N ∧ N ≤ 16) && covS N G 0
theorem covS_at {N a : Int} {G : List (Int × Int)} {q : Nat} {p : Int × Int} (h : G[q]? = some p) : covS N (G.drop q) a = if p.1 ≠ a ∨ p.2 < 1 ∨ N - a < p.2 then false else covS N (G.drop (q + 1)) (a + p.2) := by
  rw [drop_of_get h]
  rfl
theorem covS_end {N a : Int} {G : List (Int × Int)} {q : Nat} (h : G.length ≤ q) : covS N (G.drop q) a = decide (a = N) := by
  rw [List.drop_eq_nil_of_le h]
  rfl
theorem covS_ge {N : Int} : ∀ {G : List (Int × Int)} {a : Int}, covS N G a = true → ∀ p ∈ G, a ≤ p.1
  | [], _, _, p, hp => by cases hp
  | p :: G, a, h, r, hr => by
    unfold covS at h
    split at h
    · cases h
    · rename_i hn
      rcases List.mem_cons.1 hr with rfl | hr
      · omega
      · have := covS_ge h r hr
        omega
/-- does a frame begin a group -/
def begB (G : List (Int × Int)) (k : Nat) : Bool := G.any fun p => p.1 == (k : Int)
theorem begB_at {N a : Int} {G : List (Int × Int)} {q k : Nat} {p : Int × Int} (h : G[q]? = some p) (hc : covS N (G.drop q) a = true) (hb : ∀ r ∈ G.take q, r.1 < a) (hk : a ≤ k) (hk2 : (k : Int) < a + p.2) : begB G k = ((k : Int) == p.1) ∧ p.1 = a := by
  rw [covS_at h] at hc
  split at hc
  · cases hc
  · rename_i hn
    have hg := covS_ge hc
    have ha : p.1 = a := by omega
    refine ⟨?_, ha⟩
    unfold begB
    rw [← List.take_append_drop q G, drop_of_get h, List.any_append, List.any_cons]
    have h1 : ((G.take q).any fun p => p.1 == (k : Int)) = false := by
      rw [Bool.eq_false_iff]
      intro ht
      obtain ⟨r, hr, e⟩ := List.any_eq_true.1 ht
      have := hb r hr
      simp at e
      omega
    have h2 : ((G.drop (q + 1)).any fun p => p.1 == (k : Int)) = false := by
      rw [Bool.eq_false_iff]
      intro ht
      obtain ⟨r, hr, e⟩ := List.any_eq_true.1 ht
      have := hg r hr
      simp at e
      omega
    rw [h1, h2, Bool.false_or, Bool.or_false, Bool.eq_iff_iff]
    simp
    omega
theorem take_lt {N a : Int} {G : List (Int × Int)} {q : Nat} {p : Int × Int} (h : G[q]? = some p) (hc : covS N (G.drop q) a = true) (hb : ∀ r ∈ G.take q, r.1 < a) : (∀ r ∈ G.take (q + 1), r.1 < a + p.2) ∧ covS N (G.drop (q + 1)) (a + p.2) = true ∧ p.1 = a ∧ 1 ≤ p.2 ∧ p.2 ≤ N - a := by
  rw [covS_at h] at hc
  split at hc
  · cases hc
  · rename_i hn
    refine ⟨fun r hr => ?_, hc, by omega, by omega, by omega⟩
    rw [take_of_get h] at hr
    rcases List.mem_append.1 hr with hr | hr
    · have := hb r hr; omega
    · obtain rfl := List.mem_singleton.1 hr; omega
theorem inV_in (W H : Int) (zs : List Int) : 0 ≤ inV W H zs ∧ inV W H zs ≤ 261120 := by
  unfold inV
  split
  · rename_i h
    obtain ⟨m, p, -, -, h1, h2, h3, h4, e1, e2⟩ := may_sides h
    rw [e1, e2]
    have := blkF_bound (innV_in h) m (m * p)
    have : m * p ≤ 16 := Nat.mul_le_mul h2 h4
    omega
  · omega
theorem ouV_in (W H : Int) (xs : List Int) (W' H' : Int) (ys : List Int) : 0 ≤ ouV W H xs W' H' ys ∧ ouV W H xs W' H' ys ≤ 261120 := by
  unfold ouV
  split
  · rename_i h
    obtain ⟨hm, -⟩ := frAns_none h
    obtain ⟨m, p, -, -, h1, h2, h3, h4, e1, e2⟩ := may_sides hm
    rw [e1, e2]
    have := blkF_bound (v := outV W H xs W' H' ys) (outV_in hm) m (m * p)
    have : m * p ≤ 16 := Nat.mul_le_mul h2 h4
    omega
  · omega
/-- what a frame weighs, and what may be said of it -/
def wtV (L : List Fr) (b : Bool) (k : Nat) : Int := if b then 64 + 2 * inV (frD L k).1 (frD L k).2.1 (frD L k).2.2 else 64 + ouV (frD L k).1 (frD L k).2.1 (frD L k).2.2 (frD L (k - 1)).1 (frD L (k - 1)).2.1 (frD L (k - 1)).2.2
def wtE (L : List Fr) (b : Bool) (k : Nat) : Fall := if b then inAns (frD L k).1 (frD L k).2.1 (frD L k).2.2 else frAns (frD L k).1 (frD L k).2.1 (frD L k).2.2 (frD L (k - 1)).1 (frD L (k - 1)).2.1 (frD L (k - 1)).2.2
theorem wtV_in (L : List Fr) (b : Bool) (k : Nat) : 64 ≤ wtV L b k ∧ wtV L b k ≤ 600000 := by
  unfold wtV
  split
  · have := inV_in (frD L k).1 (frD L k).2.1 (frD L k).2.2; omega
  · have := ouV_in (frD L k).1 (frD L k).2.1 (frD L k).2.2 (frD L (k - 1)).1 (frD L (k - 1)).2.1 (frD L (k - 1)).2.2; omega
theorem wtE_path {L : List Fr} {b : Bool} {k : Nat} {f : List (ByteArray × Int) × Int} (h : wtE L b k = some f) : f.1 = [] ∧ f.2 ≠ 0 := by
  unfold wtE at h
  split at h
  · unfold inAns form at h
    split at h
    · cases h
    · cases h; exact ⟨rfl, by decide⟩
  · unfold frAns form fit at h
    split at h
    · split at h
      · cases h
      · cases h; exact ⟨rfl, by decide⟩
    · cases h; exact ⟨rfl, by decide⟩
def stt : ByteArray := { data := #[115, 116, 97, 116, 115] }
/-- the first frame of which something is to be said -/
def wtF (L : List Fr) (b : Nat → Bool) : Nat → Fall
  | 0 => none
  | k + 1 => match wtF L b k with
    | some f => some f
    | none => match wtE L (b k) k with
      | none => none
      | some (p, c) => some ((stt, (k : Int)) :: p, c)
theorem wtF_some {L : List Fr} {b : Nat → Bool} {k : Nat} {f : List (ByteArray × Int) × Int} (h : wtF L b k = some f) (d : Nat) : wtF L b (k + d) = some f := by
  induction d with
  | zero => exact h
  | succ d ih => show wtF L b (k + d + 1) = _; unfold wtF; rw [ih]
theorem wtF_at {L : List Fr} {b : Nat → Bool} {k n : Nat} {p : List (ByteArray × Int)} {c : Int} (h : wtF L b k = none) (ha : wtE L (b k) k = some (p, c)) (hk : k < n) : wtF L b n = some ((stt, (k : Int)) :: p, c) := by
  have h1 : wtF L b (k + 1) = some ((stt, (k : Int)) :: p, c) := by unfold wtF; rw [h, ha]
  have := wtF_some h1 (n - (k + 1))
  rwa [show k + 1 + (n - (k + 1)) = n by omega] at this
theorem wtF_next {L : List Fr} {b : Nat → Bool} {k : Nat} (h : wtF L b k = none) (ha : wtE L (b k) k = none) : wtF L b (k + 1) = none := by unfold wtF; rw [h, ha]
theorem wtF_none {L : List Fr} {b : Nat → Bool} {n : Nat} (h : wtF L b n = none) : ∀ k, k < n → wtE L (b k) k = none := fun k hk => by
  have h0 : wtF L b k = none := by
    cases hf : wtF L b k with
    | none => rfl
    | some f => have := wtF_some hf (n - k); rw [show k + (n - k) = n by omega, h] at this; cases this
  cases ha : wtE L (b k) k with
  | none => rfl
  | some f => obtain ⟨p, c⟩ := f; rw [wtF_at h0 ha hk] at h; cases h
def wtAns (L : List Fr) (G : List (Int × Int)) : Fall := if covB L.length G = true then wtF L (begB G) L.length else range
def wtL (L : List Fr) (G : List (Int × Int)) : List Int := match wtAns L G with
  | none => rowL L.length fun k => wtV L (begB G k) k
  | some _ => []
end Go.Proofs.YtaamnpbhmckpbaaDoor

/- stats.covers, kinref16.fits: contracts over this seat's translation. -/
namespace Go.Proofs.YtaamnpbhmckpbaaDoor
set_option linter.unusedVariables false
set_option linter.unusedSimpArgs false
open Go.RowKit Go.Extern.Stop Go.Stop Go.Extern

theorem covB_of {N : Nat} {G : List (Int × Int)} {b : Bool} (h : covS N G 0 = b) (hN : 1 ≤ N ∧ N ≤ 16) : covB N G = b := by
  unfold covB
  rw [h, decide_eq_true hN, Bool.true_and]
end Go.Proofs.YtaamnpbhmckpbaaDoor

/- stats.weight, Weights: contracts over this seat's translation. -/
namespace Go.Proofs.YtaamnpbhmckpbaaDoor
set_option linter.unusedVariables false
set_option linter.unusedSimpArgs false
open Go.RowKit Go.Extern.Stop Go.Stop Go.Extern

end Go.Proofs.YtaamnpbhmckpbaaDoor

/- kinref16.Outer: its contract over this seat's translation. -/
namespace Go.Proofs.YtaamnpbhmckpbaaDoor
set_option linter.unusedVariables false
set_option linter.unusedSimpArgs false
open Go.RowKit Go.Extern.Stop Go.Stop Go.Extern

theorem rsad_rows {f g : Nat → Int} (hf : ∀ j, 0 ≤ f j ∧ f j ≤ 255) (hg : ∀ j, 0 ≤ g j ∧ g j ≤ 255) (v u : Value) (w : World) (ha : Ints w v (rowL 64 f)) (hb : Ints w u (rowL 64 g)) :
    Calls Tryd.prog 68 #[v, u] w fun e w' => e = .returned (.tuple #[.int .i64 (sadF f g 64), .agg #[.int .i64 0, .slice none 0 0]]) ∧ Ext w w' := by
  have h := rsad_any _ _ v u w ha hb (by rw [rowL_length]; decide)
  rw [(sad_rows hf hg).1, (sad_rows hf hg).2] at h
  refine h.mono ?_
  rintro e w' ⟨c, a, m, k, rfl, hx, rfl, he⟩
  rw [he]
  exact ⟨rfl, hx⟩
end Go.Proofs.YtaamnpbhmckpbaaDoor

/- kinref16.Weights: its contract over this seat's translation. -/
namespace Go.Proofs.YtaamnpbhmckpbaaDoor
set_option linter.unusedVariables false
set_option linter.unusedSimpArgs false
open Go.RowKit Go.Extern.Stop Go.Stop Go.Extern

theorem own_setCell_lt {w : World} {base : Nat} {e : TypeId} {size : Nat} {v : Value} {n : Nat} {xs : List Value} (h : w.ownsRow base e size v n xs) {p : Addr} (u : Value) (hp : p.block < base) : (w.setCell p u).ownsRow base e size v n xs := by
  obtain ⟨h1, h2⟩ := h
  refine ⟨h1, ?_⟩
  rcases h2 with h2 | ⟨g, cap, cur, hv, hg, hh, r⟩
  · exact Or.inl h2
  · exact Or.inr ⟨g, cap, cur, hv, hg, by rw [Below.heap_setCell _ _ _ _ (by omega)]; exact hh, r⟩
/-- an error in a variable of the call's own, that may be written -/
def EAt (w : World) (b : Nat) (c : Int) (v : Value) : Prop := (w.cell? ⟨b, 0, none⟩ = some (.int .i64 c) ∧ w.cell? ⟨b, 1, none⟩ = some v ∧ w.frozen? ⟨b, 0, none⟩ = false ∧ w.frozen? ⟨b, 1, none⟩ = false) ∧ ∃ cs, w.heap[b]? = some (.cells cs 39 (0, 0))
theorem EAt.new (w : World) (c : Int) (v : Value) (hv : v.oneCell' = true) : EAt (w.alloc (.cells #[.int .i64 c, v] 39)) w.heap.size c v := ⟨⟨by simp, by simp, by simp, by simp⟩, _, heap_alloc_new w _⟩
theorem EAt.ext {w w' : World} {b : Nat} {c : Int} {v : Value} (h : EAt w b c v) (k : Ext w w') : EAt w' b c v :=
  ⟨⟨k.cell h.1.1, k.cell h.1.2.1, (Below.frozen k (Ext.lt h.1.1)).trans h.1.2.2.1, (Below.frozen k (Ext.lt h.1.2.1)).trans h.1.2.2.2⟩, h.2.choose, (k.block (Ext.lt h.1.1)).trans h.2.choose_spec⟩
theorem EAt.set {w : World} {b : Nat} {c : Int} {v : Value} (h : EAt w b c v) (c' : Int) (v' : Value) :
    EAt ((w.setCell ⟨b, 0, none⟩ (.int .i64 c')).setCell ⟨b, 1, none⟩ v') b c' v' := by
  obtain ⟨⟨h0, h1, h2, h3⟩, cs, h4⟩ := h
  have e0 := World.cell?_setCell_same _ _ (.int .i64 c') h0
  have e1 := (World.cell?_setCell_other w ⟨b, 0, none⟩ ⟨b, 1, none⟩ (.int .i64 c') (by simp)).trans h1
  have e2 := World.cell?_setCell_same _ _ v' e1
  have e3 := (World.cell?_setCell_other (w.setCell ⟨b, 0, none⟩ (.int .i64 c')) ⟨b, 1, none⟩ ⟨b, 0, none⟩ v' (by simp)).trans e0
  exact ⟨⟨e3, e2, by simpa using h2, by simpa using h3⟩, _, heap_setCell_same _ _ _ _ _ _ (heap_setCell_same _ _ _ _ _ _ h4)⟩
theorem EAt.own {w : World} {b : Nat} {c : Int} {v : Value} (h : EAt w b c v) {base : Nat} {e : TypeId} {size : Nat} {u : Value} {n : Nat} {xs : List Value} (k : w.ownsRow base e size u n xs) (hT : 39 ≠ e) (c' : Int) (v' : Value) :
    ((w.setCell ⟨b, 0, none⟩ (.int .i64 c')).setCell ⟨b, 1, none⟩ v').ownsRow base e size u n xs := by
  obtain ⟨-, cs, h4⟩ := h
  refine owns_setCell_ne (owns_setCell_ne k _ fun cs' hc => ?_) _ fun cs' hc => ?_
  · rw [h4] at hc
    simp only [Option.some.injEq, Obj.cells.injEq] at hc
    exact hT hc.2.1
  · rw [heap_setCell_same _ _ _ _ _ _ h4] at hc
    simp only [Option.some.injEq, Obj.cells.injEq] at hc
    exact hT hc.2.1
theorem wtE_err {L : List Fr} {b : Bool} {i : Nat} {w w' : World} {c : Int} {v : Value} (h : RErrIs w (wtE L b i) c v) : RErrIs w' (wtE L b i) c v := by
  cases hw : wtE L b i with
  | none => rw [hw] at h; exact h
  | some f =>
    obtain ⟨pe, cd⟩ := f
    obtain ⟨hpe, -⟩ := wtE_path hw
    simp only at hpe
    subst hpe
    rw [hw] at h
    exact ⟨h.1, h.2.1, Row.zero h.2.2⟩
end Go.Proofs.YtaamnpbhmckpbaaDoor

/- kinref11.Cost: its contract over this seat's translation. -/
namespace Go.Proofs.YtaamnpbhmckpbaaDoor
set_option linter.unusedVariables false
set_option linter.unusedSimpArgs false
open Go.RowKit Go.Extern.Stop Go.Stop Go.Extern

theorem matAns_path {xs ys : List Int} {f : List (ByteArray × Int) × Int} (h : matAns xs ys = some f) : f.1 = [] ∧ f.2 ≠ 0 := by
  unfold matAns range fit at h
  split at h
  · split at h
    · cases h; exact ⟨rfl, by decide⟩
    · cases h
  · cases h; exact ⟨rfl, by decide⟩
set_option maxHeartbeats 4000000 in
set_option maxRecDepth 20000 in
theorem rcost_any (xs ys : List Int) (vx vy : Int) (va vb : Value) (w : World) (ha : Ints w va xs) (hb : Ints w vb ys) (hN : xs.length ≤ 1000000) :
    Calls Tryd.prog 46 #[va, vb, .agg #[.int .i64 vx, .int .i64 vy]] w (RIPost w (cstV xs ys vx vy) (cstAns xs ys vx vy)) := by
  have S := Lib.hid (fun w h k => rsad_any xs ys va vb w h k hN)
  have hs := sadV_small (ys := ys) hN
  cases hm : matAns xs ys with
  | some f =>
    have hc : cstAns xs ys vx vy = some f := by unfold cstAns; rw [hm]
    have HR := Lib.hid hc
    have HV : Hid (cstV xs ys vx vy = 0) := by show _ = _; unfold cstV; rw [hc]
    have HPF := Lib.hid (matAns_path hm)
    rw [hm] at S
    clear hm hc hs
    have E0 : Ext w ((w.alloc (.cells #[.int .i64 vx, .int .i64 vy] 69)).alloc (.cells #[.int .i64 0, .slice none 0 0] 39)) := (by repeat (first | exact Ext.refl _ | assumption | refine Ext.alloc ?_ _ | refine Ext.drew ?_ | refine Ext.drewN ?_ _ | refine Ext.setCell ?_ (by first | exact Nat.le_refl _ | (simp; done) | omega) _ | refine Ext.trans ?_ (by assumption)))
    have q0 : ((w.alloc (.cells #[.int .i64 vx, .int .i64 vy] 69)).alloc (.cells #[.int .i64 0, .slice none 0 0] 39)).cell? ⟨w.heap.size, 0, none⟩ = some (.int .i64 vx) := by simp
    have q1 : ((w.alloc (.cells #[.int .i64 vx, .int .i64 vy] 69)).alloc (.cells #[.int .i64 0, .slice none 0 0] 39)).cell? ⟨w.heap.size, 1, none⟩ = some (.int .i64 vy) := by simp
    have R0 : ResAt ((w.alloc (.cells #[.int .i64 vx, .int .i64 vy] 69)).alloc (.cells #[.int .i64 0, .slice none 0 0] 39)) (w.heap.size + 1) := by
      have := ResAt.new (w.alloc (.cells #[.int .i64 vx, .int .i64 vy] 69))
      simpa using this
    go_enter Tryd.func46, Tryd.ntmps46
    go_wp2_with fail
    revert E0 q0 q1 R0
    generalize (w.alloc (.cells #[.int .i64 vx, .int .i64 vy] 69)).alloc (.cells #[.int .i64 0, .slice none 0 0] 39) = w0
    intro E0 q0 q1 R0
    have Q0 := Lib.hid q0
    have Q1 := Lib.hid q1
    have RB := Lib.hid R0
    clear q0 q1 R0
    refine (S.out _ (ha.ext E0) (hb.ext E0)).mono ?_; rintro e w1 ⟨c, d, i, j, rfl, hx1, hr1⟩
    have A1 : Ext w1 (w1.alloc (.cells #[.int .i64 c, .slice d i j] 39)) := (Ext.refl w1).alloc _
    have EA := Lib.hid (EAt.new w1 c (.slice d i j) rfl)
    have E1 := (E0.trans hx1).trans A1
    have P0 := Lib.hid ((hx1.trans A1).cell Q0.out)
    have P1 := Lib.hid ((hx1.trans A1).cell Q1.out)
    have RC := Lib.hid (RB.out.ext (hx1.trans A1))
    obtain ⟨⟨s0, s1, -, -⟩, -⟩ := EA.out
    clear hx1 A1 E0 Q0 Q1 RB
    go_wp2_with fail
    revert EA E1 P0 P1 RC s0 s1
    generalize w1.alloc (.cells #[.int .i64 c, .slice d i j] 39) = w2
    intro EA E1 P0 P1 RC s0 s1
    refine (ok_any c _ _).mono ?_; rintro e wA ⟨rfl, hxA⟩
    have t0 := hxA.cell s0
    have t1 := hxA.cell s1
    have E9 := E1.trans hxA
    have p0 := Lib.hid (hxA.cell P0.out)
    have p1 := Lib.hid (hxA.cell P1.out)
    have RA := Lib.hid (RC.out.ext hxA)
    have EA9 := Lib.hid (EA.out.ext hxA)
    clear s0 s1 hxA E1 P0 P1 RC EA
    have hc0 : (c == 0) = false := by obtain ⟨p, k⟩ := f; obtain ⟨q1, q2, -⟩ := hr1; simpa [q1] using q2
    have HR9 := Lib.hid hr1
    clear hr1
    rw [hc0]
    obtain ⟨r0, r1, f0, f1⟩ := RA.out
    go_wp2
    go_region
    go_wp2
    obtain ⟨e0, e1⟩ := res_cells (c := c) r0 r1 (.slice d i j)
    have EZ := ((E9.setCell (p := ⟨w.heap.size + 1, 0, none⟩) (Nat.le_add_right _ 1) (.int .i64 c)).setCell (p := ⟨w.heap.size + 1, 1, none⟩) (Nat.le_add_right _ 1) (.slice d i j)).drew
    exact bodyPost_ret (v := .tuple #[.int .i64 0, .agg #[.int .i64 c, .slice d i j]]) (by simp [results, Tryd.results46, go_sem, e0, e1]) rfl ⟨_, _, _, _, by rw [HV.out], EZ, by
      rw [HR.out]
      obtain ⟨p, k⟩ := f
      obtain ⟨q1, q2, q3⟩ := HR9.out
      obtain rfl : p = [] := HPF.out.1
      exact ⟨q1, q2, q3.zero⟩⟩
  | none =>
    rw [hm] at S
    cases hv : vecB vx vy with
    | false =>
      have hc : cstAns xs ys vx vy = range := by unfold cstAns; rw [hm]; show (if _ then _ else _) = _; rw [hv]; rfl
      have HR := Lib.hid hc
      have HV : Hid (cstV xs ys vx vy = 0) := by show _ = _; unfold cstV; rw [hc]; rfl
      have B := Lib.hid (fun w => by have := rvec_any vx vy w; rwa [hv] at this)
      clear hm hc hv hs
      have E0 : Ext w ((w.alloc (.cells #[.int .i64 vx, .int .i64 vy] 69)).alloc (.cells #[.int .i64 0, .slice none 0 0] 39)) := (by repeat (first | exact Ext.refl _ | assumption | refine Ext.alloc ?_ _ | refine Ext.drew ?_ | refine Ext.drewN ?_ _ | refine Ext.setCell ?_ (by first | exact Nat.le_refl _ | (simp; done) | omega) _ | refine Ext.trans ?_ (by assumption)))
      have q0 : ((w.alloc (.cells #[.int .i64 vx, .int .i64 vy] 69)).alloc (.cells #[.int .i64 0, .slice none 0 0] 39)).cell? ⟨w.heap.size, 0, none⟩ = some (.int .i64 vx) := by simp
      have q1 : ((w.alloc (.cells #[.int .i64 vx, .int .i64 vy] 69)).alloc (.cells #[.int .i64 0, .slice none 0 0] 39)).cell? ⟨w.heap.size, 1, none⟩ = some (.int .i64 vy) := by simp
      have R0 : ResAt ((w.alloc (.cells #[.int .i64 vx, .int .i64 vy] 69)).alloc (.cells #[.int .i64 0, .slice none 0 0] 39)) (w.heap.size + 1) := by
        have := ResAt.new (w.alloc (.cells #[.int .i64 vx, .int .i64 vy] 69))
        simpa using this
      go_enter Tryd.func46, Tryd.ntmps46
      go_wp2_with fail
      revert E0 q0 q1 R0
      generalize (w.alloc (.cells #[.int .i64 vx, .int .i64 vy] 69)).alloc (.cells #[.int .i64 0, .slice none 0 0] 39) = w0
      intro E0 q0 q1 R0
      have Q0 := Lib.hid q0
      have Q1 := Lib.hid q1
      have RB := Lib.hid R0
      clear q0 q1 R0
      refine (S.out _ (ha.ext E0) (hb.ext E0)).mono ?_; rintro e w1 ⟨c, d, i, j, rfl, hx1, hr1⟩
      have A1 : Ext w1 (w1.alloc (.cells #[.int .i64 c, .slice d i j] 39)) := (Ext.refl w1).alloc _
      have EA := Lib.hid (EAt.new w1 c (.slice d i j) rfl)
      have E1 := (E0.trans hx1).trans A1
      have P0 := Lib.hid ((hx1.trans A1).cell Q0.out)
      have P1 := Lib.hid ((hx1.trans A1).cell Q1.out)
      have RC := Lib.hid (RB.out.ext (hx1.trans A1))
      obtain ⟨⟨s0, s1, -, -⟩, -⟩ := EA.out
      clear hx1 A1 E0 Q0 Q1 RB
      go_wp2_with fail
      revert EA E1 P0 P1 RC s0 s1
      generalize w1.alloc (.cells #[.int .i64 c, .slice d i j] 39) = w2
      intro EA E1 P0 P1 RC s0 s1
      refine (ok_any c _ _).mono ?_; rintro e wA ⟨rfl, hxA⟩
      have t0 := hxA.cell s0
      have t1 := hxA.cell s1
      have E9 := E1.trans hxA
      have p0 := Lib.hid (hxA.cell P0.out)
      have p1 := Lib.hid (hxA.cell P1.out)
      have RA := Lib.hid (RC.out.ext hxA)
      have EA9 := Lib.hid (EA.out.ext hxA)
      clear s0 s1 hxA E1 P0 P1 RC EA
      obtain ⟨rfl, hd⟩ := hr1
      simp only [Value.slice.injEq] at hd
      obtain ⟨rfl, rfl, rfl⟩ := hd
      rw [show ((0 : Int) == 0) = true from rfl]
      have o0 := p0.out
      have o1 := p1.out
      go_wp2_with fail
      refine (B.out _).mono ?_; rintro e w4 ⟨rfl, hx4⟩
      go_wp2_with fail
      refine (fail_any 3 _).mono ?_; rintro e w5 ⟨rfl, hx5⟩
      have E5 := (E9.trans hx4).trans hx5
      obtain ⟨r0, r1, f0, f1⟩ := RA.out.ext (hx4.trans hx5)
      clear hx4 hx5
      go_wp2
      obtain ⟨e0, e1⟩ := res_cells (c := 3) r0 r1 (.slice none 0 0)
      exact bodyPost_ret (v := .tuple #[.int .i64 0, .agg #[.int .i64 3, .slice none 0 0]]) (by simp [results, Tryd.results46, go_sem, e0, e1]) rfl ⟨_, _, _, _, by rw [HV.out], (E5.setCell (p := ⟨w.heap.size + 1, 0, none⟩) (Nat.le_add_right _ 1) _).setCell (p := ⟨w.heap.size + 1, 1, none⟩) (Nat.le_add_right _ 1) _, by rw [HR.out]; exact RErrIs.code (by decide)⟩
    | true =>
      have hc : cstAns xs ys vx vy = none := by unfold cstAns; rw [hm]; show (if _ then _ else _) = _; rw [hv]; rfl
      have HR := Lib.hid hc
      have HV : Hid (cstV xs ys vx vy = 4 * sadV xs ys + max vx (-vx) + max vy (-vy)) := by show _ = _; unfold cstV; rw [hc, Int.add_assoc]; rfl
      have B := Lib.hid (fun w => by have := rvec_any vx vy w; rwa [hv] at this)
      have hb2 := vecB_true hv
      clear hm hc hv
      revert S HV hs
      generalize sadV xs ys = s
      intro S hs HV
      have rr := mx2
      have e1 : IntKind.i64.wrap (4 * s) = 4 * s := by rw [IntKind.wrap_i64]; omega
      have e2 : IntKind.i64.wrap (-vx) = -vx := by rw [IntKind.wrap_i64]; omega
      have e3 : IntKind.i64.wrap (-vy) = -vy := by rw [IntKind.wrap_i64]; omega
      have e4 : IntKind.i64.wrap (4 * s + max vx (-vx)) = 4 * s + max vx (-vx) := by rw [IntKind.wrap_i64]; omega
      have e5 : IntKind.i64.wrap (4 * s + max vx (-vx) + max vy (-vy)) = 4 * s + max vx (-vx) + max vy (-vy) := by rw [IntKind.wrap_i64]; omega
      clear hb2
      have E0 : Ext w ((w.alloc (.cells #[.int .i64 vx, .int .i64 vy] 69)).alloc (.cells #[.int .i64 0, .slice none 0 0] 39)) := (by repeat (first | exact Ext.refl _ | assumption | refine Ext.alloc ?_ _ | refine Ext.drew ?_ | refine Ext.drewN ?_ _ | refine Ext.setCell ?_ (by first | exact Nat.le_refl _ | (simp; done) | omega) _ | refine Ext.trans ?_ (by assumption)))
      have q0 : ((w.alloc (.cells #[.int .i64 vx, .int .i64 vy] 69)).alloc (.cells #[.int .i64 0, .slice none 0 0] 39)).cell? ⟨w.heap.size, 0, none⟩ = some (.int .i64 vx) := by simp
      have q1 : ((w.alloc (.cells #[.int .i64 vx, .int .i64 vy] 69)).alloc (.cells #[.int .i64 0, .slice none 0 0] 39)).cell? ⟨w.heap.size, 1, none⟩ = some (.int .i64 vy) := by simp
      have R0 : ResAt ((w.alloc (.cells #[.int .i64 vx, .int .i64 vy] 69)).alloc (.cells #[.int .i64 0, .slice none 0 0] 39)) (w.heap.size + 1) := by
        have := ResAt.new (w.alloc (.cells #[.int .i64 vx, .int .i64 vy] 69))
        simpa using this
      go_enter Tryd.func46, Tryd.ntmps46
      go_wp2_with fail
      revert E0 q0 q1 R0
      generalize (w.alloc (.cells #[.int .i64 vx, .int .i64 vy] 69)).alloc (.cells #[.int .i64 0, .slice none 0 0] 39) = w0
      intro E0 q0 q1 R0
      have Q0 := Lib.hid q0
      have Q1 := Lib.hid q1
      have RB := Lib.hid R0
      clear q0 q1 R0
      refine (S.out _ (ha.ext E0) (hb.ext E0)).mono ?_; rintro e w1 ⟨c, d, i, j, rfl, hx1, hr1⟩
      have A1 : Ext w1 (w1.alloc (.cells #[.int .i64 c, .slice d i j] 39)) := (Ext.refl w1).alloc _
      have EA := Lib.hid (EAt.new w1 c (.slice d i j) rfl)
      have E1 := (E0.trans hx1).trans A1
      have P0 := Lib.hid ((hx1.trans A1).cell Q0.out)
      have P1 := Lib.hid ((hx1.trans A1).cell Q1.out)
      have RC := Lib.hid (RB.out.ext (hx1.trans A1))
      obtain ⟨⟨s0, s1, -, -⟩, -⟩ := EA.out
      clear hx1 A1 E0 Q0 Q1 RB
      go_wp2_with fail
      revert EA E1 P0 P1 RC s0 s1
      generalize w1.alloc (.cells #[.int .i64 c, .slice d i j] 39) = w2
      intro EA E1 P0 P1 RC s0 s1
      refine (ok_any c _ _).mono ?_; rintro e wA ⟨rfl, hxA⟩
      have t0 := hxA.cell s0
      have t1 := hxA.cell s1
      have E9 := E1.trans hxA
      have p0 := Lib.hid (hxA.cell P0.out)
      have p1 := Lib.hid (hxA.cell P1.out)
      have RA := Lib.hid (RC.out.ext hxA)
      have EA9 := Lib.hid (EA.out.ext hxA)
      clear s0 s1 hxA E1 P0 P1 RC EA
      obtain ⟨rfl, hd⟩ := hr1
      simp only [Value.slice.injEq] at hd
      obtain ⟨rfl, rfl, rfl⟩ := hd
      rw [show ((0 : Int) == 0) = true from rfl]
      have o0 := p0.out
      have o1 := p1.out
      clear t0 t1
      go_wp2_with fail
      refine (B.out _).mono ?_; rintro e w4 ⟨rfl, hx4⟩
      have E4 := E9.trans hx4
      have u0 := hx4.cell o0
      have u1 := hx4.cell o1
      obtain ⟨⟨t0, t1, -, -⟩, -⟩ := EA9.out.ext hx4
      obtain ⟨r0, r1, f0, f1⟩ := RA.out.ext hx4
      clear o0 o1 hx4
      go_wp2
      go_region
      all_goals go_wp2
      all_goals
        obtain ⟨e0, e1⟩ := res_cells (c := 0) r0 r1 (.slice none 0 0)
        have EZ := ((E4.setCell (p := ⟨w.heap.size + 1, 0, none⟩) (Nat.le_add_right _ 1) (.int .i64 0)).setCell (p := ⟨w.heap.size + 1, 1, none⟩) (Nat.le_add_right _ 1) (.slice none 0 0)).drew
        exact bodyPost_ret (v := .tuple #[.int .i64 (4 * s + max vx (-vx) + max vy (-vy)), .agg #[.int .i64 0, .slice none 0 0]]) (by simp [results, Tryd.results46, go_sem, e0, e1]) rfl ⟨_, _, _, _, by rw [HV.out], EZ, by rw [HR.out]; exact RErrIs.zero⟩
end Go.Proofs.YtaamnpbhmckpbaaDoor
