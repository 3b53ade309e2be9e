/- kinlaw6.PlaneTwo: the walk. -/
import Derived.Test.YtkighedghgcdjaaDoorPl1
import Derived.Test.YtkighedghgcdjaaDoorPutB
namespace Go.Proofs.YtkighedghgcdjaaDoor
set_option linter.unusedVariables false
set_option linter.unusedSimpArgs false
open Go.RowKit Go.Extern.Stop Go.Stop Go.Extern

theorem OPost.fp {w w' : World} {W H : Int} {L : List Int} {f : Fall} {e : Ending} (h : OPost w W H L f e w') : FPost w W H L f e w' := by
  obtain ⟨a, n, cap, x, h1, h2, h3, h4, h5, h6⟩ := h
  refine ⟨a, n, cap, x, h1, h2, ?_, h6⟩
  rw [h3] at h5 ⊢
  exact Ints.of_owns h5 (by omega)
theorem putF_any (W H x y i : Int) (zs bs : List Int) (a b : Option Addr) (n m cap cb : Nat) (w : World) (h : Ints w (.slice a n cap) zs) (hb : Ints w (.slice b m cb) bs) :
    Calls Tryd.prog 33 #[.agg #[.int .i64 W, .int .i64 H, .slice a n cap], .int .i64 x, .int .i64 y, .int .i64 i, .slice b m cb] w
      (FPost w (putS W H zs x y i bs W) (putS W H zs x y i bs H) (putV W H zs x y i bs) (putAns W H zs x y i bs)) := (put_any W H x y i zs bs a b n m cap cb w h hb).mono fun _ _ k => k.fp
theorem putF_ok (W H x y i : Int) (zs bs : List Int) (hf : putAns W H zs x y i bs = none) (a b : Option Addr) (n m cap cb : Nat) (w : World) (h : Ints w (.slice a n cap) zs) (hb : Ints w (.slice b m cb) bs) :
    Calls Tryd.prog 33 #[.agg #[.int .i64 W, .int .i64 H, .slice a n cap], .int .i64 x, .int .i64 y, .int .i64 i, .slice b m cb] w (FPost w W H (putRow W zs x y i bs) none) := by
  have := putF_any W H x y i zs bs a b n m cap cb w h hb
  have e1 : putV W H zs x y i bs = putRow W zs x y i bs := by unfold putV; rw [hf]
  have e2 : ∀ s, putS W H zs x y i bs s = s := fun s => by unfold putS; rw [hf]
  rwa [e1, e2, e2, hf] at this
theorem same_self {W H : Int} {L : List Int} (h : may W H L) : sameB W H L W H L = true := by unfold sameB; simp [h]
set_option maxHeartbeats 2000000 in
set_option maxRecDepth 20000 in
theorem two_c0 (W H x y u v i : Int) (a b c : Option Addr) (n m k cap cb cc : Nat) (w : World) (hg : EtIs w) (hn : ¬ 5000 < n) (h0 : 5000 < m) :
    Calls Tryd.prog 8 #[.agg #[.int .i64 W, .int .i64 H, .slice a n cap], .int .i64 x, .int .i64 y, .int .i64 u, .int .i64 v, .int .i64 i, .slice b m cb, .slice c k cc] w fun e w' => e = .returned (.bool true) ∧ Ext w w' := by
  have HB := Lib.hid (FrBox.new w W H (.slice a n cap))
  go_enter Tryd.func8, Tryd.ntmps8
  go_wp2_with fail
  refine (first6_any _ (hg.ext (by repeat (first | exact Ext.refl _ | assumption | refine Ext.alloc ?_ _ | refine Ext.drew ?_ | refine Ext.drewN ?_ _ | refine Ext.setCell ?_ (by first | exact Nat.le_refl _ | (simp; done) | omega) _ | refine Ext.trans ?_ (by assumption))))).mono ?_; rintro e w1 ⟨rfl, hx1⟩
  have F1 := Lib.hid (HB.out.ext hx1)
  obtain ⟨p0, p1, p2⟩ := F1.out
  go_wp2_with fail
  refine (few_any W H a n cap _).mono ?_; rintro e w2 ⟨rfl, hx2⟩
  have F2 := Lib.hid (F1.out.ext hx2)
  clear p0 p1 p2 F1 HB
  rw [decide_eq_true (by omega)]
  go_wp2_with fail
  refine (first6_any _ (hg.ext (by repeat (first | exact Ext.refl _ | assumption | refine Ext.alloc ?_ _ | refine Ext.drew ?_ | refine Ext.drewN ?_ _ | refine Ext.setCell ?_ (by first | exact Nat.le_refl _ | (simp; done) | omega) _ | refine Ext.trans ?_ (by assumption))))).mono ?_; rintro e w9 ⟨rfl, hx9⟩
  go_wp2
  go_ret
  exact ⟨rfl, (by repeat (first | exact Ext.refl _ | assumption | refine Ext.alloc ?_ _ | refine Ext.drew ?_ | refine Ext.drewN ?_ _ | refine Ext.setCell ?_ (by first | exact Nat.le_refl _ | (simp; done) | omega) _ | refine Ext.trans ?_ (by assumption)))⟩
set_option maxHeartbeats 2000000 in
set_option maxRecDepth 20000 in
theorem two_c1 (W H x y u v i : Int) (a b c : Option Addr) (n m k cap cb cc : Nat) (w : World) (hg : EtIs w) (hn : ¬ 5000 < n) (h0 : ¬ 5000 < m) (h1 : 5000 < k) :
    Calls Tryd.prog 8 #[.agg #[.int .i64 W, .int .i64 H, .slice a n cap], .int .i64 x, .int .i64 y, .int .i64 u, .int .i64 v, .int .i64 i, .slice b m cb, .slice c k cc] w fun e w' => e = .returned (.bool true) ∧ Ext w w' := by
  have HB := Lib.hid (FrBox.new w W H (.slice a n cap))
  go_enter Tryd.func8, Tryd.ntmps8
  go_wp2_with fail
  refine (first6_any _ (hg.ext (by repeat (first | exact Ext.refl _ | assumption | refine Ext.alloc ?_ _ | refine Ext.drew ?_ | refine Ext.drewN ?_ _ | refine Ext.setCell ?_ (by first | exact Nat.le_refl _ | (simp; done) | omega) _ | refine Ext.trans ?_ (by assumption))))).mono ?_; rintro e w1 ⟨rfl, hx1⟩
  have F1 := Lib.hid (HB.out.ext hx1)
  obtain ⟨p0, p1, p2⟩ := F1.out
  go_wp2_with fail
  refine (few_any W H a n cap _).mono ?_; rintro e w2 ⟨rfl, hx2⟩
  have F2 := Lib.hid (F1.out.ext hx2)
  clear p0 p1 p2 F1 HB
  rw [decide_eq_true (by omega)]
  go_wp2_with fail
  refine (first6_any _ (hg.ext (by repeat (first | exact Ext.refl _ | assumption | refine Ext.alloc ?_ _ | refine Ext.drew ?_ | refine Ext.drewN ?_ _ | refine Ext.setCell ?_ (by first | exact Nat.le_refl _ | (simp; done) | omega) _ | refine Ext.trans ?_ (by assumption))))).mono ?_; rintro e w9 ⟨rfl, hx9⟩
  go_wp2
  go_ret
  exact ⟨rfl, (by repeat (first | exact Ext.refl _ | assumption | refine Ext.alloc ?_ _ | refine Ext.drew ?_ | refine Ext.drewN ?_ _ | refine Ext.setCell ?_ (by first | exact Nat.le_refl _ | (simp; done) | omega) _ | refine Ext.trans ?_ (by assumption)))⟩
set_option maxHeartbeats 2000000 in
set_option maxRecDepth 20000 in
theorem two_c2 (W H x y u v i : Int) (a b c : Option Addr) (n m k cap cb cc : Nat) (w : World) (hg : EtIs w) (hn : ¬ 5000 < n) (h0 : ¬ 5000 < m) (h1 : ¬ 5000 < k) (h2 : i < 1) :
    Calls Tryd.prog 8 #[.agg #[.int .i64 W, .int .i64 H, .slice a n cap], .int .i64 x, .int .i64 y, .int .i64 u, .int .i64 v, .int .i64 i, .slice b m cb, .slice c k cc] w fun e w' => e = .returned (.bool true) ∧ Ext w w' := by
  have HB := Lib.hid (FrBox.new w W H (.slice a n cap))
  go_enter Tryd.func8, Tryd.ntmps8
  go_wp2_with fail
  refine (first6_any _ (hg.ext (by repeat (first | exact Ext.refl _ | assumption | refine Ext.alloc ?_ _ | refine Ext.drew ?_ | refine Ext.drewN ?_ _ | refine Ext.setCell ?_ (by first | exact Nat.le_refl _ | (simp; done) | omega) _ | refine Ext.trans ?_ (by assumption))))).mono ?_; rintro e w1 ⟨rfl, hx1⟩
  have F1 := Lib.hid (HB.out.ext hx1)
  obtain ⟨p0, p1, p2⟩ := F1.out
  go_wp2_with fail
  refine (few_any W H a n cap _).mono ?_; rintro e w2 ⟨rfl, hx2⟩
  have F2 := Lib.hid (F1.out.ext hx2)
  clear p0 p1 p2 F1 HB
  rw [decide_eq_true (by omega)]
  go_wp2_with fail
  refine (first6_any _ (hg.ext (by repeat (first | exact Ext.refl _ | assumption | refine Ext.alloc ?_ _ | refine Ext.drew ?_ | refine Ext.drewN ?_ _ | refine Ext.setCell ?_ (by first | exact Nat.le_refl _ | (simp; done) | omega) _ | refine Ext.trans ?_ (by assumption))))).mono ?_; rintro e w9 ⟨rfl, hx9⟩
  go_wp2
  go_ret
  exact ⟨rfl, (by repeat (first | exact Ext.refl _ | assumption | refine Ext.alloc ?_ _ | refine Ext.drew ?_ | refine Ext.drewN ?_ _ | refine Ext.setCell ?_ (by first | exact Nat.le_refl _ | (simp; done) | omega) _ | refine Ext.trans ?_ (by assumption)))⟩
set_option maxHeartbeats 2000000 in
set_option maxRecDepth 20000 in
theorem two_c3 (W H x y u v i : Int) (a b c : Option Addr) (n m k cap cb cc : Nat) (w : World) (hg : EtIs w) (hn : ¬ 5000 < n) (h0 : ¬ 5000 < m) (h1 : ¬ 5000 < k) (h2 : ¬ i < 1) (h3 : 8 < i) :
    Calls Tryd.prog 8 #[.agg #[.int .i64 W, .int .i64 H, .slice a n cap], .int .i64 x, .int .i64 y, .int .i64 u, .int .i64 v, .int .i64 i, .slice b m cb, .slice c k cc] w fun e w' => e = .returned (.bool true) ∧ Ext w w' := by
  have HB := Lib.hid (FrBox.new w W H (.slice a n cap))
  go_enter Tryd.func8, Tryd.ntmps8
  go_wp2_with fail
  refine (first6_any _ (hg.ext (by repeat (first | exact Ext.refl _ | assumption | refine Ext.alloc ?_ _ | refine Ext.drew ?_ | refine Ext.drewN ?_ _ | refine Ext.setCell ?_ (by first | exact Nat.le_refl _ | (simp; done) | omega) _ | refine Ext.trans ?_ (by assumption))))).mono ?_; rintro e w1 ⟨rfl, hx1⟩
  have F1 := Lib.hid (HB.out.ext hx1)
  obtain ⟨p0, p1, p2⟩ := F1.out
  go_wp2_with fail
  refine (few_any W H a n cap _).mono ?_; rintro e w2 ⟨rfl, hx2⟩
  have F2 := Lib.hid (F1.out.ext hx2)
  clear p0 p1 p2 F1 HB
  rw [decide_eq_true (by omega)]
  go_wp2_with fail
  refine (first6_any _ (hg.ext (by repeat (first | exact Ext.refl _ | assumption | refine Ext.alloc ?_ _ | refine Ext.drew ?_ | refine Ext.drewN ?_ _ | refine Ext.setCell ?_ (by first | exact Nat.le_refl _ | (simp; done) | omega) _ | refine Ext.trans ?_ (by assumption))))).mono ?_; rintro e w9 ⟨rfl, hx9⟩
  go_wp2
  go_ret
  exact ⟨rfl, (by repeat (first | exact Ext.refl _ | assumption | refine Ext.alloc ?_ _ | refine Ext.drew ?_ | refine Ext.drewN ?_ _ | refine Ext.setCell ?_ (by first | exact Nat.le_refl _ | (simp; done) | omega) _ | refine Ext.trans ?_ (by assumption)))⟩
set_option maxHeartbeats 2000000 in
set_option maxRecDepth 20000 in
theorem two_c4 (W H x y u v i : Int) (a b c : Option Addr) (n m k cap cb cc : Nat) (w : World) (hg : EtIs w) (hn : ¬ 5000 < n) (h0 : ¬ 5000 < m) (h1 : ¬ 5000 < k) (h2 : ¬ i < 1) (h3 : ¬ 8 < i) (h4 : x < 0) :
    Calls Tryd.prog 8 #[.agg #[.int .i64 W, .int .i64 H, .slice a n cap], .int .i64 x, .int .i64 y, .int .i64 u, .int .i64 v, .int .i64 i, .slice b m cb, .slice c k cc] w fun e w' => e = .returned (.bool true) ∧ Ext w w' := by
  have HB := Lib.hid (FrBox.new w W H (.slice a n cap))
  go_enter Tryd.func8, Tryd.ntmps8
  go_wp2_with fail
  refine (first6_any _ (hg.ext (by repeat (first | exact Ext.refl _ | assumption | refine Ext.alloc ?_ _ | refine Ext.drew ?_ | refine Ext.drewN ?_ _ | refine Ext.setCell ?_ (by first | exact Nat.le_refl _ | (simp; done) | omega) _ | refine Ext.trans ?_ (by assumption))))).mono ?_; rintro e w1 ⟨rfl, hx1⟩
  have F1 := Lib.hid (HB.out.ext hx1)
  obtain ⟨p0, p1, p2⟩ := F1.out
  go_wp2_with fail
  refine (few_any W H a n cap _).mono ?_; rintro e w2 ⟨rfl, hx2⟩
  have F2 := Lib.hid (F1.out.ext hx2)
  clear p0 p1 p2 F1 HB
  rw [decide_eq_true (by omega)]
  go_wp2_with fail
  refine (first6_any _ (hg.ext (by repeat (first | exact Ext.refl _ | assumption | refine Ext.alloc ?_ _ | refine Ext.drew ?_ | refine Ext.drewN ?_ _ | refine Ext.setCell ?_ (by first | exact Nat.le_refl _ | (simp; done) | omega) _ | refine Ext.trans ?_ (by assumption))))).mono ?_; rintro e w9 ⟨rfl, hx9⟩
  go_wp2
  go_ret
  exact ⟨rfl, (by repeat (first | exact Ext.refl _ | assumption | refine Ext.alloc ?_ _ | refine Ext.drew ?_ | refine Ext.drewN ?_ _ | refine Ext.setCell ?_ (by first | exact Nat.le_refl _ | (simp; done) | omega) _ | refine Ext.trans ?_ (by assumption)))⟩
set_option maxHeartbeats 2000000 in
set_option maxRecDepth 20000 in
theorem two_c5 (W H x y u v i : Int) (a b c : Option Addr) (n m k cap cb cc : Nat) (w : World) (hg : EtIs w) (hn : ¬ 5000 < n) (h0 : ¬ 5000 < m) (h1 : ¬ 5000 < k) (h2 : ¬ i < 1) (h3 : ¬ 8 < i) (h4 : ¬ x < 0) (h5 : y < 0) :
    Calls Tryd.prog 8 #[.agg #[.int .i64 W, .int .i64 H, .slice a n cap], .int .i64 x, .int .i64 y, .int .i64 u, .int .i64 v, .int .i64 i, .slice b m cb, .slice c k cc] w fun e w' => e = .returned (.bool true) ∧ Ext w w' := by
  have HB := Lib.hid (FrBox.new w W H (.slice a n cap))
  go_enter Tryd.func8, Tryd.ntmps8
  go_wp2_with fail
  refine (first6_any _ (hg.ext (by repeat (first | exact Ext.refl _ | assumption | refine Ext.alloc ?_ _ | refine Ext.drew ?_ | refine Ext.drewN ?_ _ | refine Ext.setCell ?_ (by first | exact Nat.le_refl _ | (simp; done) | omega) _ | refine Ext.trans ?_ (by assumption))))).mono ?_; rintro e w1 ⟨rfl, hx1⟩
  have F1 := Lib.hid (HB.out.ext hx1)
  obtain ⟨p0, p1, p2⟩ := F1.out
  go_wp2_with fail
  refine (few_any W H a n cap _).mono ?_; rintro e w2 ⟨rfl, hx2⟩
  have F2 := Lib.hid (F1.out.ext hx2)
  clear p0 p1 p2 F1 HB
  rw [decide_eq_true (by omega)]
  go_wp2_with fail
  refine (first6_any _ (hg.ext (by repeat (first | exact Ext.refl _ | assumption | refine Ext.alloc ?_ _ | refine Ext.drew ?_ | refine Ext.drewN ?_ _ | refine Ext.setCell ?_ (by first | exact Nat.le_refl _ | (simp; done) | omega) _ | refine Ext.trans ?_ (by assumption))))).mono ?_; rintro e w9 ⟨rfl, hx9⟩
  go_wp2
  go_ret
  exact ⟨rfl, (by repeat (first | exact Ext.refl _ | assumption | refine Ext.alloc ?_ _ | refine Ext.drew ?_ | refine Ext.drewN ?_ _ | refine Ext.setCell ?_ (by first | exact Nat.le_refl _ | (simp; done) | omega) _ | refine Ext.trans ?_ (by assumption)))⟩
set_option maxHeartbeats 2000000 in
set_option maxRecDepth 20000 in
theorem two_c6 (W H x y u v i : Int) (a b c : Option Addr) (n m k cap cb cc : Nat) (w : World) (hg : EtIs w) (hn : ¬ 5000 < n) (h0 : ¬ 5000 < m) (h1 : ¬ 5000 < k) (h2 : ¬ i < 1) (h3 : ¬ 8 < i) (h4 : ¬ x < 0) (h5 : ¬ y < 0) (h6 : u < 0) :
    Calls Tryd.prog 8 #[.agg #[.int .i64 W, .int .i64 H, .slice a n cap], .int .i64 x, .int .i64 y, .int .i64 u, .int .i64 v, .int .i64 i, .slice b m cb, .slice c k cc] w fun e w' => e = .returned (.bool true) ∧ Ext w w' := by
  have HB := Lib.hid (FrBox.new w W H (.slice a n cap))
  go_enter Tryd.func8, Tryd.ntmps8
  go_wp2_with fail
  refine (first6_any _ (hg.ext (by repeat (first | exact Ext.refl _ | assumption | refine Ext.alloc ?_ _ | refine Ext.drew ?_ | refine Ext.drewN ?_ _ | refine Ext.setCell ?_ (by first | exact Nat.le_refl _ | (simp; done) | omega) _ | refine Ext.trans ?_ (by assumption))))).mono ?_; rintro e w1 ⟨rfl, hx1⟩
  have F1 := Lib.hid (HB.out.ext hx1)
  obtain ⟨p0, p1, p2⟩ := F1.out
  go_wp2_with fail
  refine (few_any W H a n cap _).mono ?_; rintro e w2 ⟨rfl, hx2⟩
  have F2 := Lib.hid (F1.out.ext hx2)
  clear p0 p1 p2 F1 HB
  rw [decide_eq_true (by omega)]
  go_wp2_with fail
  refine (first6_any _ (hg.ext (by repeat (first | exact Ext.refl _ | assumption | refine Ext.alloc ?_ _ | refine Ext.drew ?_ | refine Ext.drewN ?_ _ | refine Ext.setCell ?_ (by first | exact Nat.le_refl _ | (simp; done) | omega) _ | refine Ext.trans ?_ (by assumption))))).mono ?_; rintro e w9 ⟨rfl, hx9⟩
  go_wp2
  go_ret
  exact ⟨rfl, (by repeat (first | exact Ext.refl _ | assumption | refine Ext.alloc ?_ _ | refine Ext.drew ?_ | refine Ext.drewN ?_ _ | refine Ext.setCell ?_ (by first | exact Nat.le_refl _ | (simp; done) | omega) _ | refine Ext.trans ?_ (by assumption)))⟩
set_option maxHeartbeats 2000000 in
set_option maxRecDepth 20000 in
theorem two_c7 (W H x y u v i : Int) (a b c : Option Addr) (n m k cap cb cc : Nat) (w : World) (hg : EtIs w) (hn : ¬ 5000 < n) (h0 : ¬ 5000 < m) (h1 : ¬ 5000 < k) (h2 : ¬ i < 1) (h3 : ¬ 8 < i) (h4 : ¬ x < 0) (h5 : ¬ y < 0) (h6 : ¬ u < 0) (h7 : v < 0) :
    Calls Tryd.prog 8 #[.agg #[.int .i64 W, .int .i64 H, .slice a n cap], .int .i64 x, .int .i64 y, .int .i64 u, .int .i64 v, .int .i64 i, .slice b m cb, .slice c k cc] w fun e w' => e = .returned (.bool true) ∧ Ext w w' := by
  have HB := Lib.hid (FrBox.new w W H (.slice a n cap))
  go_enter Tryd.func8, Tryd.ntmps8
  go_wp2_with fail
  refine (first6_any _ (hg.ext (by repeat (first | exact Ext.refl _ | assumption | refine Ext.alloc ?_ _ | refine Ext.drew ?_ | refine Ext.drewN ?_ _ | refine Ext.setCell ?_ (by first | exact Nat.le_refl _ | (simp; done) | omega) _ | refine Ext.trans ?_ (by assumption))))).mono ?_; rintro e w1 ⟨rfl, hx1⟩
  have F1 := Lib.hid (HB.out.ext hx1)
  obtain ⟨p0, p1, p2⟩ := F1.out
  go_wp2_with fail
  refine (few_any W H a n cap _).mono ?_; rintro e w2 ⟨rfl, hx2⟩
  have F2 := Lib.hid (F1.out.ext hx2)
  clear p0 p1 p2 F1 HB
  rw [decide_eq_true (by omega)]
  go_wp2_with fail
  refine (first6_any _ (hg.ext (by repeat (first | exact Ext.refl _ | assumption | refine Ext.alloc ?_ _ | refine Ext.drew ?_ | refine Ext.drewN ?_ _ | refine Ext.setCell ?_ (by first | exact Nat.le_refl _ | (simp; done) | omega) _ | refine Ext.trans ?_ (by assumption))))).mono ?_; rintro e w9 ⟨rfl, hx9⟩
  go_wp2
  go_ret
  exact ⟨rfl, (by repeat (first | exact Ext.refl _ | assumption | refine Ext.alloc ?_ _ | refine Ext.drew ?_ | refine Ext.drewN ?_ _ | refine Ext.setCell ?_ (by first | exact Nat.le_refl _ | (simp; done) | omega) _ | refine Ext.trans ?_ (by assumption)))⟩
set_option maxHeartbeats 2000000 in
set_option maxRecDepth 20000 in
theorem two_c8 (W H x y u v i : Int) (a b c : Option Addr) (n m k cap cb cc : Nat) (w : World) (hg : EtIs w) (hn : ¬ 5000 < n) (h0 : ¬ 5000 < m) (h1 : ¬ 5000 < k) (h2 : ¬ i < 1) (h3 : ¬ 8 < i) (h4 : ¬ x < 0) (h5 : ¬ y < 0) (h6 : ¬ u < 0) (h7 : ¬ v < 0) (h8 : 32 < x) :
    Calls Tryd.prog 8 #[.agg #[.int .i64 W, .int .i64 H, .slice a n cap], .int .i64 x, .int .i64 y, .int .i64 u, .int .i64 v, .int .i64 i, .slice b m cb, .slice c k cc] w fun e w' => e = .returned (.bool true) ∧ Ext w w' := by
  have HB := Lib.hid (FrBox.new w W H (.slice a n cap))
  go_enter Tryd.func8, Tryd.ntmps8
  go_wp2_with fail
  refine (first6_any _ (hg.ext (by repeat (first | exact Ext.refl _ | assumption | refine Ext.alloc ?_ _ | refine Ext.drew ?_ | refine Ext.drewN ?_ _ | refine Ext.setCell ?_ (by first | exact Nat.le_refl _ | (simp; done) | omega) _ | refine Ext.trans ?_ (by assumption))))).mono ?_; rintro e w1 ⟨rfl, hx1⟩
  have F1 := Lib.hid (HB.out.ext hx1)
  obtain ⟨p0, p1, p2⟩ := F1.out
  go_wp2_with fail
  refine (few_any W H a n cap _).mono ?_; rintro e w2 ⟨rfl, hx2⟩
  have F2 := Lib.hid (F1.out.ext hx2)
  clear p0 p1 p2 F1 HB
  rw [decide_eq_true (by omega)]
  go_wp2_with fail
  refine (first6_any _ (hg.ext (by repeat (first | exact Ext.refl _ | assumption | refine Ext.alloc ?_ _ | refine Ext.drew ?_ | refine Ext.drewN ?_ _ | refine Ext.setCell ?_ (by first | exact Nat.le_refl _ | (simp; done) | omega) _ | refine Ext.trans ?_ (by assumption))))).mono ?_; rintro e w9 ⟨rfl, hx9⟩
  go_wp2
  go_ret
  exact ⟨rfl, (by repeat (first | exact Ext.refl _ | assumption | refine Ext.alloc ?_ _ | refine Ext.drew ?_ | refine Ext.drewN ?_ _ | refine Ext.setCell ?_ (by first | exact Nat.le_refl _ | (simp; done) | omega) _ | refine Ext.trans ?_ (by assumption)))⟩
set_option maxHeartbeats 2000000 in
set_option maxRecDepth 20000 in
theorem two_c9 (W H x y u v i : Int) (a b c : Option Addr) (n m k cap cb cc : Nat) (w : World) (hg : EtIs w) (hn : ¬ 5000 < n) (h0 : ¬ 5000 < m) (h1 : ¬ 5000 < k) (h2 : ¬ i < 1) (h3 : ¬ 8 < i) (h4 : ¬ x < 0) (h5 : ¬ y < 0) (h6 : ¬ u < 0) (h7 : ¬ v < 0) (h8 : ¬ 32 < x) (h9 : 32 < y) :
    Calls Tryd.prog 8 #[.agg #[.int .i64 W, .int .i64 H, .slice a n cap], .int .i64 x, .int .i64 y, .int .i64 u, .int .i64 v, .int .i64 i, .slice b m cb, .slice c k cc] w fun e w' => e = .returned (.bool true) ∧ Ext w w' := by
  have HB := Lib.hid (FrBox.new w W H (.slice a n cap))
  go_enter Tryd.func8, Tryd.ntmps8
  go_wp2_with fail
  refine (first6_any _ (hg.ext (by repeat (first | exact Ext.refl _ | assumption | refine Ext.alloc ?_ _ | refine Ext.drew ?_ | refine Ext.drewN ?_ _ | refine Ext.setCell ?_ (by first | exact Nat.le_refl _ | (simp; done) | omega) _ | refine Ext.trans ?_ (by assumption))))).mono ?_; rintro e w1 ⟨rfl, hx1⟩
  have F1 := Lib.hid (HB.out.ext hx1)
  obtain ⟨p0, p1, p2⟩ := F1.out
  go_wp2_with fail
  refine (few_any W H a n cap _).mono ?_; rintro e w2 ⟨rfl, hx2⟩
  have F2 := Lib.hid (F1.out.ext hx2)
  clear p0 p1 p2 F1 HB
  rw [decide_eq_true (by omega)]
  go_wp2_with fail
  refine (first6_any _ (hg.ext (by repeat (first | exact Ext.refl _ | assumption | refine Ext.alloc ?_ _ | refine Ext.drew ?_ | refine Ext.drewN ?_ _ | refine Ext.setCell ?_ (by first | exact Nat.le_refl _ | (simp; done) | omega) _ | refine Ext.trans ?_ (by assumption))))).mono ?_; rintro e w9 ⟨rfl, hx9⟩
  go_wp2
  go_ret
  exact ⟨rfl, (by repeat (first | exact Ext.refl _ | assumption | refine Ext.alloc ?_ _ | refine Ext.drew ?_ | refine Ext.drewN ?_ _ | refine Ext.setCell ?_ (by first | exact Nat.le_refl _ | (simp; done) | omega) _ | refine Ext.trans ?_ (by assumption)))⟩
set_option maxHeartbeats 2000000 in
set_option maxRecDepth 20000 in
theorem two_c10 (W H x y u v i : Int) (a b c : Option Addr) (n m k cap cb cc : Nat) (w : World) (hg : EtIs w) (hn : ¬ 5000 < n) (h0 : ¬ 5000 < m) (h1 : ¬ 5000 < k) (h2 : ¬ i < 1) (h3 : ¬ 8 < i) (h4 : ¬ x < 0) (h5 : ¬ y < 0) (h6 : ¬ u < 0) (h7 : ¬ v < 0) (h8 : ¬ 32 < x) (h9 : ¬ 32 < y) (h10 : 32 < u) :
    Calls Tryd.prog 8 #[.agg #[.int .i64 W, .int .i64 H, .slice a n cap], .int .i64 x, .int .i64 y, .int .i64 u, .int .i64 v, .int .i64 i, .slice b m cb, .slice c k cc] w fun e w' => e = .returned (.bool true) ∧ Ext w w' := by
  have HB := Lib.hid (FrBox.new w W H (.slice a n cap))
  go_enter Tryd.func8, Tryd.ntmps8
  go_wp2_with fail
  refine (first6_any _ (hg.ext (by repeat (first | exact Ext.refl _ | assumption | refine Ext.alloc ?_ _ | refine Ext.drew ?_ | refine Ext.drewN ?_ _ | refine Ext.setCell ?_ (by first | exact Nat.le_refl _ | (simp; done) | omega) _ | refine Ext.trans ?_ (by assumption))))).mono ?_; rintro e w1 ⟨rfl, hx1⟩
  have F1 := Lib.hid (HB.out.ext hx1)
  obtain ⟨p0, p1, p2⟩ := F1.out
  go_wp2_with fail
  refine (few_any W H a n cap _).mono ?_; rintro e w2 ⟨rfl, hx2⟩
  have F2 := Lib.hid (F1.out.ext hx2)
  clear p0 p1 p2 F1 HB
  rw [decide_eq_true (by omega)]
  go_wp2_with fail
  refine (first6_any _ (hg.ext (by repeat (first | exact Ext.refl _ | assumption | refine Ext.alloc ?_ _ | refine Ext.drew ?_ | refine Ext.drewN ?_ _ | refine Ext.setCell ?_ (by first | exact Nat.le_refl _ | (simp; done) | omega) _ | refine Ext.trans ?_ (by assumption))))).mono ?_; rintro e w9 ⟨rfl, hx9⟩
  go_wp2
  go_ret
  exact ⟨rfl, (by repeat (first | exact Ext.refl _ | assumption | refine Ext.alloc ?_ _ | refine Ext.drew ?_ | refine Ext.drewN ?_ _ | refine Ext.setCell ?_ (by first | exact Nat.le_refl _ | (simp; done) | omega) _ | refine Ext.trans ?_ (by assumption)))⟩
set_option maxHeartbeats 2000000 in
set_option maxRecDepth 20000 in
theorem two_c11 (W H x y u v i : Int) (a b c : Option Addr) (n m k cap cb cc : Nat) (w : World) (hg : EtIs w) (hn : ¬ 5000 < n) (h0 : ¬ 5000 < m) (h1 : ¬ 5000 < k) (h2 : ¬ i < 1) (h3 : ¬ 8 < i) (h4 : ¬ x < 0) (h5 : ¬ y < 0) (h6 : ¬ u < 0) (h7 : ¬ v < 0) (h8 : ¬ 32 < x) (h9 : ¬ 32 < y) (h10 : ¬ 32 < u) (h11 : 32 < v) :
    Calls Tryd.prog 8 #[.agg #[.int .i64 W, .int .i64 H, .slice a n cap], .int .i64 x, .int .i64 y, .int .i64 u, .int .i64 v, .int .i64 i, .slice b m cb, .slice c k cc] w fun e w' => e = .returned (.bool true) ∧ Ext w w' := by
  have HB := Lib.hid (FrBox.new w W H (.slice a n cap))
  go_enter Tryd.func8, Tryd.ntmps8
  go_wp2_with fail
  refine (first6_any _ (hg.ext (by repeat (first | exact Ext.refl _ | assumption | refine Ext.alloc ?_ _ | refine Ext.drew ?_ | refine Ext.drewN ?_ _ | refine Ext.setCell ?_ (by first | exact Nat.le_refl _ | (simp; done) | omega) _ | refine Ext.trans ?_ (by assumption))))).mono ?_; rintro e w1 ⟨rfl, hx1⟩
  have F1 := Lib.hid (HB.out.ext hx1)
  obtain ⟨p0, p1, p2⟩ := F1.out
  go_wp2_with fail
  refine (few_any W H a n cap _).mono ?_; rintro e w2 ⟨rfl, hx2⟩
  have F2 := Lib.hid (F1.out.ext hx2)
  clear p0 p1 p2 F1 HB
  rw [decide_eq_true (by omega)]
  go_wp2_with fail
  refine (first6_any _ (hg.ext (by repeat (first | exact Ext.refl _ | assumption | refine Ext.alloc ?_ _ | refine Ext.drew ?_ | refine Ext.drewN ?_ _ | refine Ext.setCell ?_ (by first | exact Nat.le_refl _ | (simp; done) | omega) _ | refine Ext.trans ?_ (by assumption))))).mono ?_; rintro e w9 ⟨rfl, hx9⟩
  go_wp2
  go_ret
  exact ⟨rfl, (by repeat (first | exact Ext.refl _ | assumption | refine Ext.alloc ?_ _ | refine Ext.drew ?_ | refine Ext.drewN ?_ _ | refine Ext.setCell ?_ (by first | exact Nat.le_refl _ | (simp; done) | omega) _ | refine Ext.trans ?_ (by assumption)))⟩
set_option maxHeartbeats 2000000 in
set_option maxRecDepth 20000 in
theorem two_long (W H x y u v i : Int) (a b c : Option Addr) (n m k cap cb cc : Nat) (w : World) (hg : EtIs w) (hn : 5000 < n) :
    Calls Tryd.prog 8 #[.agg #[.int .i64 W, .int .i64 H, .slice a n cap], .int .i64 x, .int .i64 y, .int .i64 u, .int .i64 v, .int .i64 i, .slice b m cb, .slice c k cc] w fun e w' => e = .returned (.bool true) ∧ Ext w w' := by
  have HB := Lib.hid (FrBox.new w W H (.slice a n cap))
  go_enter Tryd.func8, Tryd.ntmps8
  go_wp2_with fail
  refine (first6_any _ (hg.ext (by repeat (first | exact Ext.refl _ | assumption | refine Ext.alloc ?_ _ | refine Ext.drew ?_ | refine Ext.drewN ?_ _ | refine Ext.setCell ?_ (by first | exact Nat.le_refl _ | (simp; done) | omega) _ | refine Ext.trans ?_ (by assumption))))).mono ?_; rintro e w1 ⟨rfl, hx1⟩
  have F1 := Lib.hid (HB.out.ext hx1)
  obtain ⟨p0, p1, p2⟩ := F1.out
  go_wp2_with fail
  refine (few_any W H a n cap _).mono ?_; rintro e w2 ⟨rfl, hx2⟩
  have F2 := Lib.hid (F1.out.ext hx2)
  clear p0 p1 p2 F1 HB
  rw [decide_eq_false (by omega)]
  go_wp2_with fail
  refine (first6_any _ (hg.ext (by repeat (first | exact Ext.refl _ | assumption | refine Ext.alloc ?_ _ | refine Ext.drew ?_ | refine Ext.drewN ?_ _ | refine Ext.setCell ?_ (by first | exact Nat.le_refl _ | (simp; done) | omega) _ | refine Ext.trans ?_ (by assumption))))).mono ?_; rintro e w9 ⟨rfl, hx9⟩
  go_wp2
  go_ret
  exact ⟨rfl, (by repeat (first | exact Ext.refl _ | assumption | refine Ext.alloc ?_ _ | refine Ext.drew ?_ | refine Ext.drewN ?_ _ | refine Ext.setCell ?_ (by first | exact Nat.le_refl _ | (simp; done) | omega) _ | refine Ext.trans ?_ (by assumption)))⟩
set_option maxHeartbeats 2000000 in
set_option maxRecDepth 20000 in
theorem two_f1 (W H x y u v i A1 B1 A2 B2 : Int) (zs bs cs L1 L2 : List Int) (a b c : Option Addr) (n m k cap cb cc : Nat) (w : World) (hg : EtIs w) (h : Ints w (.slice a n cap) zs) (hb : Ints w (.slice b m cb) bs) (hc : Ints w (.slice c k cc) cs) (hn : ¬ 5000 < n) (h0 : ¬ 5000 < m) (h1 : ¬ 5000 < k) (h2 : ¬ i < 1) (h3 : ¬ 8 < i) (h4 : ¬ x < 0) (h5 : ¬ y < 0) (h6 : ¬ u < 0) (h7 : ¬ v < 0) (h8 : ¬ 32 < x) (h9 : ¬ 32 < y) (h10 : ¬ 32 < u) (h11 : ¬ 32 < v) (f : List (ByteArray × Int) × Int) (f2 : Fall)
    (c1 : Hid (∀ a n cap w, Ints w (.slice a n cap) zs → Ints w (.slice b m cb) bs → Calls Tryd.prog 33 #[.agg #[.int .i64 W, .int .i64 H, .slice a n cap], .int .i64 x, .int .i64 y, .int .i64 i, .slice b m cb] w (FPost w A1 B1 L1 (some f))))
    (c2 : Hid (∀ a n cap w, Ints w (.slice a n cap) zs → Ints w (.slice c k cc) cs → Calls Tryd.prog 33 #[.agg #[.int .i64 W, .int .i64 H, .slice a n cap], .int .i64 u, .int .i64 v, .int .i64 i, .slice c k cc] w (FPost w A2 B2 L2 (f2)))) :
    Calls Tryd.prog 8 #[.agg #[.int .i64 W, .int .i64 H, .slice a n cap], .int .i64 x, .int .i64 y, .int .i64 u, .int .i64 v, .int .i64 i, .slice b m cb, .slice c k cc] w fun e w' => e = .returned (.bool true) ∧ Ext w w' := by
  have e1 : IntKind.i64.wrap (x + i) = x + i := by rw [IntKind.wrap_i64]; omega
  have e2 : IntKind.i64.wrap (u + i) = u + i := by rw [IntKind.wrap_i64]; omega
  have e3 : IntKind.i64.wrap (y + i) = y + i := by rw [IntKind.wrap_i64]; omega
  have e4 : IntKind.i64.wrap (v + i) = v + i := by rw [IntKind.wrap_i64]; omega
  have HB := Lib.hid (FrBox.new w W H (.slice a n cap))
  go_enter Tryd.func8, Tryd.ntmps8
  go_wp2_with fail
  refine (first6_any _ (hg.ext (by repeat (first | exact Ext.refl _ | assumption | refine Ext.alloc ?_ _ | refine Ext.drew ?_ | refine Ext.drewN ?_ _ | refine Ext.setCell ?_ (by first | exact Nat.le_refl _ | (simp; done) | omega) _ | refine Ext.trans ?_ (by assumption))))).mono ?_; rintro e w1 ⟨rfl, hx1⟩
  have F1 := Lib.hid (HB.out.ext hx1)
  obtain ⟨p0, p1, p2⟩ := F1.out
  go_wp2_with fail
  refine (few_any W H a n cap _).mono ?_; rintro e w2 ⟨rfl, hx2⟩
  have F2 := Lib.hid (F1.out.ext hx2)
  clear p0 p1 p2 F1 HB
  rw [decide_eq_true (by omega)]
  obtain ⟨p0, p1, p2⟩ := F2.out
  go_wp2_with fail
  refine (c1.out _ _ _ _ (h.ext (by repeat (first | exact Ext.refl _ | assumption | refine Ext.alloc ?_ _ | refine Ext.drew ?_ | refine Ext.drewN ?_ _ | refine Ext.setCell ?_ (by first | exact Nat.le_refl _ | (simp; done) | omega) _ | refine Ext.trans ?_ (by assumption)))) (hb.ext (by repeat (first | exact Ext.refl _ | assumption | refine Ext.alloc ?_ _ | refine Ext.drew ?_ | refine Ext.drewN ?_ _ | refine Ext.setCell ?_ (by first | exact Nat.le_refl _ | (simp; done) | omega) _ | refine Ext.trans ?_ (by assumption))))).mono ?_; rintro e w3 ⟨a3, n3, k3, x3, rfl, hx3, hz3, he3⟩
  have A3 : Ext w3 (w3.alloc (.cells #[.int .i64 A1, .int .i64 B1, .slice a3 n3 k3] 24)) := (Ext.refl w3).alloc _
  have F3 := Lib.hid ((F2.out.ext hx3).ext A3)
  have G3 := Lib.hid (FrBox.new w3 A1 B1 (.slice a3 n3 k3))
  clear p0 p1 p2 F2
  obtain ⟨p0, p1, p2⟩ := F3.out
  go_wp2_with fail
  refine (c2.out _ _ _ _ (h.ext (by repeat (first | exact Ext.refl _ | assumption | refine Ext.alloc ?_ _ | refine Ext.drew ?_ | refine Ext.drewN ?_ _ | refine Ext.setCell ?_ (by first | exact Nat.le_refl _ | (simp; done) | omega) _ | refine Ext.trans ?_ (by assumption)))) (hc.ext (by repeat (first | exact Ext.refl _ | assumption | refine Ext.alloc ?_ _ | refine Ext.drew ?_ | refine Ext.drewN ?_ _ | refine Ext.setCell ?_ (by first | exact Nat.le_refl _ | (simp; done) | omega) _ | refine Ext.trans ?_ (by assumption))))).mono ?_; rintro e w4 ⟨a4, n4, k4, x4, rfl, hx4, hz4, he4⟩
  have A4 : Ext w4 (w4.alloc (.cells #[.int .i64 A2, .int .i64 B2, .slice a4 n4 k4] 24)) := (Ext.refl w4).alloc _
  have G4 := Lib.hid ((G3.out.ext hx4).ext A4)
  have H4 := Lib.hid (FrBox.new w4 A2 B2 (.slice a4 n4 k4))
  clear p0 p1 p2 F3 G3
  obtain ⟨t3, y3, rfl⟩ := he3.ne
  go_wp2_with fail
  refine (first6_any _ (hg.ext (by repeat (first | exact Ext.refl _ | assumption | refine Ext.alloc ?_ _ | refine Ext.drew ?_ | refine Ext.drewN ?_ _ | refine Ext.setCell ?_ (by first | exact Nat.le_refl _ | (simp; done) | omega) _ | refine Ext.trans ?_ (by assumption))))).mono ?_; rintro e w9 ⟨rfl, hx9⟩
  go_wp2
  go_ret
  exact ⟨rfl, (by repeat (first | exact Ext.refl _ | assumption | refine Ext.alloc ?_ _ | refine Ext.drew ?_ | refine Ext.drewN ?_ _ | refine Ext.setCell ?_ (by first | exact Nat.le_refl _ | (simp; done) | omega) _ | refine Ext.trans ?_ (by assumption)))⟩
set_option maxHeartbeats 2000000 in
set_option maxRecDepth 20000 in
theorem two_f2 (W H x y u v i A1 B1 A2 B2 : Int) (zs bs cs L1 L2 : List Int) (a b c : Option Addr) (n m k cap cb cc : Nat) (w : World) (hg : EtIs w) (h : Ints w (.slice a n cap) zs) (hb : Ints w (.slice b m cb) bs) (hc : Ints w (.slice c k cc) cs) (hn : ¬ 5000 < n) (h0 : ¬ 5000 < m) (h1 : ¬ 5000 < k) (h2 : ¬ i < 1) (h3 : ¬ 8 < i) (h4 : ¬ x < 0) (h5 : ¬ y < 0) (h6 : ¬ u < 0) (h7 : ¬ v < 0) (h8 : ¬ 32 < x) (h9 : ¬ 32 < y) (h10 : ¬ 32 < u) (h11 : ¬ 32 < v) (f : List (ByteArray × Int) × Int)
    (c1 : Hid (∀ a n cap w, Ints w (.slice a n cap) zs → Ints w (.slice b m cb) bs → Calls Tryd.prog 33 #[.agg #[.int .i64 W, .int .i64 H, .slice a n cap], .int .i64 x, .int .i64 y, .int .i64 i, .slice b m cb] w (FPost w A1 B1 L1 (none))))
    (c2 : Hid (∀ a n cap w, Ints w (.slice a n cap) zs → Ints w (.slice c k cc) cs → Calls Tryd.prog 33 #[.agg #[.int .i64 W, .int .i64 H, .slice a n cap], .int .i64 u, .int .i64 v, .int .i64 i, .slice c k cc] w (FPost w A2 B2 L2 (some f)))) :
    Calls Tryd.prog 8 #[.agg #[.int .i64 W, .int .i64 H, .slice a n cap], .int .i64 x, .int .i64 y, .int .i64 u, .int .i64 v, .int .i64 i, .slice b m cb, .slice c k cc] w fun e w' => e = .returned (.bool true) ∧ Ext w w' := by
  have e1 : IntKind.i64.wrap (x + i) = x + i := by rw [IntKind.wrap_i64]; omega
  have e2 : IntKind.i64.wrap (u + i) = u + i := by rw [IntKind.wrap_i64]; omega
  have e3 : IntKind.i64.wrap (y + i) = y + i := by rw [IntKind.wrap_i64]; omega
  have e4 : IntKind.i64.wrap (v + i) = v + i := by rw [IntKind.wrap_i64]; omega
  have HB := Lib.hid (FrBox.new w W H (.slice a n cap))
  go_enter Tryd.func8, Tryd.ntmps8
  go_wp2_with fail
  refine (first6_any _ (hg.ext (by repeat (first | exact Ext.refl _ | assumption | refine Ext.alloc ?_ _ | refine Ext.drew ?_ | refine Ext.drewN ?_ _ | refine Ext.setCell ?_ (by first | exact Nat.le_refl _ | (simp; done) | omega) _ | refine Ext.trans ?_ (by assumption))))).mono ?_; rintro e w1 ⟨rfl, hx1⟩
  have F1 := Lib.hid (HB.out.ext hx1)
  obtain ⟨p0, p1, p2⟩ := F1.out
  go_wp2_with fail
  refine (few_any W H a n cap _).mono ?_; rintro e w2 ⟨rfl, hx2⟩
  have F2 := Lib.hid (F1.out.ext hx2)
  clear p0 p1 p2 F1 HB
  rw [decide_eq_true (by omega)]
  obtain ⟨p0, p1, p2⟩ := F2.out
  go_wp2_with fail
  refine (c1.out _ _ _ _ (h.ext (by repeat (first | exact Ext.refl _ | assumption | refine Ext.alloc ?_ _ | refine Ext.drew ?_ | refine Ext.drewN ?_ _ | refine Ext.setCell ?_ (by first | exact Nat.le_refl _ | (simp; done) | omega) _ | refine Ext.trans ?_ (by assumption)))) (hb.ext (by repeat (first | exact Ext.refl _ | assumption | refine Ext.alloc ?_ _ | refine Ext.drew ?_ | refine Ext.drewN ?_ _ | refine Ext.setCell ?_ (by first | exact Nat.le_refl _ | (simp; done) | omega) _ | refine Ext.trans ?_ (by assumption))))).mono ?_; rintro e w3 ⟨a3, n3, k3, x3, rfl, hx3, hz3, he3⟩
  have A3 : Ext w3 (w3.alloc (.cells #[.int .i64 A1, .int .i64 B1, .slice a3 n3 k3] 24)) := (Ext.refl w3).alloc _
  have F3 := Lib.hid ((F2.out.ext hx3).ext A3)
  have G3 := Lib.hid (FrBox.new w3 A1 B1 (.slice a3 n3 k3))
  clear p0 p1 p2 F2
  obtain ⟨p0, p1, p2⟩ := F3.out
  go_wp2_with fail
  refine (c2.out _ _ _ _ (h.ext (by repeat (first | exact Ext.refl _ | assumption | refine Ext.alloc ?_ _ | refine Ext.drew ?_ | refine Ext.drewN ?_ _ | refine Ext.setCell ?_ (by first | exact Nat.le_refl _ | (simp; done) | omega) _ | refine Ext.trans ?_ (by assumption)))) (hc.ext (by repeat (first | exact Ext.refl _ | assumption | refine Ext.alloc ?_ _ | refine Ext.drew ?_ | refine Ext.drewN ?_ _ | refine Ext.setCell ?_ (by first | exact Nat.le_refl _ | (simp; done) | omega) _ | refine Ext.trans ?_ (by assumption))))).mono ?_; rintro e w4 ⟨a4, n4, k4, x4, rfl, hx4, hz4, he4⟩
  have A4 : Ext w4 (w4.alloc (.cells #[.int .i64 A2, .int .i64 B2, .slice a4 n4 k4] 24)) := (Ext.refl w4).alloc _
  have G4 := Lib.hid ((G3.out.ext hx4).ext A4)
  have H4 := Lib.hid (FrBox.new w4 A2 B2 (.slice a4 n4 k4))
  clear p0 p1 p2 F3 G3
  obtain rfl : x3 = .nilIface := he3
  obtain ⟨t4, y4, rfl⟩ := he4.ne
  go_wp2_with fail
  refine (first6_any _ (hg.ext (by repeat (first | exact Ext.refl _ | assumption | refine Ext.alloc ?_ _ | refine Ext.drew ?_ | refine Ext.drewN ?_ _ | refine Ext.setCell ?_ (by first | exact Nat.le_refl _ | (simp; done) | omega) _ | refine Ext.trans ?_ (by assumption))))).mono ?_; rintro e w9 ⟨rfl, hx9⟩
  go_wp2
  go_ret
  exact ⟨rfl, (by repeat (first | exact Ext.refl _ | assumption | refine Ext.alloc ?_ _ | refine Ext.drew ?_ | refine Ext.drewN ?_ _ | refine Ext.setCell ?_ (by first | exact Nat.le_refl _ | (simp; done) | omega) _ | refine Ext.trans ?_ (by assumption)))⟩
set_option maxHeartbeats 2000000 in
set_option maxRecDepth 20000 in
theorem two_over (W H x y u v i A1 B1 A2 B2 : Int) (zs bs cs L1 L2 : List Int) (a b c : Option Addr) (n m k cap cb cc : Nat) (w : World) (hg : EtIs w) (h : Ints w (.slice a n cap) zs) (hb : Ints w (.slice b m cb) bs) (hc : Ints w (.slice c k cc) cs) (hn : ¬ 5000 < n) (h0 : ¬ 5000 < m) (h1 : ¬ 5000 < k) (h2 : ¬ i < 1) (h3 : ¬ 8 < i) (h4 : ¬ x < 0) (h5 : ¬ y < 0) (h6 : ¬ u < 0) (h7 : ¬ v < 0) (h8 : ¬ 32 < x) (h9 : ¬ 32 < y) (h10 : ¬ 32 < u) (h11 : ¬ 32 < v) (k1 : u < x + i) (k2 : x < u + i) (k3 : v < y + i) (k4 : y < v + i)
    (c1 : Hid (∀ a n cap w, Ints w (.slice a n cap) zs → Ints w (.slice b m cb) bs → Calls Tryd.prog 33 #[.agg #[.int .i64 W, .int .i64 H, .slice a n cap], .int .i64 x, .int .i64 y, .int .i64 i, .slice b m cb] w (FPost w A1 B1 L1 (none))))
    (c2 : Hid (∀ a n cap w, Ints w (.slice a n cap) zs → Ints w (.slice c k cc) cs → Calls Tryd.prog 33 #[.agg #[.int .i64 W, .int .i64 H, .slice a n cap], .int .i64 u, .int .i64 v, .int .i64 i, .slice c k cc] w (FPost w A2 B2 L2 (none)))) :
    Calls Tryd.prog 8 #[.agg #[.int .i64 W, .int .i64 H, .slice a n cap], .int .i64 x, .int .i64 y, .int .i64 u, .int .i64 v, .int .i64 i, .slice b m cb, .slice c k cc] w fun e w' => e = .returned (.bool true) ∧ Ext w w' := by
  have e1 : IntKind.i64.wrap (x + i) = x + i := by rw [IntKind.wrap_i64]; omega
  have e2 : IntKind.i64.wrap (u + i) = u + i := by rw [IntKind.wrap_i64]; omega
  have e3 : IntKind.i64.wrap (y + i) = y + i := by rw [IntKind.wrap_i64]; omega
  have e4 : IntKind.i64.wrap (v + i) = v + i := by rw [IntKind.wrap_i64]; omega
  have HB := Lib.hid (FrBox.new w W H (.slice a n cap))
  go_enter Tryd.func8, Tryd.ntmps8
  go_wp2_with fail
  refine (first6_any _ (hg.ext (by repeat (first | exact Ext.refl _ | assumption | refine Ext.alloc ?_ _ | refine Ext.drew ?_ | refine Ext.drewN ?_ _ | refine Ext.setCell ?_ (by first | exact Nat.le_refl _ | (simp; done) | omega) _ | refine Ext.trans ?_ (by assumption))))).mono ?_; rintro e w1 ⟨rfl, hx1⟩
  have F1 := Lib.hid (HB.out.ext hx1)
  obtain ⟨p0, p1, p2⟩ := F1.out
  go_wp2_with fail
  refine (few_any W H a n cap _).mono ?_; rintro e w2 ⟨rfl, hx2⟩
  have F2 := Lib.hid (F1.out.ext hx2)
  clear p0 p1 p2 F1 HB
  rw [decide_eq_true (by omega)]
  obtain ⟨p0, p1, p2⟩ := F2.out
  go_wp2_with fail
  refine (c1.out _ _ _ _ (h.ext (by repeat (first | exact Ext.refl _ | assumption | refine Ext.alloc ?_ _ | refine Ext.drew ?_ | refine Ext.drewN ?_ _ | refine Ext.setCell ?_ (by first | exact Nat.le_refl _ | (simp; done) | omega) _ | refine Ext.trans ?_ (by assumption)))) (hb.ext (by repeat (first | exact Ext.refl _ | assumption | refine Ext.alloc ?_ _ | refine Ext.drew ?_ | refine Ext.drewN ?_ _ | refine Ext.setCell ?_ (by first | exact Nat.le_refl _ | (simp; done) | omega) _ | refine Ext.trans ?_ (by assumption))))).mono ?_; rintro e w3 ⟨a3, n3, k3, x3, rfl, hx3, hz3, he3⟩
  have A3 : Ext w3 (w3.alloc (.cells #[.int .i64 A1, .int .i64 B1, .slice a3 n3 k3] 24)) := (Ext.refl w3).alloc _
  have F3 := Lib.hid ((F2.out.ext hx3).ext A3)
  have G3 := Lib.hid (FrBox.new w3 A1 B1 (.slice a3 n3 k3))
  clear p0 p1 p2 F2
  obtain ⟨p0, p1, p2⟩ := F3.out
  go_wp2_with fail
  refine (c2.out _ _ _ _ (h.ext (by repeat (first | exact Ext.refl _ | assumption | refine Ext.alloc ?_ _ | refine Ext.drew ?_ | refine Ext.drewN ?_ _ | refine Ext.setCell ?_ (by first | exact Nat.le_refl _ | (simp; done) | omega) _ | refine Ext.trans ?_ (by assumption)))) (hc.ext (by repeat (first | exact Ext.refl _ | assumption | refine Ext.alloc ?_ _ | refine Ext.drew ?_ | refine Ext.drewN ?_ _ | refine Ext.setCell ?_ (by first | exact Nat.le_refl _ | (simp; done) | omega) _ | refine Ext.trans ?_ (by assumption))))).mono ?_; rintro e w4 ⟨a4, n4, k4, x4, rfl, hx4, hz4, he4⟩
  have A4 : Ext w4 (w4.alloc (.cells #[.int .i64 A2, .int .i64 B2, .slice a4 n4 k4] 24)) := (Ext.refl w4).alloc _
  have G4 := Lib.hid ((G3.out.ext hx4).ext A4)
  have H4 := Lib.hid (FrBox.new w4 A2 B2 (.slice a4 n4 k4))
  clear p0 p1 p2 F3 G3
  obtain rfl : x3 = .nilIface := he3
  obtain rfl : x4 = .nilIface := he4
  go_wp2_with fail
  refine (first6_any _ (hg.ext (by repeat (first | exact Ext.refl _ | assumption | refine Ext.alloc ?_ _ | refine Ext.drew ?_ | refine Ext.drewN ?_ _ | refine Ext.setCell ?_ (by first | exact Nat.le_refl _ | (simp; done) | omega) _ | refine Ext.trans ?_ (by assumption))))).mono ?_; rintro e w9 ⟨rfl, hx9⟩
  go_wp2
  go_ret
  exact ⟨rfl, (by repeat (first | exact Ext.refl _ | assumption | refine Ext.alloc ?_ _ | refine Ext.drew ?_ | refine Ext.drewN ?_ _ | refine Ext.setCell ?_ (by first | exact Nat.le_refl _ | (simp; done) | omega) _ | refine Ext.trans ?_ (by assumption)))⟩
set_option maxHeartbeats 4000000 in
set_option maxRecDepth 20000 in
theorem two_walk (W H x y u v i : Int) (zs bs cs L1 L2 L3 : List Int) (a b c : Option Addr) (n m k cap cb cc : Nat) (w : World) (hg : EtIs w) (h : Ints w (.slice a n cap) zs) (hb : Ints w (.slice b m cb) bs) (hc : Ints w (.slice c k cc) cs) (hn : ¬ 5000 < n) (h0 : ¬ 5000 < m) (h1 : ¬ 5000 < k) (h2 : ¬ i < 1) (h3 : ¬ 8 < i) (h4 : ¬ x < 0) (h5 : ¬ y < 0) (h6 : ¬ u < 0) (h7 : ¬ v < 0) (h8 : ¬ 32 < x) (h9 : ¬ 32 < y) (h10 : ¬ 32 < u) (h11 : ¬ 32 < v) (hd : ¬ (u < x + i ∧ x < u + i ∧ v < y + i ∧ y < v + i))
    (c1 : Hid (∀ a n cap w, Ints w (.slice a n cap) zs → Ints w (.slice b m cb) bs → Calls Tryd.prog 33 #[.agg #[.int .i64 W, .int .i64 H, .slice a n cap], .int .i64 x, .int .i64 y, .int .i64 i, .slice b m cb] w (FPost w W H L1 none)))
    (c2 : Hid (∀ a n cap w, Ints w (.slice a n cap) zs → Ints w (.slice c k cc) cs → Calls Tryd.prog 33 #[.agg #[.int .i64 W, .int .i64 H, .slice a n cap], .int .i64 u, .int .i64 v, .int .i64 i, .slice c k cc] w (FPost w W H L2 none)))
    (c3 : Hid (∀ a n cap w, Ints w (.slice a n cap) L1 → Ints w (.slice c k cc) cs → Calls Tryd.prog 33 #[.agg #[.int .i64 W, .int .i64 H, .slice a n cap], .int .i64 u, .int .i64 v, .int .i64 i, .slice c k cc] w (FPost w W H L3 none)))
    (c4 : Hid (∀ a n cap w, Ints w (.slice a n cap) L2 → Ints w (.slice b m cb) bs → Calls Tryd.prog 33 #[.agg #[.int .i64 W, .int .i64 H, .slice a n cap], .int .i64 x, .int .i64 y, .int .i64 i, .slice b m cb] w (FPost w W H L3 none)))
    (c5 : Hid (∀ a n cap w, Ints w (.slice a n cap) L1 → Ints w (.slice b m cb) bs → Calls Tryd.prog 33 #[.agg #[.int .i64 W, .int .i64 H, .slice a n cap], .int .i64 x, .int .i64 y, .int .i64 i, .slice b m cb] w (FPost w W H L1 none)))
    (HS3 : Hid (sameB W H L3 W H L3 = true)) (HS1 : Hid (sameB W H L1 W H L1 = true)) :
    Calls Tryd.prog 8 #[.agg #[.int .i64 W, .int .i64 H, .slice a n cap], .int .i64 x, .int .i64 y, .int .i64 u, .int .i64 v, .int .i64 i, .slice b m cb, .slice c k cc] w fun e w' => e = .returned (.bool true) ∧ Ext w w' := by
  have e1 : IntKind.i64.wrap (x + i) = x + i := by rw [IntKind.wrap_i64]; omega
  have e2 : IntKind.i64.wrap (u + i) = u + i := by rw [IntKind.wrap_i64]; omega
  have e3 : IntKind.i64.wrap (y + i) = y + i := by rw [IntKind.wrap_i64]; omega
  have e4 : IntKind.i64.wrap (v + i) = v + i := by rw [IntKind.wrap_i64]; omega
  by_cases k1 : u < x + i
  · by_cases k2 : x < u + i
    · by_cases k3 : v < y + i
      · by_cases k4 : y < v + i
        · exact absurd ⟨k1, k2, k3, k4⟩ hd
        · clear hd
          have HB := Lib.hid (FrBox.new w W H (.slice a n cap))
          go_enter Tryd.func8, Tryd.ntmps8
          go_wp2_with fail
          refine (first6_any _ (hg.ext (by repeat (first | exact Ext.refl _ | assumption | refine Ext.alloc ?_ _ | refine Ext.drew ?_ | refine Ext.drewN ?_ _ | refine Ext.setCell ?_ (by first | exact Nat.le_refl _ | (simp; done) | omega) _ | refine Ext.trans ?_ (by assumption))))).mono ?_; rintro e w1 ⟨rfl, hx1⟩
          have F1 := Lib.hid (HB.out.ext hx1)
          obtain ⟨p0, p1, p2⟩ := F1.out
          go_wp2_with fail
          refine (few_any W H a n cap _).mono ?_; rintro e w2 ⟨rfl, hx2⟩
          have F2 := Lib.hid (F1.out.ext hx2)
          clear p0 p1 p2 F1 HB
          rw [decide_eq_true (by omega)]
          obtain ⟨p0, p1, p2⟩ := F2.out
          go_wp2_with fail
          refine (c1.out _ _ _ _ (h.ext (by repeat (first | exact Ext.refl _ | assumption | refine Ext.alloc ?_ _ | refine Ext.drew ?_ | refine Ext.drewN ?_ _ | refine Ext.setCell ?_ (by first | exact Nat.le_refl _ | (simp; done) | omega) _ | refine Ext.trans ?_ (by assumption)))) (hb.ext (by repeat (first | exact Ext.refl _ | assumption | refine Ext.alloc ?_ _ | refine Ext.drew ?_ | refine Ext.drewN ?_ _ | refine Ext.setCell ?_ (by first | exact Nat.le_refl _ | (simp; done) | omega) _ | refine Ext.trans ?_ (by assumption))))).mono ?_; rintro e w3 ⟨a3, n3, k3, x3, rfl, hx3, hz3, he3⟩
          have A3 : Ext w3 (w3.alloc (.cells #[.int .i64 W, .int .i64 H, .slice a3 n3 k3] 24)) := (Ext.refl w3).alloc _
          have F3 := Lib.hid ((F2.out.ext hx3).ext A3)
          have G3 := Lib.hid (FrBox.new w3 W H (.slice a3 n3 k3))
          clear p0 p1 p2 F2
          obtain ⟨p0, p1, p2⟩ := F3.out
          go_wp2_with fail
          refine (c2.out _ _ _ _ (h.ext (by repeat (first | exact Ext.refl _ | assumption | refine Ext.alloc ?_ _ | refine Ext.drew ?_ | refine Ext.drewN ?_ _ | refine Ext.setCell ?_ (by first | exact Nat.le_refl _ | (simp; done) | omega) _ | refine Ext.trans ?_ (by assumption)))) (hc.ext (by repeat (first | exact Ext.refl _ | assumption | refine Ext.alloc ?_ _ | refine Ext.drew ?_ | refine Ext.drewN ?_ _ | refine Ext.setCell ?_ (by first | exact Nat.le_refl _ | (simp; done) | omega) _ | refine Ext.trans ?_ (by assumption))))).mono ?_; rintro e w4 ⟨a4, n4, k4, x4, rfl, hx4, hz4, he4⟩
          have A4 : Ext w4 (w4.alloc (.cells #[.int .i64 W, .int .i64 H, .slice a4 n4 k4] 24)) := (Ext.refl w4).alloc _
          have G4 := Lib.hid ((G3.out.ext hx4).ext A4)
          have H4 := Lib.hid (FrBox.new w4 W H (.slice a4 n4 k4))
          clear p0 p1 p2 F3 G3
          obtain rfl : x3 = .nilIface := he3
          obtain rfl : x4 = .nilIface := he4
          obtain ⟨p0, p1, p2⟩ := G4.out
          go_wp2_with fail
          refine (c3.out _ _ _ _ (hz3.ext (by repeat (first | exact Ext.refl _ | assumption | refine Ext.alloc ?_ _ | refine Ext.drew ?_ | refine Ext.drewN ?_ _ | refine Ext.setCell ?_ (by first | exact Nat.le_refl _ | (simp; done) | omega) _ | refine Ext.trans ?_ (by assumption)))) (hc.ext (by repeat (first | exact Ext.refl _ | assumption | refine Ext.alloc ?_ _ | refine Ext.drew ?_ | refine Ext.drewN ?_ _ | refine Ext.setCell ?_ (by first | exact Nat.le_refl _ | (simp; done) | omega) _ | refine Ext.trans ?_ (by assumption))))).mono ?_; rintro e w5 ⟨a5, n5, k5, x5, rfl, hx5, hz5, he5⟩
          obtain rfl : x5 = .nilIface := he5
          have A5 : Ext w5 (w5.alloc (.cells #[.int .i64 W, .int .i64 H, .slice a5 n5 k5] 24)) := (Ext.refl w5).alloc _
          have G5 := Lib.hid ((G4.out.ext hx5).ext A5)
          have H5 := Lib.hid ((H4.out.ext hx5).ext A5)
          have I5 := Lib.hid (FrBox.new w5 W H (.slice a5 n5 k5))
          clear p0 p1 p2 G4 H4
          obtain ⟨p0, p1, p2⟩ := H5.out
          go_wp2_with fail
          refine (c4.out _ _ _ _ (hz4.ext (by repeat (first | exact Ext.refl _ | assumption | refine Ext.alloc ?_ _ | refine Ext.drew ?_ | refine Ext.drewN ?_ _ | refine Ext.setCell ?_ (by first | exact Nat.le_refl _ | (simp; done) | omega) _ | refine Ext.trans ?_ (by assumption)))) (hb.ext (by repeat (first | exact Ext.refl _ | assumption | refine Ext.alloc ?_ _ | refine Ext.drew ?_ | refine Ext.drewN ?_ _ | refine Ext.setCell ?_ (by first | exact Nat.le_refl _ | (simp; done) | omega) _ | refine Ext.trans ?_ (by assumption))))).mono ?_; rintro e w6 ⟨a6, n6, k6, x6, rfl, hx6, hz6, he6⟩
          obtain rfl : x6 = .nilIface := he6
          have A6 : Ext w6 (w6.alloc (.cells #[.int .i64 W, .int .i64 H, .slice a6 n6 k6] 24)) := (Ext.refl w6).alloc _
          have G6 := Lib.hid ((G5.out.ext hx6).ext A6)
          have I6 := Lib.hid ((I5.out.ext hx6).ext A6)
          have J6 := Lib.hid (FrBox.new w6 W H (.slice a6 n6 k6))
          clear p0 p1 p2 G5 H5 I5
          obtain ⟨p0, p1, p2⟩ := G6.out
          go_wp2_with fail
          refine (c5.out _ _ _ _ (hz3.ext (by repeat (first | exact Ext.refl _ | assumption | refine Ext.alloc ?_ _ | refine Ext.drew ?_ | refine Ext.drewN ?_ _ | refine Ext.setCell ?_ (by first | exact Nat.le_refl _ | (simp; done) | omega) _ | refine Ext.trans ?_ (by assumption)))) (hb.ext (by repeat (first | exact Ext.refl _ | assumption | refine Ext.alloc ?_ _ | refine Ext.drew ?_ | refine Ext.drewN ?_ _ | refine Ext.setCell ?_ (by first | exact Nat.le_refl _ | (simp; done) | omega) _ | refine Ext.trans ?_ (by assumption))))).mono ?_; rintro e w7 ⟨a7, n7, k7, x7, rfl, hx7, hz7, he7⟩
          obtain rfl : x7 = .nilIface := he7
          have A7 : Ext w7 (w7.alloc (.cells #[.int .i64 W, .int .i64 H, .slice a7 n7 k7] 24)) := (Ext.refl w7).alloc _
          have G7 := Lib.hid ((G6.out.ext hx7).ext A7)
          have I7 := Lib.hid ((I6.out.ext hx7).ext A7)
          have J7 := Lib.hid ((J6.out.ext hx7).ext A7)
          have K7 := Lib.hid (FrBox.new w7 W H (.slice a7 n7 k7))
          clear p0 p1 p2 G6 I6 J6
          go_wp2_with fail
          refine (first6_any _ (hg.ext (by repeat (first | exact Ext.refl _ | assumption | refine Ext.alloc ?_ _ | refine Ext.drew ?_ | refine Ext.drewN ?_ _ | refine Ext.setCell ?_ (by first | exact Nat.le_refl _ | (simp; done) | omega) _ | refine Ext.trans ?_ (by assumption))))).mono ?_; rintro e w8 ⟨rfl, hx8⟩
          have G8 := Lib.hid (G7.out.ext hx8)
          have K8 := Lib.hid (K7.out.ext hx8)
          obtain ⟨p0, p1, p2⟩ := I7.out.ext hx8
          obtain ⟨q0, q1, q2⟩ := J7.out.ext hx8
          go_wp2_with fail
          refine (same_any W H W H L3 L3 _ _ _ _ _ _ _ (hz5.ext (by repeat (first | exact Ext.refl _ | assumption | refine Ext.alloc ?_ _ | refine Ext.drew ?_ | refine Ext.drewN ?_ _ | refine Ext.setCell ?_ (by first | exact Nat.le_refl _ | (simp; done) | omega) _ | refine Ext.trans ?_ (by assumption)))) (hz6.ext (by repeat (first | exact Ext.refl _ | assumption | refine Ext.alloc ?_ _ | refine Ext.drew ?_ | refine Ext.drewN ?_ _ | refine Ext.setCell ?_ (by first | exact Nat.le_refl _ | (simp; done) | omega) _ | refine Ext.trans ?_ (by assumption))))).mono ?_; rintro e w9 ⟨rfl, hx9⟩
          rw [HS3.out]
          clear p0 p1 p2 q0 q1 q2
          obtain ⟨p0, p1, p2⟩ := G8.out.ext hx9
          obtain ⟨q0, q1, q2⟩ := K8.out.ext hx9
          go_wp2_with fail
          refine (same_any W H W H L1 L1 _ _ _ _ _ _ _ (hz7.ext (by repeat (first | exact Ext.refl _ | assumption | refine Ext.alloc ?_ _ | refine Ext.drew ?_ | refine Ext.drewN ?_ _ | refine Ext.setCell ?_ (by first | exact Nat.le_refl _ | (simp; done) | omega) _ | refine Ext.trans ?_ (by assumption)))) (hz3.ext (by repeat (first | exact Ext.refl _ | assumption | refine Ext.alloc ?_ _ | refine Ext.drew ?_ | refine Ext.drewN ?_ _ | refine Ext.setCell ?_ (by first | exact Nat.le_refl _ | (simp; done) | omega) _ | refine Ext.trans ?_ (by assumption))))).mono ?_; rintro e wA ⟨rfl, hxA⟩
          rw [HS1.out]
          go_wp2
          go_ret
          exact ⟨rfl, (by repeat (first | exact Ext.refl _ | assumption | refine Ext.alloc ?_ _ | refine Ext.drew ?_ | refine Ext.drewN ?_ _ | refine Ext.setCell ?_ (by first | exact Nat.le_refl _ | (simp; done) | omega) _ | refine Ext.trans ?_ (by assumption)))⟩
      · clear hd
        have HB := Lib.hid (FrBox.new w W H (.slice a n cap))
        go_enter Tryd.func8, Tryd.ntmps8
        go_wp2_with fail
        refine (first6_any _ (hg.ext (by repeat (first | exact Ext.refl _ | assumption | refine Ext.alloc ?_ _ | refine Ext.drew ?_ | refine Ext.drewN ?_ _ | refine Ext.setCell ?_ (by first | exact Nat.le_refl _ | (simp; done) | omega) _ | refine Ext.trans ?_ (by assumption))))).mono ?_; rintro e w1 ⟨rfl, hx1⟩
        have F1 := Lib.hid (HB.out.ext hx1)
        obtain ⟨p0, p1, p2⟩ := F1.out
        go_wp2_with fail
        refine (few_any W H a n cap _).mono ?_; rintro e w2 ⟨rfl, hx2⟩
        have F2 := Lib.hid (F1.out.ext hx2)
        clear p0 p1 p2 F1 HB
        rw [decide_eq_true (by omega)]
        obtain ⟨p0, p1, p2⟩ := F2.out
        go_wp2_with fail
        refine (c1.out _ _ _ _ (h.ext (by repeat (first | exact Ext.refl _ | assumption | refine Ext.alloc ?_ _ | refine Ext.drew ?_ | refine Ext.drewN ?_ _ | refine Ext.setCell ?_ (by first | exact Nat.le_refl _ | (simp; done) | omega) _ | refine Ext.trans ?_ (by assumption)))) (hb.ext (by repeat (first | exact Ext.refl _ | assumption | refine Ext.alloc ?_ _ | refine Ext.drew ?_ | refine Ext.drewN ?_ _ | refine Ext.setCell ?_ (by first | exact Nat.le_refl _ | (simp; done) | omega) _ | refine Ext.trans ?_ (by assumption))))).mono ?_; rintro e w3 ⟨a3, n3, k3, x3, rfl, hx3, hz3, he3⟩
        have A3 : Ext w3 (w3.alloc (.cells #[.int .i64 W, .int .i64 H, .slice a3 n3 k3] 24)) := (Ext.refl w3).alloc _
        have F3 := Lib.hid ((F2.out.ext hx3).ext A3)
        have G3 := Lib.hid (FrBox.new w3 W H (.slice a3 n3 k3))
        clear p0 p1 p2 F2
        obtain ⟨p0, p1, p2⟩ := F3.out
        go_wp2_with fail
        refine (c2.out _ _ _ _ (h.ext (by repeat (first | exact Ext.refl _ | assumption | refine Ext.alloc ?_ _ | refine Ext.drew ?_ | refine Ext.drewN ?_ _ | refine Ext.setCell ?_ (by first | exact Nat.le_refl _ | (simp; done) | omega) _ | refine Ext.trans ?_ (by assumption)))) (hc.ext (by repeat (first | exact Ext.refl _ | assumption | refine Ext.alloc ?_ _ | refine Ext.drew ?_ | refine Ext.drewN ?_ _ | refine Ext.setCell ?_ (by first | exact Nat.le_refl _ | (simp; done) | omega) _ | refine Ext.trans ?_ (by assumption))))).mono ?_; rintro e w4 ⟨a4, n4, k4, x4, rfl, hx4, hz4, he4⟩
        have A4 : Ext w4 (w4.alloc (.cells #[.int .i64 W, .int .i64 H, .slice a4 n4 k4] 24)) := (Ext.refl w4).alloc _
        have G4 := Lib.hid ((G3.out.ext hx4).ext A4)
        have H4 := Lib.hid (FrBox.new w4 W H (.slice a4 n4 k4))
        clear p0 p1 p2 F3 G3
        obtain rfl : x3 = .nilIface := he3
        obtain rfl : x4 = .nilIface := he4
        obtain ⟨p0, p1, p2⟩ := G4.out
        go_wp2_with fail
        refine (c3.out _ _ _ _ (hz3.ext (by repeat (first | exact Ext.refl _ | assumption | refine Ext.alloc ?_ _ | refine Ext.drew ?_ | refine Ext.drewN ?_ _ | refine Ext.setCell ?_ (by first | exact Nat.le_refl _ | (simp; done) | omega) _ | refine Ext.trans ?_ (by assumption)))) (hc.ext (by repeat (first | exact Ext.refl _ | assumption | refine Ext.alloc ?_ _ | refine Ext.drew ?_ | refine Ext.drewN ?_ _ | refine Ext.setCell ?_ (by first | exact Nat.le_refl _ | (simp; done) | omega) _ | refine Ext.trans ?_ (by assumption))))).mono ?_; rintro e w5 ⟨a5, n5, k5, x5, rfl, hx5, hz5, he5⟩
        obtain rfl : x5 = .nilIface := he5
        have A5 : Ext w5 (w5.alloc (.cells #[.int .i64 W, .int .i64 H, .slice a5 n5 k5] 24)) := (Ext.refl w5).alloc _
        have G5 := Lib.hid ((G4.out.ext hx5).ext A5)
        have H5 := Lib.hid ((H4.out.ext hx5).ext A5)
        have I5 := Lib.hid (FrBox.new w5 W H (.slice a5 n5 k5))
        clear p0 p1 p2 G4 H4
        obtain ⟨p0, p1, p2⟩ := H5.out
        go_wp2_with fail
        refine (c4.out _ _ _ _ (hz4.ext (by repeat (first | exact Ext.refl _ | assumption | refine Ext.alloc ?_ _ | refine Ext.drew ?_ | refine Ext.drewN ?_ _ | refine Ext.setCell ?_ (by first | exact Nat.le_refl _ | (simp; done) | omega) _ | refine Ext.trans ?_ (by assumption)))) (hb.ext (by repeat (first | exact Ext.refl _ | assumption | refine Ext.alloc ?_ _ | refine Ext.drew ?_ | refine Ext.drewN ?_ _ | refine Ext.setCell ?_ (by first | exact Nat.le_refl _ | (simp; done) | omega) _ | refine Ext.trans ?_ (by assumption))))).mono ?_; rintro e w6 ⟨a6, n6, k6, x6, rfl, hx6, hz6, he6⟩
        obtain rfl : x6 = .nilIface := he6
        have A6 : Ext w6 (w6.alloc (.cells #[.int .i64 W, .int .i64 H, .slice a6 n6 k6] 24)) := (Ext.refl w6).alloc _
        have G6 := Lib.hid ((G5.out.ext hx6).ext A6)
        have I6 := Lib.hid ((I5.out.ext hx6).ext A6)
        have J6 := Lib.hid (FrBox.new w6 W H (.slice a6 n6 k6))
        clear p0 p1 p2 G5 H5 I5
        obtain ⟨p0, p1, p2⟩ := G6.out
        go_wp2_with fail
        refine (c5.out _ _ _ _ (hz3.ext (by repeat (first | exact Ext.refl _ | assumption | refine Ext.alloc ?_ _ | refine Ext.drew ?_ | refine Ext.drewN ?_ _ | refine Ext.setCell ?_ (by first | exact Nat.le_refl _ | (simp; done) | omega) _ | refine Ext.trans ?_ (by assumption)))) (hb.ext (by repeat (first | exact Ext.refl _ | assumption | refine Ext.alloc ?_ _ | refine Ext.drew ?_ | refine Ext.drewN ?_ _ | refine Ext.setCell ?_ (by first | exact Nat.le_refl _ | (simp; done) | omega) _ | refine Ext.trans ?_ (by assumption))))).mono ?_; rintro e w7 ⟨a7, n7, k7, x7, rfl, hx7, hz7, he7⟩
        obtain rfl : x7 = .nilIface := he7
        have A7 : Ext w7 (w7.alloc (.cells #[.int .i64 W, .int .i64 H, .slice a7 n7 k7] 24)) := (Ext.refl w7).alloc _
        have G7 := Lib.hid ((G6.out.ext hx7).ext A7)
        have I7 := Lib.hid ((I6.out.ext hx7).ext A7)
        have J7 := Lib.hid ((J6.out.ext hx7).ext A7)
        have K7 := Lib.hid (FrBox.new w7 W H (.slice a7 n7 k7))
        clear p0 p1 p2 G6 I6 J6
        go_wp2_with fail
        refine (first6_any _ (hg.ext (by repeat (first | exact Ext.refl _ | assumption | refine Ext.alloc ?_ _ | refine Ext.drew ?_ | refine Ext.drewN ?_ _ | refine Ext.setCell ?_ (by first | exact Nat.le_refl _ | (simp; done) | omega) _ | refine Ext.trans ?_ (by assumption))))).mono ?_; rintro e w8 ⟨rfl, hx8⟩
        have G8 := Lib.hid (G7.out.ext hx8)
        have K8 := Lib.hid (K7.out.ext hx8)
        obtain ⟨p0, p1, p2⟩ := I7.out.ext hx8
        obtain ⟨q0, q1, q2⟩ := J7.out.ext hx8
        go_wp2_with fail
        refine (same_any W H W H L3 L3 _ _ _ _ _ _ _ (hz5.ext (by repeat (first | exact Ext.refl _ | assumption | refine Ext.alloc ?_ _ | refine Ext.drew ?_ | refine Ext.drewN ?_ _ | refine Ext.setCell ?_ (by first | exact Nat.le_refl _ | (simp; done) | omega) _ | refine Ext.trans ?_ (by assumption)))) (hz6.ext (by repeat (first | exact Ext.refl _ | assumption | refine Ext.alloc ?_ _ | refine Ext.drew ?_ | refine Ext.drewN ?_ _ | refine Ext.setCell ?_ (by first | exact Nat.le_refl _ | (simp; done) | omega) _ | refine Ext.trans ?_ (by assumption))))).mono ?_; rintro e w9 ⟨rfl, hx9⟩
        rw [HS3.out]
        clear p0 p1 p2 q0 q1 q2
        obtain ⟨p0, p1, p2⟩ := G8.out.ext hx9
        obtain ⟨q0, q1, q2⟩ := K8.out.ext hx9
        go_wp2_with fail
        refine (same_any W H W H L1 L1 _ _ _ _ _ _ _ (hz7.ext (by repeat (first | exact Ext.refl _ | assumption | refine Ext.alloc ?_ _ | refine Ext.drew ?_ | refine Ext.drewN ?_ _ | refine Ext.setCell ?_ (by first | exact Nat.le_refl _ | (simp; done) | omega) _ | refine Ext.trans ?_ (by assumption)))) (hz3.ext (by repeat (first | exact Ext.refl _ | assumption | refine Ext.alloc ?_ _ | refine Ext.drew ?_ | refine Ext.drewN ?_ _ | refine Ext.setCell ?_ (by first | exact Nat.le_refl _ | (simp; done) | omega) _ | refine Ext.trans ?_ (by assumption))))).mono ?_; rintro e wA ⟨rfl, hxA⟩
        rw [HS1.out]
        go_wp2
        go_ret
        exact ⟨rfl, (by repeat (first | exact Ext.refl _ | assumption | refine Ext.alloc ?_ _ | refine Ext.drew ?_ | refine Ext.drewN ?_ _ | refine Ext.setCell ?_ (by first | exact Nat.le_refl _ | (simp; done) | omega) _ | refine Ext.trans ?_ (by assumption)))⟩
    · clear hd
      have HB := Lib.hid (FrBox.new w W H (.slice a n cap))
      go_enter Tryd.func8, Tryd.ntmps8
      go_wp2_with fail
      refine (first6_any _ (hg.ext (by repeat (first | exact Ext.refl _ | assumption | refine Ext.alloc ?_ _ | refine Ext.drew ?_ | refine Ext.drewN ?_ _ | refine Ext.setCell ?_ (by first | exact Nat.le_refl _ | (simp; done) | omega) _ | refine Ext.trans ?_ (by assumption))))).mono ?_; rintro e w1 ⟨rfl, hx1⟩
      have F1 := Lib.hid (HB.out.ext hx1)
      obtain ⟨p0, p1, p2⟩ := F1.out
      go_wp2_with fail
      refine (few_any W H a n cap _).mono ?_; rintro e w2 ⟨rfl, hx2⟩
      have F2 := Lib.hid (F1.out.ext hx2)
      clear p0 p1 p2 F1 HB
      rw [decide_eq_true (by omega)]
      obtain ⟨p0, p1, p2⟩ := F2.out
      go_wp2_with fail
      refine (c1.out _ _ _ _ (h.ext (by repeat (first | exact Ext.refl _ | assumption | refine Ext.alloc ?_ _ | refine Ext.drew ?_ | refine Ext.drewN ?_ _ | refine Ext.setCell ?_ (by first | exact Nat.le_refl _ | (simp; done) | omega) _ | refine Ext.trans ?_ (by assumption)))) (hb.ext (by repeat (first | exact Ext.refl _ | assumption | refine Ext.alloc ?_ _ | refine Ext.drew ?_ | refine Ext.drewN ?_ _ | refine Ext.setCell ?_ (by first | exact Nat.le_refl _ | (simp; done) | omega) _ | refine Ext.trans ?_ (by assumption))))).mono ?_; rintro e w3 ⟨a3, n3, k3, x3, rfl, hx3, hz3, he3⟩
      have A3 : Ext w3 (w3.alloc (.cells #[.int .i64 W, .int .i64 H, .slice a3 n3 k3] 24)) := (Ext.refl w3).alloc _
      have F3 := Lib.hid ((F2.out.ext hx3).ext A3)
      have G3 := Lib.hid (FrBox.new w3 W H (.slice a3 n3 k3))
      clear p0 p1 p2 F2
      obtain ⟨p0, p1, p2⟩ := F3.out
      go_wp2_with fail
      refine (c2.out _ _ _ _ (h.ext (by repeat (first | exact Ext.refl _ | assumption | refine Ext.alloc ?_ _ | refine Ext.drew ?_ | refine Ext.drewN ?_ _ | refine Ext.setCell ?_ (by first | exact Nat.le_refl _ | (simp; done) | omega) _ | refine Ext.trans ?_ (by assumption)))) (hc.ext (by repeat (first | exact Ext.refl _ | assumption | refine Ext.alloc ?_ _ | refine Ext.drew ?_ | refine Ext.drewN ?_ _ | refine Ext.setCell ?_ (by first | exact Nat.le_refl _ | (simp; done) | omega) _ | refine Ext.trans ?_ (by assumption))))).mono ?_; rintro e w4 ⟨a4, n4, k4, x4, rfl, hx4, hz4, he4⟩
      have A4 : Ext w4 (w4.alloc (.cells #[.int .i64 W, .int .i64 H, .slice a4 n4 k4] 24)) := (Ext.refl w4).alloc _
      have G4 := Lib.hid ((G3.out.ext hx4).ext A4)
      have H4 := Lib.hid (FrBox.new w4 W H (.slice a4 n4 k4))
      clear p0 p1 p2 F3 G3
      obtain rfl : x3 = .nilIface := he3
      obtain rfl : x4 = .nilIface := he4
      obtain ⟨p0, p1, p2⟩ := G4.out
      go_wp2_with fail
      refine (c3.out _ _ _ _ (hz3.ext (by repeat (first | exact Ext.refl _ | assumption | refine Ext.alloc ?_ _ | refine Ext.drew ?_ | refine Ext.drewN ?_ _ | refine Ext.setCell ?_ (by first | exact Nat.le_refl _ | (simp; done) | omega) _ | refine Ext.trans ?_ (by assumption)))) (hc.ext (by repeat (first | exact Ext.refl _ | assumption | refine Ext.alloc ?_ _ | refine Ext.drew ?_ | refine Ext.drewN ?_ _ | refine Ext.setCell ?_ (by first | exact Nat.le_refl _ | (simp; done) | omega) _ | refine Ext.trans ?_ (by assumption))))).mono ?_; rintro e w5 ⟨a5, n5, k5, x5, rfl, hx5, hz5, he5⟩
      obtain rfl : x5 = .nilIface := he5
      have A5 : Ext w5 (w5.alloc (.cells #[.int .i64 W, .int .i64 H, .slice a5 n5 k5] 24)) := (Ext.refl w5).alloc _
      have G5 := Lib.hid ((G4.out.ext hx5).ext A5)
      have H5 := Lib.hid ((H4.out.ext hx5).ext A5)
      have I5 := Lib.hid (FrBox.new w5 W H (.slice a5 n5 k5))
      clear p0 p1 p2 G4 H4
      obtain ⟨p0, p1, p2⟩ := H5.out
      go_wp2_with fail
      refine (c4.out _ _ _ _ (hz4.ext (by repeat (first | exact Ext.refl _ | assumption | refine Ext.alloc ?_ _ | refine Ext.drew ?_ | refine Ext.drewN ?_ _ | refine Ext.setCell ?_ (by first | exact Nat.le_refl _ | (simp; done) | omega) _ | refine Ext.trans ?_ (by assumption)))) (hb.ext (by repeat (first | exact Ext.refl _ | assumption | refine Ext.alloc ?_ _ | refine Ext.drew ?_ | refine Ext.drewN ?_ _ | refine Ext.setCell ?_ (by first | exact Nat.le_refl _ | (simp; done) | omega) _ | refine Ext.trans ?_ (by assumption))))).mono ?_; rintro e w6 ⟨a6, n6, k6, x6, rfl, hx6, hz6, he6⟩
      obtain rfl : x6 = .nilIface := he6
      have A6 : Ext w6 (w6.alloc (.cells #[.int .i64 W, .int .i64 H, .slice a6 n6 k6] 24)) := (Ext.refl w6).alloc _
      have G6 := Lib.hid ((G5.out.ext hx6).ext A6)
      have I6 := Lib.hid ((I5.out.ext hx6).ext A6)
      have J6 := Lib.hid (FrBox.new w6 W H (.slice a6 n6 k6))
      clear p0 p1 p2 G5 H5 I5
      obtain ⟨p0, p1, p2⟩ := G6.out
      go_wp2_with fail
      refine (c5.out _ _ _ _ (hz3.ext (by repeat (first | exact Ext.refl _ | assumption | refine Ext.alloc ?_ _ | refine Ext.drew ?_ | refine Ext.drewN ?_ _ | refine Ext.setCell ?_ (by first | exact Nat.le_refl _ | (simp; done) | omega) _ | refine Ext.trans ?_ (by assumption)))) (hb.ext (by repeat (first | exact Ext.refl _ | assumption | refine Ext.alloc ?_ _ | refine Ext.drew ?_ | refine Ext.drewN ?_ _ | refine Ext.setCell ?_ (by first | exact Nat.le_refl _ | (simp; done) | omega) _ | refine Ext.trans ?_ (by assumption))))).mono ?_; rintro e w7 ⟨a7, n7, k7, x7, rfl, hx7, hz7, he7⟩
      obtain rfl : x7 = .nilIface := he7
      have A7 : Ext w7 (w7.alloc (.cells #[.int .i64 W, .int .i64 H, .slice a7 n7 k7] 24)) := (Ext.refl w7).alloc _
      have G7 := Lib.hid ((G6.out.ext hx7).ext A7)
      have I7 := Lib.hid ((I6.out.ext hx7).ext A7)
      have J7 := Lib.hid ((J6.out.ext hx7).ext A7)
      have K7 := Lib.hid (FrBox.new w7 W H (.slice a7 n7 k7))
      clear p0 p1 p2 G6 I6 J6
      go_wp2_with fail
      refine (first6_any _ (hg.ext (by repeat (first | exact Ext.refl _ | assumption | refine Ext.alloc ?_ _ | refine Ext.drew ?_ | refine Ext.drewN ?_ _ | refine Ext.setCell ?_ (by first | exact Nat.le_refl _ | (simp; done) | omega) _ | refine Ext.trans ?_ (by assumption))))).mono ?_; rintro e w8 ⟨rfl, hx8⟩
      have G8 := Lib.hid (G7.out.ext hx8)
      have K8 := Lib.hid (K7.out.ext hx8)
      obtain ⟨p0, p1, p2⟩ := I7.out.ext hx8
      obtain ⟨q0, q1, q2⟩ := J7.out.ext hx8
      go_wp2_with fail
      refine (same_any W H W H L3 L3 _ _ _ _ _ _ _ (hz5.ext (by repeat (first | exact Ext.refl _ | assumption | refine Ext.alloc ?_ _ | refine Ext.drew ?_ | refine Ext.drewN ?_ _ | refine Ext.setCell ?_ (by first | exact Nat.le_refl _ | (simp; done) | omega) _ | refine Ext.trans ?_ (by assumption)))) (hz6.ext (by repeat (first | exact Ext.refl _ | assumption | refine Ext.alloc ?_ _ | refine Ext.drew ?_ | refine Ext.drewN ?_ _ | refine Ext.setCell ?_ (by first | exact Nat.le_refl _ | (simp; done) | omega) _ | refine Ext.trans ?_ (by assumption))))).mono ?_; rintro e w9 ⟨rfl, hx9⟩
      rw [HS3.out]
      clear p0 p1 p2 q0 q1 q2
      obtain ⟨p0, p1, p2⟩ := G8.out.ext hx9
      obtain ⟨q0, q1, q2⟩ := K8.out.ext hx9
      go_wp2_with fail
      refine (same_any W H W H L1 L1 _ _ _ _ _ _ _ (hz7.ext (by repeat (first | exact Ext.refl _ | assumption | refine Ext.alloc ?_ _ | refine Ext.drew ?_ | refine Ext.drewN ?_ _ | refine Ext.setCell ?_ (by first | exact Nat.le_refl _ | (simp; done) | omega) _ | refine Ext.trans ?_ (by assumption)))) (hz3.ext (by repeat (first | exact Ext.refl _ | assumption | refine Ext.alloc ?_ _ | refine Ext.drew ?_ | refine Ext.drewN ?_ _ | refine Ext.setCell ?_ (by first | exact Nat.le_refl _ | (simp; done) | omega) _ | refine Ext.trans ?_ (by assumption))))).mono ?_; rintro e wA ⟨rfl, hxA⟩
      rw [HS1.out]
      go_wp2
      go_ret
      exact ⟨rfl, (by repeat (first | exact Ext.refl _ | assumption | refine Ext.alloc ?_ _ | refine Ext.drew ?_ | refine Ext.drewN ?_ _ | refine Ext.setCell ?_ (by first | exact Nat.le_refl _ | (simp; done) | omega) _ | refine Ext.trans ?_ (by assumption)))⟩
  · clear hd
    have HB := Lib.hid (FrBox.new w W H (.slice a n cap))
    go_enter Tryd.func8, Tryd.ntmps8
    go_wp2_with fail
    refine (first6_any _ (hg.ext (by repeat (first | exact Ext.refl _ | assumption | refine Ext.alloc ?_ _ | refine Ext.drew ?_ | refine Ext.drewN ?_ _ | refine Ext.setCell ?_ (by first | exact Nat.le_refl _ | (simp; done) | omega) _ | refine Ext.trans ?_ (by assumption))))).mono ?_; rintro e w1 ⟨rfl, hx1⟩
    have F1 := Lib.hid (HB.out.ext hx1)
    obtain ⟨p0, p1, p2⟩ := F1.out
    go_wp2_with fail
    refine (few_any W H a n cap _).mono ?_; rintro e w2 ⟨rfl, hx2⟩
    have F2 := Lib.hid (F1.out.ext hx2)
    clear p0 p1 p2 F1 HB
    rw [decide_eq_true (by omega)]
    obtain ⟨p0, p1, p2⟩ := F2.out
    go_wp2_with fail
    refine (c1.out _ _ _ _ (h.ext (by repeat (first | exact Ext.refl _ | assumption | refine Ext.alloc ?_ _ | refine Ext.drew ?_ | refine Ext.drewN ?_ _ | refine Ext.setCell ?_ (by first | exact Nat.le_refl _ | (simp; done) | omega) _ | refine Ext.trans ?_ (by assumption)))) (hb.ext (by repeat (first | exact Ext.refl _ | assumption | refine Ext.alloc ?_ _ | refine Ext.drew ?_ | refine Ext.drewN ?_ _ | refine Ext.setCell ?_ (by first | exact Nat.le_refl _ | (simp; done) | omega) _ | refine Ext.trans ?_ (by assumption))))).mono ?_; rintro e w3 ⟨a3, n3, k3, x3, rfl, hx3, hz3, he3⟩
    have A3 : Ext w3 (w3.alloc (.cells #[.int .i64 W, .int .i64 H, .slice a3 n3 k3] 24)) := (Ext.refl w3).alloc _
    have F3 := Lib.hid ((F2.out.ext hx3).ext A3)
    have G3 := Lib.hid (FrBox.new w3 W H (.slice a3 n3 k3))
    clear p0 p1 p2 F2
    obtain ⟨p0, p1, p2⟩ := F3.out
    go_wp2_with fail
    refine (c2.out _ _ _ _ (h.ext (by repeat (first | exact Ext.refl _ | assumption | refine Ext.alloc ?_ _ | refine Ext.drew ?_ | refine Ext.drewN ?_ _ | refine Ext.setCell ?_ (by first | exact Nat.le_refl _ | (simp; done) | omega) _ | refine Ext.trans ?_ (by assumption)))) (hc.ext (by repeat (first | exact Ext.refl _ | assumption | refine Ext.alloc ?_ _ | refine Ext.drew ?_ | refine Ext.drewN ?_ _ | refine Ext.setCell ?_ (by first | exact Nat.le_refl _ | (simp; done) | omega) _ | refine Ext.trans ?_ (by assumption))))).mono ?_; rintro e w4 ⟨a4, n4, k4, x4, rfl, hx4, hz4, he4⟩
    have A4 : Ext w4 (w4.alloc (.cells #[.int .i64 W, .int .i64 H, .slice a4 n4 k4] 24)) := (Ext.refl w4).alloc _
    have G4 := Lib.hid ((G3.out.ext hx4).ext A4)
    have H4 := Lib.hid (FrBox.new w4 W H (.slice a4 n4 k4))
    clear p0 p1 p2 F3 G3
    obtain rfl : x3 = .nilIface := he3
    obtain rfl : x4 = .nilIface := he4
    obtain ⟨p0, p1, p2⟩ := G4.out
    go_wp2_with fail
    refine (c3.out _ _ _ _ (hz3.ext (by repeat (first | exact Ext.refl _ | assumption | refine Ext.alloc ?_ _ | refine Ext.drew ?_ | refine Ext.drewN ?_ _ | refine Ext.setCell ?_ (by first | exact Nat.le_refl _ | (simp; done) | omega) _ | refine Ext.trans ?_ (by assumption)))) (hc.ext (by repeat (first | exact Ext.refl _ | assumption | refine Ext.alloc ?_ _ | refine Ext.drew ?_ | refine Ext.drewN ?_ _ | refine Ext.setCell ?_ (by first | exact Nat.le_refl _ | (simp; done) | omega) _ | refine Ext.trans ?_ (by assumption))))).mono ?_; rintro e w5 ⟨a5, n5, k5, x5, rfl, hx5, hz5, he5⟩
    obtain rfl : x5 = .nilIface := he5
    have A5 : Ext w5 (w5.alloc (.cells #[.int .i64 W, .int .i64 H, .slice a5 n5 k5] 24)) := (Ext.refl w5).alloc _
    have G5 := Lib.hid ((G4.out.ext hx5).ext A5)
    have H5 := Lib.hid ((H4.out.ext hx5).ext A5)
    have I5 := Lib.hid (FrBox.new w5 W H (.slice a5 n5 k5))
    clear p0 p1 p2 G4 H4
    obtain ⟨p0, p1, p2⟩ := H5.out
    go_wp2_with fail
    refine (c4.out _ _ _ _ (hz4.ext (by repeat (first | exact Ext.refl _ | assumption | refine Ext.alloc ?_ _ | refine Ext.drew ?_ | refine Ext.drewN ?_ _ | refine Ext.setCell ?_ (by first | exact Nat.le_refl _ | (simp; done) | omega) _ | refine Ext.trans ?_ (by assumption)))) (hb.ext (by repeat (first | exact Ext.refl _ | assumption | refine Ext.alloc ?_ _ | refine Ext.drew ?_ | refine Ext.drewN ?_ _ | refine Ext.setCell ?_ (by first | exact Nat.le_refl _ | (simp; done) | omega) _ | refine Ext.trans ?_ (by assumption))))).mono ?_; rintro e w6 ⟨a6, n6, k6, x6, rfl, hx6, hz6, he6⟩
    obtain rfl : x6 = .nilIface := he6
    have A6 : Ext w6 (w6.alloc (.cells #[.int .i64 W, .int .i64 H, .slice a6 n6 k6] 24)) := (Ext.refl w6).alloc _
    have G6 := Lib.hid ((G5.out.ext hx6).ext A6)
    have I6 := Lib.hid ((I5.out.ext hx6).ext A6)
    have J6 := Lib.hid (FrBox.new w6 W H (.slice a6 n6 k6))
    clear p0 p1 p2 G5 H5 I5
    obtain ⟨p0, p1, p2⟩ := G6.out
    go_wp2_with fail
    refine (c5.out _ _ _ _ (hz3.ext (by repeat (first | exact Ext.refl _ | assumption | refine Ext.alloc ?_ _ | refine Ext.drew ?_ | refine Ext.drewN ?_ _ | refine Ext.setCell ?_ (by first | exact Nat.le_refl _ | (simp; done) | omega) _ | refine Ext.trans ?_ (by assumption)))) (hb.ext (by repeat (first | exact Ext.refl _ | assumption | refine Ext.alloc ?_ _ | refine Ext.drew ?_ | refine Ext.drewN ?_ _ | refine Ext.setCell ?_ (by first | exact Nat.le_refl _ | (simp; done) | omega) _ | refine Ext.trans ?_ (by assumption))))).mono ?_; rintro e w7 ⟨a7, n7, k7, x7, rfl, hx7, hz7, he7⟩
    obtain rfl : x7 = .nilIface := he7
    have A7 : Ext w7 (w7.alloc (.cells #[.int .i64 W, .int .i64 H, .slice a7 n7 k7] 24)) := (Ext.refl w7).alloc _
    have G7 := Lib.hid ((G6.out.ext hx7).ext A7)
    have I7 := Lib.hid ((I6.out.ext hx7).ext A7)
    have J7 := Lib.hid ((J6.out.ext hx7).ext A7)
    have K7 := Lib.hid (FrBox.new w7 W H (.slice a7 n7 k7))
    clear p0 p1 p2 G6 I6 J6
    go_wp2_with fail
    refine (first6_any _ (hg.ext (by repeat (first | exact Ext.refl _ | assumption | refine Ext.alloc ?_ _ | refine Ext.drew ?_ | refine Ext.drewN ?_ _ | refine Ext.setCell ?_ (by first | exact Nat.le_refl _ | (simp; done) | omega) _ | refine Ext.trans ?_ (by assumption))))).mono ?_; rintro e w8 ⟨rfl, hx8⟩
    have G8 := Lib.hid (G7.out.ext hx8)
    have K8 := Lib.hid (K7.out.ext hx8)
    obtain ⟨p0, p1, p2⟩ := I7.out.ext hx8
    obtain ⟨q0, q1, q2⟩ := J7.out.ext hx8
    go_wp2_with fail
    refine (same_any W H W H L3 L3 _ _ _ _ _ _ _ (hz5.ext (by repeat (first | exact Ext.refl _ | assumption | refine Ext.alloc ?_ _ | refine Ext.drew ?_ | refine Ext.drewN ?_ _ | refine Ext.setCell ?_ (by first | exact Nat.le_refl _ | (simp; done) | omega) _ | refine Ext.trans ?_ (by assumption)))) (hz6.ext (by repeat (first | exact Ext.refl _ | assumption | refine Ext.alloc ?_ _ | refine Ext.drew ?_ | refine Ext.drewN ?_ _ | refine Ext.setCell ?_ (by first | exact Nat.le_refl _ | (simp; done) | omega) _ | refine Ext.trans ?_ (by assumption))))).mono ?_; rintro e w9 ⟨rfl, hx9⟩
    rw [HS3.out]
    clear p0 p1 p2 q0 q1 q2
    obtain ⟨p0, p1, p2⟩ := G8.out.ext hx9
    obtain ⟨q0, q1, q2⟩ := K8.out.ext hx9
    go_wp2_with fail
    refine (same_any W H W H L1 L1 _ _ _ _ _ _ _ (hz7.ext (by repeat (first | exact Ext.refl _ | assumption | refine Ext.alloc ?_ _ | refine Ext.drew ?_ | refine Ext.drewN ?_ _ | refine Ext.setCell ?_ (by first | exact Nat.le_refl _ | (simp; done) | omega) _ | refine Ext.trans ?_ (by assumption)))) (hz3.ext (by repeat (first | exact Ext.refl _ | assumption | refine Ext.alloc ?_ _ | refine Ext.drew ?_ | refine Ext.drewN ?_ _ | refine Ext.setCell ?_ (by first | exact Nat.le_refl _ | (simp; done) | omega) _ | refine Ext.trans ?_ (by assumption))))).mono ?_; rintro e wA ⟨rfl, hxA⟩
    rw [HS1.out]
    go_wp2
    go_ret
    exact ⟨rfl, (by repeat (first | exact Ext.refl _ | assumption | refine Ext.alloc ?_ _ | refine Ext.drew ?_ | refine Ext.drewN ?_ _ | refine Ext.setCell ?_ (by first | exact Nat.le_refl _ | (simp; done) | omega) _ | refine Ext.trans ?_ (by assumption)))⟩
end Go.Proofs.YtkighedghgcdjaaDoor
