/- kinref10.Predict: its contract over this seat's translation. -/
import Derived.Test.YtbhlbiandelimaaDoorIn2
import Derived.Test.YtbhlbiandelimaaDoorRes
namespace Go.Proofs.YtbhlbiandelimaaDoor
set_option linter.unusedVariables false
set_option linter.unusedSimpArgs false
open Go.RowKit Go.Extern.Stop Go.Stop Go.Extern

set_option maxHeartbeats 1000000 in
set_option maxRecDepth 20000 in
theorem rpred_lo (mo c : Int) (ts ls : List Int) (a b : Option Addr) (n m ca cb : Nat) (w : World) (ha : Ints w (.slice a n ca) ts) (hb : Ints w (.slice b m cb) ls) (h1 : mo < 0) :
    Calls Tryd.prog 23 #[.int .i64 mo, .slice a n ca, .slice b m cb, .int .i64 c] w (RZPost w [] (some ([], 13))) := by
  have R1 := ResAt.new w
  go_enter Tryd.func23, Tryd.ntmps23
  go_wp2_with fail
  refine (fail_any 13 _).mono ?_; rintro e w9 ⟨rfl, hx9⟩
  obtain ⟨r0, r1, f0, f1⟩ := R1.ext (show Ext (w.alloc _) w9 from (by repeat (first | exact Ext.refl _ | assumption | refine Ext.alloc ?_ _ | refine Ext.drew ?_ | refine Ext.drewN ?_ _ | refine Ext.setCell ?_ (by first | exact Nat.le_refl _ | (simp; done) | omega) _ | refine Ext.trans ?_ (by assumption))))
  have EW : Ext w w9 := (by repeat (first | exact Ext.refl _ | assumption | refine Ext.alloc ?_ _ | refine Ext.drew ?_ | refine Ext.drewN ?_ _ | refine Ext.setCell ?_ (by first | exact Nat.le_refl _ | (simp; done) | omega) _ | refine Ext.trans ?_ (by assumption)))
  clear R1
  go_wp2
  obtain ⟨e0, e1⟩ := res_cells (c := 13) r0 r1 (.slice none 0 0)
  exact bodyPost_ret (v := .tuple #[.slice none 0 0, .agg #[.int .i64 13, .slice none 0 0]]) (by simp [results, Tryd.results23, go_sem, e0, e1]) rfl ⟨_, _, _, _, _, rfl, (EW.setCell (by simp) _).setCell (by simp) _, Ints.nil _, RErrIs.code (by decide)⟩
set_option maxHeartbeats 1000000 in
set_option maxRecDepth 20000 in
theorem rpred_hi (mo c : Int) (ts ls : List Int) (a b : Option Addr) (n m ca cb : Nat) (w : World) (ha : Ints w (.slice a n ca) ts) (hb : Ints w (.slice b m cb) ls) (h1 : ¬ mo < 0) (h2 : 3 < mo) :
    Calls Tryd.prog 23 #[.int .i64 mo, .slice a n ca, .slice b m cb, .int .i64 c] w (RZPost w [] (some ([], 13))) := by
  have R1 := ResAt.new w
  go_enter Tryd.func23, Tryd.ntmps23
  go_wp2_with fail
  refine (fail_any 13 _).mono ?_; rintro e w9 ⟨rfl, hx9⟩
  obtain ⟨r0, r1, f0, f1⟩ := R1.ext (show Ext (w.alloc _) w9 from (by repeat (first | exact Ext.refl _ | assumption | refine Ext.alloc ?_ _ | refine Ext.drew ?_ | refine Ext.drewN ?_ _ | refine Ext.setCell ?_ (by first | exact Nat.le_refl _ | (simp; done) | omega) _ | refine Ext.trans ?_ (by assumption))))
  have EW : Ext w w9 := (by repeat (first | exact Ext.refl _ | assumption | refine Ext.alloc ?_ _ | refine Ext.drew ?_ | refine Ext.drewN ?_ _ | refine Ext.setCell ?_ (by first | exact Nat.le_refl _ | (simp; done) | omega) _ | refine Ext.trans ?_ (by assumption)))
  clear R1
  go_wp2
  obtain ⟨e0, e1⟩ := res_cells (c := 13) r0 r1 (.slice none 0 0)
  exact bodyPost_ret (v := .tuple #[.slice none 0 0, .agg #[.int .i64 13, .slice none 0 0]]) (by simp [results, Tryd.results23, go_sem, e0, e1]) rfl ⟨_, _, _, _, _, rfl, (EW.setCell (by simp) _).setCell (by simp) _, Ints.nil _, RErrIs.code (by decide)⟩
set_option maxHeartbeats 1000000 in
set_option maxRecDepth 20000 in
theorem rpred_n (mo c : Int) (ts ls : List Int) (a b : Option Addr) (n m ca cb : Nat) (w : World) (ha : Ints w (.slice a n ca) ts) (hb : Ints w (.slice b m cb) ls) (h1 : ¬ mo < 0) (h2 : ¬ 3 < mo) (h3 : ((n : Int) != 4) = true) (h4 : ((n : Int) != 8) = true) :
    Calls Tryd.prog 23 #[.int .i64 mo, .slice a n ca, .slice b m cb, .int .i64 c] w (RZPost w [] (some ([], 14))) := by
  have R1 := ResAt.new w
  go_enter Tryd.func23, Tryd.ntmps23
  go_wp2_with fail
  refine (fail_any 14 _).mono ?_; rintro e w9 ⟨rfl, hx9⟩
  obtain ⟨r0, r1, f0, f1⟩ := R1.ext (show Ext (w.alloc _) w9 from (by repeat (first | exact Ext.refl _ | assumption | refine Ext.alloc ?_ _ | refine Ext.drew ?_ | refine Ext.drewN ?_ _ | refine Ext.setCell ?_ (by first | exact Nat.le_refl _ | (simp; done) | omega) _ | refine Ext.trans ?_ (by assumption))))
  have EW : Ext w w9 := (by repeat (first | exact Ext.refl _ | assumption | refine Ext.alloc ?_ _ | refine Ext.drew ?_ | refine Ext.drewN ?_ _ | refine Ext.setCell ?_ (by first | exact Nat.le_refl _ | (simp; done) | omega) _ | refine Ext.trans ?_ (by assumption)))
  clear R1
  go_wp2
  obtain ⟨e0, e1⟩ := res_cells (c := 14) r0 r1 (.slice none 0 0)
  exact bodyPost_ret (v := .tuple #[.slice none 0 0, .agg #[.int .i64 14, .slice none 0 0]]) (by simp [results, Tryd.results23, go_sem, e0, e1]) rfl ⟨_, _, _, _, _, rfl, (EW.setCell (by simp) _).setCell (by simp) _, Ints.nil _, RErrIs.code (by decide)⟩
set_option maxHeartbeats 1000000 in
set_option maxRecDepth 20000 in
theorem rpred_l4 (mo c : Int) (ts ls : List Int) (a b : Option Addr) (n m ca cb : Nat) (w : World) (ha : Ints w (.slice a 4 ca) ts) (hb : Ints w (.slice b m cb) ls) (h1 : ¬ mo < 0) (h2 : ¬ 3 < mo) (h3 : ((m : Int) != 4) = true) :
    Calls Tryd.prog 23 #[.int .i64 mo, .slice a 4 ca, .slice b m cb, .int .i64 c] w (RZPost w [] (some ([], 14))) := by
  have R1 := ResAt.new w
  go_enter Tryd.func23, Tryd.ntmps23
  go_wp2_with fail
  refine (fail_any 14 _).mono ?_; rintro e w9 ⟨rfl, hx9⟩
  obtain ⟨r0, r1, f0, f1⟩ := R1.ext (show Ext (w.alloc _) w9 from (by repeat (first | exact Ext.refl _ | assumption | refine Ext.alloc ?_ _ | refine Ext.drew ?_ | refine Ext.drewN ?_ _ | refine Ext.setCell ?_ (by first | exact Nat.le_refl _ | (simp; done) | omega) _ | refine Ext.trans ?_ (by assumption))))
  have EW : Ext w w9 := (by repeat (first | exact Ext.refl _ | assumption | refine Ext.alloc ?_ _ | refine Ext.drew ?_ | refine Ext.drewN ?_ _ | refine Ext.setCell ?_ (by first | exact Nat.le_refl _ | (simp; done) | omega) _ | refine Ext.trans ?_ (by assumption)))
  clear R1
  go_wp2
  obtain ⟨e0, e1⟩ := res_cells (c := 14) r0 r1 (.slice none 0 0)
  exact bodyPost_ret (v := .tuple #[.slice none 0 0, .agg #[.int .i64 14, .slice none 0 0]]) (by simp [results, Tryd.results23, go_sem, e0, e1]) rfl ⟨_, _, _, _, _, rfl, (EW.setCell (by simp) _).setCell (by simp) _, Ints.nil _, RErrIs.code (by decide)⟩
set_option maxHeartbeats 1000000 in
set_option maxRecDepth 20000 in
theorem rpred_l8 (mo c : Int) (ts ls : List Int) (a b : Option Addr) (n m ca cb : Nat) (w : World) (ha : Ints w (.slice a 8 ca) ts) (hb : Ints w (.slice b m cb) ls) (h1 : ¬ mo < 0) (h2 : ¬ 3 < mo) (h3 : ((m : Int) != 8) = true) :
    Calls Tryd.prog 23 #[.int .i64 mo, .slice a 8 ca, .slice b m cb, .int .i64 c] w (RZPost w [] (some ([], 14))) := by
  have R1 := ResAt.new w
  go_enter Tryd.func23, Tryd.ntmps23
  go_wp2_with fail
  refine (fail_any 14 _).mono ?_; rintro e w9 ⟨rfl, hx9⟩
  obtain ⟨r0, r1, f0, f1⟩ := R1.ext (show Ext (w.alloc _) w9 from (by repeat (first | exact Ext.refl _ | assumption | refine Ext.alloc ?_ _ | refine Ext.drew ?_ | refine Ext.drewN ?_ _ | refine Ext.setCell ?_ (by first | exact Nat.le_refl _ | (simp; done) | omega) _ | refine Ext.trans ?_ (by assumption))))
  have EW : Ext w w9 := (by repeat (first | exact Ext.refl _ | assumption | refine Ext.alloc ?_ _ | refine Ext.drew ?_ | refine Ext.drewN ?_ _ | refine Ext.setCell ?_ (by first | exact Nat.le_refl _ | (simp; done) | omega) _ | refine Ext.trans ?_ (by assumption)))
  clear R1
  go_wp2
  obtain ⟨e0, e1⟩ := res_cells (c := 14) r0 r1 (.slice none 0 0)
  exact bodyPost_ret (v := .tuple #[.slice none 0 0, .agg #[.int .i64 14, .slice none 0 0]]) (by simp [results, Tryd.results23, go_sem, e0, e1]) rfl ⟨_, _, _, _, _, rfl, (EW.setCell (by simp) _).setCell (by simp) _, Ints.nil _, RErrIs.code (by decide)⟩
set_option maxHeartbeats 1000000 in
set_option maxRecDepth 20000 in
theorem rpred_t4 (mo c : Int) (ts ls : List Int) (a b : Option Addr) (n m ca cb : Nat) (w : World) (ha : Ints w (.slice a 4 ca) ts) (hb : Ints w (.slice b 4 cb) ls) (h1 : ¬ mo < 0) (h2 : ¬ 3 < mo) (HW : Hid (¬ within 0 255 ts)) :
    Calls Tryd.prog 23 #[.int .i64 mo, .slice a 4 ca, .slice b 4 cb, .int .i64 c] w (RZPost w [] (some ([], 3))) := by
  have R1 := ResAt.new w
  go_enter Tryd.func23, Tryd.ntmps23
  go_wp2_with fail
  refine (within_any ts 0 255 _ _ (ha.ext (by repeat (first | exact Ext.refl _ | assumption | refine Ext.alloc ?_ _ | refine Ext.drew ?_ | refine Ext.drewN ?_ _ | refine Ext.setCell ?_ (by first | exact Nat.le_refl _ | (simp; done) | omega) _ | refine Ext.trans ?_ (by assumption))))).mono ?_; rintro e w1 ⟨rfl, hx1⟩
  rw [decide_eq_false HW.out]
  go_wp2_with fail
  refine (fail_any 3 _).mono ?_; rintro e w9 ⟨rfl, hx9⟩
  obtain ⟨r0, r1, f0, f1⟩ := R1.ext (show Ext (w.alloc _) w9 from (by repeat (first | exact Ext.refl _ | assumption | refine Ext.alloc ?_ _ | refine Ext.drew ?_ | refine Ext.drewN ?_ _ | refine Ext.setCell ?_ (by first | exact Nat.le_refl _ | (simp; done) | omega) _ | refine Ext.trans ?_ (by assumption))))
  have EW : Ext w w9 := (by repeat (first | exact Ext.refl _ | assumption | refine Ext.alloc ?_ _ | refine Ext.drew ?_ | refine Ext.drewN ?_ _ | refine Ext.setCell ?_ (by first | exact Nat.le_refl _ | (simp; done) | omega) _ | refine Ext.trans ?_ (by assumption)))
  clear R1
  go_wp2
  obtain ⟨e0, e1⟩ := res_cells (c := 3) r0 r1 (.slice none 0 0)
  exact bodyPost_ret (v := .tuple #[.slice none 0 0, .agg #[.int .i64 3, .slice none 0 0]]) (by simp [results, Tryd.results23, go_sem, e0, e1]) rfl ⟨_, _, _, _, _, rfl, (EW.setCell (by simp) _).setCell (by simp) _, Ints.nil _, RErrIs.code (by decide)⟩
set_option maxHeartbeats 1000000 in
set_option maxRecDepth 20000 in
theorem rpred_t8 (mo c : Int) (ts ls : List Int) (a b : Option Addr) (n m ca cb : Nat) (w : World) (ha : Ints w (.slice a 8 ca) ts) (hb : Ints w (.slice b 8 cb) ls) (h1 : ¬ mo < 0) (h2 : ¬ 3 < mo) (HW : Hid (¬ within 0 255 ts)) :
    Calls Tryd.prog 23 #[.int .i64 mo, .slice a 8 ca, .slice b 8 cb, .int .i64 c] w (RZPost w [] (some ([], 3))) := by
  have R1 := ResAt.new w
  go_enter Tryd.func23, Tryd.ntmps23
  go_wp2_with fail
  refine (within_any ts 0 255 _ _ (ha.ext (by repeat (first | exact Ext.refl _ | assumption | refine Ext.alloc ?_ _ | refine Ext.drew ?_ | refine Ext.drewN ?_ _ | refine Ext.setCell ?_ (by first | exact Nat.le_refl _ | (simp; done) | omega) _ | refine Ext.trans ?_ (by assumption))))).mono ?_; rintro e w1 ⟨rfl, hx1⟩
  rw [decide_eq_false HW.out]
  go_wp2_with fail
  refine (fail_any 3 _).mono ?_; rintro e w9 ⟨rfl, hx9⟩
  obtain ⟨r0, r1, f0, f1⟩ := R1.ext (show Ext (w.alloc _) w9 from (by repeat (first | exact Ext.refl _ | assumption | refine Ext.alloc ?_ _ | refine Ext.drew ?_ | refine Ext.drewN ?_ _ | refine Ext.setCell ?_ (by first | exact Nat.le_refl _ | (simp; done) | omega) _ | refine Ext.trans ?_ (by assumption))))
  have EW : Ext w w9 := (by repeat (first | exact Ext.refl _ | assumption | refine Ext.alloc ?_ _ | refine Ext.drew ?_ | refine Ext.drewN ?_ _ | refine Ext.setCell ?_ (by first | exact Nat.le_refl _ | (simp; done) | omega) _ | refine Ext.trans ?_ (by assumption)))
  clear R1
  go_wp2
  obtain ⟨e0, e1⟩ := res_cells (c := 3) r0 r1 (.slice none 0 0)
  exact bodyPost_ret (v := .tuple #[.slice none 0 0, .agg #[.int .i64 3, .slice none 0 0]]) (by simp [results, Tryd.results23, go_sem, e0, e1]) rfl ⟨_, _, _, _, _, rfl, (EW.setCell (by simp) _).setCell (by simp) _, Ints.nil _, RErrIs.code (by decide)⟩
set_option maxHeartbeats 1000000 in
set_option maxRecDepth 20000 in
theorem rpred_s4 (mo c : Int) (ts ls : List Int) (a b : Option Addr) (n m ca cb : Nat) (w : World) (ha : Ints w (.slice a 4 ca) ts) (hb : Ints w (.slice b 4 cb) ls) (h1 : ¬ mo < 0) (h2 : ¬ 3 < mo) (HW : Hid (within 0 255 ts)) (HU : Hid (¬ within 0 255 ls)) :
    Calls Tryd.prog 23 #[.int .i64 mo, .slice a 4 ca, .slice b 4 cb, .int .i64 c] w (RZPost w [] (some ([], 3))) := by
  have R1 := ResAt.new w
  go_enter Tryd.func23, Tryd.ntmps23
  go_wp2_with fail
  refine (within_any ts 0 255 _ _ (ha.ext (by repeat (first | exact Ext.refl _ | assumption | refine Ext.alloc ?_ _ | refine Ext.drew ?_ | refine Ext.drewN ?_ _ | refine Ext.setCell ?_ (by first | exact Nat.le_refl _ | (simp; done) | omega) _ | refine Ext.trans ?_ (by assumption))))).mono ?_; rintro e w1 ⟨rfl, hx1⟩
  rw [decide_eq_true HW.out]
  go_wp2_with fail
  refine (within_any ls 0 255 _ _ (hb.ext (by repeat (first | exact Ext.refl _ | assumption | refine Ext.alloc ?_ _ | refine Ext.drew ?_ | refine Ext.drewN ?_ _ | refine Ext.setCell ?_ (by first | exact Nat.le_refl _ | (simp; done) | omega) _ | refine Ext.trans ?_ (by assumption))))).mono ?_; rintro e w2 ⟨rfl, hx2⟩
  rw [decide_eq_false HU.out]
  go_wp2_with fail
  refine (fail_any 3 _).mono ?_; rintro e w9 ⟨rfl, hx9⟩
  obtain ⟨r0, r1, f0, f1⟩ := R1.ext (show Ext (w.alloc _) w9 from (by repeat (first | exact Ext.refl _ | assumption | refine Ext.alloc ?_ _ | refine Ext.drew ?_ | refine Ext.drewN ?_ _ | refine Ext.setCell ?_ (by first | exact Nat.le_refl _ | (simp; done) | omega) _ | refine Ext.trans ?_ (by assumption))))
  have EW : Ext w w9 := (by repeat (first | exact Ext.refl _ | assumption | refine Ext.alloc ?_ _ | refine Ext.drew ?_ | refine Ext.drewN ?_ _ | refine Ext.setCell ?_ (by first | exact Nat.le_refl _ | (simp; done) | omega) _ | refine Ext.trans ?_ (by assumption)))
  clear R1
  go_wp2
  obtain ⟨e0, e1⟩ := res_cells (c := 3) r0 r1 (.slice none 0 0)
  exact bodyPost_ret (v := .tuple #[.slice none 0 0, .agg #[.int .i64 3, .slice none 0 0]]) (by simp [results, Tryd.results23, go_sem, e0, e1]) rfl ⟨_, _, _, _, _, rfl, (EW.setCell (by simp) _).setCell (by simp) _, Ints.nil _, RErrIs.code (by decide)⟩
set_option maxHeartbeats 1000000 in
set_option maxRecDepth 20000 in
theorem rpred_s8 (mo c : Int) (ts ls : List Int) (a b : Option Addr) (n m ca cb : Nat) (w : World) (ha : Ints w (.slice a 8 ca) ts) (hb : Ints w (.slice b 8 cb) ls) (h1 : ¬ mo < 0) (h2 : ¬ 3 < mo) (HW : Hid (within 0 255 ts)) (HU : Hid (¬ within 0 255 ls)) :
    Calls Tryd.prog 23 #[.int .i64 mo, .slice a 8 ca, .slice b 8 cb, .int .i64 c] w (RZPost w [] (some ([], 3))) := by
  have R1 := ResAt.new w
  go_enter Tryd.func23, Tryd.ntmps23
  go_wp2_with fail
  refine (within_any ts 0 255 _ _ (ha.ext (by repeat (first | exact Ext.refl _ | assumption | refine Ext.alloc ?_ _ | refine Ext.drew ?_ | refine Ext.drewN ?_ _ | refine Ext.setCell ?_ (by first | exact Nat.le_refl _ | (simp; done) | omega) _ | refine Ext.trans ?_ (by assumption))))).mono ?_; rintro e w1 ⟨rfl, hx1⟩
  rw [decide_eq_true HW.out]
  go_wp2_with fail
  refine (within_any ls 0 255 _ _ (hb.ext (by repeat (first | exact Ext.refl _ | assumption | refine Ext.alloc ?_ _ | refine Ext.drew ?_ | refine Ext.drewN ?_ _ | refine Ext.setCell ?_ (by first | exact Nat.le_refl _ | (simp; done) | omega) _ | refine Ext.trans ?_ (by assumption))))).mono ?_; rintro e w2 ⟨rfl, hx2⟩
  rw [decide_eq_false HU.out]
  go_wp2_with fail
  refine (fail_any 3 _).mono ?_; rintro e w9 ⟨rfl, hx9⟩
  obtain ⟨r0, r1, f0, f1⟩ := R1.ext (show Ext (w.alloc _) w9 from (by repeat (first | exact Ext.refl _ | assumption | refine Ext.alloc ?_ _ | refine Ext.drew ?_ | refine Ext.drewN ?_ _ | refine Ext.setCell ?_ (by first | exact Nat.le_refl _ | (simp; done) | omega) _ | refine Ext.trans ?_ (by assumption))))
  have EW : Ext w w9 := (by repeat (first | exact Ext.refl _ | assumption | refine Ext.alloc ?_ _ | refine Ext.drew ?_ | refine Ext.drewN ?_ _ | refine Ext.setCell ?_ (by first | exact Nat.le_refl _ | (simp; done) | omega) _ | refine Ext.trans ?_ (by assumption)))
  clear R1
  go_wp2
  obtain ⟨e0, e1⟩ := res_cells (c := 3) r0 r1 (.slice none 0 0)
  exact bodyPost_ret (v := .tuple #[.slice none 0 0, .agg #[.int .i64 3, .slice none 0 0]]) (by simp [results, Tryd.results23, go_sem, e0, e1]) rfl ⟨_, _, _, _, _, rfl, (EW.setCell (by simp) _).setCell (by simp) _, Ints.nil _, RErrIs.code (by decide)⟩
set_option maxHeartbeats 1000000 in
set_option maxRecDepth 20000 in
theorem rpred_cl4 (mo c : Int) (ts ls : List Int) (a b : Option Addr) (n m ca cb : Nat) (w : World) (ha : Ints w (.slice a 4 ca) ts) (hb : Ints w (.slice b 4 cb) ls) (h1 : ¬ mo < 0) (h2 : ¬ 3 < mo) (HW : Hid (within 0 255 ts)) (HU : Hid (within 0 255 ls)) (h3 : c < 0) :
    Calls Tryd.prog 23 #[.int .i64 mo, .slice a 4 ca, .slice b 4 cb, .int .i64 c] w (RZPost w [] (some ([], 3))) := by
  have R1 := ResAt.new w
  go_enter Tryd.func23, Tryd.ntmps23
  go_wp2_with fail
  refine (within_any ts 0 255 _ _ (ha.ext (by repeat (first | exact Ext.refl _ | assumption | refine Ext.alloc ?_ _ | refine Ext.drew ?_ | refine Ext.drewN ?_ _ | refine Ext.setCell ?_ (by first | exact Nat.le_refl _ | (simp; done) | omega) _ | refine Ext.trans ?_ (by assumption))))).mono ?_; rintro e w1 ⟨rfl, hx1⟩
  rw [decide_eq_true HW.out]
  go_wp2_with fail
  refine (within_any ls 0 255 _ _ (hb.ext (by repeat (first | exact Ext.refl _ | assumption | refine Ext.alloc ?_ _ | refine Ext.drew ?_ | refine Ext.drewN ?_ _ | refine Ext.setCell ?_ (by first | exact Nat.le_refl _ | (simp; done) | omega) _ | refine Ext.trans ?_ (by assumption))))).mono ?_; rintro e w2 ⟨rfl, hx2⟩
  rw [decide_eq_true HU.out]
  go_wp2_with fail
  refine (fail_any 3 _).mono ?_; rintro e w9 ⟨rfl, hx9⟩
  obtain ⟨r0, r1, f0, f1⟩ := R1.ext (show Ext (w.alloc _) w9 from (by repeat (first | exact Ext.refl _ | assumption | refine Ext.alloc ?_ _ | refine Ext.drew ?_ | refine Ext.drewN ?_ _ | refine Ext.setCell ?_ (by first | exact Nat.le_refl _ | (simp; done) | omega) _ | refine Ext.trans ?_ (by assumption))))
  have EW : Ext w w9 := (by repeat (first | exact Ext.refl _ | assumption | refine Ext.alloc ?_ _ | refine Ext.drew ?_ | refine Ext.drewN ?_ _ | refine Ext.setCell ?_ (by first | exact Nat.le_refl _ | (simp; done) | omega) _ | refine Ext.trans ?_ (by assumption)))
  clear R1
  go_wp2
  obtain ⟨e0, e1⟩ := res_cells (c := 3) r0 r1 (.slice none 0 0)
  exact bodyPost_ret (v := .tuple #[.slice none 0 0, .agg #[.int .i64 3, .slice none 0 0]]) (by simp [results, Tryd.results23, go_sem, e0, e1]) rfl ⟨_, _, _, _, _, rfl, (EW.setCell (by simp) _).setCell (by simp) _, Ints.nil _, RErrIs.code (by decide)⟩
set_option maxHeartbeats 1000000 in
set_option maxRecDepth 20000 in
theorem rpred_cl8 (mo c : Int) (ts ls : List Int) (a b : Option Addr) (n m ca cb : Nat) (w : World) (ha : Ints w (.slice a 8 ca) ts) (hb : Ints w (.slice b 8 cb) ls) (h1 : ¬ mo < 0) (h2 : ¬ 3 < mo) (HW : Hid (within 0 255 ts)) (HU : Hid (within 0 255 ls)) (h3 : c < 0) :
    Calls Tryd.prog 23 #[.int .i64 mo, .slice a 8 ca, .slice b 8 cb, .int .i64 c] w (RZPost w [] (some ([], 3))) := by
  have R1 := ResAt.new w
  go_enter Tryd.func23, Tryd.ntmps23
  go_wp2_with fail
  refine (within_any ts 0 255 _ _ (ha.ext (by repeat (first | exact Ext.refl _ | assumption | refine Ext.alloc ?_ _ | refine Ext.drew ?_ | refine Ext.drewN ?_ _ | refine Ext.setCell ?_ (by first | exact Nat.le_refl _ | (simp; done) | omega) _ | refine Ext.trans ?_ (by assumption))))).mono ?_; rintro e w1 ⟨rfl, hx1⟩
  rw [decide_eq_true HW.out]
  go_wp2_with fail
  refine (within_any ls 0 255 _ _ (hb.ext (by repeat (first | exact Ext.refl _ | assumption | refine Ext.alloc ?_ _ | refine Ext.drew ?_ | refine Ext.drewN ?_ _ | refine Ext.setCell ?_ (by first | exact Nat.le_refl _ | (simp; done) | omega) _ | refine Ext.trans ?_ (by assumption))))).mono ?_; rintro e w2 ⟨rfl, hx2⟩
  rw [decide_eq_true HU.out]
  go_wp2_with fail
  refine (fail_any 3 _).mono ?_; rintro e w9 ⟨rfl, hx9⟩
  obtain ⟨r0, r1, f0, f1⟩ := R1.ext (show Ext (w.alloc _) w9 from (by repeat (first | exact Ext.refl _ | assumption | refine Ext.alloc ?_ _ | refine Ext.drew ?_ | refine Ext.drewN ?_ _ | refine Ext.setCell ?_ (by first | exact Nat.le_refl _ | (simp; done) | omega) _ | refine Ext.trans ?_ (by assumption))))
  have EW : Ext w w9 := (by repeat (first | exact Ext.refl _ | assumption | refine Ext.alloc ?_ _ | refine Ext.drew ?_ | refine Ext.drewN ?_ _ | refine Ext.setCell ?_ (by first | exact Nat.le_refl _ | (simp; done) | omega) _ | refine Ext.trans ?_ (by assumption)))
  clear R1
  go_wp2
  obtain ⟨e0, e1⟩ := res_cells (c := 3) r0 r1 (.slice none 0 0)
  exact bodyPost_ret (v := .tuple #[.slice none 0 0, .agg #[.int .i64 3, .slice none 0 0]]) (by simp [results, Tryd.results23, go_sem, e0, e1]) rfl ⟨_, _, _, _, _, rfl, (EW.setCell (by simp) _).setCell (by simp) _, Ints.nil _, RErrIs.code (by decide)⟩
set_option maxHeartbeats 1000000 in
set_option maxRecDepth 20000 in
theorem rpred_ch4 (mo c : Int) (ts ls : List Int) (a b : Option Addr) (n m ca cb : Nat) (w : World) (ha : Ints w (.slice a 4 ca) ts) (hb : Ints w (.slice b 4 cb) ls) (h1 : ¬ mo < 0) (h2 : ¬ 3 < mo) (HW : Hid (within 0 255 ts)) (HU : Hid (within 0 255 ls)) (h3 : ¬ c < 0) (h4 : 255 < c) :
    Calls Tryd.prog 23 #[.int .i64 mo, .slice a 4 ca, .slice b 4 cb, .int .i64 c] w (RZPost w [] (some ([], 3))) := by
  have R1 := ResAt.new w
  go_enter Tryd.func23, Tryd.ntmps23
  go_wp2_with fail
  refine (within_any ts 0 255 _ _ (ha.ext (by repeat (first | exact Ext.refl _ | assumption | refine Ext.alloc ?_ _ | refine Ext.drew ?_ | refine Ext.drewN ?_ _ | refine Ext.setCell ?_ (by first | exact Nat.le_refl _ | (simp; done) | omega) _ | refine Ext.trans ?_ (by assumption))))).mono ?_; rintro e w1 ⟨rfl, hx1⟩
  rw [decide_eq_true HW.out]
  go_wp2_with fail
  refine (within_any ls 0 255 _ _ (hb.ext (by repeat (first | exact Ext.refl _ | assumption | refine Ext.alloc ?_ _ | refine Ext.drew ?_ | refine Ext.drewN ?_ _ | refine Ext.setCell ?_ (by first | exact Nat.le_refl _ | (simp; done) | omega) _ | refine Ext.trans ?_ (by assumption))))).mono ?_; rintro e w2 ⟨rfl, hx2⟩
  rw [decide_eq_true HU.out]
  go_wp2_with fail
  refine (fail_any 3 _).mono ?_; rintro e w9 ⟨rfl, hx9⟩
  obtain ⟨r0, r1, f0, f1⟩ := R1.ext (show Ext (w.alloc _) w9 from (by repeat (first | exact Ext.refl _ | assumption | refine Ext.alloc ?_ _ | refine Ext.drew ?_ | refine Ext.drewN ?_ _ | refine Ext.setCell ?_ (by first | exact Nat.le_refl _ | (simp; done) | omega) _ | refine Ext.trans ?_ (by assumption))))
  have EW : Ext w w9 := (by repeat (first | exact Ext.refl _ | assumption | refine Ext.alloc ?_ _ | refine Ext.drew ?_ | refine Ext.drewN ?_ _ | refine Ext.setCell ?_ (by first | exact Nat.le_refl _ | (simp; done) | omega) _ | refine Ext.trans ?_ (by assumption)))
  clear R1
  go_wp2
  obtain ⟨e0, e1⟩ := res_cells (c := 3) r0 r1 (.slice none 0 0)
  exact bodyPost_ret (v := .tuple #[.slice none 0 0, .agg #[.int .i64 3, .slice none 0 0]]) (by simp [results, Tryd.results23, go_sem, e0, e1]) rfl ⟨_, _, _, _, _, rfl, (EW.setCell (by simp) _).setCell (by simp) _, Ints.nil _, RErrIs.code (by decide)⟩
set_option maxHeartbeats 1000000 in
set_option maxRecDepth 20000 in
theorem rpred_ch8 (mo c : Int) (ts ls : List Int) (a b : Option Addr) (n m ca cb : Nat) (w : World) (ha : Ints w (.slice a 8 ca) ts) (hb : Ints w (.slice b 8 cb) ls) (h1 : ¬ mo < 0) (h2 : ¬ 3 < mo) (HW : Hid (within 0 255 ts)) (HU : Hid (within 0 255 ls)) (h3 : ¬ c < 0) (h4 : 255 < c) :
    Calls Tryd.prog 23 #[.int .i64 mo, .slice a 8 ca, .slice b 8 cb, .int .i64 c] w (RZPost w [] (some ([], 3))) := by
  have R1 := ResAt.new w
  go_enter Tryd.func23, Tryd.ntmps23
  go_wp2_with fail
  refine (within_any ts 0 255 _ _ (ha.ext (by repeat (first | exact Ext.refl _ | assumption | refine Ext.alloc ?_ _ | refine Ext.drew ?_ | refine Ext.drewN ?_ _ | refine Ext.setCell ?_ (by first | exact Nat.le_refl _ | (simp; done) | omega) _ | refine Ext.trans ?_ (by assumption))))).mono ?_; rintro e w1 ⟨rfl, hx1⟩
  rw [decide_eq_true HW.out]
  go_wp2_with fail
  refine (within_any ls 0 255 _ _ (hb.ext (by repeat (first | exact Ext.refl _ | assumption | refine Ext.alloc ?_ _ | refine Ext.drew ?_ | refine Ext.drewN ?_ _ | refine Ext.setCell ?_ (by first | exact Nat.le_refl _ | (simp; done) | omega) _ | refine Ext.trans ?_ (by assumption))))).mono ?_; rintro e w2 ⟨rfl, hx2⟩
  rw [decide_eq_true HU.out]
  go_wp2_with fail
  refine (fail_any 3 _).mono ?_; rintro e w9 ⟨rfl, hx9⟩
  obtain ⟨r0, r1, f0, f1⟩ := R1.ext (show Ext (w.alloc _) w9 from (by repeat (first | exact Ext.refl _ | assumption | refine Ext.alloc ?_ _ | refine Ext.drew ?_ | refine Ext.drewN ?_ _ | refine Ext.setCell ?_ (by first | exact Nat.le_refl _ | (simp; done) | omega) _ | refine Ext.trans ?_ (by assumption))))
  have EW : Ext w w9 := (by repeat (first | exact Ext.refl _ | assumption | refine Ext.alloc ?_ _ | refine Ext.drew ?_ | refine Ext.drewN ?_ _ | refine Ext.setCell ?_ (by first | exact Nat.le_refl _ | (simp; done) | omega) _ | refine Ext.trans ?_ (by assumption)))
  clear R1
  go_wp2
  obtain ⟨e0, e1⟩ := res_cells (c := 3) r0 r1 (.slice none 0 0)
  exact bodyPost_ret (v := .tuple #[.slice none 0 0, .agg #[.int .i64 3, .slice none 0 0]]) (by simp [results, Tryd.results23, go_sem, e0, e1]) rfl ⟨_, _, _, _, _, rfl, (EW.setCell (by simp) _).setCell (by simp) _, Ints.nil _, RErrIs.code (by decide)⟩
end Go.Proofs.YtbhlbiandelimaaDoor
