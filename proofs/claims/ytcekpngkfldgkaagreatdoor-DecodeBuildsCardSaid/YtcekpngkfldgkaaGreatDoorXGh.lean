/- Contracts of this seat: R10p, R10q, R10. -/
import Derived.Test.YtcekpngkfldgkaaGreatDoorXTk
import Derived.Test.YtcekpngkfldgkaaGreatDoorXGa
import Derived.Test.YtcekpngkfldgkaaGreatDoorXZb
namespace Go.Proofs.YtcekpngkfldgkaaGreatDoor
set_option linter.unusedVariables false
set_option linter.unusedSimpArgs false
open Go.RowKit Go.Extern.Stop Go.Stop Go.Extern
set_option maxHeartbeats 1000000 in
set_option maxRecDepth 20000 in
theorem rpred_lo (mo c : Int) (ts ls : List Int) (a b : Option Addr) (n m ca cb : Nat) (w : World) (ha : Ints w (.slice a n ca) ts) (hb : Ints w (.slice b m cb) ls) (h1 : mo < 0) :
 Calls Tryz.prog 104 #[.int .i64 mo, .slice a n ca, .slice b m cb, .int .i64 c] w (RZPost w [] (some ([], 13))) := by
 have R1 := ResAt.new w
 go_enter Tryz.func104, Tryz.ntmps104
 go_wp2_with fail
 refine (fail_any 13 _).mono ?_; rintro e w9 ⟨rfl, hx9⟩
 obtain ⟨r0, r1, f0, f1⟩ := R1.ext (show Ext (w.alloc _) w9 from (by repeat (first | exact Ext.refl _ | assumption | refine Ext.alloc ?_ _ | refine Ext.drew ?_ | refine Ext.drewN ?_ _ | refine Ext.setCell ?_ (by first | exact Nat.le_refl _ | (simp; done) | omega) _ | refine Ext.trans ?_ (by assumption))))
 have EW : Ext w w9 := (by repeat (first | exact Ext.refl _ | assumption | refine Ext.alloc ?_ _ | refine Ext.drew ?_ | refine Ext.drewN ?_ _ | refine Ext.setCell ?_ (by first | exact Nat.le_refl _ | (simp; done) | omega) _ | refine Ext.trans ?_ (by assumption)))
 clear R1
 go_wp2
 obtain ⟨e0, e1⟩ := res_cells (c := 13) r0 r1 (.slice none 0 0)
 exact bodyPost_ret (v := .tuple #[.slice none 0 0, .agg #[.int .i64 13, .slice none 0 0]]) (by simp [results, Tryz.results104, go_sem, e0, e1]) rfl ⟨_, _, _, _, _, rfl, (EW.setCell (by simp) _).setCell (by simp) _, Ints.nil _, RErrIs.code (by decide)⟩
set_option maxHeartbeats 1000000 in
set_option maxRecDepth 20000 in
theorem rpred_hi (mo c : Int) (ts ls : List Int) (a b : Option Addr) (n m ca cb : Nat) (w : World) (ha : Ints w (.slice a n ca) ts) (hb : Ints w (.slice b m cb) ls) (h1 : ¬ mo < 0) (h2 : 3 < mo) :
 Calls Tryz.prog 104 #[.int .i64 mo, .slice a n ca, .slice b m cb, .int .i64 c] w (RZPost w [] (some ([], 13))) := by
 have R1 := ResAt.new w
 go_enter Tryz.func104, Tryz.ntmps104
 go_wp2_with fail
 refine (fail_any 13 _).mono ?_; rintro e w9 ⟨rfl, hx9⟩
 obtain ⟨r0, r1, f0, f1⟩ := R1.ext (show Ext (w.alloc _) w9 from (by repeat (first | exact Ext.refl _ | assumption | refine Ext.alloc ?_ _ | refine Ext.drew ?_ | refine Ext.drewN ?_ _ | refine Ext.setCell ?_ (by first | exact Nat.le_refl _ | (simp; done) | omega) _ | refine Ext.trans ?_ (by assumption))))
 have EW : Ext w w9 := (by repeat (first | exact Ext.refl _ | assumption | refine Ext.alloc ?_ _ | refine Ext.drew ?_ | refine Ext.drewN ?_ _ | refine Ext.setCell ?_ (by first | exact Nat.le_refl _ | (simp; done) | omega) _ | refine Ext.trans ?_ (by assumption)))
 clear R1
 go_wp2
 obtain ⟨e0, e1⟩ := res_cells (c := 13) r0 r1 (.slice none 0 0)
 exact bodyPost_ret (v := .tuple #[.slice none 0 0, .agg #[.int .i64 13, .slice none 0 0]]) (by simp [results, Tryz.results104, go_sem, e0, e1]) rfl ⟨_, _, _, _, _, rfl, (EW.setCell (by simp) _).setCell (by simp) _, Ints.nil _, RErrIs.code (by decide)⟩
set_option maxHeartbeats 1000000 in
set_option maxRecDepth 20000 in
theorem rpred_n (mo c : Int) (ts ls : List Int) (a b : Option Addr) (n m ca cb : Nat) (w : World) (ha : Ints w (.slice a n ca) ts) (hb : Ints w (.slice b m cb) ls) (h1 : ¬ mo < 0) (h2 : ¬ 3 < mo) (h3 : ((n : Int) != 4) = true) (h4 : ((n : Int) != 8) = true) :
 Calls Tryz.prog 104 #[.int .i64 mo, .slice a n ca, .slice b m cb, .int .i64 c] w (RZPost w [] (some ([], 14))) := by
 have R1 := ResAt.new w
 go_enter Tryz.func104, Tryz.ntmps104
 go_wp2_with fail
 refine (fail_any 14 _).mono ?_; rintro e w9 ⟨rfl, hx9⟩
 obtain ⟨r0, r1, f0, f1⟩ := R1.ext (show Ext (w.alloc _) w9 from (by repeat (first | exact Ext.refl _ | assumption | refine Ext.alloc ?_ _ | refine Ext.drew ?_ | refine Ext.drewN ?_ _ | refine Ext.setCell ?_ (by first | exact Nat.le_refl _ | (simp; done) | omega) _ | refine Ext.trans ?_ (by assumption))))
 have EW : Ext w w9 := (by repeat (first | exact Ext.refl _ | assumption | refine Ext.alloc ?_ _ | refine Ext.drew ?_ | refine Ext.drewN ?_ _ | refine Ext.setCell ?_ (by first | exact Nat.le_refl _ | (simp; done) | omega) _ | refine Ext.trans ?_ (by assumption)))
 clear R1
 go_wp2
 obtain ⟨e0, e1⟩ := res_cells (c := 14) r0 r1 (.slice none 0 0)
 exact bodyPost_ret (v := .tuple #[.slice none 0 0, .agg #[.int .i64 14, .slice none 0 0]]) (by simp [results, Tryz.results104, go_sem, e0, e1]) rfl ⟨_, _, _, _, _, rfl, (EW.setCell (by simp) _).setCell (by simp) _, Ints.nil _, RErrIs.code (by decide)⟩
set_option maxHeartbeats 1000000 in
set_option maxRecDepth 20000 in
theorem rpred_l4 (mo c : Int) (ts ls : List Int) (a b : Option Addr) (n m ca cb : Nat) (w : World) (ha : Ints w (.slice a 4 ca) ts) (hb : Ints w (.slice b m cb) ls) (h1 : ¬ mo < 0) (h2 : ¬ 3 < mo) (h3 : ((m : Int) != 4) = true) :
 Calls Tryz.prog 104 #[.int .i64 mo, .slice a 4 ca, .slice b m cb, .int .i64 c] w (RZPost w [] (some ([], 14))) := by
 have R1 := ResAt.new w
 go_enter Tryz.func104, Tryz.ntmps104
 go_wp2_with fail
 refine (fail_any 14 _).mono ?_; rintro e w9 ⟨rfl, hx9⟩
 obtain ⟨r0, r1, f0, f1⟩ := R1.ext (show Ext (w.alloc _) w9 from (by repeat (first | exact Ext.refl _ | assumption | refine Ext.alloc ?_ _ | refine Ext.drew ?_ | refine Ext.drewN ?_ _ | refine Ext.setCell ?_ (by first | exact Nat.le_refl _ | (simp; done) | omega) _ | refine Ext.trans ?_ (by assumption))))
 have EW : Ext w w9 := (by repeat (first | exact Ext.refl _ | assumption | refine Ext.alloc ?_ _ | refine Ext.drew ?_ | refine Ext.drewN ?_ _ | refine Ext.setCell ?_ (by first | exact Nat.le_refl _ | (simp; done) | omega) _ | refine Ext.trans ?_ (by assumption)))
 clear R1
 go_wp2
 obtain ⟨e0, e1⟩ := res_cells (c := 14) r0 r1 (.slice none 0 0)
 exact bodyPost_ret (v := .tuple #[.slice none 0 0, .agg #[.int .i64 14, .slice none 0 0]]) (by simp [results, Tryz.results104, go_sem, e0, e1]) rfl ⟨_, _, _, _, _, rfl, (EW.setCell (by simp) _).setCell (by simp) _, Ints.nil _, RErrIs.code (by decide)⟩
set_option maxHeartbeats 1000000 in
set_option maxRecDepth 20000 in
theorem rpred_l8 (mo c : Int) (ts ls : List Int) (a b : Option Addr) (n m ca cb : Nat) (w : World) (ha : Ints w (.slice a 8 ca) ts) (hb : Ints w (.slice b m cb) ls) (h1 : ¬ mo < 0) (h2 : ¬ 3 < mo) (h3 : ((m : Int) != 8) = true) :
 Calls Tryz.prog 104 #[.int .i64 mo, .slice a 8 ca, .slice b m cb, .int .i64 c] w (RZPost w [] (some ([], 14))) := by
 have R1 := ResAt.new w
 go_enter Tryz.func104, Tryz.ntmps104
 go_wp2_with fail
 refine (fail_any 14 _).mono ?_; rintro e w9 ⟨rfl, hx9⟩
 obtain ⟨r0, r1, f0, f1⟩ := R1.ext (show Ext (w.alloc _) w9 from (by repeat (first | exact Ext.refl _ | assumption | refine Ext.alloc ?_ _ | refine Ext.drew ?_ | refine Ext.drewN ?_ _ | refine Ext.setCell ?_ (by first | exact Nat.le_refl _ | (simp; done) | omega) _ | refine Ext.trans ?_ (by assumption))))
 have EW : Ext w w9 := (by repeat (first | exact Ext.refl _ | assumption | refine Ext.alloc ?_ _ | refine Ext.drew ?_ | refine Ext.drewN ?_ _ | refine Ext.setCell ?_ (by first | exact Nat.le_refl _ | (simp; done) | omega) _ | refine Ext.trans ?_ (by assumption)))
 clear R1
 go_wp2
 obtain ⟨e0, e1⟩ := res_cells (c := 14) r0 r1 (.slice none 0 0)
 exact bodyPost_ret (v := .tuple #[.slice none 0 0, .agg #[.int .i64 14, .slice none 0 0]]) (by simp [results, Tryz.results104, go_sem, e0, e1]) rfl ⟨_, _, _, _, _, rfl, (EW.setCell (by simp) _).setCell (by simp) _, Ints.nil _, RErrIs.code (by decide)⟩
set_option maxHeartbeats 1000000 in
set_option maxRecDepth 20000 in
theorem rpred_t4 (mo c : Int) (ts ls : List Int) (a b : Option Addr) (n m ca cb : Nat) (w : World) (ha : Ints w (.slice a 4 ca) ts) (hb : Ints w (.slice b 4 cb) ls) (h1 : ¬ mo < 0) (h2 : ¬ 3 < mo) (HW : Hid (¬ within 0 255 ts)) :
 Calls Tryz.prog 104 #[.int .i64 mo, .slice a 4 ca, .slice b 4 cb, .int .i64 c] w (RZPost w [] (some ([], 3))) := by
 have R1 := ResAt.new w
 go_enter Tryz.func104, Tryz.ntmps104
 go_wp2_with fail
 refine (within_any ts 0 255 _ _ (ha.ext (by repeat (first | exact Ext.refl _ | assumption | refine Ext.alloc ?_ _ | refine Ext.drew ?_ | refine Ext.drewN ?_ _ | refine Ext.setCell ?_ (by first | exact Nat.le_refl _ | (simp; done) | omega) _ | refine Ext.trans ?_ (by assumption))))).mono ?_; rintro e w1 ⟨rfl, hx1⟩
 rw [decide_eq_false HW.out]
 go_wp2_with fail
 refine (fail_any 3 _).mono ?_; rintro e w9 ⟨rfl, hx9⟩
 obtain ⟨r0, r1, f0, f1⟩ := R1.ext (show Ext (w.alloc _) w9 from (by repeat (first | exact Ext.refl _ | assumption | refine Ext.alloc ?_ _ | refine Ext.drew ?_ | refine Ext.drewN ?_ _ | refine Ext.setCell ?_ (by first | exact Nat.le_refl _ | (simp; done) | omega) _ | refine Ext.trans ?_ (by assumption))))
 have EW : Ext w w9 := (by repeat (first | exact Ext.refl _ | assumption | refine Ext.alloc ?_ _ | refine Ext.drew ?_ | refine Ext.drewN ?_ _ | refine Ext.setCell ?_ (by first | exact Nat.le_refl _ | (simp; done) | omega) _ | refine Ext.trans ?_ (by assumption)))
 clear R1
 go_wp2
 obtain ⟨e0, e1⟩ := res_cells (c := 3) r0 r1 (.slice none 0 0)
 exact bodyPost_ret (v := .tuple #[.slice none 0 0, .agg #[.int .i64 3, .slice none 0 0]]) (by simp [results, Tryz.results104, go_sem, e0, e1]) rfl ⟨_, _, _, _, _, rfl, (EW.setCell (by simp) _).setCell (by simp) _, Ints.nil _, RErrIs.code (by decide)⟩
set_option maxHeartbeats 1000000 in
set_option maxRecDepth 20000 in
theorem rpred_t8 (mo c : Int) (ts ls : List Int) (a b : Option Addr) (n m ca cb : Nat) (w : World) (ha : Ints w (.slice a 8 ca) ts) (hb : Ints w (.slice b 8 cb) ls) (h1 : ¬ mo < 0) (h2 : ¬ 3 < mo) (HW : Hid (¬ within 0 255 ts)) :
 Calls Tryz.prog 104 #[.int .i64 mo, .slice a 8 ca, .slice b 8 cb, .int .i64 c] w (RZPost w [] (some ([], 3))) := by
 have R1 := ResAt.new w
 go_enter Tryz.func104, Tryz.ntmps104
 go_wp2_with fail
 refine (within_any ts 0 255 _ _ (ha.ext (by repeat (first | exact Ext.refl _ | assumption | refine Ext.alloc ?_ _ | refine Ext.drew ?_ | refine Ext.drewN ?_ _ | refine Ext.setCell ?_ (by first | exact Nat.le_refl _ | (simp; done) | omega) _ | refine Ext.trans ?_ (by assumption))))).mono ?_; rintro e w1 ⟨rfl, hx1⟩
 rw [decide_eq_false HW.out]
 go_wp2_with fail
 refine (fail_any 3 _).mono ?_; rintro e w9 ⟨rfl, hx9⟩
 obtain ⟨r0, r1, f0, f1⟩ := R1.ext (show Ext (w.alloc _) w9 from (by repeat (first | exact Ext.refl _ | assumption | refine Ext.alloc ?_ _ | refine Ext.drew ?_ | refine Ext.drewN ?_ _ | refine Ext.setCell ?_ (by first | exact Nat.le_refl _ | (simp; done) | omega) _ | refine Ext.trans ?_ (by assumption))))
 have EW : Ext w w9 := (by repeat (first | exact Ext.refl _ | assumption | refine Ext.alloc ?_ _ | refine Ext.drew ?_ | refine Ext.drewN ?_ _ | refine Ext.setCell ?_ (by first | exact Nat.le_refl _ | (simp; done) | omega) _ | refine Ext.trans ?_ (by assumption)))
 clear R1
 go_wp2
 obtain ⟨e0, e1⟩ := res_cells (c := 3) r0 r1 (.slice none 0 0)
 exact bodyPost_ret (v := .tuple #[.slice none 0 0, .agg #[.int .i64 3, .slice none 0 0]]) (by simp [results, Tryz.results104, go_sem, e0, e1]) rfl ⟨_, _, _, _, _, rfl, (EW.setCell (by simp) _).setCell (by simp) _, Ints.nil _, RErrIs.code (by decide)⟩
set_option maxHeartbeats 1000000 in
set_option maxRecDepth 20000 in
theorem rpred_s4 (mo c : Int) (ts ls : List Int) (a b : Option Addr) (n m ca cb : Nat) (w : World) (ha : Ints w (.slice a 4 ca) ts) (hb : Ints w (.slice b 4 cb) ls) (h1 : ¬ mo < 0) (h2 : ¬ 3 < mo) (HW : Hid (within 0 255 ts)) (HU : Hid (¬ within 0 255 ls)) :
 Calls Tryz.prog 104 #[.int .i64 mo, .slice a 4 ca, .slice b 4 cb, .int .i64 c] w (RZPost w [] (some ([], 3))) := by
 have R1 := ResAt.new w
 go_enter Tryz.func104, Tryz.ntmps104
 go_wp2_with fail
 refine (within_any ts 0 255 _ _ (ha.ext (by repeat (first | exact Ext.refl _ | assumption | refine Ext.alloc ?_ _ | refine Ext.drew ?_ | refine Ext.drewN ?_ _ | refine Ext.setCell ?_ (by first | exact Nat.le_refl _ | (simp; done) | omega) _ | refine Ext.trans ?_ (by assumption))))).mono ?_; rintro e w1 ⟨rfl, hx1⟩
 rw [decide_eq_true HW.out]
 go_wp2_with fail
 refine (within_any ls 0 255 _ _ (hb.ext (by repeat (first | exact Ext.refl _ | assumption | refine Ext.alloc ?_ _ | refine Ext.drew ?_ | refine Ext.drewN ?_ _ | refine Ext.setCell ?_ (by first | exact Nat.le_refl _ | (simp; done) | omega) _ | refine Ext.trans ?_ (by assumption))))).mono ?_; rintro e w2 ⟨rfl, hx2⟩
 rw [decide_eq_false HU.out]
 go_wp2_with fail
 refine (fail_any 3 _).mono ?_; rintro e w9 ⟨rfl, hx9⟩
 obtain ⟨r0, r1, f0, f1⟩ := R1.ext (show Ext (w.alloc _) w9 from (by repeat (first | exact Ext.refl _ | assumption | refine Ext.alloc ?_ _ | refine Ext.drew ?_ | refine Ext.drewN ?_ _ | refine Ext.setCell ?_ (by first | exact Nat.le_refl _ | (simp; done) | omega) _ | refine Ext.trans ?_ (by assumption))))
 have EW : Ext w w9 := (by repeat (first | exact Ext.refl _ | assumption | refine Ext.alloc ?_ _ | refine Ext.drew ?_ | refine Ext.drewN ?_ _ | refine Ext.setCell ?_ (by first | exact Nat.le_refl _ | (simp; done) | omega) _ | refine Ext.trans ?_ (by assumption)))
 clear R1
 go_wp2
 obtain ⟨e0, e1⟩ := res_cells (c := 3) r0 r1 (.slice none 0 0)
 exact bodyPost_ret (v := .tuple #[.slice none 0 0, .agg #[.int .i64 3, .slice none 0 0]]) (by simp [results, Tryz.results104, go_sem, e0, e1]) rfl ⟨_, _, _, _, _, rfl, (EW.setCell (by simp) _).setCell (by simp) _, Ints.nil _, RErrIs.code (by decide)⟩
set_option maxHeartbeats 1000000 in
set_option maxRecDepth 20000 in
theorem rpred_s8 (mo c : Int) (ts ls : List Int) (a b : Option Addr) (n m ca cb : Nat) (w : World) (ha : Ints w (.slice a 8 ca) ts) (hb : Ints w (.slice b 8 cb) ls) (h1 : ¬ mo < 0) (h2 : ¬ 3 < mo) (HW : Hid (within 0 255 ts)) (HU : Hid (¬ within 0 255 ls)) :
 Calls Tryz.prog 104 #[.int .i64 mo, .slice a 8 ca, .slice b 8 cb, .int .i64 c] w (RZPost w [] (some ([], 3))) := by
 have R1 := ResAt.new w
 go_enter Tryz.func104, Tryz.ntmps104
 go_wp2_with fail
 refine (within_any ts 0 255 _ _ (ha.ext (by repeat (first | exact Ext.refl _ | assumption | refine Ext.alloc ?_ _ | refine Ext.drew ?_ | refine Ext.drewN ?_ _ | refine Ext.setCell ?_ (by first | exact Nat.le_refl _ | (simp; done) | omega) _ | refine Ext.trans ?_ (by assumption))))).mono ?_; rintro e w1 ⟨rfl, hx1⟩
 rw [decide_eq_true HW.out]
 go_wp2_with fail
 refine (within_any ls 0 255 _ _ (hb.ext (by repeat (first | exact Ext.refl _ | assumption | refine Ext.alloc ?_ _ | refine Ext.drew ?_ | refine Ext.drewN ?_ _ | refine Ext.setCell ?_ (by first | exact Nat.le_refl _ | (simp; done) | omega) _ | refine Ext.trans ?_ (by assumption))))).mono ?_; rintro e w2 ⟨rfl, hx2⟩
 rw [decide_eq_false HU.out]
 go_wp2_with fail
 refine (fail_any 3 _).mono ?_; rintro e w9 ⟨rfl, hx9⟩
 obtain ⟨r0, r1, f0, f1⟩ := R1.ext (show Ext (w.alloc _) w9 from (by repeat (first | exact Ext.refl _ | assumption | refine Ext.alloc ?_ _ | refine Ext.drew ?_ | refine Ext.drewN ?_ _ | refine Ext.setCell ?_ (by first | exact Nat.le_refl _ | (simp; done) | omega) _ | refine Ext.trans ?_ (by assumption))))
 have EW : Ext w w9 := (by repeat (first | exact Ext.refl _ | assumption | refine Ext.alloc ?_ _ | refine Ext.drew ?_ | refine Ext.drewN ?_ _ | refine Ext.setCell ?_ (by first | exact Nat.le_refl _ | (simp; done) | omega) _ | refine Ext.trans ?_ (by assumption)))
 clear R1
 go_wp2
 obtain ⟨e0, e1⟩ := res_cells (c := 3) r0 r1 (.slice none 0 0)
 exact bodyPost_ret (v := .tuple #[.slice none 0 0, .agg #[.int .i64 3, .slice none 0 0]]) (by simp [results, Tryz.results104, go_sem, e0, e1]) rfl ⟨_, _, _, _, _, rfl, (EW.setCell (by simp) _).setCell (by simp) _, Ints.nil _, RErrIs.code (by decide)⟩
set_option maxHeartbeats 1000000 in
set_option maxRecDepth 20000 in
theorem rpred_cl4 (mo c : Int) (ts ls : List Int) (a b : Option Addr) (n m ca cb : Nat) (w : World) (ha : Ints w (.slice a 4 ca) ts) (hb : Ints w (.slice b 4 cb) ls) (h1 : ¬ mo < 0) (h2 : ¬ 3 < mo) (HW : Hid (within 0 255 ts)) (HU : Hid (within 0 255 ls)) (h3 : c < 0) :
 Calls Tryz.prog 104 #[.int .i64 mo, .slice a 4 ca, .slice b 4 cb, .int .i64 c] w (RZPost w [] (some ([], 3))) := by
 have R1 := ResAt.new w
 go_enter Tryz.func104, Tryz.ntmps104
 go_wp2_with fail
 refine (within_any ts 0 255 _ _ (ha.ext (by repeat (first | exact Ext.refl _ | assumption | refine Ext.alloc ?_ _ | refine Ext.drew ?_ | refine Ext.drewN ?_ _ | refine Ext.setCell ?_ (by first | exact Nat.le_refl _ | (simp; done) | omega) _ | refine Ext.trans ?_ (by assumption))))).mono ?_; rintro e w1 ⟨rfl, hx1⟩
 rw [decide_eq_true HW.out]
 go_wp2_with fail
 refine (within_any ls 0 255 _ _ (hb.ext (by repeat (first | exact Ext.refl _ | assumption | refine Ext.alloc ?_ _ | refine Ext.drew ?_ | refine Ext.drewN ?_ _ | refine Ext.setCell ?_ (by first | exact Nat.le_refl _ | (simp; done) | omega) _ | refine Ext.trans ?_ (by assumption))))).mono ?_; rintro e w2 ⟨rfl, hx2⟩
 rw [decide_eq_true HU.out]
 go_wp2_with fail
 refine (fail_any 3 _).mono ?_; rintro e w9 ⟨rfl, hx9⟩
 obtain ⟨r0, r1, f0, f1⟩ := R1.ext (show Ext (w.alloc _) w9 from (by repeat (first | exact Ext.refl _ | assumption | refine Ext.alloc ?_ _ | refine Ext.drew ?_ | refine Ext.drewN ?_ _ | refine Ext.setCell ?_ (by first | exact Nat.le_refl _ | (simp; done) | omega) _ | refine Ext.trans ?_ (by assumption))))
 have EW : Ext w w9 := (by repeat (first | exact Ext.refl _ | assumption | refine Ext.alloc ?_ _ | refine Ext.drew ?_ | refine Ext.drewN ?_ _ | refine Ext.setCell ?_ (by first | exact Nat.le_refl _ | (simp; done) | omega) _ | refine Ext.trans ?_ (by assumption)))
 clear R1
 go_wp2
 obtain ⟨e0, e1⟩ := res_cells (c := 3) r0 r1 (.slice none 0 0)
 exact bodyPost_ret (v := .tuple #[.slice none 0 0, .agg #[.int .i64 3, .slice none 0 0]]) (by simp [results, Tryz.results104, go_sem, e0, e1]) rfl ⟨_, _, _, _, _, rfl, (EW.setCell (by simp) _).setCell (by simp) _, Ints.nil _, RErrIs.code (by decide)⟩
set_option maxHeartbeats 1000000 in
set_option maxRecDepth 20000 in
theorem rpred_cl8 (mo c : Int) (ts ls : List Int) (a b : Option Addr) (n m ca cb : Nat) (w : World) (ha : Ints w (.slice a 8 ca) ts) (hb : Ints w (.slice b 8 cb) ls) (h1 : ¬ mo < 0) (h2 : ¬ 3 < mo) (HW : Hid (within 0 255 ts)) (HU : Hid (within 0 255 ls)) (h3 : c < 0) :
 Calls Tryz.prog 104 #[.int .i64 mo, .slice a 8 ca, .slice b 8 cb, .int .i64 c] w (RZPost w [] (some ([], 3))) := by
 have R1 := ResAt.new w
 go_enter Tryz.func104, Tryz.ntmps104
 go_wp2_with fail
 refine (within_any ts 0 255 _ _ (ha.ext (by repeat (first | exact Ext.refl _ | assumption | refine Ext.alloc ?_ _ | refine Ext.drew ?_ | refine Ext.drewN ?_ _ | refine Ext.setCell ?_ (by first | exact Nat.le_refl _ | (simp; done) | omega) _ | refine Ext.trans ?_ (by assumption))))).mono ?_; rintro e w1 ⟨rfl, hx1⟩
 rw [decide_eq_true HW.out]
 go_wp2_with fail
 refine (within_any ls 0 255 _ _ (hb.ext (by repeat (first | exact Ext.refl _ | assumption | refine Ext.alloc ?_ _ | refine Ext.drew ?_ | refine Ext.drewN ?_ _ | refine Ext.setCell ?_ (by first | exact Nat.le_refl _ | (simp; done) | omega) _ | refine Ext.trans ?_ (by assumption))))).mono ?_; rintro e w2 ⟨rfl, hx2⟩
 rw [decide_eq_true HU.out]
 go_wp2_with fail
 refine (fail_any 3 _).mono ?_; rintro e w9 ⟨rfl, hx9⟩
 obtain ⟨r0, r1, f0, f1⟩ := R1.ext (show Ext (w.alloc _) w9 from (by repeat (first | exact Ext.refl _ | assumption | refine Ext.alloc ?_ _ | refine Ext.drew ?_ | refine Ext.drewN ?_ _ | refine Ext.setCell ?_ (by first | exact Nat.le_refl _ | (simp; done) | omega) _ | refine Ext.trans ?_ (by assumption))))
 have EW : Ext w w9 := (by repeat (first | exact Ext.refl _ | assumption | refine Ext.alloc ?_ _ | refine Ext.drew ?_ | refine Ext.drewN ?_ _ | refine Ext.setCell ?_ (by first | exact Nat.le_refl _ | (simp; done) | omega) _ | refine Ext.trans ?_ (by assumption)))
 clear R1
 go_wp2
 obtain ⟨e0, e1⟩ := res_cells (c := 3) r0 r1 (.slice none 0 0)
 exact bodyPost_ret (v := .tuple #[.slice none 0 0, .agg #[.int .i64 3, .slice none 0 0]]) (by simp [results, Tryz.results104, go_sem, e0, e1]) rfl ⟨_, _, _, _, _, rfl, (EW.setCell (by simp) _).setCell (by simp) _, Ints.nil _, RErrIs.code (by decide)⟩
set_option maxHeartbeats 1000000 in
set_option maxRecDepth 20000 in
theorem rpred_ch4 (mo c : Int) (ts ls : List Int) (a b : Option Addr) (n m ca cb : Nat) (w : World) (ha : Ints w (.slice a 4 ca) ts) (hb : Ints w (.slice b 4 cb) ls) (h1 : ¬ mo < 0) (h2 : ¬ 3 < mo) (HW : Hid (within 0 255 ts)) (HU : Hid (within 0 255 ls)) (h3 : ¬ c < 0) (h4 : 255 < c) :
 Calls Tryz.prog 104 #[.int .i64 mo, .slice a 4 ca, .slice b 4 cb, .int .i64 c] w (RZPost w [] (some ([], 3))) := by
 have R1 := ResAt.new w
 go_enter Tryz.func104, Tryz.ntmps104
 go_wp2_with fail
 refine (within_any ts 0 255 _ _ (ha.ext (by repeat (first | exact Ext.refl _ | assumption | refine Ext.alloc ?_ _ | refine Ext.drew ?_ | refine Ext.drewN ?_ _ | refine Ext.setCell ?_ (by first | exact Nat.le_refl _ | (simp; done) | omega) _ | refine Ext.trans ?_ (by assumption))))).mono ?_; rintro e w1 ⟨rfl, hx1⟩
 rw [decide_eq_true HW.out]
 go_wp2_with fail
 refine (within_any ls 0 255 _ _ (hb.ext (by repeat (first | exact Ext.refl _ | assumption | refine Ext.alloc ?_ _ | refine Ext.drew ?_ | refine Ext.drewN ?_ _ | refine Ext.setCell ?_ (by first | exact Nat.le_refl _ | (simp; done) | omega) _ | refine Ext.trans ?_ (by assumption))))).mono ?_; rintro e w2 ⟨rfl, hx2⟩
 rw [decide_eq_true HU.out]
 go_wp2_with fail
 refine (fail_any 3 _).mono ?_; rintro e w9 ⟨rfl, hx9⟩
 obtain ⟨r0, r1, f0, f1⟩ := R1.ext (show Ext (w.alloc _) w9 from (by repeat (first | exact Ext.refl _ | assumption | refine Ext.alloc ?_ _ | refine Ext.drew ?_ | refine Ext.drewN ?_ _ | refine Ext.setCell ?_ (by first | exact Nat.le_refl _ | (simp; done) | omega) _ | refine Ext.trans ?_ (by assumption))))
 have EW : Ext w w9 := (by repeat (first | exact Ext.refl _ | assumption | refine Ext.alloc ?_ _ | refine Ext.drew ?_ | refine Ext.drewN ?_ _ | refine Ext.setCell ?_ (by first | exact Nat.le_refl _ | (simp; done) | omega) _ | refine Ext.trans ?_ (by assumption)))
 clear R1
 go_wp2
 obtain ⟨e0, e1⟩ := res_cells (c := 3) r0 r1 (.slice none 0 0)
 exact bodyPost_ret (v := .tuple #[.slice none 0 0, .agg #[.int .i64 3, .slice none 0 0]]) (by simp [results, Tryz.results104, go_sem, e0, e1]) rfl ⟨_, _, _, _, _, rfl, (EW.setCell (by simp) _).setCell (by simp) _, Ints.nil _, RErrIs.code (by decide)⟩
set_option maxHeartbeats 1000000 in
set_option maxRecDepth 20000 in
theorem rpred_ch8 (mo c : Int) (ts ls : List Int) (a b : Option Addr) (n m ca cb : Nat) (w : World) (ha : Ints w (.slice a 8 ca) ts) (hb : Ints w (.slice b 8 cb) ls) (h1 : ¬ mo < 0) (h2 : ¬ 3 < mo) (HW : Hid (within 0 255 ts)) (HU : Hid (within 0 255 ls)) (h3 : ¬ c < 0) (h4 : 255 < c) :
 Calls Tryz.prog 104 #[.int .i64 mo, .slice a 8 ca, .slice b 8 cb, .int .i64 c] w (RZPost w [] (some ([], 3))) := by
 have R1 := ResAt.new w
 go_enter Tryz.func104, Tryz.ntmps104
 go_wp2_with fail
 refine (within_any ts 0 255 _ _ (ha.ext (by repeat (first | exact Ext.refl _ | assumption | refine Ext.alloc ?_ _ | refine Ext.drew ?_ | refine Ext.drewN ?_ _ | refine Ext.setCell ?_ (by first | exact Nat.le_refl _ | (simp; done) | omega) _ | refine Ext.trans ?_ (by assumption))))).mono ?_; rintro e w1 ⟨rfl, hx1⟩
 rw [decide_eq_true HW.out]
 go_wp2_with fail
 refine (within_any ls 0 255 _ _ (hb.ext (by repeat (first | exact Ext.refl _ | assumption | refine Ext.alloc ?_ _ | refine Ext.drew ?_ | refine Ext.drewN ?_ _ | refine Ext.setCell ?_ (by first | exact Nat.le_refl _ | (simp; done) | omega) _ | refine Ext.trans ?_ (by assumption))))).mono ?_; rintro e w2 ⟨rfl, hx2⟩
 rw [decide_eq_true HU.out]
 go_wp2_with fail
 refine (fail_any 3 _).mono ?_; rintro e w9 ⟨rfl, hx9⟩
 obtain ⟨r0, r1, f0, f1⟩ := R1.ext (show Ext (w.alloc _) w9 from (by repeat (first | exact Ext.refl _ | assumption | refine Ext.alloc ?_ _ | refine Ext.drew ?_ | refine Ext.drewN ?_ _ | refine Ext.setCell ?_ (by first | exact Nat.le_refl _ | (simp; done) | omega) _ | refine Ext.trans ?_ (by assumption))))
 have EW : Ext w w9 := (by repeat (first | exact Ext.refl _ | assumption | refine Ext.alloc ?_ _ | refine Ext.drew ?_ | refine Ext.drewN ?_ _ | refine Ext.setCell ?_ (by first | exact Nat.le_refl _ | (simp; done) | omega) _ | refine Ext.trans ?_ (by assumption)))
 clear R1
 go_wp2
 obtain ⟨e0, e1⟩ := res_cells (c := 3) r0 r1 (.slice none 0 0)
 exact bodyPost_ret (v := .tuple #[.slice none 0 0, .agg #[.int .i64 3, .slice none 0 0]]) (by simp [results, Tryz.results104, go_sem, e0, e1]) rfl ⟨_, _, _, _, _, rfl, (EW.setCell (by simp) _).setCell (by simp) _, Ints.nil _, RErrIs.code (by decide)⟩
set_option maxHeartbeats 8000000 in
set_option maxRecDepth 20000 in
theorem rpred_0_4 (ts ls : List Int) (c : Int) (v u : Value) (w : World) (ha : Ints w v ts) (hb : Ints w u ls) (hn : ts.length = 4) (hl : ls.length = 4) (hT : ∀ j, 0 ≤ ts.getD j 0 ∧ ts.getD j 0 ≤ 255) (hL : ∀ j, 0 ≤ ls.getD j 0 ∧ ls.getD j 0 ≤ 255) (HW : Hid (within 0 255 ts)) (HU : Hid (within 0 255 ls)) (hc : 0 ≤ c ∧ c ≤ 255) :
 Calls Tryz.prog 104 #[.int .i64 0, v, u, .int .i64 c] w (RZPost w (prdL 0 ts ls c) none) := by
 have R1 := ResAt.new w
 obtain ⟨g, off, cap, rfl, -, -⟩ := ha.addr (by omega)
 obtain ⟨g', off', cap', rfl, -, -⟩ := hb.addr (by omega)
 have HM : Hid (meanOf ts ls = (4 + nbF (fun i => ts.getD i 0) (fun i => ls.getD i 0) 4) / (2 * 4)) := by show _ = _; unfold meanOf; rw [hn]; rfl
 have HP : Hid (prdL 0 ts ls c = rowL 16 (prdF 0 ts ls c)) := by show _ = _; unfold prdL; rw [hn]
 rw [hn] at ha ⊢
 rw [hl] at hb ⊢
 have HN := Lib.hid hn
 have HLL := Lib.hid hl
 have HT := Lib.hid hT
 have HL := Lib.hid hL
 have c1 : ¬ c < 0 := by omega
 have c2 : ¬ 255 < c := by omega
 clear hn hl hT hL
 go_enter Tryz.func104, Tryz.ntmps104
 go_wp2_with fail
 refine (within_any ts 0 255 _ _ (ha.ext (by repeat (first | exact Ext.refl _ | assumption | refine Ext.alloc ?_ _ | refine Ext.drew ?_ | refine Ext.drewN ?_ _ | refine Ext.setCell ?_ (by first | exact Nat.le_refl _ | (simp; done) | omega) _ | refine Ext.trans ?_ (by assumption))))).mono ?_; rintro e w1 ⟨rfl, hx1⟩
 rw [decide_eq_true HW.out]
 go_wp2_with fail
 refine (within_any ls 0 255 _ _ (hb.ext (by repeat (first | exact Ext.refl _ | assumption | refine Ext.alloc ?_ _ | refine Ext.drew ?_ | refine Ext.drewN ?_ _ | refine Ext.setCell ?_ (by first | exact Nat.le_refl _ | (simp; done) | omega) _ | refine Ext.trans ?_ (by assumption))))).mono ?_; rintro e w2 ⟨rfl, hx2⟩
 rw [decide_eq_true HU.out]
 have RW := Lib.hid (R1.ext (show Ext (w.alloc _) w2 from (by repeat (first | exact Ext.refl _ | assumption | refine Ext.alloc ?_ _ | refine Ext.drew ?_ | refine Ext.drewN ?_ _ | refine Ext.setCell ?_ (by first | exact Nat.le_refl _ | (simp; done) | omega) _ | refine Ext.trans ?_ (by assumption)))))
 have E2 : Ext w w2 := (by repeat (first | exact Ext.refl _ | assumption | refine Ext.alloc ?_ _ | refine Ext.drew ?_ | refine Ext.drewN ?_ _ | refine Ext.setCell ?_ (by first | exact Nat.le_refl _ | (simp; done) | omega) _ | refine Ext.trans ?_ (by assumption)))
 clear R1 hx1 hx2 c1 c2
 go_wp2
 go_loopw [11, 12] (fun sv iv wr => ∃ k : Nat, k ≤ 4 ∧ iv = .int .i64 k ∧ sv = .int .i64 (4 + nbF (fun i => ts.getD i 0) (fun i => ls.getD i 0) k) ∧ Ext w2 wr) (fun _ iv _ => 4 - (intOf iv).toNat)
 case atStart => exact ⟨0, Nat.zero_le _, rfl, rfl, Ext.refl _⟩
 case round =>
  obtain ⟨k, hk, rfl, rfl, hE⟩ := hrel
  by_cases hlt : k < 4
  · obtain ⟨x, hx'⟩ : ∃ x, ts.getD k 0 = x := ⟨_, rfl⟩
    obtain ⟨y, hy'⟩ : ∃ y, ls.getD k 0 = y := ⟨_, rfl⟩
    have cx := hE.cell (E2.cell (ha.at (get_of_lt (by rw [HN.out]; exact hlt))))
    have cy := hE.cell (E2.cell (hb.at (get_of_lt (by rw [HLL.out]; exact hlt))))
    have bx := HT.out k
    have by' := HL.out k
    have b0 := nbF_bound HT.out HL.out k
    have HS : Hid (nbF (fun i => ts.getD i 0) (fun i => ls.getD i 0) (k + 1) = nbF (fun i => ts.getD i 0) (fun i => ls.getD i 0) k + (x + y)) := by show _ = _; rw [← hx', ← hy']; rfl
    rw [hx'] at cx bx
    rw [hy'] at cy by'
    clear hx' hy'
    revert b0 HS
    generalize nbF (fun i => ts.getD i 0) (fun i => ls.getD i 0) k = s
    intro b0 HS
    have e1 : IntKind.i64.wrap (4 + s + x) = 4 + s + x := by rw [IntKind.wrap_i64]; omega
    have e2 : IntKind.i64.wrap (4 + s + x + y) = 4 + s + x + y := by rw [IntKind.wrap_i64]; omega
    go_wp2
    go_quiet (fail)
    go_wp2
    go_roundw
    case rel => exact ⟨k + 1, by omega, by go_num, by rw [HS.out]; congr 1; omega, hE.drewN _⟩
    case measure => simp [intOf]; omega
  · obtain rfl : k = 4 := by omega
    have b0 := nbF_bound HT.out HL.out 4
    revert b0 HM
    generalize nbF (fun i => ts.getD i 0) (fun i => ls.getD i 0) 4 = s
    intro HM b0
    obtain ⟨mean, hmean⟩ : ∃ mean, (4 + s) / (2 * 4) = mean := ⟨_, rfl⟩
    have hmd : (4 + s) / 8 = mean := hmean
    have HMN : Hid (meanOf ts ls = mean) := by show _ = _; rw [HM.out, hmean]
    have hE0 := hE
    clear hmean HM hE
    go_wp2
    go_loopw [13, 14] (fun ov kv wr => ∃ k : Nat, k ≤ 16 ∧ kv = .int .i64 k ∧ Hid (wr.ownsRow w2.heap.size 3 1 ov k ((rowL k (prdF 0 ts ls c)).map (Value.int .i64))) ∧ Ext w2 wr) (fun _ kv _ => 16 - (intOf kv).toNat)
    case atStart => exact ⟨0, Nat.zero_le _, rfl, World.ownsRow_nil _ _ _ _, hE0⟩
    case round =>
     clear hE0
     obtain ⟨k, hk, rfl, HO, hE⟩ := hrel
     by_cases hlt : k < 16
     · obtain ⟨p, hp⟩ : ∃ p, k % 4 = p := ⟨_, rfl⟩
       obtain ⟨q, hq⟩ : ∃ q, k / 4 = q := ⟨_, rfl⟩
       have p1 : p < 4 := by omega
       have q1 : q < 4 := by omega
       obtain ⟨x, hx'⟩ : ∃ x, ts.getD p 0 = x := ⟨_, rfl⟩
       obtain ⟨y, hy'⟩ : ∃ y, ls.getD q 0 = y := ⟨_, rfl⟩
       have cx := hE.cell (E2.cell (ha.at (get_of_lt (by rw [HN.out]; exact p1))))
       have cy := hE.cell (E2.cell (hb.at (get_of_lt (by rw [HLL.out]; exact q1))))
       have bx := HT.out p
       have by' := HL.out q
       rw [hx'] at cx bx
       rw [hy'] at cy by'
       obtain ⟨z, hz⟩ : ∃ z, clipI (y + x - c) = z := ⟨_, rfl⟩
       have HC : Hid (∀ W, Calls Tryz.prog 100 #[.int .i64 (y + x - c)] W fun e w' => e = .returned (.int .i64 z) ∧ W = w') := fun W => by rw [← hz]; exact rclip_any _ W
       have HS : Hid ((rowL (k + 1) (prdF 0 ts ls c)).map (Value.int .i64) = (rowL k (prdF 0 ts ls c)).map (Value.int .i64) ++ [.int .i64 mean]) := by
        show _ = _
        rw [rowL_succi, List.map_append]
        have e3 : prdF 0 ts ls c k = mean := by
         unfold prdF
         rw [HN.out, hp, hq, hx', hy', hz, HMN.out]
         rfl
        rw [e3]
        rfl
       have k1 : (k : Int) % 4 = (p : Int) := by omega
       have k2 : (k : Int) / 4 = (q : Int) := by omega
       have k3 : Int.tmod (k : Int) 4 = (p : Int) := by rw [Int.tmod_eq_emod_of_nonneg (by omega)]; exact k1
       have k4 : Int.tdiv (k : Int) 4 = (q : Int) := by rw [Int.tdiv_eq_ediv_of_nonneg (by omega)]; exact k2
       have d1 : IntKind.i64.wrap (p : Int) = (p : Int) := by rw [IntKind.wrap_i64]; omega
       have d2 : IntKind.i64.wrap (q : Int) = (q : Int) := by rw [IntKind.wrap_i64]; omega
       have d3 : (0 : Int) ≤ (p : Int) ∧ (p : Int) < 4 := by omega
       have d4 : (0 : Int) ≤ (q : Int) ∧ (q : Int) < 4 := by omega
       clear hx' hy' hz hp hq
       go_wp2
       go_quiet (fail)
       have HOq := (show ∀ n, Hid ((wr.drewN n).ownsRow _ _ _ _ _ _) from fun n => HO) nq
       have hEq := hE.drewN nq
       clear HO hE cx cy
       revert HOq hEq
       generalize wr.drewN nq = wq
       intro HO hE
       have hB := hE.size
       go_wp2_with (at_builtin; refine push_int rfl _ _ 22 rfl Tryz.underlying22 _ _ _ _ rfl HO.out (by show Value.slice (some ⟨wq.heap.size, 0, none⟩) 1 1 = _; simp) hB (by omega) ?_; intro v' w7 h1 h2)
       have HO7 := Lib.hid h1
       have hE7 := hE.of_below h2 (Nat.le_refl _)
       clear h1 h2 HO hE
       go_wp2
       go_roundw
       case rel =>
        have ho8 := HO7.out
        rw [← HS.out] at ho8
        have HO8 := Lib.hid ho8
        repeat apply Exists.intro
        exact ⟨⟨k + 1, by omega, by go_num, HO8, hE7⟩, rfl⟩
       case measure => simp [intOf]; omega
     · obtain rfl : k = 16 := by omega
       have hsz : w.heap.size < w2.heap.size := Ext.lt RW.out.1
       obtain ⟨b0, b1, b2, b3⟩ := RW.out.ext hE
       have ho2 := ownsRow_setCell_below (ownsRow_setCell_below HO.out (a := ⟨w.heap.size, 0, none⟩) hsz (.int .i64 0)) (a := ⟨w.heap.size, 1, none⟩) hsz (.slice none 0 0)
       go_wp2
       obtain ⟨e0, e1⟩ := res_cells (c := 0) b0 b1 (.slice none 0 0)
       exact bodyPost_ret (v := .tuple #[_, .agg #[.int .i64 0, .slice none 0 0]]) (by simp [results, Tryz.results104, go_sem, e0, e1]; rfl) rfl ⟨_, _, _, _, _, rfl, (by repeat (first | exact Ext.refl _ | assumption | refine Ext.alloc ?_ _ | refine Ext.drew ?_ | refine Ext.drewN ?_ _ | refine Ext.setCell ?_ (by first | exact Nat.le_refl _ | (simp; done) | omega) _ | refine Ext.trans ?_ (by assumption))), by rw [HP.out]; exact Ints.of_row ho2 (by omega), RErrIs.zero⟩
set_option maxHeartbeats 8000000 in
set_option maxRecDepth 20000 in
theorem rpred_1_4 (ts ls : List Int) (c : Int) (v u : Value) (w : World) (ha : Ints w v ts) (hb : Ints w u ls) (hn : ts.length = 4) (hl : ls.length = 4) (hT : ∀ j, 0 ≤ ts.getD j 0 ∧ ts.getD j 0 ≤ 255) (hL : ∀ j, 0 ≤ ls.getD j 0 ∧ ls.getD j 0 ≤ 255) (HW : Hid (within 0 255 ts)) (HU : Hid (within 0 255 ls)) (hc : 0 ≤ c ∧ c ≤ 255) :
 Calls Tryz.prog 104 #[.int .i64 1, v, u, .int .i64 c] w (RZPost w (prdL 1 ts ls c) none) := by
 have R1 := ResAt.new w
 obtain ⟨g, off, cap, rfl, -, -⟩ := ha.addr (by omega)
 obtain ⟨g', off', cap', rfl, -, -⟩ := hb.addr (by omega)
 have HM : Hid (meanOf ts ls = (4 + nbF (fun i => ts.getD i 0) (fun i => ls.getD i 0) 4) / (2 * 4)) := by show _ = _; unfold meanOf; rw [hn]; rfl
 have HP : Hid (prdL 1 ts ls c = rowL 16 (prdF 1 ts ls c)) := by show _ = _; unfold prdL; rw [hn]
 rw [hn] at ha ⊢
 rw [hl] at hb ⊢
 have HN := Lib.hid hn
 have HLL := Lib.hid hl
 have HT := Lib.hid hT
 have HL := Lib.hid hL
 have c1 : ¬ c < 0 := by omega
 have c2 : ¬ 255 < c := by omega
 clear hn hl hT hL
 go_enter Tryz.func104, Tryz.ntmps104
 go_wp2_with fail
 refine (within_any ts 0 255 _ _ (ha.ext (by repeat (first | exact Ext.refl _ | assumption | refine Ext.alloc ?_ _ | refine Ext.drew ?_ | refine Ext.drewN ?_ _ | refine Ext.setCell ?_ (by first | exact Nat.le_refl _ | (simp; done) | omega) _ | refine Ext.trans ?_ (by assumption))))).mono ?_; rintro e w1 ⟨rfl, hx1⟩
 rw [decide_eq_true HW.out]
 go_wp2_with fail
 refine (within_any ls 0 255 _ _ (hb.ext (by repeat (first | exact Ext.refl _ | assumption | refine Ext.alloc ?_ _ | refine Ext.drew ?_ | refine Ext.drewN ?_ _ | refine Ext.setCell ?_ (by first | exact Nat.le_refl _ | (simp; done) | omega) _ | refine Ext.trans ?_ (by assumption))))).mono ?_; rintro e w2 ⟨rfl, hx2⟩
 rw [decide_eq_true HU.out]
 have RW := Lib.hid (R1.ext (show Ext (w.alloc _) w2 from (by repeat (first | exact Ext.refl _ | assumption | refine Ext.alloc ?_ _ | refine Ext.drew ?_ | refine Ext.drewN ?_ _ | refine Ext.setCell ?_ (by first | exact Nat.le_refl _ | (simp; done) | omega) _ | refine Ext.trans ?_ (by assumption)))))
 have E2 : Ext w w2 := (by repeat (first | exact Ext.refl _ | assumption | refine Ext.alloc ?_ _ | refine Ext.drew ?_ | refine Ext.drewN ?_ _ | refine Ext.setCell ?_ (by first | exact Nat.le_refl _ | (simp; done) | omega) _ | refine Ext.trans ?_ (by assumption)))
 clear R1 hx1 hx2 c1 c2
 go_wp2
 go_loopw [11, 12] (fun sv iv wr => ∃ k : Nat, k ≤ 4 ∧ iv = .int .i64 k ∧ sv = .int .i64 (4 + nbF (fun i => ts.getD i 0) (fun i => ls.getD i 0) k) ∧ Ext w2 wr) (fun _ iv _ => 4 - (intOf iv).toNat)
 case atStart => exact ⟨0, Nat.zero_le _, rfl, rfl, Ext.refl _⟩
 case round =>
  obtain ⟨k, hk, rfl, rfl, hE⟩ := hrel
  by_cases hlt : k < 4
  · obtain ⟨x, hx'⟩ : ∃ x, ts.getD k 0 = x := ⟨_, rfl⟩
    obtain ⟨y, hy'⟩ : ∃ y, ls.getD k 0 = y := ⟨_, rfl⟩
    have cx := hE.cell (E2.cell (ha.at (get_of_lt (by rw [HN.out]; exact hlt))))
    have cy := hE.cell (E2.cell (hb.at (get_of_lt (by rw [HLL.out]; exact hlt))))
    have bx := HT.out k
    have by' := HL.out k
    have b0 := nbF_bound HT.out HL.out k
    have HS : Hid (nbF (fun i => ts.getD i 0) (fun i => ls.getD i 0) (k + 1) = nbF (fun i => ts.getD i 0) (fun i => ls.getD i 0) k + (x + y)) := by show _ = _; rw [← hx', ← hy']; rfl
    rw [hx'] at cx bx
    rw [hy'] at cy by'
    clear hx' hy'
    revert b0 HS
    generalize nbF (fun i => ts.getD i 0) (fun i => ls.getD i 0) k = s
    intro b0 HS
    have e1 : IntKind.i64.wrap (4 + s + x) = 4 + s + x := by rw [IntKind.wrap_i64]; omega
    have e2 : IntKind.i64.wrap (4 + s + x + y) = 4 + s + x + y := by rw [IntKind.wrap_i64]; omega
    go_wp2
    go_quiet (fail)
    go_wp2
    go_roundw
    case rel => exact ⟨k + 1, by omega, by go_num, by rw [HS.out]; congr 1; omega, hE.drewN _⟩
    case measure => simp [intOf]; omega
  · obtain rfl : k = 4 := by omega
    have b0 := nbF_bound HT.out HL.out 4
    revert b0 HM
    generalize nbF (fun i => ts.getD i 0) (fun i => ls.getD i 0) 4 = s
    intro HM b0
    obtain ⟨mean, hmean⟩ : ∃ mean, (4 + s) / (2 * 4) = mean := ⟨_, rfl⟩
    have hmd : (4 + s) / 8 = mean := hmean
    have HMN : Hid (meanOf ts ls = mean) := by show _ = _; rw [HM.out, hmean]
    have hE0 := hE
    clear hmean HM hE
    go_wp2
    go_loopw [13, 14] (fun ov kv wr => ∃ k : Nat, k ≤ 16 ∧ kv = .int .i64 k ∧ Hid (wr.ownsRow w2.heap.size 3 1 ov k ((rowL k (prdF 1 ts ls c)).map (Value.int .i64))) ∧ Ext w2 wr) (fun _ kv _ => 16 - (intOf kv).toNat)
    case atStart => exact ⟨0, Nat.zero_le _, rfl, World.ownsRow_nil _ _ _ _, hE0⟩
    case round =>
     clear hE0
     obtain ⟨k, hk, rfl, HO, hE⟩ := hrel
     by_cases hlt : k < 16
     · obtain ⟨p, hp⟩ : ∃ p, k % 4 = p := ⟨_, rfl⟩
       obtain ⟨q, hq⟩ : ∃ q, k / 4 = q := ⟨_, rfl⟩
       have p1 : p < 4 := by omega
       have q1 : q < 4 := by omega
       obtain ⟨x, hx'⟩ : ∃ x, ts.getD p 0 = x := ⟨_, rfl⟩
       obtain ⟨y, hy'⟩ : ∃ y, ls.getD q 0 = y := ⟨_, rfl⟩
       have cx := hE.cell (E2.cell (ha.at (get_of_lt (by rw [HN.out]; exact p1))))
       have cy := hE.cell (E2.cell (hb.at (get_of_lt (by rw [HLL.out]; exact q1))))
       have bx := HT.out p
       have by' := HL.out q
       rw [hx'] at cx bx
       rw [hy'] at cy by'
       obtain ⟨z, hz⟩ : ∃ z, clipI (y + x - c) = z := ⟨_, rfl⟩
       have HC : Hid (∀ W, Calls Tryz.prog 100 #[.int .i64 (y + x - c)] W fun e w' => e = .returned (.int .i64 z) ∧ W = w') := fun W => by rw [← hz]; exact rclip_any _ W
       have HS : Hid ((rowL (k + 1) (prdF 1 ts ls c)).map (Value.int .i64) = (rowL k (prdF 1 ts ls c)).map (Value.int .i64) ++ [.int .i64 x]) := by
        show _ = _
        rw [rowL_succi, List.map_append]
        have e3 : prdF 1 ts ls c k = x := by
         unfold prdF
         rw [HN.out, hp, hq, hx', hy', hz, HMN.out]
         rfl
        rw [e3]
        rfl
       have k1 : (k : Int) % 4 = (p : Int) := by omega
       have k2 : (k : Int) / 4 = (q : Int) := by omega
       have k3 : Int.tmod (k : Int) 4 = (p : Int) := by rw [Int.tmod_eq_emod_of_nonneg (by omega)]; exact k1
       have k4 : Int.tdiv (k : Int) 4 = (q : Int) := by rw [Int.tdiv_eq_ediv_of_nonneg (by omega)]; exact k2
       have d1 : IntKind.i64.wrap (p : Int) = (p : Int) := by rw [IntKind.wrap_i64]; omega
       have d2 : IntKind.i64.wrap (q : Int) = (q : Int) := by rw [IntKind.wrap_i64]; omega
       have d3 : (0 : Int) ≤ (p : Int) ∧ (p : Int) < 4 := by omega
       have d4 : (0 : Int) ≤ (q : Int) ∧ (q : Int) < 4 := by omega
       clear hx' hy' hz hp hq
       go_wp2
       go_quiet (fail)
       have HOq := (show ∀ n, Hid ((wr.drewN n).ownsRow _ _ _ _ _ _) from fun n => HO) nq
       have hEq := hE.drewN nq
       clear HO hE cx cy
       revert HOq hEq
       generalize wr.drewN nq = wq
       intro HO hE
       have hB := hE.size
       go_wp2_with (at_builtin; refine push_int rfl _ _ 22 rfl Tryz.underlying22 _ _ _ _ rfl HO.out (by show Value.slice (some ⟨wq.heap.size, 0, none⟩) 1 1 = _; simp) hB (by omega) ?_; intro v' w7 h1 h2)
       have HO7 := Lib.hid h1
       have hE7 := hE.of_below h2 (Nat.le_refl _)
       clear h1 h2 HO hE
       go_wp2
       go_roundw
       case rel =>
        have ho8 := HO7.out
        rw [← HS.out] at ho8
        have HO8 := Lib.hid ho8
        repeat apply Exists.intro
        exact ⟨⟨k + 1, by omega, by go_num, HO8, hE7⟩, rfl⟩
       case measure => simp [intOf]; omega
     · obtain rfl : k = 16 := by omega
       have hsz : w.heap.size < w2.heap.size := Ext.lt RW.out.1
       obtain ⟨b0, b1, b2, b3⟩ := RW.out.ext hE
       have ho2 := ownsRow_setCell_below (ownsRow_setCell_below HO.out (a := ⟨w.heap.size, 0, none⟩) hsz (.int .i64 0)) (a := ⟨w.heap.size, 1, none⟩) hsz (.slice none 0 0)
       go_wp2
       obtain ⟨e0, e1⟩ := res_cells (c := 0) b0 b1 (.slice none 0 0)
       exact bodyPost_ret (v := .tuple #[_, .agg #[.int .i64 0, .slice none 0 0]]) (by simp [results, Tryz.results104, go_sem, e0, e1]; rfl) rfl ⟨_, _, _, _, _, rfl, (by repeat (first | exact Ext.refl _ | assumption | refine Ext.alloc ?_ _ | refine Ext.drew ?_ | refine Ext.drewN ?_ _ | refine Ext.setCell ?_ (by first | exact Nat.le_refl _ | (simp; done) | omega) _ | refine Ext.trans ?_ (by assumption))), by rw [HP.out]; exact Ints.of_row ho2 (by omega), RErrIs.zero⟩
set_option maxHeartbeats 8000000 in
set_option maxRecDepth 20000 in
theorem rpred_2_4 (ts ls : List Int) (c : Int) (v u : Value) (w : World) (ha : Ints w v ts) (hb : Ints w u ls) (hn : ts.length = 4) (hl : ls.length = 4) (hT : ∀ j, 0 ≤ ts.getD j 0 ∧ ts.getD j 0 ≤ 255) (hL : ∀ j, 0 ≤ ls.getD j 0 ∧ ls.getD j 0 ≤ 255) (HW : Hid (within 0 255 ts)) (HU : Hid (within 0 255 ls)) (hc : 0 ≤ c ∧ c ≤ 255) :
 Calls Tryz.prog 104 #[.int .i64 2, v, u, .int .i64 c] w (RZPost w (prdL 2 ts ls c) none) := by
 have R1 := ResAt.new w
 obtain ⟨g, off, cap, rfl, -, -⟩ := ha.addr (by omega)
 obtain ⟨g', off', cap', rfl, -, -⟩ := hb.addr (by omega)
 have HM : Hid (meanOf ts ls = (4 + nbF (fun i => ts.getD i 0) (fun i => ls.getD i 0) 4) / (2 * 4)) := by show _ = _; unfold meanOf; rw [hn]; rfl
 have HP : Hid (prdL 2 ts ls c = rowL 16 (prdF 2 ts ls c)) := by show _ = _; unfold prdL; rw [hn]
 rw [hn] at ha ⊢
 rw [hl] at hb ⊢
 have HN := Lib.hid hn
 have HLL := Lib.hid hl
 have HT := Lib.hid hT
 have HL := Lib.hid hL
 have c1 : ¬ c < 0 := by omega
 have c2 : ¬ 255 < c := by omega
 clear hn hl hT hL
 go_enter Tryz.func104, Tryz.ntmps104
 go_wp2_with fail
 refine (within_any ts 0 255 _ _ (ha.ext (by repeat (first | exact Ext.refl _ | assumption | refine Ext.alloc ?_ _ | refine Ext.drew ?_ | refine Ext.drewN ?_ _ | refine Ext.setCell ?_ (by first | exact Nat.le_refl _ | (simp; done) | omega) _ | refine Ext.trans ?_ (by assumption))))).mono ?_; rintro e w1 ⟨rfl, hx1⟩
 rw [decide_eq_true HW.out]
 go_wp2_with fail
 refine (within_any ls 0 255 _ _ (hb.ext (by repeat (first | exact Ext.refl _ | assumption | refine Ext.alloc ?_ _ | refine Ext.drew ?_ | refine Ext.drewN ?_ _ | refine Ext.setCell ?_ (by first | exact Nat.le_refl _ | (simp; done) | omega) _ | refine Ext.trans ?_ (by assumption))))).mono ?_; rintro e w2 ⟨rfl, hx2⟩
 rw [decide_eq_true HU.out]
 have RW := Lib.hid (R1.ext (show Ext (w.alloc _) w2 from (by repeat (first | exact Ext.refl _ | assumption | refine Ext.alloc ?_ _ | refine Ext.drew ?_ | refine Ext.drewN ?_ _ | refine Ext.setCell ?_ (by first | exact Nat.le_refl _ | (simp; done) | omega) _ | refine Ext.trans ?_ (by assumption)))))
 have E2 : Ext w w2 := (by repeat (first | exact Ext.refl _ | assumption | refine Ext.alloc ?_ _ | refine Ext.drew ?_ | refine Ext.drewN ?_ _ | refine Ext.setCell ?_ (by first | exact Nat.le_refl _ | (simp; done) | omega) _ | refine Ext.trans ?_ (by assumption)))
 clear R1 hx1 hx2 c1 c2
 go_wp2
 go_loopw [11, 12] (fun sv iv wr => ∃ k : Nat, k ≤ 4 ∧ iv = .int .i64 k ∧ sv = .int .i64 (4 + nbF (fun i => ts.getD i 0) (fun i => ls.getD i 0) k) ∧ Ext w2 wr) (fun _ iv _ => 4 - (intOf iv).toNat)
 case atStart => exact ⟨0, Nat.zero_le _, rfl, rfl, Ext.refl _⟩
 case round =>
  obtain ⟨k, hk, rfl, rfl, hE⟩ := hrel
  by_cases hlt : k < 4
  · obtain ⟨x, hx'⟩ : ∃ x, ts.getD k 0 = x := ⟨_, rfl⟩
    obtain ⟨y, hy'⟩ : ∃ y, ls.getD k 0 = y := ⟨_, rfl⟩
    have cx := hE.cell (E2.cell (ha.at (get_of_lt (by rw [HN.out]; exact hlt))))
    have cy := hE.cell (E2.cell (hb.at (get_of_lt (by rw [HLL.out]; exact hlt))))
    have bx := HT.out k
    have by' := HL.out k
    have b0 := nbF_bound HT.out HL.out k
    have HS : Hid (nbF (fun i => ts.getD i 0) (fun i => ls.getD i 0) (k + 1) = nbF (fun i => ts.getD i 0) (fun i => ls.getD i 0) k + (x + y)) := by show _ = _; rw [← hx', ← hy']; rfl
    rw [hx'] at cx bx
    rw [hy'] at cy by'
    clear hx' hy'
    revert b0 HS
    generalize nbF (fun i => ts.getD i 0) (fun i => ls.getD i 0) k = s
    intro b0 HS
    have e1 : IntKind.i64.wrap (4 + s + x) = 4 + s + x := by rw [IntKind.wrap_i64]; omega
    have e2 : IntKind.i64.wrap (4 + s + x + y) = 4 + s + x + y := by rw [IntKind.wrap_i64]; omega
    go_wp2
    go_quiet (fail)
    go_wp2
    go_roundw
    case rel => exact ⟨k + 1, by omega, by go_num, by rw [HS.out]; congr 1; omega, hE.drewN _⟩
    case measure => simp [intOf]; omega
  · obtain rfl : k = 4 := by omega
    have b0 := nbF_bound HT.out HL.out 4
    revert b0 HM
    generalize nbF (fun i => ts.getD i 0) (fun i => ls.getD i 0) 4 = s
    intro HM b0
    obtain ⟨mean, hmean⟩ : ∃ mean, (4 + s) / (2 * 4) = mean := ⟨_, rfl⟩
    have hmd : (4 + s) / 8 = mean := hmean
    have HMN : Hid (meanOf ts ls = mean) := by show _ = _; rw [HM.out, hmean]
    have hE0 := hE
    clear hmean HM hE
    go_wp2
    go_loopw [13, 14] (fun ov kv wr => ∃ k : Nat, k ≤ 16 ∧ kv = .int .i64 k ∧ Hid (wr.ownsRow w2.heap.size 3 1 ov k ((rowL k (prdF 2 ts ls c)).map (Value.int .i64))) ∧ Ext w2 wr) (fun _ kv _ => 16 - (intOf kv).toNat)
    case atStart => exact ⟨0, Nat.zero_le _, rfl, World.ownsRow_nil _ _ _ _, hE0⟩
    case round =>
     clear hE0
     obtain ⟨k, hk, rfl, HO, hE⟩ := hrel
     by_cases hlt : k < 16
     · obtain ⟨p, hp⟩ : ∃ p, k % 4 = p := ⟨_, rfl⟩
       obtain ⟨q, hq⟩ : ∃ q, k / 4 = q := ⟨_, rfl⟩
       have p1 : p < 4 := by omega
       have q1 : q < 4 := by omega
       obtain ⟨x, hx'⟩ : ∃ x, ts.getD p 0 = x := ⟨_, rfl⟩
       obtain ⟨y, hy'⟩ : ∃ y, ls.getD q 0 = y := ⟨_, rfl⟩
       have cx := hE.cell (E2.cell (ha.at (get_of_lt (by rw [HN.out]; exact p1))))
       have cy := hE.cell (E2.cell (hb.at (get_of_lt (by rw [HLL.out]; exact q1))))
       have bx := HT.out p
       have by' := HL.out q
       rw [hx'] at cx bx
       rw [hy'] at cy by'
       obtain ⟨z, hz⟩ : ∃ z, clipI (y + x - c) = z := ⟨_, rfl⟩
       have HC : Hid (∀ W, Calls Tryz.prog 100 #[.int .i64 (y + x - c)] W fun e w' => e = .returned (.int .i64 z) ∧ W = w') := fun W => by rw [← hz]; exact rclip_any _ W
       have HS : Hid ((rowL (k + 1) (prdF 2 ts ls c)).map (Value.int .i64) = (rowL k (prdF 2 ts ls c)).map (Value.int .i64) ++ [.int .i64 y]) := by
        show _ = _
        rw [rowL_succi, List.map_append]
        have e3 : prdF 2 ts ls c k = y := by
         unfold prdF
         rw [HN.out, hp, hq, hx', hy', hz, HMN.out]
         rfl
        rw [e3]
        rfl
       have k1 : (k : Int) % 4 = (p : Int) := by omega
       have k2 : (k : Int) / 4 = (q : Int) := by omega
       have k3 : Int.tmod (k : Int) 4 = (p : Int) := by rw [Int.tmod_eq_emod_of_nonneg (by omega)]; exact k1
       have k4 : Int.tdiv (k : Int) 4 = (q : Int) := by rw [Int.tdiv_eq_ediv_of_nonneg (by omega)]; exact k2
       have d1 : IntKind.i64.wrap (p : Int) = (p : Int) := by rw [IntKind.wrap_i64]; omega
       have d2 : IntKind.i64.wrap (q : Int) = (q : Int) := by rw [IntKind.wrap_i64]; omega
       have d3 : (0 : Int) ≤ (p : Int) ∧ (p : Int) < 4 := by omega
       have d4 : (0 : Int) ≤ (q : Int) ∧ (q : Int) < 4 := by omega
       clear hx' hy' hz hp hq
       go_wp2
       go_quiet (fail)
       have HOq := (show ∀ n, Hid ((wr.drewN n).ownsRow _ _ _ _ _ _) from fun n => HO) nq
       have hEq := hE.drewN nq
       clear HO hE cx cy
       revert HOq hEq
       generalize wr.drewN nq = wq
       intro HO hE
       have hB := hE.size
       go_wp2_with (at_builtin; refine push_int rfl _ _ 22 rfl Tryz.underlying22 _ _ _ _ rfl HO.out (by show Value.slice (some ⟨wq.heap.size, 0, none⟩) 1 1 = _; simp) hB (by omega) ?_; intro v' w7 h1 h2)
       have HO7 := Lib.hid h1
       have hE7 := hE.of_below h2 (Nat.le_refl _)
       clear h1 h2 HO hE
       go_wp2
       go_roundw
       case rel =>
        have ho8 := HO7.out
        rw [← HS.out] at ho8
        have HO8 := Lib.hid ho8
        repeat apply Exists.intro
        exact ⟨⟨k + 1, by omega, by go_num, HO8, hE7⟩, rfl⟩
       case measure => simp [intOf]; omega
     · obtain rfl : k = 16 := by omega
       have hsz : w.heap.size < w2.heap.size := Ext.lt RW.out.1
       obtain ⟨b0, b1, b2, b3⟩ := RW.out.ext hE
       have ho2 := ownsRow_setCell_below (ownsRow_setCell_below HO.out (a := ⟨w.heap.size, 0, none⟩) hsz (.int .i64 0)) (a := ⟨w.heap.size, 1, none⟩) hsz (.slice none 0 0)
       go_wp2
       obtain ⟨e0, e1⟩ := res_cells (c := 0) b0 b1 (.slice none 0 0)
       exact bodyPost_ret (v := .tuple #[_, .agg #[.int .i64 0, .slice none 0 0]]) (by simp [results, Tryz.results104, go_sem, e0, e1]; rfl) rfl ⟨_, _, _, _, _, rfl, (by repeat (first | exact Ext.refl _ | assumption | refine Ext.alloc ?_ _ | refine Ext.drew ?_ | refine Ext.drewN ?_ _ | refine Ext.setCell ?_ (by first | exact Nat.le_refl _ | (simp; done) | omega) _ | refine Ext.trans ?_ (by assumption))), by rw [HP.out]; exact Ints.of_row ho2 (by omega), RErrIs.zero⟩
set_option maxHeartbeats 8000000 in
set_option maxRecDepth 20000 in
theorem rpred_3_4 (ts ls : List Int) (c : Int) (v u : Value) (w : World) (ha : Ints w v ts) (hb : Ints w u ls) (hn : ts.length = 4) (hl : ls.length = 4) (hT : ∀ j, 0 ≤ ts.getD j 0 ∧ ts.getD j 0 ≤ 255) (hL : ∀ j, 0 ≤ ls.getD j 0 ∧ ls.getD j 0 ≤ 255) (HW : Hid (within 0 255 ts)) (HU : Hid (within 0 255 ls)) (hc : 0 ≤ c ∧ c ≤ 255) :
 Calls Tryz.prog 104 #[.int .i64 3, v, u, .int .i64 c] w (RZPost w (prdL 3 ts ls c) none) := by
 have R1 := ResAt.new w
 obtain ⟨g, off, cap, rfl, -, -⟩ := ha.addr (by omega)
 obtain ⟨g', off', cap', rfl, -, -⟩ := hb.addr (by omega)
 have HM : Hid (meanOf ts ls = (4 + nbF (fun i => ts.getD i 0) (fun i => ls.getD i 0) 4) / (2 * 4)) := by show _ = _; unfold meanOf; rw [hn]; rfl
 have HP : Hid (prdL 3 ts ls c = rowL 16 (prdF 3 ts ls c)) := by show _ = _; unfold prdL; rw [hn]
 rw [hn] at ha ⊢
 rw [hl] at hb ⊢
 have HN := Lib.hid hn
 have HLL := Lib.hid hl
 have HT := Lib.hid hT
 have HL := Lib.hid hL
 have c1 : ¬ c < 0 := by omega
 have c2 : ¬ 255 < c := by omega
 clear hn hl hT hL
 go_enter Tryz.func104, Tryz.ntmps104
 go_wp2_with fail
 refine (within_any ts 0 255 _ _ (ha.ext (by repeat (first | exact Ext.refl _ | assumption | refine Ext.alloc ?_ _ | refine Ext.drew ?_ | refine Ext.drewN ?_ _ | refine Ext.setCell ?_ (by first | exact Nat.le_refl _ | (simp; done) | omega) _ | refine Ext.trans ?_ (by assumption))))).mono ?_; rintro e w1 ⟨rfl, hx1⟩
 rw [decide_eq_true HW.out]
 go_wp2_with fail
 refine (within_any ls 0 255 _ _ (hb.ext (by repeat (first | exact Ext.refl _ | assumption | refine Ext.alloc ?_ _ | refine Ext.drew ?_ | refine Ext.drewN ?_ _ | refine Ext.setCell ?_ (by first | exact Nat.le_refl _ | (simp; done) | omega) _ | refine Ext.trans ?_ (by assumption))))).mono ?_; rintro e w2 ⟨rfl, hx2⟩
 rw [decide_eq_true HU.out]
 have RW := Lib.hid (R1.ext (show Ext (w.alloc _) w2 from (by repeat (first | exact Ext.refl _ | assumption | refine Ext.alloc ?_ _ | refine Ext.drew ?_ | refine Ext.drewN ?_ _ | refine Ext.setCell ?_ (by first | exact Nat.le_refl _ | (simp; done) | omega) _ | refine Ext.trans ?_ (by assumption)))))
 have E2 : Ext w w2 := (by repeat (first | exact Ext.refl _ | assumption | refine Ext.alloc ?_ _ | refine Ext.drew ?_ | refine Ext.drewN ?_ _ | refine Ext.setCell ?_ (by first | exact Nat.le_refl _ | (simp; done) | omega) _ | refine Ext.trans ?_ (by assumption)))
 clear R1 hx1 hx2 c1 c2
 go_wp2
 go_loopw [11, 12] (fun sv iv wr => ∃ k : Nat, k ≤ 4 ∧ iv = .int .i64 k ∧ sv = .int .i64 (4 + nbF (fun i => ts.getD i 0) (fun i => ls.getD i 0) k) ∧ Ext w2 wr) (fun _ iv _ => 4 - (intOf iv).toNat)
 case atStart => exact ⟨0, Nat.zero_le _, rfl, rfl, Ext.refl _⟩
 case round =>
  obtain ⟨k, hk, rfl, rfl, hE⟩ := hrel
  by_cases hlt : k < 4
  · obtain ⟨x, hx'⟩ : ∃ x, ts.getD k 0 = x := ⟨_, rfl⟩
    obtain ⟨y, hy'⟩ : ∃ y, ls.getD k 0 = y := ⟨_, rfl⟩
    have cx := hE.cell (E2.cell (ha.at (get_of_lt (by rw [HN.out]; exact hlt))))
    have cy := hE.cell (E2.cell (hb.at (get_of_lt (by rw [HLL.out]; exact hlt))))
    have bx := HT.out k
    have by' := HL.out k
    have b0 := nbF_bound HT.out HL.out k
    have HS : Hid (nbF (fun i => ts.getD i 0) (fun i => ls.getD i 0) (k + 1) = nbF (fun i => ts.getD i 0) (fun i => ls.getD i 0) k + (x + y)) := by show _ = _; rw [← hx', ← hy']; rfl
    rw [hx'] at cx bx
    rw [hy'] at cy by'
    clear hx' hy'
    revert b0 HS
    generalize nbF (fun i => ts.getD i 0) (fun i => ls.getD i 0) k = s
    intro b0 HS
    have e1 : IntKind.i64.wrap (4 + s + x) = 4 + s + x := by rw [IntKind.wrap_i64]; omega
    have e2 : IntKind.i64.wrap (4 + s + x + y) = 4 + s + x + y := by rw [IntKind.wrap_i64]; omega
    go_wp2
    go_quiet (fail)
    go_wp2
    go_roundw
    case rel => exact ⟨k + 1, by omega, by go_num, by rw [HS.out]; congr 1; omega, hE.drewN _⟩
    case measure => simp [intOf]; omega
  · obtain rfl : k = 4 := by omega
    have b0 := nbF_bound HT.out HL.out 4
    revert b0 HM
    generalize nbF (fun i => ts.getD i 0) (fun i => ls.getD i 0) 4 = s
    intro HM b0
    obtain ⟨mean, hmean⟩ : ∃ mean, (4 + s) / (2 * 4) = mean := ⟨_, rfl⟩
    have hmd : (4 + s) / 8 = mean := hmean
    have HMN : Hid (meanOf ts ls = mean) := by show _ = _; rw [HM.out, hmean]
    have hE0 := hE
    clear hmean HM hE
    go_wp2
    go_loopw [13, 14] (fun ov kv wr => ∃ k : Nat, k ≤ 16 ∧ kv = .int .i64 k ∧ Hid (wr.ownsRow w2.heap.size 3 1 ov k ((rowL k (prdF 3 ts ls c)).map (Value.int .i64))) ∧ Ext w2 wr) (fun _ kv _ => 16 - (intOf kv).toNat)
    case atStart => exact ⟨0, Nat.zero_le _, rfl, World.ownsRow_nil _ _ _ _, hE0⟩
    case round =>
     clear hE0
     obtain ⟨k, hk, rfl, HO, hE⟩ := hrel
     by_cases hlt : k < 16
     · obtain ⟨p, hp⟩ : ∃ p, k % 4 = p := ⟨_, rfl⟩
       obtain ⟨q, hq⟩ : ∃ q, k / 4 = q := ⟨_, rfl⟩
       have p1 : p < 4 := by omega
       have q1 : q < 4 := by omega
       obtain ⟨x, hx'⟩ : ∃ x, ts.getD p 0 = x := ⟨_, rfl⟩
       obtain ⟨y, hy'⟩ : ∃ y, ls.getD q 0 = y := ⟨_, rfl⟩
       have cx := hE.cell (E2.cell (ha.at (get_of_lt (by rw [HN.out]; exact p1))))
       have cy := hE.cell (E2.cell (hb.at (get_of_lt (by rw [HLL.out]; exact q1))))
       have bx := HT.out p
       have by' := HL.out q
       rw [hx'] at cx bx
       rw [hy'] at cy by'
       obtain ⟨z, hz⟩ : ∃ z, clipI (y + x - c) = z := ⟨_, rfl⟩
       have HC : Hid (∀ W, Calls Tryz.prog 100 #[.int .i64 (y + x - c)] W fun e w' => e = .returned (.int .i64 z) ∧ W = w') := fun W => by rw [← hz]; exact rclip_any _ W
       have HS : Hid ((rowL (k + 1) (prdF 3 ts ls c)).map (Value.int .i64) = (rowL k (prdF 3 ts ls c)).map (Value.int .i64) ++ [.int .i64 z]) := by
        show _ = _
        rw [rowL_succi, List.map_append]
        have e3 : prdF 3 ts ls c k = z := by
         unfold prdF
         rw [HN.out, hp, hq, hx', hy', hz, HMN.out]
         rfl
        rw [e3]
        rfl
       have k1 : (k : Int) % 4 = (p : Int) := by omega
       have k2 : (k : Int) / 4 = (q : Int) := by omega
       have k3 : Int.tmod (k : Int) 4 = (p : Int) := by rw [Int.tmod_eq_emod_of_nonneg (by omega)]; exact k1
       have k4 : Int.tdiv (k : Int) 4 = (q : Int) := by rw [Int.tdiv_eq_ediv_of_nonneg (by omega)]; exact k2
       have d1 : IntKind.i64.wrap (p : Int) = (p : Int) := by rw [IntKind.wrap_i64]; omega
       have d2 : IntKind.i64.wrap (q : Int) = (q : Int) := by rw [IntKind.wrap_i64]; omega
       have d3 : (0 : Int) ≤ (p : Int) ∧ (p : Int) < 4 := by omega
       have d4 : (0 : Int) ≤ (q : Int) ∧ (q : Int) < 4 := by omega
       clear hx' hy' hz hp hq
       go_wp2
       go_quiet (fail)
       have HOq := (show ∀ n, Hid ((wr.drewN n).ownsRow _ _ _ _ _ _) from fun n => HO) nq
       have hEq := hE.drewN nq
       clear HO hE cx cy
       revert HOq hEq
       generalize wr.drewN nq = wq
       intro HO hE
       have hB := hE.size
       go_wp2_with fail
       refine (HC.out _).mono ?_; rintro e w8 ⟨rfl, rfl⟩
       go_wp2_with (at_builtin; refine push_int rfl _ _ 22 rfl Tryz.underlying22 _ _ _ _ rfl HO.out (by show Value.slice (some ⟨wq.heap.size, 0, none⟩) 1 1 = _; simp) hB (by omega) ?_; intro v' w7 h1 h2)
       have HO7 := Lib.hid h1
       have hE7 := hE.of_below h2 (Nat.le_refl _)
       clear h1 h2 HO hE
       go_wp2
       go_roundw
       case rel =>
        have ho8 := HO7.out
        rw [← HS.out] at ho8
        have HO8 := Lib.hid ho8
        repeat apply Exists.intro
        exact ⟨⟨k + 1, by omega, by go_num, HO8, hE7⟩, rfl⟩
       case measure => simp [intOf]; omega
     · obtain rfl : k = 16 := by omega
       have hsz : w.heap.size < w2.heap.size := Ext.lt RW.out.1
       obtain ⟨b0, b1, b2, b3⟩ := RW.out.ext hE
       have ho2 := ownsRow_setCell_below (ownsRow_setCell_below HO.out (a := ⟨w.heap.size, 0, none⟩) hsz (.int .i64 0)) (a := ⟨w.heap.size, 1, none⟩) hsz (.slice none 0 0)
       go_wp2
       obtain ⟨e0, e1⟩ := res_cells (c := 0) b0 b1 (.slice none 0 0)
       exact bodyPost_ret (v := .tuple #[_, .agg #[.int .i64 0, .slice none 0 0]]) (by simp [results, Tryz.results104, go_sem, e0, e1]; rfl) rfl ⟨_, _, _, _, _, rfl, (by repeat (first | exact Ext.refl _ | assumption | refine Ext.alloc ?_ _ | refine Ext.drew ?_ | refine Ext.drewN ?_ _ | refine Ext.setCell ?_ (by first | exact Nat.le_refl _ | (simp; done) | omega) _ | refine Ext.trans ?_ (by assumption))), by rw [HP.out]; exact Ints.of_row ho2 (by omega), RErrIs.zero⟩
set_option maxHeartbeats 8000000 in
set_option maxRecDepth 20000 in
theorem rpred_0_8 (ts ls : List Int) (c : Int) (v u : Value) (w : World) (ha : Ints w v ts) (hb : Ints w u ls) (hn : ts.length = 8) (hl : ls.length = 8) (hT : ∀ j, 0 ≤ ts.getD j 0 ∧ ts.getD j 0 ≤ 255) (hL : ∀ j, 0 ≤ ls.getD j 0 ∧ ls.getD j 0 ≤ 255) (HW : Hid (within 0 255 ts)) (HU : Hid (within 0 255 ls)) (hc : 0 ≤ c ∧ c ≤ 255) :
 Calls Tryz.prog 104 #[.int .i64 0, v, u, .int .i64 c] w (RZPost w (prdL 0 ts ls c) none) := by
 have R1 := ResAt.new w
 obtain ⟨g, off, cap, rfl, -, -⟩ := ha.addr (by omega)
 obtain ⟨g', off', cap', rfl, -, -⟩ := hb.addr (by omega)
 have HM : Hid (meanOf ts ls = (8 + nbF (fun i => ts.getD i 0) (fun i => ls.getD i 0) 8) / (2 * 8)) := by show _ = _; unfold meanOf; rw [hn]; rfl
 have HP : Hid (prdL 0 ts ls c = rowL 64 (prdF 0 ts ls c)) := by show _ = _; unfold prdL; rw [hn]
 rw [hn] at ha ⊢
 rw [hl] at hb ⊢
 have HN := Lib.hid hn
 have HLL := Lib.hid hl
 have HT := Lib.hid hT
 have HL := Lib.hid hL
 have c1 : ¬ c < 0 := by omega
 have c2 : ¬ 255 < c := by omega
 clear hn hl hT hL
 go_enter Tryz.func104, Tryz.ntmps104
 go_wp2_with fail
 refine (within_any ts 0 255 _ _ (ha.ext (by repeat (first | exact Ext.refl _ | assumption | refine Ext.alloc ?_ _ | refine Ext.drew ?_ | refine Ext.drewN ?_ _ | refine Ext.setCell ?_ (by first | exact Nat.le_refl _ | (simp; done) | omega) _ | refine Ext.trans ?_ (by assumption))))).mono ?_; rintro e w1 ⟨rfl, hx1⟩
 rw [decide_eq_true HW.out]
 go_wp2_with fail
 refine (within_any ls 0 255 _ _ (hb.ext (by repeat (first | exact Ext.refl _ | assumption | refine Ext.alloc ?_ _ | refine Ext.drew ?_ | refine Ext.drewN ?_ _ | refine Ext.setCell ?_ (by first | exact Nat.le_refl _ | (simp; done) | omega) _ | refine Ext.trans ?_ (by assumption))))).mono ?_; rintro e w2 ⟨rfl, hx2⟩
 rw [decide_eq_true HU.out]
 have RW := Lib.hid (R1.ext (show Ext (w.alloc _) w2 from (by repeat (first | exact Ext.refl _ | assumption | refine Ext.alloc ?_ _ | refine Ext.drew ?_ | refine Ext.drewN ?_ _ | refine Ext.setCell ?_ (by first | exact Nat.le_refl _ | (simp; done) | omega) _ | refine Ext.trans ?_ (by assumption)))))
 have E2 : Ext w w2 := (by repeat (first | exact Ext.refl _ | assumption | refine Ext.alloc ?_ _ | refine Ext.drew ?_ | refine Ext.drewN ?_ _ | refine Ext.setCell ?_ (by first | exact Nat.le_refl _ | (simp; done) | omega) _ | refine Ext.trans ?_ (by assumption)))
 clear R1 hx1 hx2 c1 c2
 go_wp2
 go_loopw [11, 12] (fun sv iv wr => ∃ k : Nat, k ≤ 8 ∧ iv = .int .i64 k ∧ sv = .int .i64 (8 + nbF (fun i => ts.getD i 0) (fun i => ls.getD i 0) k) ∧ Ext w2 wr) (fun _ iv _ => 8 - (intOf iv).toNat)
 case atStart => exact ⟨0, Nat.zero_le _, rfl, rfl, Ext.refl _⟩
 case round =>
  obtain ⟨k, hk, rfl, rfl, hE⟩ := hrel
  by_cases hlt : k < 8
  · obtain ⟨x, hx'⟩ : ∃ x, ts.getD k 0 = x := ⟨_, rfl⟩
    obtain ⟨y, hy'⟩ : ∃ y, ls.getD k 0 = y := ⟨_, rfl⟩
    have cx := hE.cell (E2.cell (ha.at (get_of_lt (by rw [HN.out]; exact hlt))))
    have cy := hE.cell (E2.cell (hb.at (get_of_lt (by rw [HLL.out]; exact hlt))))
    have bx := HT.out k
    have by' := HL.out k
    have b0 := nbF_bound HT.out HL.out k
    have HS : Hid (nbF (fun i => ts.getD i 0) (fun i => ls.getD i 0) (k + 1) = nbF (fun i => ts.getD i 0) (fun i => ls.getD i 0) k + (x + y)) := by show _ = _; rw [← hx', ← hy']; rfl
    rw [hx'] at cx bx
    rw [hy'] at cy by'
    clear hx' hy'
    revert b0 HS
    generalize nbF (fun i => ts.getD i 0) (fun i => ls.getD i 0) k = s
    intro b0 HS
    have e1 : IntKind.i64.wrap (8 + s + x) = 8 + s + x := by rw [IntKind.wrap_i64]; omega
    have e2 : IntKind.i64.wrap (8 + s + x + y) = 8 + s + x + y := by rw [IntKind.wrap_i64]; omega
    go_wp2
    go_quiet (fail)
    go_wp2
    go_roundw
    case rel => exact ⟨k + 1, by omega, by go_num, by rw [HS.out]; congr 1; omega, hE.drewN _⟩
    case measure => simp [intOf]; omega
  · obtain rfl : k = 8 := by omega
    have b0 := nbF_bound HT.out HL.out 8
    revert b0 HM
    generalize nbF (fun i => ts.getD i 0) (fun i => ls.getD i 0) 8 = s
    intro HM b0
    obtain ⟨mean, hmean⟩ : ∃ mean, (8 + s) / (2 * 8) = mean := ⟨_, rfl⟩
    have hmd : (8 + s) / 16 = mean := hmean
    have HMN : Hid (meanOf ts ls = mean) := by show _ = _; rw [HM.out, hmean]
    have hE0 := hE
    clear hmean HM hE
    go_wp2
    go_loopw [13, 14] (fun ov kv wr => ∃ k : Nat, k ≤ 64 ∧ kv = .int .i64 k ∧ Hid (wr.ownsRow w2.heap.size 3 1 ov k ((rowL k (prdF 0 ts ls c)).map (Value.int .i64))) ∧ Ext w2 wr) (fun _ kv _ => 64 - (intOf kv).toNat)
    case atStart => exact ⟨0, Nat.zero_le _, rfl, World.ownsRow_nil _ _ _ _, hE0⟩
    case round =>
     clear hE0
     obtain ⟨k, hk, rfl, HO, hE⟩ := hrel
     by_cases hlt : k < 64
     · obtain ⟨p, hp⟩ : ∃ p, k % 8 = p := ⟨_, rfl⟩
       obtain ⟨q, hq⟩ : ∃ q, k / 8 = q := ⟨_, rfl⟩
       have p1 : p < 8 := by omega
       have q1 : q < 8 := by omega
       obtain ⟨x, hx'⟩ : ∃ x, ts.getD p 0 = x := ⟨_, rfl⟩
       obtain ⟨y, hy'⟩ : ∃ y, ls.getD q 0 = y := ⟨_, rfl⟩
       have cx := hE.cell (E2.cell (ha.at (get_of_lt (by rw [HN.out]; exact p1))))
       have cy := hE.cell (E2.cell (hb.at (get_of_lt (by rw [HLL.out]; exact q1))))
       have bx := HT.out p
       have by' := HL.out q
       rw [hx'] at cx bx
       rw [hy'] at cy by'
       obtain ⟨z, hz⟩ : ∃ z, clipI (y + x - c) = z := ⟨_, rfl⟩
       have HC : Hid (∀ W, Calls Tryz.prog 100 #[.int .i64 (y + x - c)] W fun e w' => e = .returned (.int .i64 z) ∧ W = w') := fun W => by rw [← hz]; exact rclip_any _ W
       have HS : Hid ((rowL (k + 1) (prdF 0 ts ls c)).map (Value.int .i64) = (rowL k (prdF 0 ts ls c)).map (Value.int .i64) ++ [.int .i64 mean]) := by
        show _ = _
        rw [rowL_succi, List.map_append]
        have e3 : prdF 0 ts ls c k = mean := by
         unfold prdF
         rw [HN.out, hp, hq, hx', hy', hz, HMN.out]
         rfl
        rw [e3]
        rfl
       have k1 : (k : Int) % 8 = (p : Int) := by omega
       have k2 : (k : Int) / 8 = (q : Int) := by omega
       have k3 : Int.tmod (k : Int) 8 = (p : Int) := by rw [Int.tmod_eq_emod_of_nonneg (by omega)]; exact k1
       have k4 : Int.tdiv (k : Int) 8 = (q : Int) := by rw [Int.tdiv_eq_ediv_of_nonneg (by omega)]; exact k2
       have d1 : IntKind.i64.wrap (p : Int) = (p : Int) := by rw [IntKind.wrap_i64]; omega
       have d2 : IntKind.i64.wrap (q : Int) = (q : Int) := by rw [IntKind.wrap_i64]; omega
       have d3 : (0 : Int) ≤ (p : Int) ∧ (p : Int) < 8 := by omega
       have d4 : (0 : Int) ≤ (q : Int) ∧ (q : Int) < 8 := by omega
       clear hx' hy' hz hp hq
       go_wp2
       go_quiet (fail)
       have HOq := (show ∀ n, Hid ((wr.drewN n).ownsRow _ _ _ _ _ _) from fun n => HO) nq
       have hEq := hE.drewN nq
       clear HO hE cx cy
       revert HOq hEq
       generalize wr.drewN nq = wq
       intro HO hE
       have hB := hE.size
       go_wp2_with (at_builtin; refine push_int rfl _ _ 22 rfl Tryz.underlying22 _ _ _ _ rfl HO.out (by show Value.slice (some ⟨wq.heap.size, 0, none⟩) 1 1 = _; simp) hB (by omega) ?_; intro v' w7 h1 h2)
       have HO7 := Lib.hid h1
       have hE7 := hE.of_below h2 (Nat.le_refl _)
       clear h1 h2 HO hE
       go_wp2
       go_roundw
       case rel =>
        have ho8 := HO7.out
        rw [← HS.out] at ho8
        have HO8 := Lib.hid ho8
        repeat apply Exists.intro
        exact ⟨⟨k + 1, by omega, by go_num, HO8, hE7⟩, rfl⟩
       case measure => simp [intOf]; omega
     · obtain rfl : k = 64 := by omega
       have hsz : w.heap.size < w2.heap.size := Ext.lt RW.out.1
       obtain ⟨b0, b1, b2, b3⟩ := RW.out.ext hE
       have ho2 := ownsRow_setCell_below (ownsRow_setCell_below HO.out (a := ⟨w.heap.size, 0, none⟩) hsz (.int .i64 0)) (a := ⟨w.heap.size, 1, none⟩) hsz (.slice none 0 0)
       go_wp2
       obtain ⟨e0, e1⟩ := res_cells (c := 0) b0 b1 (.slice none 0 0)
       exact bodyPost_ret (v := .tuple #[_, .agg #[.int .i64 0, .slice none 0 0]]) (by simp [results, Tryz.results104, go_sem, e0, e1]; rfl) rfl ⟨_, _, _, _, _, rfl, (by repeat (first | exact Ext.refl _ | assumption | refine Ext.alloc ?_ _ | refine Ext.drew ?_ | refine Ext.drewN ?_ _ | refine Ext.setCell ?_ (by first | exact Nat.le_refl _ | (simp; done) | omega) _ | refine Ext.trans ?_ (by assumption))), by rw [HP.out]; exact Ints.of_row ho2 (by omega), RErrIs.zero⟩
set_option maxHeartbeats 8000000 in
set_option maxRecDepth 20000 in
theorem rpred_1_8 (ts ls : List Int) (c : Int) (v u : Value) (w : World) (ha : Ints w v ts) (hb : Ints w u ls) (hn : ts.length = 8) (hl : ls.length = 8) (hT : ∀ j, 0 ≤ ts.getD j 0 ∧ ts.getD j 0 ≤ 255) (hL : ∀ j, 0 ≤ ls.getD j 0 ∧ ls.getD j 0 ≤ 255) (HW : Hid (within 0 255 ts)) (HU : Hid (within 0 255 ls)) (hc : 0 ≤ c ∧ c ≤ 255) :
 Calls Tryz.prog 104 #[.int .i64 1, v, u, .int .i64 c] w (RZPost w (prdL 1 ts ls c) none) := by
 have R1 := ResAt.new w
 obtain ⟨g, off, cap, rfl, -, -⟩ := ha.addr (by omega)
 obtain ⟨g', off', cap', rfl, -, -⟩ := hb.addr (by omega)
 have HM : Hid (meanOf ts ls = (8 + nbF (fun i => ts.getD i 0) (fun i => ls.getD i 0) 8) / (2 * 8)) := by show _ = _; unfold meanOf; rw [hn]; rfl
 have HP : Hid (prdL 1 ts ls c = rowL 64 (prdF 1 ts ls c)) := by show _ = _; unfold prdL; rw [hn]
 rw [hn] at ha ⊢
 rw [hl] at hb ⊢
 have HN := Lib.hid hn
 have HLL := Lib.hid hl
 have HT := Lib.hid hT
 have HL := Lib.hid hL
 have c1 : ¬ c < 0 := by omega
 have c2 : ¬ 255 < c := by omega
 clear hn hl hT hL
 go_enter Tryz.func104, Tryz.ntmps104
 go_wp2_with fail
 refine (within_any ts 0 255 _ _ (ha.ext (by repeat (first | exact Ext.refl _ | assumption | refine Ext.alloc ?_ _ | refine Ext.drew ?_ | refine Ext.drewN ?_ _ | refine Ext.setCell ?_ (by first | exact Nat.le_refl _ | (simp; done) | omega) _ | refine Ext.trans ?_ (by assumption))))).mono ?_; rintro e w1 ⟨rfl, hx1⟩
 rw [decide_eq_true HW.out]
 go_wp2_with fail
 refine (within_any ls 0 255 _ _ (hb.ext (by repeat (first | exact Ext.refl _ | assumption | refine Ext.alloc ?_ _ | refine Ext.drew ?_ | refine Ext.drewN ?_ _ | refine Ext.setCell ?_ (by first | exact Nat.le_refl _ | (simp; done) | omega) _ | refine Ext.trans ?_ (by assumption))))).mono ?_; rintro e w2 ⟨rfl, hx2⟩
 rw [decide_eq_true HU.out]
 have RW := Lib.hid (R1.ext (show Ext (w.alloc _) w2 from (by repeat (first | exact Ext.refl _ | assumption | refine Ext.alloc ?_ _ | refine Ext.drew ?_ | refine Ext.drewN ?_ _ | refine Ext.setCell ?_ (by first | exact Nat.le_refl _ | (simp; done) | omega) _ | refine Ext.trans ?_ (by assumption)))))
 have E2 : Ext w w2 := (by repeat (first | exact Ext.refl _ | assumption | refine Ext.alloc ?_ _ | refine Ext.drew ?_ | refine Ext.drewN ?_ _ | refine Ext.setCell ?_ (by first | exact Nat.le_refl _ | (simp; done) | omega) _ | refine Ext.trans ?_ (by assumption)))
 clear R1 hx1 hx2 c1 c2
 go_wp2
 go_loopw [11, 12] (fun sv iv wr => ∃ k : Nat, k ≤ 8 ∧ iv = .int .i64 k ∧ sv = .int .i64 (8 + nbF (fun i => ts.getD i 0) (fun i => ls.getD i 0) k) ∧ Ext w2 wr) (fun _ iv _ => 8 - (intOf iv).toNat)
 case atStart => exact ⟨0, Nat.zero_le _, rfl, rfl, Ext.refl _⟩
 case round =>
  obtain ⟨k, hk, rfl, rfl, hE⟩ := hrel
  by_cases hlt : k < 8
  · obtain ⟨x, hx'⟩ : ∃ x, ts.getD k 0 = x := ⟨_, rfl⟩
    obtain ⟨y, hy'⟩ : ∃ y, ls.getD k 0 = y := ⟨_, rfl⟩
    have cx := hE.cell (E2.cell (ha.at (get_of_lt (by rw [HN.out]; exact hlt))))
    have cy := hE.cell (E2.cell (hb.at (get_of_lt (by rw [HLL.out]; exact hlt))))
    have bx := HT.out k
    have by' := HL.out k
    have b0 := nbF_bound HT.out HL.out k
    have HS : Hid (nbF (fun i => ts.getD i 0) (fun i => ls.getD i 0) (k + 1) = nbF (fun i => ts.getD i 0) (fun i => ls.getD i 0) k + (x + y)) := by show _ = _; rw [← hx', ← hy']; rfl
    rw [hx'] at cx bx
    rw [hy'] at cy by'
    clear hx' hy'
    revert b0 HS
    generalize nbF (fun i => ts.getD i 0) (fun i => ls.getD i 0) k = s
    intro b0 HS
    have e1 : IntKind.i64.wrap (8 + s + x) = 8 + s + x := by rw [IntKind.wrap_i64]; omega
    have e2 : IntKind.i64.wrap (8 + s + x + y) = 8 + s + x + y := by rw [IntKind.wrap_i64]; omega
    go_wp2
    go_quiet (fail)
    go_wp2
    go_roundw
    case rel => exact ⟨k + 1, by omega, by go_num, by rw [HS.out]; congr 1; omega, hE.drewN _⟩
    case measure => simp [intOf]; omega
  · obtain rfl : k = 8 := by omega
    have b0 := nbF_bound HT.out HL.out 8
    revert b0 HM
    generalize nbF (fun i => ts.getD i 0) (fun i => ls.getD i 0) 8 = s
    intro HM b0
    obtain ⟨mean, hmean⟩ : ∃ mean, (8 + s) / (2 * 8) = mean := ⟨_, rfl⟩
    have hmd : (8 + s) / 16 = mean := hmean
    have HMN : Hid (meanOf ts ls = mean) := by show _ = _; rw [HM.out, hmean]
    have hE0 := hE
    clear hmean HM hE
    go_wp2
    go_loopw [13, 14] (fun ov kv wr => ∃ k : Nat, k ≤ 64 ∧ kv = .int .i64 k ∧ Hid (wr.ownsRow w2.heap.size 3 1 ov k ((rowL k (prdF 1 ts ls c)).map (Value.int .i64))) ∧ Ext w2 wr) (fun _ kv _ => 64 - (intOf kv).toNat)
    case atStart => exact ⟨0, Nat.zero_le _, rfl, World.ownsRow_nil _ _ _ _, hE0⟩
    case round =>
     clear hE0
     obtain ⟨k, hk, rfl, HO, hE⟩ := hrel
     by_cases hlt : k < 64
     · obtain ⟨p, hp⟩ : ∃ p, k % 8 = p := ⟨_, rfl⟩
       obtain ⟨q, hq⟩ : ∃ q, k / 8 = q := ⟨_, rfl⟩
       have p1 : p < 8 := by omega
       have q1 : q < 8 := by omega
       obtain ⟨x, hx'⟩ : ∃ x, ts.getD p 0 = x := ⟨_, rfl⟩
       obtain ⟨y, hy'⟩ : ∃ y, ls.getD q 0 = y := ⟨_, rfl⟩
       have cx := hE.cell (E2.cell (ha.at (get_of_lt (by rw [HN.out]; exact p1))))
       have cy := hE.cell (E2.cell (hb.at (get_of_lt (by rw [HLL.out]; exact q1))))
       have bx := HT.out p
       have by' := HL.out q
       rw [hx'] at cx bx
       rw [hy'] at cy by'
       obtain ⟨z, hz⟩ : ∃ z, clipI (y + x - c) = z := ⟨_, rfl⟩
       have HC : Hid (∀ W, Calls Tryz.prog 100 #[.int .i64 (y + x - c)] W fun e w' => e = .returned (.int .i64 z) ∧ W = w') := fun W => by rw [← hz]; exact rclip_any _ W
       have HS : Hid ((rowL (k + 1) (prdF 1 ts ls c)).map (Value.int .i64) = (rowL k (prdF 1 ts ls c)).map (Value.int .i64) ++ [.int .i64 x]) := by
        show _ = _
        rw [rowL_succi, List.map_append]
        have e3 : prdF 1 ts ls c k = x := by
         unfold prdF
         rw [HN.out, hp, hq, hx', hy', hz, HMN.out]
         rfl
        rw [e3]
        rfl
       have k1 : (k : Int) % 8 = (p : Int) := by omega
       have k2 : (k : Int) / 8 = (q : Int) := by omega
       have k3 : Int.tmod (k : Int) 8 = (p : Int) := by rw [Int.tmod_eq_emod_of_nonneg (by omega)]; exact k1
       have k4 : Int.tdiv (k : Int) 8 = (q : Int) := by rw [Int.tdiv_eq_ediv_of_nonneg (by omega)]; exact k2
       have d1 : IntKind.i64.wrap (p : Int) = (p : Int) := by rw [IntKind.wrap_i64]; omega
       have d2 : IntKind.i64.wrap (q : Int) = (q : Int) := by rw [IntKind.wrap_i64]; omega
       have d3 : (0 : Int) ≤ (p : Int) ∧ (p : Int) < 8 := by omega
       have d4 : (0 : Int) ≤ (q : Int) ∧ (q : Int) < 8 := by omega
       clear hx' hy' hz hp hq
       go_wp2
       go_quiet (fail)
       have HOq := (show ∀ n, Hid ((wr.drewN n).ownsRow _ _ _ _ _ _) from fun n => HO) nq
       have hEq := hE.drewN nq
       clear HO hE cx cy
       revert HOq hEq
       generalize wr.drewN nq = wq
       intro HO hE
       have hB := hE.size
       go_wp2_with (at_builtin; refine push_int rfl _ _ 22 rfl Tryz.underlying22 _ _ _ _ rfl HO.out (by show Value.slice (some ⟨wq.heap.size, 0, none⟩) 1 1 = _; simp) hB (by omega) ?_; intro v' w7 h1 h2)
       have HO7 := Lib.hid h1
       have hE7 := hE.of_below h2 (Nat.le_refl _)
       clear h1 h2 HO hE
       go_wp2
       go_roundw
       case rel =>
        have ho8 := HO7.out
        rw [← HS.out] at ho8
        have HO8 := Lib.hid ho8
        repeat apply Exists.intro
        exact ⟨⟨k + 1, by omega, by go_num, HO8, hE7⟩, rfl⟩
       case measure => simp [intOf]; omega
     · obtain rfl : k = 64 := by omega
       have hsz : w.heap.size < w2.heap.size := Ext.lt RW.out.1
       obtain ⟨b0, b1, b2, b3⟩ := RW.out.ext hE
       have ho2 := ownsRow_setCell_below (ownsRow_setCell_below HO.out (a := ⟨w.heap.size, 0, none⟩) hsz (.int .i64 0)) (a := ⟨w.heap.size, 1, none⟩) hsz (.slice none 0 0)
       go_wp2
       obtain ⟨e0, e1⟩ := res_cells (c := 0) b0 b1 (.slice none 0 0)
       exact bodyPost_ret (v := .tuple #[_, .agg #[.int .i64 0, .slice none 0 0]]) (by simp [results, Tryz.results104, go_sem, e0, e1]; rfl) rfl ⟨_, _, _, _, _, rfl, (by repeat (first | exact Ext.refl _ | assumption | refine Ext.alloc ?_ _ | refine Ext.drew ?_ | refine Ext.drewN ?_ _ | refine Ext.setCell ?_ (by first | exact Nat.le_refl _ | (simp; done) | omega) _ | refine Ext.trans ?_ (by assumption))), by rw [HP.out]; exact Ints.of_row ho2 (by omega), RErrIs.zero⟩
set_option maxHeartbeats 8000000 in
set_option maxRecDepth 20000 in
theorem rpred_2_8 (ts ls : List Int) (c : Int) (v u : Value) (w : World) (ha : Ints w v ts) (hb : Ints w u ls) (hn : ts.length = 8) (hl : ls.length = 8) (hT : ∀ j, 0 ≤ ts.getD j 0 ∧ ts.getD j 0 ≤ 255) (hL : ∀ j, 0 ≤ ls.getD j 0 ∧ ls.getD j 0 ≤ 255) (HW : Hid (within 0 255 ts)) (HU : Hid (within 0 255 ls)) (hc : 0 ≤ c ∧ c ≤ 255) :
 Calls Tryz.prog 104 #[.int .i64 2, v, u, .int .i64 c] w (RZPost w (prdL 2 ts ls c) none) := by
 have R1 := ResAt.new w
 obtain ⟨g, off, cap, rfl, -, -⟩ := ha.addr (by omega)
 obtain ⟨g', off', cap', rfl, -, -⟩ := hb.addr (by omega)
 have HM : Hid (meanOf ts ls = (8 + nbF (fun i => ts.getD i 0) (fun i => ls.getD i 0) 8) / (2 * 8)) := by show _ = _; unfold meanOf; rw [hn]; rfl
 have HP : Hid (prdL 2 ts ls c = rowL 64 (prdF 2 ts ls c)) := by show _ = _; unfold prdL; rw [hn]
 rw [hn] at ha ⊢
 rw [hl] at hb ⊢
 have HN := Lib.hid hn
 have HLL := Lib.hid hl
 have HT := Lib.hid hT
 have HL := Lib.hid hL
 have c1 : ¬ c < 0 := by omega
 have c2 : ¬ 255 < c := by omega
 clear hn hl hT hL
 go_enter Tryz.func104, Tryz.ntmps104
 go_wp2_with fail
 refine (within_any ts 0 255 _ _ (ha.ext (by repeat (first | exact Ext.refl _ | assumption | refine Ext.alloc ?_ _ | refine Ext.drew ?_ | refine Ext.drewN ?_ _ | refine Ext.setCell ?_ (by first | exact Nat.le_refl _ | (simp; done) | omega) _ | refine Ext.trans ?_ (by assumption))))).mono ?_; rintro e w1 ⟨rfl, hx1⟩
 rw [decide_eq_true HW.out]
 go_wp2_with fail
 refine (within_any ls 0 255 _ _ (hb.ext (by repeat (first | exact Ext.refl _ | assumption | refine Ext.alloc ?_ _ | refine Ext.drew ?_ | refine Ext.drewN ?_ _ | refine Ext.setCell ?_ (by first | exact Nat.le_refl _ | (simp; done) | omega) _ | refine Ext.trans ?_ (by assumption))))).mono ?_; rintro e w2 ⟨rfl, hx2⟩
 rw [decide_eq_true HU.out]
 have RW := Lib.hid (R1.ext (show Ext (w.alloc _) w2 from (by repeat (first | exact Ext.refl _ | assumption | refine Ext.alloc ?_ _ | refine Ext.drew ?_ | refine Ext.drewN ?_ _ | refine Ext.setCell ?_ (by first | exact Nat.le_refl _ | (simp; done) | omega) _ | refine Ext.trans ?_ (by assumption)))))
 have E2 : Ext w w2 := (by repeat (first | exact Ext.refl _ | assumption | refine Ext.alloc ?_ _ | refine Ext.drew ?_ | refine Ext.drewN ?_ _ | refine Ext.setCell ?_ (by first | exact Nat.le_refl _ | (simp; done) | omega) _ | refine Ext.trans ?_ (by assumption)))
 clear R1 hx1 hx2 c1 c2
 go_wp2
 go_loopw [11, 12] (fun sv iv wr => ∃ k : Nat, k ≤ 8 ∧ iv = .int .i64 k ∧ sv = .int .i64 (8 + nbF (fun i => ts.getD i 0) (fun i => ls.getD i 0) k) ∧ Ext w2 wr) (fun _ iv _ => 8 - (intOf iv).toNat)
 case atStart => exact ⟨0, Nat.zero_le _, rfl, rfl, Ext.refl _⟩
 case round =>
  obtain ⟨k, hk, rfl, rfl, hE⟩ := hrel
  by_cases hlt : k < 8
  · obtain ⟨x, hx'⟩ : ∃ x, ts.getD k 0 = x := ⟨_, rfl⟩
    obtain ⟨y, hy'⟩ : ∃ y, ls.getD k 0 = y := ⟨_, rfl⟩
    have cx := hE.cell (E2.cell (ha.at (get_of_lt (by rw [HN.out]; exact hlt))))
    have cy := hE.cell (E2.cell (hb.at (get_of_lt (by rw [HLL.out]; exact hlt))))
    have bx := HT.out k
    have by' := HL.out k
    have b0 := nbF_bound HT.out HL.out k
    have HS : Hid (nbF (fun i => ts.getD i 0) (fun i => ls.getD i 0) (k + 1) = nbF (fun i => ts.getD i 0) (fun i => ls.getD i 0) k + (x + y)) := by show _ = _; rw [← hx', ← hy']; rfl
    rw [hx'] at cx bx
    rw [hy'] at cy by'
    clear hx' hy'
    revert b0 HS
    generalize nbF (fun i => ts.getD i 0) (fun i => ls.getD i 0) k = s
    intro b0 HS
    have e1 : IntKind.i64.wrap (8 + s + x) = 8 + s + x := by rw [IntKind.wrap_i64]; omega
    have e2 : IntKind.i64.wrap (8 + s + x + y) = 8 + s + x + y := by rw [IntKind.wrap_i64]; omega
    go_wp2
    go_quiet (fail)
    go_wp2
    go_roundw
    case rel => exact ⟨k + 1, by omega, by go_num, by rw [HS.out]; congr 1; omega, hE.drewN _⟩
    case measure => simp [intOf]; omega
  · obtain rfl : k = 8 := by omega
    have b0 := nbF_bound HT.out HL.out 8
    revert b0 HM
    generalize nbF (fun i => ts.getD i 0) (fun i => ls.getD i 0) 8 = s
    intro HM b0
    obtain ⟨mean, hmean⟩ : ∃ mean, (8 + s) / (2 * 8) = mean := ⟨_, rfl⟩
    have hmd : (8 + s) / 16 = mean := hmean
    have HMN : Hid (meanOf ts ls = mean) := by show _ = _; rw [HM.out, hmean]
    have hE0 := hE
    clear hmean HM hE
    go_wp2
    go_loopw [13, 14] (fun ov kv wr => ∃ k : Nat, k ≤ 64 ∧ kv = .int .i64 k ∧ Hid (wr.ownsRow w2.heap.size 3 1 ov k ((rowL k (prdF 2 ts ls c)).map (Value.int .i64))) ∧ Ext w2 wr) (fun _ kv _ => 64 - (intOf kv).toNat)
    case atStart => exact ⟨0, Nat.zero_le _, rfl, World.ownsRow_nil _ _ _ _, hE0⟩
    case round =>
     clear hE0
     obtain ⟨k, hk, rfl, HO, hE⟩ := hrel
     by_cases hlt : k < 64
     · obtain ⟨p, hp⟩ : ∃ p, k % 8 = p := ⟨_, rfl⟩
       obtain ⟨q, hq⟩ : ∃ q, k / 8 = q := ⟨_, rfl⟩
       have p1 : p < 8 := by omega
       have q1 : q < 8 := by omega
       obtain ⟨x, hx'⟩ : ∃ x, ts.getD p 0 = x := ⟨_, rfl⟩
       obtain ⟨y, hy'⟩ : ∃ y, ls.getD q 0 = y := ⟨_, rfl⟩
       have cx := hE.cell (E2.cell (ha.at (get_of_lt (by rw [HN.out]; exact p1))))
       have cy := hE.cell (E2.cell (hb.at (get_of_lt (by rw [HLL.out]; exact q1))))
       have bx := HT.out p
       have by' := HL.out q
       rw [hx'] at cx bx
       rw [hy'] at cy by'
       obtain ⟨z, hz⟩ : ∃ z, clipI (y + x - c) = z := ⟨_, rfl⟩
       have HC : Hid (∀ W, Calls Tryz.prog 100 #[.int .i64 (y + x - c)] W fun e w' => e = .returned (.int .i64 z) ∧ W = w') := fun W => by rw [← hz]; exact rclip_any _ W
       have HS : Hid ((rowL (k + 1) (prdF 2 ts ls c)).map (Value.int .i64) = (rowL k (prdF 2 ts ls c)).map (Value.int .i64) ++ [.int .i64 y]) := by
        show _ = _
        rw [rowL_succi, List.map_append]
        have e3 : prdF 2 ts ls c k = y := by
         unfold prdF
         rw [HN.out, hp, hq, hx', hy', hz, HMN.out]
         rfl
        rw [e3]
        rfl
       have k1 : (k : Int) % 8 = (p : Int) := by omega
       have k2 : (k : Int) / 8 = (q : Int) := by omega
       have k3 : Int.tmod (k : Int) 8 = (p : Int) := by rw [Int.tmod_eq_emod_of_nonneg (by omega)]; exact k1
       have k4 : Int.tdiv (k : Int) 8 = (q : Int) := by rw [Int.tdiv_eq_ediv_of_nonneg (by omega)]; exact k2
       have d1 : IntKind.i64.wrap (p : Int) = (p : Int) := by rw [IntKind.wrap_i64]; omega
       have d2 : IntKind.i64.wrap (q : Int) = (q : Int) := by rw [IntKind.wrap_i64]; omega
       have d3 : (0 : Int) ≤ (p : Int) ∧ (p : Int) < 8 := by omega
       have d4 : (0 : Int) ≤ (q : Int) ∧ (q : Int) < 8 := by omega
       clear hx' hy' hz hp hq
       go_wp2
       go_quiet (fail)
       have HOq := (show ∀ n, Hid ((wr.drewN n).ownsRow _ _ _ _ _ _) from fun n => HO) nq
       have hEq := hE.drewN nq
       clear HO hE cx cy
       revert HOq hEq
       generalize wr.drewN nq = wq
       intro HO hE
       have hB := hE.size
       go_wp2_with (at_builtin; refine push_int rfl _ _ 22 rfl Tryz.underlying22 _ _ _ _ rfl HO.out (by show Value.slice (some ⟨wq.heap.size, 0, none⟩) 1 1 = _; simp) hB (by omega) ?_; intro v' w7 h1 h2)
       have HO7 := Lib.hid h1
       have hE7 := hE.of_below h2 (Nat.le_refl _)
       clear h1 h2 HO hE
       go_wp2
       go_roundw
       case rel =>
        have ho8 := HO7.out
        rw [← HS.out] at ho8
        have HO8 := Lib.hid ho8
        repeat apply Exists.intro
        exact ⟨⟨k + 1, by omega, by go_num, HO8, hE7⟩, rfl⟩
       case measure => simp [intOf]; omega
     · obtain rfl : k = 64 := by omega
       have hsz : w.heap.size < w2.heap.size := Ext.lt RW.out.1
       obtain ⟨b0, b1, b2, b3⟩ := RW.out.ext hE
       have ho2 := ownsRow_setCell_below (ownsRow_setCell_below HO.out (a := ⟨w.heap.size, 0, none⟩) hsz (.int .i64 0)) (a := ⟨w.heap.size, 1, none⟩) hsz (.slice none 0 0)
       go_wp2
       obtain ⟨e0, e1⟩ := res_cells (c := 0) b0 b1 (.slice none 0 0)
       exact bodyPost_ret (v := .tuple #[_, .agg #[.int .i64 0, .slice none 0 0]]) (by simp [results, Tryz.results104, go_sem, e0, e1]; rfl) rfl ⟨_, _, _, _, _, rfl, (by repeat (first | exact Ext.refl _ | assumption | refine Ext.alloc ?_ _ | refine Ext.drew ?_ | refine Ext.drewN ?_ _ | refine Ext.setCell ?_ (by first | exact Nat.le_refl _ | (simp; done) | omega) _ | refine Ext.trans ?_ (by assumption))), by rw [HP.out]; exact Ints.of_row ho2 (by omega), RErrIs.zero⟩
set_option maxHeartbeats 8000000 in
set_option maxRecDepth 20000 in
theorem rpred_3_8 (ts ls : List Int) (c : Int) (v u : Value) (w : World) (ha : Ints w v ts) (hb : Ints w u ls) (hn : ts.length = 8) (hl : ls.length = 8) (hT : ∀ j, 0 ≤ ts.getD j 0 ∧ ts.getD j 0 ≤ 255) (hL : ∀ j, 0 ≤ ls.getD j 0 ∧ ls.getD j 0 ≤ 255) (HW : Hid (within 0 255 ts)) (HU : Hid (within 0 255 ls)) (hc : 0 ≤ c ∧ c ≤ 255) :
 Calls Tryz.prog 104 #[.int .i64 3, v, u, .int .i64 c] w (RZPost w (prdL 3 ts ls c) none) := by
 have R1 := ResAt.new w
 obtain ⟨g, off, cap, rfl, -, -⟩ := ha.addr (by omega)
 obtain ⟨g', off', cap', rfl, -, -⟩ := hb.addr (by omega)
 have HM : Hid (meanOf ts ls = (8 + nbF (fun i => ts.getD i 0) (fun i => ls.getD i 0) 8) / (2 * 8)) := by show _ = _; unfold meanOf; rw [hn]; rfl
 have HP : Hid (prdL 3 ts ls c = rowL 64 (prdF 3 ts ls c)) := by show _ = _; unfold prdL; rw [hn]
 rw [hn] at ha ⊢
 rw [hl] at hb ⊢
 have HN := Lib.hid hn
 have HLL := Lib.hid hl
 have HT := Lib.hid hT
 have HL := Lib.hid hL
 have c1 : ¬ c < 0 := by omega
 have c2 : ¬ 255 < c := by omega
 clear hn hl hT hL
 go_enter Tryz.func104, Tryz.ntmps104
 go_wp2_with fail
 refine (within_any ts 0 255 _ _ (ha.ext (by repeat (first | exact Ext.refl _ | assumption | refine Ext.alloc ?_ _ | refine Ext.drew ?_ | refine Ext.drewN ?_ _ | refine Ext.setCell ?_ (by first | exact Nat.le_refl _ | (simp; done) | omega) _ | refine Ext.trans ?_ (by assumption))))).mono ?_; rintro e w1 ⟨rfl, hx1⟩
 rw [decide_eq_true HW.out]
 go_wp2_with fail
 refine (within_any ls 0 255 _ _ (hb.ext (by repeat (first | exact Ext.refl _ | assumption | refine Ext.alloc ?_ _ | refine Ext.drew ?_ | refine Ext.drewN ?_ _ | refine Ext.setCell ?_ (by first | exact Nat.le_refl _ | (simp; done) | omega) _ | refine Ext.trans ?_ (by assumption))))).mono ?_; rintro e w2 ⟨rfl, hx2⟩
 rw [decide_eq_true HU.out]
 have RW := Lib.hid (R1.ext (show Ext (w.alloc _) w2 from (by repeat (first | exact Ext.refl _ | assumption | refine Ext.alloc ?_ _ | refine Ext.drew ?_ | refine Ext.drewN ?_ _ | refine Ext.setCell ?_ (by first | exact Nat.le_refl _ | (simp; done) | omega) _ | refine Ext.trans ?_ (by assumption)))))
 have E2 : Ext w w2 := (by repeat (first | exact Ext.refl _ | assumption | refine Ext.alloc ?_ _ | refine Ext.drew ?_ | refine Ext.drewN ?_ _ | refine Ext.setCell ?_ (by first | exact Nat.le_refl _ | (simp; done) | omega) _ | refine Ext.trans ?_ (by assumption)))
 clear R1 hx1 hx2 c1 c2
 go_wp2
 go_loopw [11, 12] (fun sv iv wr => ∃ k : Nat, k ≤ 8 ∧ iv = .int .i64 k ∧ sv = .int .i64 (8 + nbF (fun i => ts.getD i 0) (fun i => ls.getD i 0) k) ∧ Ext w2 wr) (fun _ iv _ => 8 - (intOf iv).toNat)
 case atStart => exact ⟨0, Nat.zero_le _, rfl, rfl, Ext.refl _⟩
 case round =>
  obtain ⟨k, hk, rfl, rfl, hE⟩ := hrel
  by_cases hlt : k < 8
  · obtain ⟨x, hx'⟩ : ∃ x, ts.getD k 0 = x := ⟨_, rfl⟩
    obtain ⟨y, hy'⟩ : ∃ y, ls.getD k 0 = y := ⟨_, rfl⟩
    have cx := hE.cell (E2.cell (ha.at (get_of_lt (by rw [HN.out]; exact hlt))))
    have cy := hE.cell (E2.cell (hb.at (get_of_lt (by rw [HLL.out]; exact hlt))))
    have bx := HT.out k
    have by' := HL.out k
    have b0 := nbF_bound HT.out HL.out k
    have HS : Hid (nbF (fun i => ts.getD i 0) (fun i => ls.getD i 0) (k + 1) = nbF (fun i => ts.getD i 0) (fun i => ls.getD i 0) k + (x + y)) := by show _ = _; rw [← hx', ← hy']; rfl
    rw [hx'] at cx bx
    rw [hy'] at cy by'
    clear hx' hy'
    revert b0 HS
    generalize nbF (fun i => ts.getD i 0) (fun i => ls.getD i 0) k = s
    intro b0 HS
    have e1 : IntKind.i64.wrap (8 + s + x) = 8 + s + x := by rw [IntKind.wrap_i64]; omega
    have e2 : IntKind.i64.wrap (8 + s + x + y) = 8 + s + x + y := by rw [IntKind.wrap_i64]; omega
    go_wp2
    go_quiet (fail)
    go_wp2
    go_roundw
    case rel => exact ⟨k + 1, by omega, by go_num, by rw [HS.out]; congr 1; omega, hE.drewN _⟩
    case measure => simp [intOf]; omega
  · obtain rfl : k = 8 := by omega
    have b0 := nbF_bound HT.out HL.out 8
    revert b0 HM
    generalize nbF (fun i => ts.getD i 0) (fun i => ls.getD i 0) 8 = s
    intro HM b0
    obtain ⟨mean, hmean⟩ : ∃ mean, (8 + s) / (2 * 8) = mean := ⟨_, rfl⟩
    have hmd : (8 + s) / 16 = mean := hmean
    have HMN : Hid (meanOf ts ls = mean) := by show _ = _; rw [HM.out, hmean]
    have hE0 := hE
    clear hmean HM hE
    go_wp2
    go_loopw [13, 14] (fun ov kv wr => ∃ k : Nat, k ≤ 64 ∧ kv = .int .i64 k ∧ Hid (wr.ownsRow w2.heap.size 3 1 ov k ((rowL k (prdF 3 ts ls c)).map (Value.int .i64))) ∧ Ext w2 wr) (fun _ kv _ => 64 - (intOf kv).toNat)
    case atStart => exact ⟨0, Nat.zero_le _, rfl, World.ownsRow_nil _ _ _ _, hE0⟩
    case round =>
     clear hE0
     obtain ⟨k, hk, rfl, HO, hE⟩ := hrel
     by_cases hlt : k < 64
     · obtain ⟨p, hp⟩ : ∃ p, k % 8 = p := ⟨_, rfl⟩
       obtain ⟨q, hq⟩ : ∃ q, k / 8 = q := ⟨_, rfl⟩
       have p1 : p < 8 := by omega
       have q1 : q < 8 := by omega
       obtain ⟨x, hx'⟩ : ∃ x, ts.getD p 0 = x := ⟨_, rfl⟩
       obtain ⟨y, hy'⟩ : ∃ y, ls.getD q 0 = y := ⟨_, rfl⟩
       have cx := hE.cell (E2.cell (ha.at (get_of_lt (by rw [HN.out]; exact p1))))
       have cy := hE.cell (E2.cell (hb.at (get_of_lt (by rw [HLL.out]; exact q1))))
       have bx := HT.out p
       have by' := HL.out q
       rw [hx'] at cx bx
       rw [hy'] at cy by'
       obtain ⟨z, hz⟩ : ∃ z, clipI (y + x - c) = z := ⟨_, rfl⟩
       have HC : Hid (∀ W, Calls Tryz.prog 100 #[.int .i64 (y + x - c)] W fun e w' => e = .returned (.int .i64 z) ∧ W = w') := fun W => by rw [← hz]; exact rclip_any _ W
       have HS : Hid ((rowL (k + 1) (prdF 3 ts ls c)).map (Value.int .i64) = (rowL k (prdF 3 ts ls c)).map (Value.int .i64) ++ [.int .i64 z]) := by
        show _ = _
        rw [rowL_succi, List.map_append]
        have e3 : prdF 3 ts ls c k = z := by
         unfold prdF
         rw [HN.out, hp, hq, hx', hy', hz, HMN.out]
         rfl
        rw [e3]
        rfl
       have k1 : (k : Int) % 8 = (p : Int) := by omega
       have k2 : (k : Int) / 8 = (q : Int) := by omega
       have k3 : Int.tmod (k : Int) 8 = (p : Int) := by rw [Int.tmod_eq_emod_of_nonneg (by omega)]; exact k1
       have k4 : Int.tdiv (k : Int) 8 = (q : Int) := by rw [Int.tdiv_eq_ediv_of_nonneg (by omega)]; exact k2
       have d1 : IntKind.i64.wrap (p : Int) = (p : Int) := by rw [IntKind.wrap_i64]; omega
       have d2 : IntKind.i64.wrap (q : Int) = (q : Int) := by rw [IntKind.wrap_i64]; omega
       have d3 : (0 : Int) ≤ (p : Int) ∧ (p : Int) < 8 := by omega
       have d4 : (0 : Int) ≤ (q : Int) ∧ (q : Int) < 8 := by omega
       clear hx' hy' hz hp hq
       go_wp2
       go_quiet (fail)
       have HOq := (show ∀ n, Hid ((wr.drewN n).ownsRow _ _ _ _ _ _) from fun n => HO) nq
       have hEq := hE.drewN nq
       clear HO hE cx cy
       revert HOq hEq
       generalize wr.drewN nq = wq
       intro HO hE
       have hB := hE.size
       go_wp2_with fail
       refine (HC.out _).mono ?_; rintro e w8 ⟨rfl, rfl⟩
       go_wp2_with (at_builtin; refine push_int rfl _ _ 22 rfl Tryz.underlying22 _ _ _ _ rfl HO.out (by show Value.slice (some ⟨wq.heap.size, 0, none⟩) 1 1 = _; simp) hB (by omega) ?_; intro v' w7 h1 h2)
       have HO7 := Lib.hid h1
       have hE7 := hE.of_below h2 (Nat.le_refl _)
       clear h1 h2 HO hE
       go_wp2
       go_roundw
       case rel =>
        have ho8 := HO7.out
        rw [← HS.out] at ho8
        have HO8 := Lib.hid ho8
        repeat apply Exists.intro
        exact ⟨⟨k + 1, by omega, by go_num, HO8, hE7⟩, rfl⟩
       case measure => simp [intOf]; omega
     · obtain rfl : k = 64 := by omega
       have hsz : w.heap.size < w2.heap.size := Ext.lt RW.out.1
       obtain ⟨b0, b1, b2, b3⟩ := RW.out.ext hE
       have ho2 := ownsRow_setCell_below (ownsRow_setCell_below HO.out (a := ⟨w.heap.size, 0, none⟩) hsz (.int .i64 0)) (a := ⟨w.heap.size, 1, none⟩) hsz (.slice none 0 0)
       go_wp2
       obtain ⟨e0, e1⟩ := res_cells (c := 0) b0 b1 (.slice none 0 0)
       exact bodyPost_ret (v := .tuple #[_, .agg #[.int .i64 0, .slice none 0 0]]) (by simp [results, Tryz.results104, go_sem, e0, e1]; rfl) rfl ⟨_, _, _, _, _, rfl, (by repeat (first | exact Ext.refl _ | assumption | refine Ext.alloc ?_ _ | refine Ext.drew ?_ | refine Ext.drewN ?_ _ | refine Ext.setCell ?_ (by first | exact Nat.le_refl _ | (simp; done) | omega) _ | refine Ext.trans ?_ (by assumption))), by rw [HP.out]; exact Ints.of_row ho2 (by omega), RErrIs.zero⟩
theorem within_smp {zs : List Int} : within 0 255 zs ↔ zs.any nosmpB = false := by
 constructor
 · intro h
   refine any_no (fun j x _ hx => ?_)
   have := h.at hx
   unfold nosmpB
   simp
   omega
 · intro h x hx
   cases hp : nosmpB x with
   | false => exact nosmp_false hp
   | true => rw [List.any_eq_true.2 ⟨x, hx, hp⟩] at h; cases h
theorem within_smp_no {zs : List Int} (h : ¬ within 0 255 zs) : zs.any nosmpB = true := by
 cases hx : zs.any nosmpB with
 | true => rfl
 | false => exact absurd (within_smp.2 hx) h
theorem RPredict_any (mo : Int) (ts ls : List Int) (c : Int) (v u : Value) (w : World) (ha : Ints w v ts) (hb : Ints w u ls) :
 Calls Tryz.prog 104 #[.int .i64 mo, v, u, .int .i64 c] w (RZPost w (prdV mo ts ls c) (prdAns mo ts ls c)) := by
 have hV : ∀ k, prdAns mo ts ls c = some k → prdV mo ts ls c = [] := fun k h => by unfold prdV; rw [h]
 obtain ⟨a, ca, rfl⟩ := ha.form
 obtain ⟨b, cb, rfl⟩ := hb.form
 by_cases h1 : mo < 0
 · have HA : prdAns mo ts ls c = some ([], 13) := by unfold prdAns; rw [if_pos (Or.inl h1)]; rfl
   rw [HA, hV _ HA]
   exact rpred_lo mo c ts ls a b _ _ ca cb w ha hb h1
 by_cases h2 : 3 < mo
 · have HA : prdAns mo ts ls c = some ([], 13) := by unfold prdAns; rw [if_pos (Or.inr (by omega))]; rfl
   rw [HA, hV _ HA]
   exact rpred_hi mo c ts ls a b _ _ ca cb w ha hb h1 h2
 have HA : prdAns mo ts ls c = chkAns ts ls c := by unfold prdAns; rw [if_neg (by omega)]
 by_cases hn : ts.length = 4 ∨ ts.length = 8
 · have hs : sdB ts.length = true := by rcases hn with h | h <;> rw [h] <;> rfl
   by_cases hl : ls.length = ts.length
   · have hR : (ts.any nosmpB = true ∨ ls.any nosmpB = true ∨ nosmpB c = true) → prdAns mo ts ls c = some ([], 3) := fun h => by
      rw [HA]; unfold chkAns; rw [if_pos ⟨hs, hl⟩, if_pos h]; rfl
     by_cases hw : within 0 255 ts
     · by_cases hu : within 0 255 ls
       · by_cases hc1 : c < 0
         · have HB := hR (Or.inr (Or.inr (by unfold nosmpB; simp; omega)))
           rw [HB, hV _ HB]
           rcases hn with h | h
           · rw [h] at ha hl ⊢
             rw [hl] at hb ⊢
             exact rpred_cl4 mo c ts ls a b 0 0 ca cb w ha hb h1 h2 hw hu hc1
           · rw [h] at ha hl ⊢
             rw [hl] at hb ⊢
             exact rpred_cl8 mo c ts ls a b 0 0 ca cb w ha hb h1 h2 hw hu hc1
         by_cases hc2 : 255 < c
         · have HB := hR (Or.inr (Or.inr (by unfold nosmpB; simp; omega)))
           rw [HB, hV _ HB]
           rcases hn with h | h
           · rw [h] at ha hl ⊢
             rw [hl] at hb ⊢
             exact rpred_ch4 mo c ts ls a b 0 0 ca cb w ha hb h1 h2 hw hu hc1 hc2
           · rw [h] at ha hl ⊢
             rw [hl] at hb ⊢
             exact rpred_ch8 mo c ts ls a b 0 0 ca cb w ha hb h1 h2 hw hu hc1 hc2
         have hN : chkAns ts ls c = none := by
          unfold chkAns
          rw [if_pos ⟨hs, hl⟩, if_neg]
          rintro (e | e | e)
          · rw [within_smp.1 hw] at e; cases e
          · rw [within_smp.1 hu] at e; cases e
          · unfold nosmpB at e; simp at e; omega
         have HB : prdAns mo ts ls c = none := by rw [HA, hN]
         have HV : prdV mo ts ls c = prdL mo ts ls c := by unfold prdV; rw [HB]
         rw [HB, HV]
         obtain ⟨-, -, k1, k2, k3⟩ := chkAns_none hN
         rcases hn with h | h
         · rcases (by omega : mo = 0 ∨ mo = 1 ∨ mo = 2 ∨ mo = 3) with rfl | rfl | rfl | rfl
           · exact rpred_0_4 ts ls c _ _ w ha hb h (by omega) k1 k2 hw hu k3
           · exact rpred_1_4 ts ls c _ _ w ha hb h (by omega) k1 k2 hw hu k3
           · exact rpred_2_4 ts ls c _ _ w ha hb h (by omega) k1 k2 hw hu k3
           · exact rpred_3_4 ts ls c _ _ w ha hb h (by omega) k1 k2 hw hu k3
         · rcases (by omega : mo = 0 ∨ mo = 1 ∨ mo = 2 ∨ mo = 3) with rfl | rfl | rfl | rfl
           · exact rpred_0_8 ts ls c _ _ w ha hb h (by omega) k1 k2 hw hu k3
           · exact rpred_1_8 ts ls c _ _ w ha hb h (by omega) k1 k2 hw hu k3
           · exact rpred_2_8 ts ls c _ _ w ha hb h (by omega) k1 k2 hw hu k3
           · exact rpred_3_8 ts ls c _ _ w ha hb h (by omega) k1 k2 hw hu k3
       · have HB := hR (Or.inr (Or.inl (within_smp_no hu)))
         rw [HB, hV _ HB]
         rcases hn with h | h
         · rw [h] at ha hl ⊢
           rw [hl] at hb ⊢
           exact rpred_s4 mo c ts ls a b 0 0 ca cb w ha hb h1 h2 hw hu
         · rw [h] at ha hl ⊢
           rw [hl] at hb ⊢
           exact rpred_s8 mo c ts ls a b 0 0 ca cb w ha hb h1 h2 hw hu
     · have HB := hR (Or.inl (within_smp_no hw))
       rw [HB, hV _ HB]
       rcases hn with h | h
       · rw [h] at ha hl ⊢
         rw [hl] at hb ⊢
         exact rpred_t4 mo c ts ls a b 0 0 ca cb w ha hb h1 h2 hw
       · rw [h] at ha hl ⊢
         rw [hl] at hb ⊢
         exact rpred_t8 mo c ts ls a b 0 0 ca cb w ha hb h1 h2 hw
   · have HB : prdAns mo ts ls c = some ([], 14) := by rw [HA]; unfold chkAns; rw [if_neg (fun e => hl e.2)]; rfl
     rw [HB, hV _ HB]
     rcases hn with h | h
     · have b1 : ((ls.length : Int) != 4) = true := by simp; omega
       rw [h] at ha ⊢
       exact rpred_l4 mo c ts ls a b 0 _ ca cb w ha hb h1 h2 b1
     · have b1 : ((ls.length : Int) != 8) = true := by simp; omega
       rw [h] at ha ⊢
       exact rpred_l8 mo c ts ls a b 0 _ ca cb w ha hb h1 h2 b1
 · have hs : sdB ts.length = false := by unfold sdB; simp; omega
   have HB : prdAns mo ts ls c = some ([], 14) := by rw [HA]; unfold chkAns; rw [if_neg (fun e => by rw [hs] at e; cases e.1)]; rfl
   rw [HB, hV _ HB]
   have b1 : ((ts.length : Int) != 4) = true := by simp; omega
   have b2 : ((ts.length : Int) != 8) = true := by simp; omega
   exact rpred_n mo c ts ls a b _ _ ca cb w ha hb h1 h2 b1 b2
end Go.Proofs.YtcekpngkfldgkaaGreatDoor