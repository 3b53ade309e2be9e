/- quant.Step, Bound, Level, Value: contracts over this seat's translation. -/
import Derived.Test.YtckhilnjkckabaaDoorFail
namespace Go.Proofs.YtckhilnjkckabaaDoor
set_option linter.unusedVariables false
set_option linter.unusedSimpArgs false
open Go.RowKit Go.Extern.Stop Go.Stop Go.Extern

def stepOf : Int → Int
  | 0 => 1 | 1 => 2 | 2 => 4 | 3 => 6 | 4 => 8 | 5 => 12 | 6 => 16 | 7 => 24 | 8 => 32 | 9 => 48 | 10 => 64 | 11 => 96 | 12 => 128 | 13 => 192 | 14 => 256 | 15 => 384
  | _ => 0
def okQ (qp : Int) : Prop := 0 ≤ qp ∧ qp ≤ 15
theorem stepOf_ok {qp : Int} (h : okQ qp) : 1 ≤ stepOf qp ∧ stepOf qp ≤ 384 := by
  obtain ⟨h0, h1⟩ := h
  have : qp = 0 ∨ qp = 1 ∨ qp = 2 ∨ qp = 3 ∨ qp = 4 ∨ qp = 5 ∨ qp = 6 ∨ qp = 7 ∨ qp = 8 ∨ qp = 9 ∨ qp = 10 ∨ qp = 11 ∨ qp = 12 ∨ qp = 13 ∨ qp = 14 ∨ qp = 15 := by omega
  rcases this with h | h | h | h | h | h | h | h | h | h | h | h | h | h | h | h <;> subst h <;> decide

theorem step_ok (qp : Int) (w : World) (h : okQ qp) :
    Calls Tryd.prog 30 #[.int .i64 qp] w fun e w' => e = .returned (.tuple #[.int .i64 (stepOf qp), .nilIface]) ∧ w = w' := by
  obtain ⟨h0, h1⟩ := h
  have : qp = 0 ∨ qp = 1 ∨ qp = 2 ∨ qp = 3 ∨ qp = 4 ∨ qp = 5 ∨ qp = 6 ∨ qp = 7 ∨ qp = 8 ∨ qp = 9 ∨ qp = 10 ∨ qp = 11 ∨ qp = 12 ∨ qp = 13 ∨ qp = 14 ∨ qp = 15 := by omega
  clear h0 h1
  go_enter Tryd.func30, Tryd.ntmps30
  rcases this with h | h | h | h | h | h | h | h | h | h | h | h | h | h | h | h <;> subst h <;> go_wp2 <;> go_ret2 <;> exact ⟨rfl, rfl⟩
theorem step_no (qp : Int) (w : World) (h : ¬ okQ qp) :
    Calls Tryd.prog 30 #[.int .i64 qp] w fun e w' => e = .returned (.tuple #[.int .i64 0, .iface 32 (.int .i64 3)]) ∧ w = w' := by
  have n0 : (qp == 0) = false := by simp; rintro rfl; exact h ⟨by omega, by omega⟩
  have n1 : (qp == 1) = false := by simp; rintro rfl; exact h ⟨by omega, by omega⟩
  have n2 : (qp == 2) = false := by simp; rintro rfl; exact h ⟨by omega, by omega⟩
  have n3 : (qp == 3) = false := by simp; rintro rfl; exact h ⟨by omega, by omega⟩
  have n4 : (qp == 4) = false := by simp; rintro rfl; exact h ⟨by omega, by omega⟩
  have n5 : (qp == 5) = false := by simp; rintro rfl; exact h ⟨by omega, by omega⟩
  have n6 : (qp == 6) = false := by simp; rintro rfl; exact h ⟨by omega, by omega⟩
  have n7 : (qp == 7) = false := by simp; rintro rfl; exact h ⟨by omega, by omega⟩
  have n8 : (qp == 8) = false := by simp; rintro rfl; exact h ⟨by omega, by omega⟩
  have n9 : (qp == 9) = false := by simp; rintro rfl; exact h ⟨by omega, by omega⟩
  have n10 : (qp == 10) = false := by simp; rintro rfl; exact h ⟨by omega, by omega⟩
  have n11 : (qp == 11) = false := by simp; rintro rfl; exact h ⟨by omega, by omega⟩
  have n12 : (qp == 12) = false := by simp; rintro rfl; exact h ⟨by omega, by omega⟩
  have n13 : (qp == 13) = false := by simp; rintro rfl; exact h ⟨by omega, by omega⟩
  have n14 : (qp == 14) = false := by simp; rintro rfl; exact h ⟨by omega, by omega⟩
  have n15 : (qp == 15) = false := by simp; rintro rfl; exact h ⟨by omega, by omega⟩
  clear h
  go_enter Tryd.func30, Tryd.ntmps30
  go_wp2
  go_ret2
  exact ⟨rfl, rfl⟩

theorem bound_ok (qp : Int) (w : World) (h : okQ qp) :
    Calls Tryd.prog 31 #[.int .i64 qp] w fun e w' => e = .returned (.tuple #[.int .i64 (stepOf qp / 2), .nilIface]) ∧ w = w' := by
  obtain ⟨s0, s1⟩ := stepOf_ok h
  go_enter Tryd.func31, Tryd.ntmps31
  go_wp2_with (go_at_call 30; refine (step_ok _ _ h).mono ?_; rintro e w' ⟨rfl, rfl⟩)
  go_ret2
  exact ⟨rfl, rfl⟩
theorem bound_no (qp : Int) (w : World) (h : ¬ okQ qp) :
    Calls Tryd.prog 31 #[.int .i64 qp] w fun e w' => e = .returned (.tuple #[.int .i64 0, .iface 32 (.int .i64 3)]) ∧ w = w' := by
  have H := Lib.hid h
  clear h
  go_enter Tryd.func31, Tryd.ntmps31
  go_wp2_with (go_at_call 30; refine (step_no _ _ H.out).mono ?_; rintro e w' ⟨rfl, rfl⟩)
  go_ret2
  exact ⟨rfl, rfl⟩

def okC (c : Int) : Prop := -16777216 ≤ c ∧ c ≤ 16777216
def levelOf (c qp : Int) : Int := if c < 0 then -((-c + stepOf qp / 2) / stepOf qp) else (c + stepOf qp / 2) / stepOf qp
set_option maxRecDepth 20000 in
theorem level_ok (c qp : Int) (w : World) (hc : okC c) (h : okQ qp) :
    Calls Tryd.prog 32 #[.int .i64 c, .int .i64 qp] w fun e w' => e = .returned (.tuple #[.int .i64 (levelOf c qp), .nilIface]) ∧ w = w' := by
  obtain ⟨s0, s1⟩ := stepOf_ok h
  obtain ⟨c0, c1⟩ := hc
  by_cases hn : c < 0
  · have hl : levelOf c qp = -((-c + stepOf qp / 2) / stepOf qp) := if_pos hn
    have HL := Lib.hid hl
    clear hl
    have d0 : 0 ≤ (-c + stepOf qp / 2) / stepOf qp := Int.ediv_nonneg (by omega) (by omega)
    have d1 : (-c + stepOf qp / 2) / stepOf qp ≤ 16777408 := Int.le_trans (Int.ediv_le_self _ (by omega)) (by omega)
    go_enter Tryd.func32, Tryd.ntmps32
    go_wp2_with (go_at_call 30; refine (step_ok _ _ h).mono ?_; rintro e w' ⟨rfl, rfl⟩)
    go_ret2
    exact ⟨by rw [HL.out]; rfl, rfl⟩
  · have hl : levelOf c qp = (c + stepOf qp / 2) / stepOf qp := if_neg hn
    have HL := Lib.hid hl
    clear hl
    go_enter Tryd.func32, Tryd.ntmps32
    go_wp2_with (go_at_call 30; refine (step_ok _ _ h).mono ?_; rintro e w' ⟨rfl, rfl⟩)
    go_ret2
    exact ⟨by rw [HL.out]; rfl, rfl⟩
set_option maxRecDepth 20000 in
theorem level_noQ (c qp : Int) (w : World) (h : ¬ okQ qp) :
    Calls Tryd.prog 32 #[.int .i64 c, .int .i64 qp] w fun e w' => e = .returned (.tuple #[.int .i64 0, .iface 32 (.int .i64 3)]) ∧ w = w' := by
  have H := Lib.hid h
  clear h
  go_enter Tryd.func32, Tryd.ntmps32
  go_wp2_with (go_at_call 30; refine (step_no _ _ H.out).mono ?_; rintro e w' ⟨rfl, rfl⟩)
  go_ret2
  exact ⟨rfl, rfl⟩
set_option maxRecDepth 20000 in
theorem level_noC (c qp : Int) (w : World) (hc : ¬ okC c) (h : okQ qp) :
    Calls Tryd.prog 32 #[.int .i64 c, .int .i64 qp] w fun e w' => e = .returned (.tuple #[.int .i64 0, .iface 32 (.int .i64 3)]) ∧ w = w' := by
  obtain ⟨s0, s1⟩ := stepOf_ok h
  have hc' : c < -16777216 ∨ 16777216 < c := by unfold okC at hc; omega
  clear hc
  rcases hc' with hc | hc
  · go_enter Tryd.func32, Tryd.ntmps32
    go_wp2_with (go_at_call 30; refine (step_ok _ _ h).mono ?_; rintro e w' ⟨rfl, rfl⟩)
    go_ret2
    exact ⟨rfl, rfl⟩
  · go_enter Tryd.func32, Tryd.ntmps32
    go_wp2_with (go_at_call 30; refine (step_ok _ _ h).mono ?_; rintro e w' ⟨rfl, rfl⟩)
    go_ret2
    exact ⟨rfl, rfl⟩

def okL (l : Int) : Prop := -16320 ≤ l ∧ l ≤ 16320
set_option maxRecDepth 20000 in
theorem value_ok (l qp : Int) (w : World) (hl : okL l) (h : okQ qp) :
    Calls Tryd.prog 33 #[.int .i64 l, .int .i64 qp] w fun e w' => e = .returned (.tuple #[.int .i64 (l * stepOf qp), .nilIface]) ∧ w = w' := by
  obtain ⟨s0, s1⟩ := stepOf_ok h
  obtain ⟨c0, c1⟩ := hl
  have m0 : -6266880 ≤ l * stepOf qp ∧ l * stepOf qp ≤ 6266880 := by
    have a := Int.mul_le_mul_of_nonneg_right c1 (show 0 ≤ stepOf qp by omega)
    have b := Int.mul_le_mul_of_nonneg_right c0 (show 0 ≤ stepOf qp by omega)
    omega
  obtain ⟨m1, m2⟩ := m0
  go_enter Tryd.func33, Tryd.ntmps33
  go_wp2_with (go_at_call 30; refine (step_ok _ _ h).mono ?_; rintro e w' ⟨rfl, rfl⟩)
  go_ret2
  exact ⟨rfl, rfl⟩
set_option maxRecDepth 20000 in
theorem value_noQ (l qp : Int) (w : World) (h : ¬ okQ qp) :
    Calls Tryd.prog 33 #[.int .i64 l, .int .i64 qp] w fun e w' => e = .returned (.tuple #[.int .i64 0, .iface 32 (.int .i64 3)]) ∧ w = w' := by
  have H := Lib.hid h
  clear h
  go_enter Tryd.func33, Tryd.ntmps33
  go_wp2_with (go_at_call 30; refine (step_no _ _ H.out).mono ?_; rintro e w' ⟨rfl, rfl⟩)
  go_ret2
  exact ⟨rfl, rfl⟩
set_option maxRecDepth 20000 in
theorem value_noL (l qp : Int) (w : World) (hl : ¬ okL l) (h : okQ qp) :
    Calls Tryd.prog 33 #[.int .i64 l, .int .i64 qp] w fun e w' => e = .returned (.tuple #[.int .i64 0, .iface 32 (.int .i64 3)]) ∧ w = w' := by
  obtain ⟨s0, s1⟩ := stepOf_ok h
  have hc' : l < -16320 ∨ 16320 < l := by unfold okL at hl; omega
  clear hl
  rcases hc' with hc | hc
  · go_enter Tryd.func33, Tryd.ntmps33
    go_wp2_with (go_at_call 30; refine (step_ok _ _ h).mono ?_; rintro e w' ⟨rfl, rfl⟩)
    go_ret2
    exact ⟨rfl, rfl⟩
  · go_enter Tryd.func33, Tryd.ntmps33
    go_wp2_with (go_at_call 30; refine (step_ok _ _ h).mono ?_; rintro e w' ⟨rfl, rfl⟩)
    go_ret2
    exact ⟨rfl, rfl⟩

theorem step3 (w : World) : Calls Tryd.prog 30 #[.int .i64 3] w fun e w' => e = .returned (.tuple #[.int .i64 6, .nilIface]) ∧ w = w' := step_ok 3 w (by unfold okQ; decide)
theorem step16 (w : World) : Calls Tryd.prog 30 #[.int .i64 16] w fun e w' => e = .returned (.tuple #[.int .i64 0, .iface 32 (.int .i64 3)]) ∧ w = w' := step_no 16 w (by unfold okQ; decide)
theorem bound3 (w : World) : Calls Tryd.prog 31 #[.int .i64 3] w fun e w' => e = .returned (.tuple #[.int .i64 3, .nilIface]) ∧ w = w' := bound_ok 3 w (by unfold okQ; decide)
theorem level93 (w : World) : Calls Tryd.prog 32 #[.int .i64 (-9), .int .i64 3] w fun e w' => e = .returned (.tuple #[.int .i64 (-2), .nilIface]) ∧ w = w' := level_ok (-9) 3 w (by unfold okC; decide) (by unfold okQ; decide)
theorem value23 (w : World) : Calls Tryd.prog 33 #[.int .i64 2, .int .i64 3] w fun e w' => e = .returned (.tuple #[.int .i64 12, .nilIface]) ∧ w = w' := value_ok 2 3 w (by unfold okL; decide) (by unfold okQ; decide)

set_option maxRecDepth 20000 in
/-- kinlaw9.first -/
theorem first_any (w : World) (hg : EtIs w) :
    Calls Tryd.prog 16 #[] w fun e w' => e = .returned (.bool true) ∧ Ext w w' := by
  go_enter Tryd.func16, Tryd.ntmps16
  go_wp2_with fail
  refine (step3 _).mono ?_; rintro e w' ⟨rfl, rfl⟩
  go_wp2_with fail
  refine (bound3 _).mono ?_; rintro e w' ⟨rfl, rfl⟩
  go_wp2_with fail
  refine (level93 _).mono ?_; rintro e w' ⟨rfl, rfl⟩
  go_wp2_with fail
  refine (value23 _).mono ?_; rintro e w' ⟨rfl, rfl⟩
  go_wp2_with fail
  refine (step16 _).mono ?_; rintro e w' ⟨rfl, rfl⟩
  go_wp2_with fail
  refine (fail_any 3 _).mono ?_; rintro e w1 ⟨rfl, hx1⟩
  go_wp2_with fail
  refine (same_err [] 3 _ _ _ (hg.ext hx1) rfl (Row.nil _) (by decide) (by simp)).mono ?_; rintro e w2 ⟨rfl, hx2⟩
  go_wp2_with fail
  go_ret
  exact ⟨rfl, hx1.trans hx2⟩
end Go.Proofs.YtckhilnjkckabaaDoor
