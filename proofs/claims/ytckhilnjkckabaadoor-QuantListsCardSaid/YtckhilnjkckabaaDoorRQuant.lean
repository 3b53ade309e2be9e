/- kinref9.Step, Bound, Level, Value: contracts over this seat's translation. -/
import Derived.Test.YtckhilnjkckabaaDoorQuant
import Derived.Test.YtckhilnjkckabaaDoorRes
namespace Go.Proofs.YtckhilnjkckabaaDoor
set_option linter.unusedVariables false
set_option linter.unusedSimpArgs false
open Go.RowKit Go.Extern.Stop Go.Stop Go.Extern

set_option maxRecDepth 20000 in
theorem rstep_no (qp : Int) (w : World) (h : ¬ okQ qp) :
    Calls Tryd.prog 35 #[.int .i64 qp] w fun e w' => e = .returned (.tuple #[.int .i64 0, .agg #[.int .i64 3, .slice none 0 0]]) ∧ Ext w w' := by
  have hq : qp < 0 ∨ 15 < qp := by unfold okQ at h; omega
  clear h
  rcases hq with hq | hq
  all_goals
    go_enter Tryd.func35, Tryd.ntmps35
    go_wp2_with fail
    refine (fail_any 3 _).mono ?_; rintro e w1 ⟨rfl, hx1⟩
    obtain ⟨r0, r1, f0, f1⟩ := (ResAt.new w).ext hx1
    go_wp2
    obtain ⟨e0, e1⟩ := res_cells (c := 3) r0 r1 (.slice none 0 0)
    exact bodyPost_ret (v := .tuple #[.int .i64 0, .agg #[.int .i64 3, .slice none 0 0]]) (by simp [results, Tryd.results35, go_sem, e0, e1]) rfl ⟨rfl, ((((Ext.refl w).alloc _).trans hx1).setCell (by simp) _).setCell (by simp) _⟩
set_option maxRecDepth 20000 in
set_option maxHeartbeats 2000000 in
theorem rstep_ok (qp : Int) (w : World) (h : okQ qp) :
    Calls Tryd.prog 35 #[.int .i64 qp] w fun e w' => e = .returned (.tuple #[.int .i64 (stepOf qp), .agg #[.int .i64 0, .slice none 0 0]]) ∧ Ext w w' := by
  obtain ⟨h0, h1⟩ := h
  have : qp = 0 ∨ qp = 1 ∨ qp = 2 ∨ qp = 3 ∨ qp = 4 ∨ qp = 5 ∨ qp = 6 ∨ qp = 7 ∨ qp = 8 ∨ qp = 9 ∨ qp = 10 ∨ qp = 11 ∨ qp = 12 ∨ qp = 13 ∨ qp = 14 ∨ qp = 15 := by omega
  clear h0 h1
  rcases this with h | h | h | h | h | h | h | h | h | h | h | h | h | h | h | h
  all_goals
    subst h
    go_enter Tryd.func35, Tryd.ntmps35
    go_wp2
    exact bodyPost_ret (v := .tuple #[.int .i64 (stepOf _), .agg #[.int .i64 0, .slice none 0 0]]) (by simp [results, Tryd.results35, go_sem, stepOf]) rfl ⟨rfl, ((Ext.refl w).alloc _).alloc _⟩

end Go.Proofs.YtckhilnjkckabaaDoor
