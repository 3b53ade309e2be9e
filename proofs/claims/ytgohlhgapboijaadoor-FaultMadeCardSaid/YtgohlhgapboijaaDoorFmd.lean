/- kinlaw1.FaultMade: the walk. -/
import Derived.Test.YtgohlhgapboijaaDoorErN
namespace Go.Proofs.YtgohlhgapboijaaDoor
set_option linter.unusedVariables false
set_option linter.unusedSimpArgs false
open Go.RowKit Go.Extern.Stop Go.Stop Go.Extern

set_option maxHeartbeats 4000000 in
set_option maxRecDepth 100000 in
theorem made_law (s : ByteArray) (n c : Int) (some' : Bool) (w : World) (hg : EtIs w) (hT : PwIs w) :
    Calls Tryd.prog 7 #[.string s, .int .i64 n, .int .i64 c, .bool some'] w fun e w' => e = .returned (.bool true) ∧ Ext w w' := by
  have HG := Lib.hid hg
  have HT := Lib.hid hT
  clear hg hT
  by_cases hl : 20000 < s.size
  · have hl' : (20000 : Int) < (s.size : Int) := by omega
    go_enter Tryd.func7, Tryd.ntmps7
    go_wp2_with fail
    refine (first1_any _ HG.out HT.out).mono ?_; rintro e w1 ⟨rfl, x1⟩
    go_wp2_with fail
    refine (first1_any _ (HG.out.ext x1) (HT.out.ext x1)).mono ?_; rintro e w2 ⟨rfl, x2⟩
    go_wp2
    go_ret
    exact ⟨rfl, x1.trans x2⟩
  have hl' : ¬ (20000 : Int) < (s.size : Int) := by omega
  cases some' with
  | true =>
    go_enter Tryd.func7, Tryd.ntmps7
    go_wp2_with fail
    refine (first1_any _ HG.out HT.out).mono ?_; rintro e w1 ⟨rfl, x1⟩
    have HX1 := Lib.hid x1
    clear x1
    go_wp2_with fail
    have HX2 := Lib.hid (HX1.out.alloc (.cells #[.string s, .int .i64 n, .iface 23 (.int .i64 c)] 42))
    have c0 : (w1.alloc (.cells #[.string s, .int .i64 n, .iface 23 (.int .i64 c)] 42)).cell? ⟨w1.heap.size, 0, none⟩ = some (.string s) := by simp
    have c1 : (w1.alloc (.cells #[.string s, .int .i64 n, .iface 23 (.int .i64 c)] 42)).cell? ⟨w1.heap.size, 1, none⟩ = some (.int .i64 n) := by simp
    have c2 : (w1.alloc (.cells #[.string s, .int .i64 n, .iface 23 (.int .i64 c)] 42)).cell? ⟨w1.heap.size, 2, none⟩ = some (.iface 23 (.int .i64 c)) := by simp
    revert HX2 c0 c1 c2
    generalize w1.alloc _ = w2
    generalize w1.heap.size = b
    intro HX2 c0 c1 c2
    have HI2 : Hid (IsErr w2 [(s, n)] c (.iface 38 (.pointer (some ⟨b, 0, none⟩)))) := ⟨b, _, rfl, c0, c1, c2, rfl⟩
    refine (unwrap_any b _ _ c2).mono ?_; rintro e w3 ⟨rfl, rfl⟩
    go_wp2_with fail
    refine (path_err [(s, n)] c _ _ (HG.out.ext HX2.out) HI2.out (by simp)).mono ?_; rintro e w4 ⟨u4, rfl, x4, o4⟩
    have HX4 := Lib.hid (HX2.out.trans x4)
    have HR4 := Lib.hid (Row.of_owns o4)
    obtain ⟨ua, uc, rfl⟩ := HR4.out.form
    have d2 := x4.cell c2
    have HI4 := Lib.hid (HI2.out.ext x4)
    clear x4 o4 c0 c1 c2
    go_wp2_with fail
    refine (of_err [(s, n)] c _ _ (HG.out.ext HX4.out) HI4.out).mono ?_; rintro e w5 ⟨rfl, x5⟩
    have HX5 := Lib.hid (HX4.out.trans x5)
    have HR5 := Lib.hid (HR4.out.ext x5)
    clear x5 HX4 HR4 HI4 d2
    go_wp2_with fail
    refine (first1_any _ (HG.out.ext HX5.out) (HT.out.ext HX5.out)).mono ?_; rintro e w6 ⟨rfl, x6⟩
    have HX6 := Lib.hid (HX5.out.trans x6)
    have HR6 := Lib.hid (HR5.out.ext x6)
    obtain ⟨g, off, hua⟩ : ∃ g off, ua = some ⟨g, off, none⟩ := by
      obtain ⟨a', cap', e', -, -, h3, -⟩ := HR6.out
      simp only [Value.slice.injEq, true_and] at e'
      obtain ⟨g, off, h4⟩ := h3 (by simp)
      exact ⟨g, off, e'.1.trans h4⟩
    subst hua
    have q0 := HR6.out.at (j := 0) (u := .string s) rfl
    have q1 := HR6.out.at (j := 1) (u := .int .i64 n) rfl
    rw [Nat.add_zero] at q0
    have hnn : (n == n) = true := by simp
    have hcc : (c == c) = true := by simp
    clear x6 HX5 HR5 HI2
    go_wp2_with fail
    go_ret
    exact ⟨rfl, HX6.out⟩
  | false =>
    go_enter Tryd.func7, Tryd.ntmps7
    go_wp2_with fail
    refine (first1_any _ HG.out HT.out).mono ?_; rintro e w1 ⟨rfl, x1⟩
    have HX1 := Lib.hid x1
    clear x1
    go_wp2_with fail
    have HX2 := Lib.hid (HX1.out.alloc (.cells #[.string s, .int .i64 n, .nilIface] 42))
    have c0 : (w1.alloc (.cells #[.string s, .int .i64 n, .nilIface] 42)).cell? ⟨w1.heap.size, 0, none⟩ = some (.string s) := by simp
    have c1 : (w1.alloc (.cells #[.string s, .int .i64 n, .nilIface] 42)).cell? ⟨w1.heap.size, 1, none⟩ = some (.int .i64 n) := by simp
    have c2 : (w1.alloc (.cells #[.string s, .int .i64 n, .nilIface] 42)).cell? ⟨w1.heap.size, 2, none⟩ = some (.nilIface) := by simp
    revert HX2 c0 c1 c2
    generalize w1.alloc _ = w2
    generalize w1.heap.size = b
    intro HX2 c0 c1 c2
    have HI2 : Hid (IsErrN w2 [(s, n)] (.iface 38 (.pointer (some ⟨b, 0, none⟩)))) := ⟨b, _, rfl, c0, c1, c2, rfl⟩
    refine (unwrap_any b _ _ c2).mono ?_; rintro e w3 ⟨rfl, rfl⟩
    go_wp2_with fail
    refine (pathN [(s, n)] _ _ (HG.out.ext HX2.out) HI2.out (by simp)).mono ?_; rintro e w4 ⟨u4, rfl, x4, o4⟩
    have HX4 := Lib.hid (HX2.out.trans x4)
    have HR4 := Lib.hid (Row.of_owns o4)
    obtain ⟨ua, uc, rfl⟩ := HR4.out.form
    have d2 := x4.cell c2
    clear x4 o4 c0 c1 c2
    go_wp2_with fail
    refine (of_none b _ (HG.out.ext HX4.out) d2).mono ?_; rintro e w5 ⟨rfl, x5⟩
    have HX5 := Lib.hid (HX4.out.trans x5)
    have HR5 := Lib.hid (HR4.out.ext x5)
    clear x5 HX4 HR4 d2
    go_wp2_with fail
    refine (first1_any _ (HG.out.ext HX5.out) (HT.out.ext HX5.out)).mono ?_; rintro e w6 ⟨rfl, x6⟩
    have HX6 := Lib.hid (HX5.out.trans x6)
    have HR6 := Lib.hid (HR5.out.ext x6)
    obtain ⟨g, off, hua⟩ : ∃ g off, ua = some ⟨g, off, none⟩ := by
      obtain ⟨a', cap', e', -, -, h3, -⟩ := HR6.out
      simp only [Value.slice.injEq, true_and] at e'
      obtain ⟨g, off, h4⟩ := h3 (by simp)
      exact ⟨g, off, e'.1.trans h4⟩
    subst hua
    have q0 := HR6.out.at (j := 0) (u := .string s) rfl
    have q1 := HR6.out.at (j := 1) (u := .int .i64 n) rfl
    rw [Nat.add_zero] at q0
    have hnn : (n == n) = true := by simp
    have hcc : (c == c) = true := by simp
    clear x6 HX5 HR5 HI2
    go_wp2_with fail
    go_ret
    exact ⟨rfl, HX6.out⟩
end Go.Proofs.YtgohlhgapboijaaDoor
