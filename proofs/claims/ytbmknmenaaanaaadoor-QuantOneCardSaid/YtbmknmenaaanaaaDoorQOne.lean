/- kinlaw9.QuantOne: the walk. -/
import Derived.Test.YtbmknmenaaanaaaDoorRQuant2
namespace Go.Proofs.YtbmknmenaaanaaaDoor
set_option linter.unusedVariables false
set_option linter.unusedSimpArgs false
open Go.RowKit Go.Extern.Stop Go.Stop Go.Extern

/-- a document's error of a code alone, in a variable -/
def RErr (w : World) (B : Nat) (k : Int) : Prop := w.cell? ⟨B, 0, none⟩ = some (.int .i64 k) ∧ w.cell? ⟨B, 1, none⟩ = some (.slice none 0 0)
theorem RErr.ext {w w' : World} {B : Nat} {k : Int} (h : RErr w B k) (x : Ext w w') : RErr w' B k := ⟨x.cell h.1, x.cell h.2⟩
theorem RErr.new (w : World) (k : Int) : RErr (w.alloc (.cells #[.int .i64 k, .slice none 0 0] 32)) w.heap.size k := by
  constructor <;> simp

set_option maxHeartbeats 2000000 in
set_option maxRecDepth 100000 in
theorem one_walk (c qp s b l v k1 k2 k3 k4 : Int) (e1 e2 e3 e4 : Value) (w : World) (hg : EtIs w)
    (f0 : Hid (∀ W, Calls Tryd.prog 33 #[.int .i64 qp] W fun e w' => e = .returned (.tuple #[.int .i64 s, e1]) ∧ W = w'))
    (r0 : Hid (∀ W, Calls Tryd.prog 34 #[.int .i64 qp] W fun e w' => e = .returned (.tuple #[.int .i64 s, .agg #[.int .i64 k1, .slice none 0 0]]) ∧ Ext W w'))
    (s0 : Hid (∀ W, EtIs W → Calls Tryd.prog 22 #[e1, .agg #[.int .i64 k1, .slice none 0 0]] W fun e w' => e = .returned (.bool true) ∧ Ext W w'))
    (f1 : Hid (∀ W, Calls Tryd.prog 35 #[.int .i64 qp] W fun e w' => e = .returned (.tuple #[.int .i64 b, e2]) ∧ W = w'))
    (r1 : Hid (∀ W, Calls Tryd.prog 36 #[.int .i64 qp] W fun e w' => e = .returned (.tuple #[.int .i64 b, .agg #[.int .i64 k2, .slice none 0 0]]) ∧ Ext W w'))
    (s1 : Hid (∀ W, EtIs W → Calls Tryd.prog 22 #[e2, .agg #[.int .i64 k2, .slice none 0 0]] W fun e w' => e = .returned (.bool true) ∧ Ext W w'))
    (f2 : Hid (∀ W, Calls Tryd.prog 37 #[.int .i64 c, .int .i64 qp] W fun e w' => e = .returned (.tuple #[.int .i64 l, e3]) ∧ W = w'))
    (r2 : Hid (∀ W, Calls Tryd.prog 38 #[.int .i64 c, .int .i64 qp] W fun e w' => e = .returned (.tuple #[.int .i64 l, .agg #[.int .i64 k3, .slice none 0 0]]) ∧ Ext W w'))
    (s2 : Hid (∀ W, EtIs W → Calls Tryd.prog 22 #[e3, .agg #[.int .i64 k3, .slice none 0 0]] W fun e w' => e = .returned (.bool true) ∧ Ext W w'))
    (f3 : Hid (∀ W, Calls Tryd.prog 39 #[.int .i64 c, .int .i64 qp] W fun e w' => e = .returned (.tuple #[.int .i64 v, e4]) ∧ W = w'))
    (r3 : Hid (∀ W, Calls Tryd.prog 40 #[.int .i64 c, .int .i64 qp] W fun e w' => e = .returned (.tuple #[.int .i64 v, .agg #[.int .i64 k4, .slice none 0 0]]) ∧ Ext W w'))
    (s3 : Hid (∀ W, EtIs W → Calls Tryd.prog 22 #[e4, .agg #[.int .i64 k4, .slice none 0 0]] W fun e w' => e = .returned (.bool true) ∧ Ext W w')) :
    Calls Tryd.prog 13 #[.int .i64 c, .int .i64 qp] w fun e w' => e = .returned (.bool true) ∧ Ext w w' := by
  go_enter Tryd.func13, Tryd.ntmps13
  go_wp2_with fail
  refine (first_any _ hg).mono ?_; rintro e w0 ⟨rfl, hx0⟩
  have E0 : Ext w w0 := hx0
  clear hx0
  go_wp2_with fail
  refine (f0.out _).mono ?_; rintro e u0 ⟨rfl, rfl⟩
  go_wp2_with fail
  refine (r0.out _).mono ?_; rintro e w1 ⟨rfl, hx1⟩
  have Q0 := RErr.new w1 k1
  have H1 := hx1.alloc (.cells #[.int .i64 k1, .slice none 0 0] 32)
  have E1 : Ext w (w1.alloc (.cells #[.int .i64 k1, .slice none 0 0] 32)) := E0.trans H1
  clear hx1 H1
  go_wp2_with fail
  refine (f1.out _).mono ?_; rintro e u1 ⟨rfl, rfl⟩
  go_wp2_with fail
  refine (r1.out _).mono ?_; rintro e w2 ⟨rfl, hx2⟩
  have Q1 := RErr.new w2 k2
  have H2 := hx2.alloc (.cells #[.int .i64 k2, .slice none 0 0] 32)
  have Q0 := Q0.ext H2
  have E2 : Ext w (w2.alloc (.cells #[.int .i64 k2, .slice none 0 0] 32)) := E1.trans H2
  clear hx2 H2
  go_wp2_with fail
  refine (f2.out _).mono ?_; rintro e u2 ⟨rfl, rfl⟩
  go_wp2_with fail
  refine (r2.out _).mono ?_; rintro e w3 ⟨rfl, hx3⟩
  have Q2 := RErr.new w3 k3
  have H3 := hx3.alloc (.cells #[.int .i64 k3, .slice none 0 0] 32)
  have Q0 := Q0.ext H3
  have Q1 := Q1.ext H3
  have E3 : Ext w (w3.alloc (.cells #[.int .i64 k3, .slice none 0 0] 32)) := E2.trans H3
  clear hx3 H3
  go_wp2_with fail
  refine (f3.out _).mono ?_; rintro e u3 ⟨rfl, rfl⟩
  go_wp2_with fail
  refine (r3.out _).mono ?_; rintro e w4 ⟨rfl, hx4⟩
  have Q3 := RErr.new w4 k4
  have H4 := hx4.alloc (.cells #[.int .i64 k4, .slice none 0 0] 32)
  have Q0 := Q0.ext H4
  have Q1 := Q1.ext H4
  have Q2 := Q2.ext H4
  have E4 : Ext w (w4.alloc (.cells #[.int .i64 k4, .slice none 0 0] 32)) := E3.trans H4
  clear hx4 H4
  go_wp2_with fail
  refine (first_any _ (hg.ext E4)).mono ?_; rintro e w5 ⟨rfl, hx5⟩
  obtain ⟨p0, q0⟩ := Q0.ext hx5
  obtain ⟨p1, q1⟩ := Q1.ext hx5
  obtain ⟨p2, q2⟩ := Q2.ext hx5
  obtain ⟨p3, q3⟩ := Q3.ext hx5
  have E5 : Ext w w5 := E4.trans hx5
  clear Q0 Q1 Q2 Q3 hx5 E0 E1 E2 E3 E4
  go_wp2_with fail
  refine (s0.out _ (hg.ext E5)).mono ?_; rintro e w6 ⟨rfl, hx6⟩
  have E6 : Ext w w6 := E5.trans hx6
  have p1 := hx6.cell p1
  have q1 := hx6.cell q1
  have p2 := hx6.cell p2
  have q2 := hx6.cell q2
  have p3 := hx6.cell p3
  have q3 := hx6.cell q3
  clear hx6 E5 p0 q0
  go_wp2_with fail
  refine (s1.out _ (hg.ext E6)).mono ?_; rintro e w7 ⟨rfl, hx7⟩
  have E7 : Ext w w7 := E6.trans hx7
  have p2 := hx7.cell p2
  have q2 := hx7.cell q2
  have p3 := hx7.cell p3
  have q3 := hx7.cell q3
  clear hx7 E6 p1 q1
  go_wp2_with fail
  refine (s2.out _ (hg.ext E7)).mono ?_; rintro e w8 ⟨rfl, hx8⟩
  have E8 : Ext w w8 := E7.trans hx8
  have p3 := hx8.cell p3
  have q3 := hx8.cell q3
  clear hx8 E7 p2 q2
  go_wp2_with fail
  refine (s3.out _ (hg.ext E8)).mono ?_; rintro e w9 ⟨rfl, hx9⟩
  have E9 : Ext w w9 := E8.trans hx9
  clear hx9 E8 p3 q3
  go_wp2
  go_ret
  exact ⟨rfl, E9⟩
theorem same3 (W : World) (hg : EtIs W) : Calls Tryd.prog 22 #[.iface 29 (.int .i64 3), .agg #[.int .i64 3, .slice none 0 0]] W fun e w' => e = .returned (.bool true) ∧ Ext W w' :=
  same_err [] 3 _ _ W hg rfl (Row.nil _) (by decide) (by decide)
theorem one_law (c qp : Int) (w : World) (hg : EtIs w) :
    Calls Tryd.prog 13 #[.int .i64 c, .int .i64 qp] w fun e w' => e = .returned (.bool true) ∧ Ext w w' := by
  by_cases h : okQ qp
  · have R := rstep_is h
    have hs := stepOf_ok h
    have hb : 0 ≤ stepOf qp ∧ stepOf qp ≤ 384 := ⟨by omega, hs.2⟩
    by_cases hc : okC c <;> by_cases hl : okL c
    · exact one_walk c qp _ _ _ _ 0 0 0 0 _ _ _ _ w hg (fun W => step_ok qp W h) R (fun W hg => same_nil W hg) (fun W => bound_ok qp W h) (fun W => rbound_any qp _ _ W hb R) (fun W hg => same_nil W hg)
        (fun W => level_ok c qp W hc h) (fun W => rlevel_ok c qp W hc h R) (fun W hg => same_nil W hg) (fun W => value_ok c qp W hl h) (fun W => rvalue_ok c qp W hl h R) (fun W hg => same_nil W hg)
    · exact one_walk c qp _ _ _ _ 0 0 0 3 _ _ _ _ w hg (fun W => step_ok qp W h) R (fun W hg => same_nil W hg) (fun W => bound_ok qp W h) (fun W => rbound_any qp _ _ W hb R) (fun W hg => same_nil W hg)
        (fun W => level_ok c qp W hc h) (fun W => rlevel_ok c qp W hc h R) (fun W hg => same_nil W hg) (fun W => value_noL c qp W hl h) (fun W => rvalue_no c qp _ 0 W (Or.inr ⟨rfl, by unfold okL at hl; omega⟩) R) same3
    · exact one_walk c qp _ _ _ _ 0 0 3 0 _ _ _ _ w hg (fun W => step_ok qp W h) R (fun W hg => same_nil W hg) (fun W => bound_ok qp W h) (fun W => rbound_any qp _ _ W hb R) (fun W hg => same_nil W hg)
        (fun W => level_noC c qp W hc h) (fun W => rlevel_no c qp _ 0 W (Or.inr ⟨rfl, by unfold okC at hc; omega⟩) R) same3 (fun W => value_ok c qp W hl h) (fun W => rvalue_ok c qp W hl h R) (fun W hg => same_nil W hg)
    · exact one_walk c qp _ _ _ _ 0 0 3 3 _ _ _ _ w hg (fun W => step_ok qp W h) R (fun W hg => same_nil W hg) (fun W => bound_ok qp W h) (fun W => rbound_any qp _ _ W hb R) (fun W hg => same_nil W hg)
        (fun W => level_noC c qp W hc h) (fun W => rlevel_no c qp _ 0 W (Or.inr ⟨rfl, by unfold okC at hc; omega⟩) R) same3 (fun W => value_noL c qp W hl h) (fun W => rvalue_no c qp _ 0 W (Or.inr ⟨rfl, by unfold okL at hl; omega⟩) R) same3
  · have R := rstep_isno h
    exact one_walk c qp _ _ _ _ 3 3 3 3 _ _ _ _ w hg (fun W => step_no qp W h) R same3 (fun W => bound_no qp W h) (fun W => rbound_any qp 0 3 W (by decide) R) same3
      (fun W => level_noQ c qp W h) (fun W => rlevel_no c qp _ 3 W (Or.inl (by decide)) R) same3 (fun W => value_noQ c qp W h) (fun W => rvalue_no c qp _ 3 W (Or.inl (by decide)) R) same3
end Go.Proofs.YtbmknmenaaanaaaDoor
