/- kinlaw18.VbvPlays: the walk. -/
import Derived.Test.YtckhilnjkckabaaDoorV18
import Derived.Test.YtckhilnjkckabaaDoorRPlay
import Derived.Test.YtckhilnjkckabaaDoorCopy
namespace Go.Proofs.YtckhilnjkckabaaDoor
set_option linter.unusedVariables false
set_option linter.unusedSimpArgs false
open Go.RowKit Go.Extern.Stop Go.Stop Go.Extern

/-- the program's error and the document's, of one answer -/
def APair (w : World) (an : Option (List (ByteArray × Int) × Int)) (x : Value) (k : Int) (r : Value) : Prop := match an with
  | none => x = .nilIface ∧ k = 0 ∧ r = .slice none 0 0
  | some (p, k') => IsErr w p k' x ∧ k = k' ∧ Row w r p.length (stepCells p) ∧ k' ≠ 0 ∧ p.length ≤ 1000000
theorem APair.ext {w w' : World} {an : Option (List (ByteArray × Int) × Int)} {x : Value} {k : Int} {r : Value} (h : APair w an x k r) (e : Ext w w') : APair w' an x k r := by
  cases an with
  | none => exact h
  | some pk => exact ⟨h.1.ext e, h.2.1, h.2.2.1.ext e, h.2.2.2⟩
theorem same_pair {an : Option (List (ByteArray × Int) × Int)} {x : Value} {k : Int} {r : Value} (w : World) (hg : EtIs w) (h : APair w an x k r) :
    Calls Tryd.prog 15 #[x, .agg #[.int .i64 k, r]] w fun e w' => e = .returned (.bool true) ∧ Ext w w' := by
  cases an with
  | none =>
    obtain ⟨rfl, rfl, rfl⟩ := h
    exact same_nil w hg
  | some pk =>
    obtain ⟨p, k'⟩ := pk
    obtain ⟨h1, rfl, h3, h4, h5⟩ := h
    exact same_err p k x r w hg h1 h3 h4 h5
def outOf (an : Option (List (ByteArray × Int) × Int)) (o : List Int) : List Int := match an with
  | none => o
  | some _ => []
theorem r_form {w2 : World} {an : Option (List (ByteArray × Int) × Int)} {o : List Int} {u' r : Value} {k : Int}
    (h2 : match (generalizing := false) an with | none => Ints w2 u' o ∧ k = 0 ∧ r = .slice none 0 0 | some (p, k') => u' = .slice none 0 0 ∧ k = k' ∧ Row w2 r p.length (stepCells p)) : ∃ a n cap, r = .slice a n cap := by
  cases an with
  | none => exact ⟨_, _, _, h2.2.2⟩
  | some pk =>
    obtain ⟨a, cap, e⟩ := h2.2.2.form
    exact ⟨_, _, _, e⟩
theorem pair_of {w1 w2 : World} {an : Option (List (ByteArray × Int) × Int)} {o : List Int} {u x u' r : Value} {k : Int}
    (h1 : match (generalizing := false) an with | none => Ints w1 u o ∧ x = .nilIface | some (p, k) => u = .slice none 0 0 ∧ IsErr w1 p k x) (hx : Ext w1 w2)
    (h2 : match (generalizing := false) an with | none => Ints w2 u' o ∧ k = 0 ∧ r = .slice none 0 0 | some (p, k') => u' = .slice none 0 0 ∧ k = k' ∧ Row w2 r p.length (stepCells p)) (hok : ∀ p k', an = some (p, k') → k' ≠ 0 ∧ p.length ≤ 1000000) :
    Ints w2 u (outOf an o) ∧ Ints w2 u' (outOf an o) ∧ APair w2 an x k r := by
  cases an with
  | none => exact ⟨h1.1.ext hx, h2.1, h1.2, h2.2.1, h2.2.2⟩
  | some pk =>
    obtain ⟨p, k'⟩ := pk
    obtain ⟨rfl, h1⟩ := h1
    obtain ⟨rfl, h2, h3⟩ := h2
    exact ⟨Ints.nil _, Ints.nil _, h1.ext hx, h2, h3, hok p k' rfl⟩

set_option maxHeartbeats 4000000 in
set_option maxRecDepth 20000 in
theorem plays_long (c : Cfg) (v : Value) (n : Nat) (w : World) (hg : EtIs w) (hv : ∃ a cap, v = .slice a n cap) (hl : 5000 < n) :
    Calls Tryd.prog 3 #[.agg #[.int .i64 c.qmin, .int .i64 c.qmax, .int .i64 c.reach, .int .i64 c.cut, .int .i64 c.gop, .int .i64 c.rate, .int .i64 c.room, .int .i64 c.fill], v] w fun e w' => e = .returned (.bool true) ∧ Ext w w' := by
  have E1 : Ext w (w.alloc (.cells #[.int .i64 c.qmin, .int .i64 c.qmax, .int .i64 c.reach, .int .i64 c.cut, .int .i64 c.gop, .int .i64 c.rate, .int .i64 c.room, .int .i64 c.fill] 23)) := (Ext.refl w).alloc _
  obtain ⟨a, cap, rfl⟩ := hv
  go_enter Tryd.func3, Tryd.ntmps3
  go_wp2_with fail
  refine (first18 _ (hg.ext E1)).mono ?_; rintro e w1 ⟨rfl, hx1⟩
  go_wp2_with fail
  refine (first18 _ (hg.ext (E1.trans hx1))).mono ?_; rintro e w2 ⟨rfl, hx2⟩
  go_wp2
  go_ret
  exact ⟨rfl, E1.trans (hx1.trans hx2)⟩

set_option maxHeartbeats 4000000 in
set_option maxRecDepth 20000 in
theorem plays_yes (c : Cfg) (zs o1 o2 : List Int) (an1 an2 : Option (List (ByteArray × Int) × Int)) (a : Option Addr) (n cap : Nat) (w : World) (hg : EtIs w) (ha : Ints w (.slice a n cap) zs) (hl : ¬ 5000 < n) (hn : Hid (n = zs.length))
    (fm : Hid (∀ W, Calls Tryd.prog 7 #[.agg #[.int .i64 c.qmin, .int .i64 c.qmax, .int .i64 c.reach, .int .i64 c.cut, .int .i64 c.gop, .int .i64 c.rate, .int .i64 c.room, .int .i64 c.fill]] W (fun e w' => e = .returned (.bool true) ∧ Ext W w')))
    (fv : Hid (∀ W, Calls Tryd.prog 12 #[.agg #[.int .i64 c.qmin, .int .i64 c.qmax, .int .i64 c.reach, .int .i64 c.cut, .int .i64 c.gop, .int .i64 c.rate, .int .i64 c.room, .int .i64 c.fill]] W (fun e w' => e = .returned (.bool true) ∧ Ext W w')))
    (fc : Hid (∀ W, Calls Tryd.prog 13 #[.agg #[.int .i64 c.qmin, .int .i64 c.qmax, .int .i64 c.reach, .int .i64 c.cut, .int .i64 c.gop, .int .i64 c.rate, .int .i64 c.room, .int .i64 c.fill]] W (fun e w' => e = .returned (.nilIface) ∧ Ext W w')))
    (f1 : Hid (∀ W v, Ints W v zs → Calls Tryd.prog 8 #[.agg #[.int .i64 c.qmin, .int .i64 c.qmax, .int .i64 c.reach, .int .i64 c.cut, .int .i64 c.gop, .int .i64 c.rate, .int .i64 c.room, .int .i64 c.fill], v] W (AnsPost W an1 o1)))
    (r1 : Hid (∀ W v, Ints W v zs → Calls Tryd.prog 9 #[.agg #[.int .i64 c.qmin, .int .i64 c.qmax, .int .i64 c.reach, .int .i64 c.cut, .int .i64 c.gop, .int .i64 c.rate, .int .i64 c.room, .int .i64 c.fill], v] W (RAns W an1 o1)))
    (f2 : Hid (∀ W v, Ints W v zs → Calls Tryd.prog 10 #[.agg #[.int .i64 c.qmin, .int .i64 c.qmax, .int .i64 c.reach, .int .i64 c.cut, .int .i64 c.gop, .int .i64 c.rate, .int .i64 c.room, .int .i64 c.fill], v] W (AnsPost W an2 o2)))
    (r2 : Hid (∀ W v, Ints W v zs → Calls Tryd.prog 11 #[.agg #[.int .i64 c.qmin, .int .i64 c.qmax, .int .i64 c.reach, .int .i64 c.cut, .int .i64 c.gop, .int .i64 c.rate, .int .i64 c.room, .int .i64 c.fill], v] W (RAns W an2 o2)))
    (hok1 : Hid (∀ p k', an1 = some (p, k') → k' ≠ 0 ∧ p.length ≤ 1000000)) (hok2 : Hid (∀ p k', an2 = some (p, k') → k' ≠ 0 ∧ p.length ≤ 1000000)) :
    Calls Tryd.prog 3 #[.agg #[.int .i64 c.qmin, .int .i64 c.qmax, .int .i64 c.reach, .int .i64 c.cut, .int .i64 c.gop, .int .i64 c.rate, .int .i64 c.room, .int .i64 c.fill], .slice a n cap] w fun e w' => e = .returned (.bool true) ∧ Ext w w' := by
  have E1 : Ext w (w.alloc (.cells #[.int .i64 c.qmin, .int .i64 c.qmax, .int .i64 c.reach, .int .i64 c.cut, .int .i64 c.gop, .int .i64 c.rate, .int .i64 c.room, .int .i64 c.fill] 23)) := (Ext.refl w).alloc _
  go_enter Tryd.func3, Tryd.ntmps3
  go_wp2_with fail
  refine (first18 _ (hg.ext E1)).mono ?_; rintro e w1 ⟨rfl, hx1⟩
  have C1 := (CfgAt.mk' w c).ext hx1
  have E2 := E1.trans hx1
  clear E1 hx1
  obtain ⟨c0, c1, c2, c3, c4, c5, c6, c7⟩ := C1
  go_wp2_with fail
  refine (copy_ints zs _ _ (ha.ext E2) (by rw [← hn.out]; omega)).mono ?_; rintro e w2 ⟨u2, rfl, hi2, hx2⟩
  have d0 := hx2.cell c0
  have d1 := hx2.cell c1
  have d2 := hx2.cell c2
  have d3 := hx2.cell c3
  have d4 := hx2.cell c4
  have d5 := hx2.cell c5
  have d6 := hx2.cell c6
  have d7 := hx2.cell c7
  clear c0 c1 c2 c3 c4 c5 c6 c7
  have E3 := E2.trans hx2
  clear E2
  clear hx2
  go_wp2_with fail
  refine (fm.out _).mono ?_; rintro e w3 ⟨rfl, hx3⟩
  have hi3 := hi2.ext hx3
  clear hi2
  have c0 := hx3.cell d0
  have c1 := hx3.cell d1
  have c2 := hx3.cell d2
  have c3 := hx3.cell d3
  have c4 := hx3.cell d4
  have c5 := hx3.cell d5
  have c6 := hx3.cell d6
  have c7 := hx3.cell d7
  clear d0 d1 d2 d3 d4 d5 d6 d7
  have E4 := E3.trans hx3
  clear E3
  clear hx3
  go_wp2_with fail
  refine (f1.out _ _ hi3).mono ?_; rintro e w4 ⟨u4, x4, rfl, hx4, hm4⟩
  have hi4 := hi3.ext hx4
  clear hi3
  have d0 := hx4.cell c0
  have d1 := hx4.cell c1
  have d2 := hx4.cell c2
  have d3 := hx4.cell c3
  have d4 := hx4.cell c4
  have d5 := hx4.cell c5
  have d6 := hx4.cell c6
  have d7 := hx4.cell c7
  clear c0 c1 c2 c3 c4 c5 c6 c7
  have E5 := E4.trans hx4
  clear E4
  clear hx4
  go_wp2_with fail
  refine (r1.out _ _ (ha.ext E5)).mono ?_; rintro e w5 ⟨u5, k5', r5, rfl, hx5, hm5⟩
  obtain ⟨ra5, rn5, rc5, rfl⟩ := r_form hm5
  obtain ⟨I4, I5, P5⟩ := pair_of hm4 hx5 hm5 hok1.out
  have A5 := hx5.alloc (.cells #[.int .i64 k5', .slice ra5 rn5 rc5] 35)
  have S5 := (Ext.refl w5).alloc (.cells #[.int .i64 k5', .slice ra5 rn5 rc5] 35)
  have q0 : (w5.alloc (.cells #[.int .i64 k5', .slice ra5 rn5 rc5] 35)).cell? ⟨w5.heap.size, 0, none⟩ = some (.int .i64 k5') := by simp
  have q1 : (w5.alloc (.cells #[.int .i64 k5', .slice ra5 rn5 rc5] 35)).cell? ⟨w5.heap.size, 1, none⟩ = some (.slice ra5 rn5 rc5) := by simp
  have I4 := I4.ext S5
  have I5 := I5.ext S5
  have P5 := P5.ext S5
  have hi5 := hi4.ext A5
  clear hm4 hm5 hi4 hx5 S5
  have c0 := A5.cell d0
  have c1 := A5.cell d1
  have c2 := A5.cell d2
  have c3 := A5.cell d3
  have c4 := A5.cell d4
  have c5 := A5.cell d5
  have c6 := A5.cell d6
  have c7 := A5.cell d7
  clear d0 d1 d2 d3 d4 d5 d6 d7
  have E6 := E5.trans A5
  clear E5
  clear A5
  go_wp2_with fail
  refine (f2.out _ _ hi5).mono ?_; rintro e w6 ⟨u6, x6, rfl, hx6, hm6⟩
  have hi6 := hi5.ext hx6
  clear hi5
  have I4 := I4.ext hx6
  have I5 := I5.ext hx6
  have P5 := P5.ext hx6
  have q0 := hx6.cell q0
  have q1 := hx6.cell q1
  have d0 := hx6.cell c0
  have d1 := hx6.cell c1
  have d2 := hx6.cell c2
  have d3 := hx6.cell c3
  have d4 := hx6.cell c4
  have d5 := hx6.cell c5
  have d6 := hx6.cell c6
  have d7 := hx6.cell c7
  clear c0 c1 c2 c3 c4 c5 c6 c7
  have E7 := E6.trans hx6
  clear E6
  clear hx6
  go_wp2_with fail
  refine (r2.out _ _ (ha.ext E7)).mono ?_; rintro e w7 ⟨u7, k7', r7, rfl, hx7, hm7⟩
  obtain ⟨ra7, rn7, rc7, rfl⟩ := r_form hm7
  obtain ⟨I6, I7, P7⟩ := pair_of hm6 hx7 hm7 hok2.out
  have A7 := hx7.alloc (.cells #[.int .i64 k7', .slice ra7 rn7 rc7] 35)
  have S7 := (Ext.refl w7).alloc (.cells #[.int .i64 k7', .slice ra7 rn7 rc7] 35)
  have p0 : (w7.alloc (.cells #[.int .i64 k7', .slice ra7 rn7 rc7] 35)).cell? ⟨w7.heap.size, 0, none⟩ = some (.int .i64 k7') := by simp
  have p1 : (w7.alloc (.cells #[.int .i64 k7', .slice ra7 rn7 rc7] 35)).cell? ⟨w7.heap.size, 1, none⟩ = some (.slice ra7 rn7 rc7) := by simp
  have I6 := I6.ext S7
  have I7 := I7.ext S7
  have P7 := P7.ext S7
  have hi7 := hi6.ext A7
  clear hm6 hm7 hi6 hx7 S7
  have I4 := I4.ext A7
  have I5 := I5.ext A7
  have P5 := P5.ext A7
  have q0 := A7.cell q0
  have q1 := A7.cell q1
  have c0 := A7.cell d0
  have c1 := A7.cell d1
  have c2 := A7.cell d2
  have c3 := A7.cell d3
  have c4 := A7.cell d4
  have c5 := A7.cell d5
  have c6 := A7.cell d6
  have c7 := A7.cell d7
  clear d0 d1 d2 d3 d4 d5 d6 d7
  have E8 := E7.trans A7
  clear E7
  clear A7
  go_wp2_with fail
  refine (first18 _ (hg.ext E8)).mono ?_; rintro e w8 ⟨rfl, hx8⟩
  have I4 := I4.ext hx8
  have I5 := I5.ext hx8
  have P5 := P5.ext hx8
  have q0 := hx8.cell q0
  have q1 := hx8.cell q1
  have I6 := I6.ext hx8
  have I7 := I7.ext hx8
  have P7 := P7.ext hx8
  have p0 := hx8.cell p0
  have p1 := hx8.cell p1
  have hi7 := hi7.ext hx8
  have d0 := hx8.cell c0
  have d1 := hx8.cell c1
  have d2 := hx8.cell c2
  have d3 := hx8.cell c3
  have d4 := hx8.cell c4
  have d5 := hx8.cell c5
  have d6 := hx8.cell c6
  have d7 := hx8.cell c7
  clear c0 c1 c2 c3 c4 c5 c6 c7
  have E9 := E8.trans hx8
  clear E8
  clear hx8
  go_wp2_with fail
  refine (fv.out _).mono ?_; rintro e w9 ⟨rfl, hx9⟩
  have I4 := I4.ext hx9
  have I5 := I5.ext hx9
  have P5 := P5.ext hx9
  have q0 := hx9.cell q0
  have q1 := hx9.cell q1
  have I6 := I6.ext hx9
  have I7 := I7.ext hx9
  have P7 := P7.ext hx9
  have p0 := hx9.cell p0
  have p1 := hx9.cell p1
  have hi7 := hi7.ext hx9
  have c0 := hx9.cell d0
  have c1 := hx9.cell d1
  have c2 := hx9.cell d2
  have c3 := hx9.cell d3
  have c4 := hx9.cell d4
  have c5 := hx9.cell d5
  have c6 := hx9.cell d6
  have c7 := hx9.cell d7
  clear d0 d1 d2 d3 d4 d5 d6 d7
  have E10 := E9.trans hx9
  clear E9
  clear hx9
  go_wp2_with fail
  refine (fc.out _).mono ?_; rintro e w10 ⟨rfl, hx10⟩
  have I4 := I4.ext hx10
  have I5 := I5.ext hx10
  have P5 := P5.ext hx10
  have q0 := hx10.cell q0
  have q1 := hx10.cell q1
  have I6 := I6.ext hx10
  have I7 := I7.ext hx10
  have P7 := P7.ext hx10
  have p0 := hx10.cell p0
  have p1 := hx10.cell p1
  have hi7 := hi7.ext hx10
  have E11 := E10.trans hx10
  clear E10
  clear hx10 c0 c1 c2 c3 c4 c5 c6 c7
  go_wp2_with fail
  refine (ints_same (outOf an1 o1) (outOf an1 o1) _ _ _ I4 I5).mono ?_; rintro e w11 ⟨rfl, hx11⟩
  rw [decide_eq_true rfl]
  have I4 := I4.ext hx11
  have I5 := I5.ext hx11
  have P5 := P5.ext hx11
  have q0 := hx11.cell q0
  have q1 := hx11.cell q1
  have I6 := I6.ext hx11
  have I7 := I7.ext hx11
  have P7 := P7.ext hx11
  have p0 := hx11.cell p0
  have p1 := hx11.cell p1
  have hi7 := hi7.ext hx11
  have E12 := E11.trans hx11
  clear E11
  clear hx11 I4 I5
  go_wp2_with fail
  refine (same_pair _ (hg.ext E12) P5).mono ?_; rintro e w12 ⟨rfl, hx12⟩
  have I6 := I6.ext hx12
  have I7 := I7.ext hx12
  have P7 := P7.ext hx12
  have p0 := hx12.cell p0
  have p1 := hx12.cell p1
  have hi7 := hi7.ext hx12
  have E13 := E12.trans hx12
  clear E12
  clear hx12 P5 q0 q1
  go_wp2_with fail
  refine (ints_same (outOf an2 o2) (outOf an2 o2) _ _ _ I6 I7).mono ?_; rintro e w13 ⟨rfl, hx13⟩
  rw [decide_eq_true rfl]
  have P7 := P7.ext hx13
  have p0 := hx13.cell p0
  have p1 := hx13.cell p1
  have hi7 := hi7.ext hx13
  have E14 := E13.trans hx13
  clear E13
  clear hx13 I6 I7
  go_wp2_with fail
  refine (same_pair _ (hg.ext E14) P7).mono ?_; rintro e w14 ⟨rfl, hx14⟩
  have hi7 := hi7.ext hx14
  have E15 := E14.trans hx14
  clear E14
  clear hx14 P7 p0 p1
  go_wp2_with fail
  refine (ints_same zs zs _ _ _ hi7 (ha.ext E15)).mono ?_; rintro e w15 ⟨rfl, hx15⟩
  rw [decide_eq_true rfl]
  go_wp2
  go_ret
  exact ⟨rfl, E15.trans hx15⟩

set_option maxHeartbeats 4000000 in
set_option maxRecDepth 20000 in
theorem plays_no (c : Cfg) (zs o1 o2 : List Int) (an1 an2 : Option (List (ByteArray × Int) × Int)) (a : Option Addr) (n cap : Nat) (w : World) (hg : EtIs w) (ha : Ints w (.slice a n cap) zs) (hl : ¬ 5000 < n) (hn : Hid (n = zs.length))
    (fm : Hid (∀ W, Calls Tryd.prog 7 #[.agg #[.int .i64 c.qmin, .int .i64 c.qmax, .int .i64 c.reach, .int .i64 c.cut, .int .i64 c.gop, .int .i64 c.rate, .int .i64 c.room, .int .i64 c.fill]] W (fun e w' => e = .returned (.bool false) ∧ Ext W w')))
    (fv : Hid (∀ W, Calls Tryd.prog 12 #[.agg #[.int .i64 c.qmin, .int .i64 c.qmax, .int .i64 c.reach, .int .i64 c.cut, .int .i64 c.gop, .int .i64 c.rate, .int .i64 c.room, .int .i64 c.fill]] W (fun e w' => e = .returned (.bool false) ∧ Ext W w')))
    (fc : Hid (∀ W, Calls Tryd.prog 13 #[.agg #[.int .i64 c.qmin, .int .i64 c.qmax, .int .i64 c.reach, .int .i64 c.cut, .int .i64 c.gop, .int .i64 c.rate, .int .i64 c.room, .int .i64 c.fill]] W (fun e w' => e = .returned (.iface 32 (.int .i64 11)) ∧ Ext W w')))
    (f1 : Hid (∀ W v, Ints W v zs → Calls Tryd.prog 8 #[.agg #[.int .i64 c.qmin, .int .i64 c.qmax, .int .i64 c.reach, .int .i64 c.cut, .int .i64 c.gop, .int .i64 c.rate, .int .i64 c.room, .int .i64 c.fill], v] W (AnsPost W an1 o1)))
    (r1 : Hid (∀ W v, Ints W v zs → Calls Tryd.prog 9 #[.agg #[.int .i64 c.qmin, .int .i64 c.qmax, .int .i64 c.reach, .int .i64 c.cut, .int .i64 c.gop, .int .i64 c.rate, .int .i64 c.room, .int .i64 c.fill], v] W (RAns W an1 o1)))
    (f2 : Hid (∀ W v, Ints W v zs → Calls Tryd.prog 10 #[.agg #[.int .i64 c.qmin, .int .i64 c.qmax, .int .i64 c.reach, .int .i64 c.cut, .int .i64 c.gop, .int .i64 c.rate, .int .i64 c.room, .int .i64 c.fill], v] W (AnsPost W an2 o2)))
    (r2 : Hid (∀ W v, Ints W v zs → Calls Tryd.prog 11 #[.agg #[.int .i64 c.qmin, .int .i64 c.qmax, .int .i64 c.reach, .int .i64 c.cut, .int .i64 c.gop, .int .i64 c.rate, .int .i64 c.room, .int .i64 c.fill], v] W (RAns W an2 o2)))
    (hok1 : Hid (∀ p k', an1 = some (p, k') → k' ≠ 0 ∧ p.length ≤ 1000000)) (hok2 : Hid (∀ p k', an2 = some (p, k') → k' ≠ 0 ∧ p.length ≤ 1000000)) :
    Calls Tryd.prog 3 #[.agg #[.int .i64 c.qmin, .int .i64 c.qmax, .int .i64 c.reach, .int .i64 c.cut, .int .i64 c.gop, .int .i64 c.rate, .int .i64 c.room, .int .i64 c.fill], .slice a n cap] w fun e w' => e = .returned (.bool true) ∧ Ext w w' := by
  have E1 : Ext w (w.alloc (.cells #[.int .i64 c.qmin, .int .i64 c.qmax, .int .i64 c.reach, .int .i64 c.cut, .int .i64 c.gop, .int .i64 c.rate, .int .i64 c.room, .int .i64 c.fill] 23)) := (Ext.refl w).alloc _
  go_enter Tryd.func3, Tryd.ntmps3
  go_wp2_with fail
  refine (first18 _ (hg.ext E1)).mono ?_; rintro e w1 ⟨rfl, hx1⟩
  have C1 := (CfgAt.mk' w c).ext hx1
  have E2 := E1.trans hx1
  clear E1 hx1
  obtain ⟨c0, c1, c2, c3, c4, c5, c6, c7⟩ := C1
  go_wp2_with fail
  refine (copy_ints zs _ _ (ha.ext E2) (by rw [← hn.out]; omega)).mono ?_; rintro e w2 ⟨u2, rfl, hi2, hx2⟩
  have d0 := hx2.cell c0
  have d1 := hx2.cell c1
  have d2 := hx2.cell c2
  have d3 := hx2.cell c3
  have d4 := hx2.cell c4
  have d5 := hx2.cell c5
  have d6 := hx2.cell c6
  have d7 := hx2.cell c7
  clear c0 c1 c2 c3 c4 c5 c6 c7
  have E3 := E2.trans hx2
  clear E2
  clear hx2
  go_wp2_with fail
  refine (fm.out _).mono ?_; rintro e w3 ⟨rfl, hx3⟩
  have hi3 := hi2.ext hx3
  clear hi2
  have c0 := hx3.cell d0
  have c1 := hx3.cell d1
  have c2 := hx3.cell d2
  have c3 := hx3.cell d3
  have c4 := hx3.cell d4
  have c5 := hx3.cell d5
  have c6 := hx3.cell d6
  have c7 := hx3.cell d7
  clear d0 d1 d2 d3 d4 d5 d6 d7
  have E4 := E3.trans hx3
  clear E3
  clear hx3
  go_wp2_with fail
  refine (f1.out _ _ hi3).mono ?_; rintro e w4 ⟨u4, x4, rfl, hx4, hm4⟩
  have hi4 := hi3.ext hx4
  clear hi3
  have d0 := hx4.cell c0
  have d1 := hx4.cell c1
  have d2 := hx4.cell c2
  have d3 := hx4.cell c3
  have d4 := hx4.cell c4
  have d5 := hx4.cell c5
  have d6 := hx4.cell c6
  have d7 := hx4.cell c7
  clear c0 c1 c2 c3 c4 c5 c6 c7
  have E5 := E4.trans hx4
  clear E4
  clear hx4
  go_wp2_with fail
  refine (r1.out _ _ (ha.ext E5)).mono ?_; rintro e w5 ⟨u5, k5', r5, rfl, hx5, hm5⟩
  obtain ⟨ra5, rn5, rc5, rfl⟩ := r_form hm5
  obtain ⟨I4, I5, P5⟩ := pair_of hm4 hx5 hm5 hok1.out
  have A5 := hx5.alloc (.cells #[.int .i64 k5', .slice ra5 rn5 rc5] 35)
  have S5 := (Ext.refl w5).alloc (.cells #[.int .i64 k5', .slice ra5 rn5 rc5] 35)
  have q0 : (w5.alloc (.cells #[.int .i64 k5', .slice ra5 rn5 rc5] 35)).cell? ⟨w5.heap.size, 0, none⟩ = some (.int .i64 k5') := by simp
  have q1 : (w5.alloc (.cells #[.int .i64 k5', .slice ra5 rn5 rc5] 35)).cell? ⟨w5.heap.size, 1, none⟩ = some (.slice ra5 rn5 rc5) := by simp
  have I4 := I4.ext S5
  have I5 := I5.ext S5
  have P5 := P5.ext S5
  have hi5 := hi4.ext A5
  clear hm4 hm5 hi4 hx5 S5
  have c0 := A5.cell d0
  have c1 := A5.cell d1
  have c2 := A5.cell d2
  have c3 := A5.cell d3
  have c4 := A5.cell d4
  have c5 := A5.cell d5
  have c6 := A5.cell d6
  have c7 := A5.cell d7
  clear d0 d1 d2 d3 d4 d5 d6 d7
  have E6 := E5.trans A5
  clear E5
  clear A5
  go_wp2_with fail
  refine (f2.out _ _ hi5).mono ?_; rintro e w6 ⟨u6, x6, rfl, hx6, hm6⟩
  have hi6 := hi5.ext hx6
  clear hi5
  have I4 := I4.ext hx6
  have I5 := I5.ext hx6
  have P5 := P5.ext hx6
  have q0 := hx6.cell q0
  have q1 := hx6.cell q1
  have d0 := hx6.cell c0
  have d1 := hx6.cell c1
  have d2 := hx6.cell c2
  have d3 := hx6.cell c3
  have d4 := hx6.cell c4
  have d5 := hx6.cell c5
  have d6 := hx6.cell c6
  have d7 := hx6.cell c7
  clear c0 c1 c2 c3 c4 c5 c6 c7
  have E7 := E6.trans hx6
  clear E6
  clear hx6
  go_wp2_with fail
  refine (r2.out _ _ (ha.ext E7)).mono ?_; rintro e w7 ⟨u7, k7', r7, rfl, hx7, hm7⟩
  obtain ⟨ra7, rn7, rc7, rfl⟩ := r_form hm7
  obtain ⟨I6, I7, P7⟩ := pair_of hm6 hx7 hm7 hok2.out
  have A7 := hx7.alloc (.cells #[.int .i64 k7', .slice ra7 rn7 rc7] 35)
  have S7 := (Ext.refl w7).alloc (.cells #[.int .i64 k7', .slice ra7 rn7 rc7] 35)
  have p0 : (w7.alloc (.cells #[.int .i64 k7', .slice ra7 rn7 rc7] 35)).cell? ⟨w7.heap.size, 0, none⟩ = some (.int .i64 k7') := by simp
  have p1 : (w7.alloc (.cells #[.int .i64 k7', .slice ra7 rn7 rc7] 35)).cell? ⟨w7.heap.size, 1, none⟩ = some (.slice ra7 rn7 rc7) := by simp
  have I6 := I6.ext S7
  have I7 := I7.ext S7
  have P7 := P7.ext S7
  have hi7 := hi6.ext A7
  clear hm6 hm7 hi6 hx7 S7
  have I4 := I4.ext A7
  have I5 := I5.ext A7
  have P5 := P5.ext A7
  have q0 := A7.cell q0
  have q1 := A7.cell q1
  have c0 := A7.cell d0
  have c1 := A7.cell d1
  have c2 := A7.cell d2
  have c3 := A7.cell d3
  have c4 := A7.cell d4
  have c5 := A7.cell d5
  have c6 := A7.cell d6
  have c7 := A7.cell d7
  clear d0 d1 d2 d3 d4 d5 d6 d7
  have E8 := E7.trans A7
  clear E7
  clear A7
  go_wp2_with fail
  refine (first18 _ (hg.ext E8)).mono ?_; rintro e w8 ⟨rfl, hx8⟩
  have I4 := I4.ext hx8
  have I5 := I5.ext hx8
  have P5 := P5.ext hx8
  have q0 := hx8.cell q0
  have q1 := hx8.cell q1
  have I6 := I6.ext hx8
  have I7 := I7.ext hx8
  have P7 := P7.ext hx8
  have p0 := hx8.cell p0
  have p1 := hx8.cell p1
  have hi7 := hi7.ext hx8
  have d0 := hx8.cell c0
  have d1 := hx8.cell c1
  have d2 := hx8.cell c2
  have d3 := hx8.cell c3
  have d4 := hx8.cell c4
  have d5 := hx8.cell c5
  have d6 := hx8.cell c6
  have d7 := hx8.cell c7
  clear c0 c1 c2 c3 c4 c5 c6 c7
  have E9 := E8.trans hx8
  clear E8
  clear hx8
  go_wp2_with fail
  refine (fv.out _).mono ?_; rintro e w9 ⟨rfl, hx9⟩
  have I4 := I4.ext hx9
  have I5 := I5.ext hx9
  have P5 := P5.ext hx9
  have q0 := hx9.cell q0
  have q1 := hx9.cell q1
  have I6 := I6.ext hx9
  have I7 := I7.ext hx9
  have P7 := P7.ext hx9
  have p0 := hx9.cell p0
  have p1 := hx9.cell p1
  have hi7 := hi7.ext hx9
  have c0 := hx9.cell d0
  have c1 := hx9.cell d1
  have c2 := hx9.cell d2
  have c3 := hx9.cell d3
  have c4 := hx9.cell d4
  have c5 := hx9.cell d5
  have c6 := hx9.cell d6
  have c7 := hx9.cell d7
  clear d0 d1 d2 d3 d4 d5 d6 d7
  have E10 := E9.trans hx9
  clear E9
  clear hx9
  go_wp2_with fail
  refine (fc.out _).mono ?_; rintro e w10 ⟨rfl, hx10⟩
  have I4 := I4.ext hx10
  have I5 := I5.ext hx10
  have P5 := P5.ext hx10
  have q0 := hx10.cell q0
  have q1 := hx10.cell q1
  have I6 := I6.ext hx10
  have I7 := I7.ext hx10
  have P7 := P7.ext hx10
  have p0 := hx10.cell p0
  have p1 := hx10.cell p1
  have hi7 := hi7.ext hx10
  have E11 := E10.trans hx10
  clear E10
  clear hx10 c0 c1 c2 c3 c4 c5 c6 c7
  go_wp2_with fail
  refine (ints_same (outOf an1 o1) (outOf an1 o1) _ _ _ I4 I5).mono ?_; rintro e w11 ⟨rfl, hx11⟩
  rw [decide_eq_true rfl]
  have I4 := I4.ext hx11
  have I5 := I5.ext hx11
  have P5 := P5.ext hx11
  have q0 := hx11.cell q0
  have q1 := hx11.cell q1
  have I6 := I6.ext hx11
  have I7 := I7.ext hx11
  have P7 := P7.ext hx11
  have p0 := hx11.cell p0
  have p1 := hx11.cell p1
  have hi7 := hi7.ext hx11
  have E12 := E11.trans hx11
  clear E11
  clear hx11 I4 I5
  go_wp2_with fail
  refine (same_pair _ (hg.ext E12) P5).mono ?_; rintro e w12 ⟨rfl, hx12⟩
  have I6 := I6.ext hx12
  have I7 := I7.ext hx12
  have P7 := P7.ext hx12
  have p0 := hx12.cell p0
  have p1 := hx12.cell p1
  have hi7 := hi7.ext hx12
  have E13 := E12.trans hx12
  clear E12
  clear hx12 P5 q0 q1
  go_wp2_with fail
  refine (ints_same (outOf an2 o2) (outOf an2 o2) _ _ _ I6 I7).mono ?_; rintro e w13 ⟨rfl, hx13⟩
  rw [decide_eq_true rfl]
  have P7 := P7.ext hx13
  have p0 := hx13.cell p0
  have p1 := hx13.cell p1
  have hi7 := hi7.ext hx13
  have E14 := E13.trans hx13
  clear E13
  clear hx13 I6 I7
  go_wp2_with fail
  refine (same_pair _ (hg.ext E14) P7).mono ?_; rintro e w14 ⟨rfl, hx14⟩
  have hi7 := hi7.ext hx14
  have E15 := E14.trans hx14
  clear E14
  clear hx14 P7 p0 p1
  go_wp2_with fail
  refine (ints_same zs zs _ _ _ hi7 (ha.ext E15)).mono ?_; rintro e w15 ⟨rfl, hx15⟩
  rw [decide_eq_true rfl]
  go_wp2
  go_ret
  exact ⟨rfl, E15.trans hx15⟩
theorem playErr_code {rate room f : Int} {zs : List Int} {i j : Nat} {k : Int} (h : playErr rate room f zs i = some (j, k)) : k ≠ 0 := by
  induction zs generalizing f i with
  | nil => cases h
  | cons s l ih =>
    unfold playErr at h
    split at h
    · simp only [Option.some.injEq, Prod.mk.injEq] at h; omega
    · split at h
      · simp only [Option.some.injEq, Prod.mk.injEq] at h; omega
      · exact ih h
theorem fillErr_code {rate room f : Int} {zs : List Int} {i j : Nat} {k : Int} (h : fillErr rate room f zs i = some (j, k)) : k ≠ 0 := by
  induction zs generalizing f i with
  | nil => cases h
  | cons s l ih =>
    unfold fillErr at h
    split at h
    · simp only [Option.some.injEq, Prod.mk.injEq] at h; omega
    · exact ih h
theorem ansOf_ok {c : Cfg} {zs : List Int} {o : Option (Nat × Int)} (ho : ∀ j k, o = some (j, k) → k ≠ 0) : ∀ p k', ansOf c zs o = some (p, k') → k' ≠ 0 ∧ p.length ≤ 1000000 := by
  intro p k' h
  unfold ansOf at h
  split at h
  · split at h
    · cases o with
      | none => cases h
      | some q =>
        obtain ⟨j, k⟩ := q
        simp only [Option.map_some, Option.some.injEq, Prod.mk.injEq] at h
        obtain ⟨rfl, rfl⟩ := h
        exact ⟨ho j k rfl, by simp⟩
    · simp only [Option.some.injEq, Prod.mk.injEq] at h
      obtain ⟨rfl, rfl⟩ := h
      exact ⟨by decide, by simp⟩
  · simp only [Option.some.injEq, Prod.mk.injEq] at h
    obtain ⟨rfl, rfl⟩ := h
    exact ⟨by decide, by simp⟩
theorem rPlay_all (c : Cfg) (zs : List Int) (v : Value) (w : World) (ha : Ints w v zs) :
    Calls Tryd.prog 9 #[.agg #[.int .i64 c.qmin, .int .i64 c.qmax, .int .i64 c.reach, .int .i64 c.cut, .int .i64 c.gop, .int .i64 c.rate, .int .i64 c.room, .int .i64 c.fill], v] w (RAns w (ansOf c zs (playErr c.rate c.room c.fill zs 0)) (playOut c.rate c.fill zs)) := by
  by_cases g : Good c
  · by_cases s : Sizes zs
    · refine rPlay_ok c zs v w g ha s _ ?_
      show _ = _
      unfold ansOf
      rw [if_pos g, if_pos s]
    · have hk : askK c zs = 3 := by unfold askK; rw [if_pos g, if_neg s]
      obtain ⟨a, cap, rfl⟩ := ha.form
      refine (rPlay_no c zs (.slice a zs.length cap) w 3 (by decide) ha ?_).mono ?_
      · exact fun W hW => by have := asks_any c zs _ W hW; rw [hk] at this; exact this
      · rintro e w' ⟨he, hx⟩
        refine ⟨_, _, _, he, hx, ?_⟩
        unfold ansOf
        rw [if_pos g, if_neg s]
        exact ⟨rfl, rfl, Row.nil _⟩
  · have hk : askK c zs = 11 := by unfold askK; rw [if_neg g]
    obtain ⟨a, cap, rfl⟩ := ha.form
    refine (rPlay_no c zs (.slice a zs.length cap) w 11 (by decide) ha ?_).mono ?_
    · exact fun W hW => by have := asks_any c zs _ W hW; rw [hk] at this; exact this
    · rintro e w' ⟨he, hx⟩
      refine ⟨_, _, _, he, hx, ?_⟩
      unfold ansOf
      rw [if_neg g]
      exact ⟨rfl, rfl, Row.nil _⟩
theorem rFills_all (c : Cfg) (zs : List Int) (v : Value) (w : World) (ha : Ints w v zs) :
    Calls Tryd.prog 11 #[.agg #[.int .i64 c.qmin, .int .i64 c.qmax, .int .i64 c.reach, .int .i64 c.cut, .int .i64 c.gop, .int .i64 c.rate, .int .i64 c.room, .int .i64 c.fill], v] w (RAns w (ansOf c zs (fillErr c.rate c.room c.fill zs 0)) (fillOut c.rate c.room c.fill zs)) := by
  by_cases g : Good c
  · by_cases s : Sizes zs
    · refine rFills_ok c zs v w g ha s _ ?_
      show _ = _
      unfold ansOf
      rw [if_pos g, if_pos s]
    · have hk : askK c zs = 3 := by unfold askK; rw [if_pos g, if_neg s]
      obtain ⟨a, cap, rfl⟩ := ha.form
      refine (rFills_no c zs (.slice a zs.length cap) w 3 (by decide) ha ?_).mono ?_
      · exact fun W hW => by have := asks_any c zs _ W hW; rw [hk] at this; exact this
      · rintro e w' ⟨he, hx⟩
        refine ⟨_, _, _, he, hx, ?_⟩
        unfold ansOf
        rw [if_pos g, if_neg s]
        exact ⟨rfl, rfl, Row.nil _⟩
  · have hk : askK c zs = 11 := by unfold askK; rw [if_neg g]
    obtain ⟨a, cap, rfl⟩ := ha.form
    refine (rFills_no c zs (.slice a zs.length cap) w 11 (by decide) ha ?_).mono ?_
    · exact fun W hW => by have := asks_any c zs _ W hW; rw [hk] at this; exact this
    · rintro e w' ⟨he, hx⟩
      refine ⟨_, _, _, he, hx, ?_⟩
      unfold ansOf
      rw [if_neg g]
      exact ⟨rfl, rfl, Row.nil _⟩
theorem plays_law (c : Cfg) (zs : List Int) (v : Value) (w : World) (hg : EtIs w) (hr : Row w v zs.length (zs.map (Value.int .i64))) :
    Calls Tryd.prog 3 #[.agg #[.int .i64 c.qmin, .int .i64 c.qmax, .int .i64 c.reach, .int .i64 c.cut, .int .i64 c.gop, .int .i64 c.rate, .int .i64 c.room, .int .i64 c.fill], v] w fun e w' => e = .returned (.bool true) ∧ Ext w w' := by
  by_cases hl : 5000 < zs.length
  · exact plays_long c v zs.length w hg hr.form hl
  · have ha : Ints w v zs := ⟨hr, by omega⟩
    obtain ⟨a, cap, rfl⟩ := ha.form
    by_cases g : Good c
    · exact plays_yes c zs _ _ _ _ a _ cap w hg ha hl rfl (fun W => rmay_yes c W g) (fun W => may_yes c W g) (fun W => Check_yes c W g) (fun W v h => play_all c zs v W h) (fun W v h => rPlay_all c zs v W h) (fun W v h => fills_all c zs v W h) (fun W v h => rFills_all c zs v W h)
        (ansOf_ok fun j k h => playErr_code h) (ansOf_ok fun j k h => fillErr_code h)
    · exact plays_no c zs _ _ _ _ a _ cap w hg ha hl rfl (fun W => rmay_no c W g) (fun W => may_no c W g) (fun W => Check_no c W g) (fun W v h => play_all c zs v W h) (fun W v h => rPlay_all c zs v W h) (fun W v h => fills_all c zs v W h) (fun W v h => rFills_all c zs v W h)
        (ansOf_ok fun j k h => playErr_code h) (ansOf_ok fun j k h => fillErr_code h)
end Go.Proofs.YtckhilnjkckabaaDoor
