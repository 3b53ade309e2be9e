/- kinlaw8.all, wht.Sign of the example, kinlaw8.first: contracts over this seat's translation. -/
import Derived.Test.YtbmknmenaaanaaaDoorWInv
import Derived.Test.YtbmknmenaaanaaaDoorFail
namespace Go.Proofs.YtbmknmenaaanaaaDoor
set_option linter.unusedVariables false
set_option linter.unusedSimpArgs false
open Go.RowKit Go.Extern.Stop Go.Stop Go.Extern Go.Sort

theorem forward_all (zs : List Int) (v : Value) (w : World) (ha : Ints w v zs) : Calls Tryd.prog 17 #[v] w (WPost w (blkAns zs 65536) (fwdL zs)) := by
  unfold blkAns
  split
  · rename_i h
    split
    · rename_i h2
      rcases h with h | h
      · exact forward_ok zs 4 zs.length (lgN zs.length) v w ha rfl (Or.inl ⟨h, rfl, by rw [h]; rfl⟩) h2 _ rfl
      · exact forward_ok zs 8 zs.length (lgN zs.length) v w ha rfl (Or.inr ⟨h, rfl, by rw [h]; rfl⟩) h2 _ rfl
    · rename_i h2
      exact forward_range zs v w ha h h2 _
  · rename_i h
    exact forward_fit zs v w ha (fun e => h (Or.inl e)) (fun e => h (Or.inr e)) _
def invL (zs : List Int) : List Int := rowL zs.length (invF (lgN zs.length) (fun i => zs.getD i 0))
theorem inverse_all (zs : List Int) (v : Value) (w : World) (ha : Ints w v zs) : Calls Tryd.prog 19 #[v] w (WPost w (blkAns zs 16777216) (invL zs)) := by
  unfold blkAns
  split
  · rename_i h
    split
    · rename_i h2
      rcases h with h | h
      · exact inverse_ok zs 4 zs.length (lgN zs.length) v w ha rfl (Or.inl ⟨h, rfl, by rw [h]; rfl⟩) h2 _ rfl
      · exact inverse_ok zs 8 zs.length (lgN zs.length) v w ha rfl (Or.inr ⟨h, rfl, by rw [h]; rfl⟩) h2 _ rfl
    · rename_i h2
      exact inverse_range zs v w ha h h2 _
  · rename_i h
    exact inverse_fit zs v w ha (fun e => h (Or.inl e)) (fun e => h (Or.inr e)) _

set_option maxHeartbeats 1000000 in
set_option maxRecDepth 20000 in
theorem all_any (n : Nat) (x : Int) (w : World) (h1 : 1 ≤ n) (hn : n ≤ 64) :
    Calls Tryd.prog 26 #[.int .i64 n, .int .i64 x] w fun e w' => ∃ u, e = .returned u ∧ w'.ownsRow w.heap.size 3 1 u n ((rowL n fun _ => x).map (Value.int .i64)) ∧ Ext w w' := by
  obtain ⟨i0, hi, hz0, hz1, hz2⟩ := info_parts infoInt
  go_enter Tryd.func26, Tryd.ntmps26
  go_wp2_with (at_make; refine wpList_make_full _ rfl _ _ 22 rfl w.heap.size 3 i0 (.int .i64 0) 1 Tryd.underlying22 hi hz0 hz1 .i64 .i64 _ _ n rfl rfl rfl rfl (by rw [hz2]; omega) (by unfold maxLen; omega) (Nat.le_refl _) ?_; intro w2 hown hgrow)
  have hE : Ext w w2 := Below.grown (Ext.refl w) hgrow (Nat.le_refl _) (fun k hk => by cases hk)
  have hz : (madeCells (Value.int .i64 0).cells (n * 1)).toList = (rowL n fun _ => 0).map (Value.int .i64) := by
    apply List.ext_getElem?
    intro j
    by_cases hj : j < n <;> simp [madeCells, rowL, Value.cells, hj, Nat.mod_one]
  rw [hz] at hown
  obtain ⟨g, cap', hgg, hg, hgl, hc1, hc2, -, hH⟩ := Lib.holds_of_ownsRow (enc := Value.int .i64) hown (by intro e; cases e)
  simp only [Value.slice.injEq, Option.some.injEq, Addr.mk.injEq, and_true, true_and] at hgg
  obtain ⟨rfl, rfl⟩ := hgg
  rw [rowL_arr] at hH
  have HH := Lib.hid hH
  have ho := fun q => Lib.ownsRow_putRow (q := q) (k := n) hown (rowL_length n (fun _ => x)) (Nat.le_refl _)
  have HO := Lib.hid ho
  clear hz hH ho hown hgrow
  go_wp2
  go_loopw [6] (fun iv wr => ∃ k : Nat, k ≤ n ∧ iv = .int .i64 k ∧ Hid (wr = (putRow (Value.int .i64) w2 w.heap.size 0 (rowA n (fun j => if j < k then x else 0))).drewN 0)) (fun iv _ => n - (intOf iv).toNat)
  case atStart => exact ⟨0, Nat.zero_le _, rfl, (putRow_self _ _ _ _ _ HH.out).symm⟩
  case round =>
    obtain ⟨k, hk, rfl, HW⟩ := hrel
    by_cases hkn : k < n
    · have hK := holds_putRow _ _ _ _ _ (rowA n (fun j => if j < k then x else 0)) HH.out (by rw [rowA_size, rowA_size])
      obtain ⟨ck, fk⟩ := hK k (by rw [rowA_size]; exact hkn)
      rw [rowA_get hkn, if_neg (Nat.lt_irrefl _)] at ck
      have ck' : wr.cell? ⟨w.heap.size, k, none⟩ = some (.int .i64 0) := by rw [HW.out]; simpa using ck
      have fk' : wr.frozen? ⟨w.heap.size, k, none⟩ = false := by rw [HW.out]; simpa using fk
      clear hK ck fk
      go_wp2
      go_roundw
      case rel =>
        refine ⟨k + 1, by omega, by go_num, ?_⟩
        show _ = _
        rw [HW.out, one_set hkn]
        congr 2
        apply rowA_congr
        intro i _
        by_cases hik : i = k
        · subst hik
          rw [if_pos rfl, if_pos (by omega)]
        · rw [if_neg hik]
          by_cases h2 : i < k
          · rw [if_pos h2, if_pos (by omega)]
          · rw [if_neg h2, if_neg (by omega)]
      case measure => simp [intOf]; omega
    · go_wp2
      go_ret
      have e1 : wr = putRow (Value.int .i64) (Sort.ahead w2 0) w.heap.size 0 (rowL n (fun _ => x)).toArray := by
        rw [HW.out, rowL_arr, rowA_congr (g := fun _ => x) (fun j hj => by rw [if_pos (by omega)])]
        rfl
      refine ⟨_, rfl, ?_, ?_⟩
      · have := HO.out 0
        rw [← e1, List.take_of_length_le (by rw [rowL_length]; exact Nat.le_refl _)] at this
        exact this
      · rw [e1]
        exact Lib.below_putRow hE (Nat.le_refl _)

/-- how many bits are 1 -/
def pc : Nat → Int
  | 0 => 0 | 1 => 1 | 2 => 1 | 3 => 2 | 4 => 1 | 5 => 2 | 6 => 2 | _ => 3
set_option maxRecDepth 100000 in
theorem ones_small (y : Nat) (hy : y < 8) (w : World) : Calls Tryd.prog 54 #[.int .u64 y] w fun e w' => e = .returned (.int .i64 (pc y)) ∧ w' = w := by
  have h : y = 0 ∨ y = 1 ∨ y = 2 ∨ y = 3 ∨ y = 4 ∨ y = 5 ∨ y = 6 ∨ y = 7 := by omega
  rcases h with rfl | rfl | rfl | rfl | rfl | rfl | rfl | rfl
  all_goals
    go_enter Tryd.func54, Tryd.ntmps54
    go_wp2
    go_ret
    exact ⟨by kernel_rfl, rfl⟩
theorem and_tab : ∀ u < 8, ∀ x < 8, bits .and .i64 (u : Nat) (x : Nat) = ((u &&& x : Nat) : Int) ∧ u &&& x < 8 := by decide +kernel
def sgn (u x : Nat) : Int := if pc (u &&& x) % 2 = 1 then -1 else 1
set_option maxRecDepth 20000 in
theorem sign_in (u x : Nat) (hu : u < 8) (hx : x < 8) (w : World) : Calls Tryd.prog 23 #[.int .i64 u, .int .i64 x] w fun e w' => e = .returned (.int .i64 (sgn u x)) ∧ w' = w := by
  obtain ⟨e1, e2⟩ := and_tab u hu x hx
  obtain ⟨y, hy⟩ : ∃ y, y = u &&& x := ⟨_, rfl⟩
  rw [← hy] at e1 e2
  have HY := Lib.hid hy
  obtain ⟨p, hp⟩ : ∃ p, p = pc y := ⟨_, rfl⟩
  have ho := fun W => ones_small y e2 W
  rw [← hp] at ho
  have hp3 : 0 ≤ p ∧ p ≤ 3 := by
    rw [hp]
    have h : y = 0 ∨ y = 1 ∨ y = 2 ∨ y = 3 ∨ y = 4 ∨ y = 5 ∨ y = 6 ∨ y = 7 := by omega
    rcases h with rfl | rfl | rfl | rfl | rfl | rfl | rfl | rfl <;> decide
  have HO := Lib.hid ho
  have HP := Lib.hid hp
  clear hy ho hp
  by_cases hb : p % 2 = 1
  · have hb' : (p % 2 == 1) = true := by simpa using hb
    go_enter Tryd.func23, Tryd.ntmps23
    go_wp2_with fail
    refine (HO.out _).mono ?_; rintro e w1 ⟨rfl, rfl⟩
    go_wp2
    go_ret
    refine ⟨?_, rfl⟩
    unfold sgn
    rw [← HY.out, ← HP.out, if_pos hb]
    rfl
  · have hb' : (p % 2 == 1) = false := by simpa using hb
    go_enter Tryd.func23, Tryd.ntmps23
    go_wp2_with fail
    refine (HO.out _).mono ?_; rintro e w1 ⟨rfl, rfl⟩
    go_wp2
    go_ret
    refine ⟨?_, rfl⟩
    unfold sgn
    rw [← HY.out, ← HP.out, if_neg hb]
    rfl

/-- ints that the call itself made -/
theorem Ints.of_row {w : World} {base N : Nat} {v : Value} {f : Nat → Int} (h : w.ownsRow base 3 1 v N ((rowL N f).map (Value.int .i64))) (hN : N ≤ 1000000) : Ints w v (rowL N f) := Ints.of_owns h (by rw [rowL_length]; omega)
theorem own_form {w : World} {base N : Nat} {v : Value} {f : Nat → Int} (h : w.ownsRow base 3 1 v N ((rowL N f).map (Value.int .i64))) (hN : 1 ≤ N) : ∃ g cap, v = .slice (some ⟨g, 0, none⟩) N cap ∧ base ≤ g ∧ g < w.heap.size ∧ N ≤ cap ∧ cap ≤ maxLen := by
  obtain ⟨g, cap', e, hg, hgl, hc1, hc2, -, -⟩ := Lib.holds_of_ownsRow (enc := Value.int .i64) h (by
    rintro rfl
    rcases h.2 with ⟨_, h0⟩ | ⟨_, _, _, h0, _⟩
    · omega
    · cases h0)
  exact ⟨g, cap', e, hg, hgl, hc1, hc2⟩
theorem own_holds {w : World} {base g cap N : Nat} {f : Nat → Int} (h : w.ownsRow base 3 1 (.slice (some ⟨g, 0, none⟩) N cap) N ((rowL N f).map (Value.int .i64))) : Holds (Value.int .i64) w g 0 (rowA N f) := by
  obtain ⟨g', cap', e, -, -, -, -, -, hH⟩ := Lib.holds_of_ownsRow (enc := Value.int .i64) h (by intro e; cases e)
  simp only [Value.slice.injEq, Option.some.injEq, Addr.mk.injEq, and_true, true_and] at e
  obtain ⟨rfl, rfl⟩ := e
  rwa [rowL_arr] at hH
theorem own_cell {w : World} {base g cap N k : Nat} {f : Nat → Int} (h : w.ownsRow base 3 1 (.slice (some ⟨g, 0, none⟩) N cap) N ((rowL N f).map (Value.int .i64))) (hk : k < N) : w.cell? ⟨g, k, none⟩ = some (.int .i64 (f k)) ∧ w.frozen? ⟨g, k, none⟩ = false := by
  obtain ⟨ck, fk⟩ := own_holds h k (by rw [rowA_size]; exact hk)
  rw [rowA_get hk] at ck
  exact ⟨by simpa using ck, by simpa using fk⟩
theorem own_set {w : World} {base g cap N k : Nat} {f : Nat → Int} {x : Int} (h : w.ownsRow base 3 1 (.slice (some ⟨g, 0, none⟩) N cap) N ((rowL N f).map (Value.int .i64))) (hk : k < N) :
    (w.setCell ⟨g, k, none⟩ (.int .i64 x)).ownsRow base 3 1 (.slice (some ⟨g, 0, none⟩) N cap) N ((rowL N (fun i => if i = k then x else f i)).map (Value.int .i64)) := by
  have e := one_set (w := w) (blk := g) (q := 0) (f := f) (x := x) hk
  rw [putRow_self _ _ _ _ _ (own_holds h)] at e
  have ho := Lib.ownsRow_putRow (q := 0) (k := N) h (rowL_length N (fun i => if i = k then x else f i)) (Nat.le_refl _)
  rw [List.take_of_length_le (by rw [rowL_length]; exact Nat.le_refl _), rowL_arr] at ho
  rw [show w.setCell ⟨g, k, none⟩ (.int .i64 x) = putRow (Value.int .i64) (Sort.ahead w 0) g 0 (rowA N (fun i => if i = k then x else f i)) from e]
  exact ho
theorem zeros_row (n : Nat) : (madeCells (Value.int .i64 0).cells (n * 1)).toList = (rowL n fun _ => 0).map (Value.int .i64) := by
  apply List.ext_getElem?
  intro j
  by_cases hj : j < n <;> simp [madeCells, rowL, Value.cells, hj, Nat.mod_one]
theorem fwdL_row (zs : List Int) {N : Nat} (h : zs.length = N) : fwdL zs = rowL N (fwdF zs) := by unfold fwdL; rw [h]

def neg9 : Nat → Int := fun i => if i = 0 then -9 else 0
theorem f8a : blkAns (rowL 16 fun _ => 3) 65536 = none ∧ fwdL (rowL 16 fun _ => 3) = rowL 16 (fwdF (rowL 16 fun _ => 3)) ∧ fwdF (rowL 16 fun _ => 3) 0 = 48 ∧ fwdF (rowL 16 fun _ => 3) 5 = 0 := by
  refine ⟨by decide +kernel, fwdL_row _ (rowL_length _ _), by decide +kernel, by decide +kernel⟩
theorem f8b : blkAns (rowL 16 fun i => if i = 0 then -9 else 0) 16777216 = none ∧ invL (rowL 16 fun i => if i = 0 then -9 else 0) = rowL 16 (fun _ => -1) := by
  refine ⟨by decide +kernel, by decide +kernel⟩
theorem f8c : blkAns (rowL 3 fun _ => 1) 65536 = some 14 := by decide +kernel
set_option maxHeartbeats 1000000 in
set_option maxRecDepth 20000 in
theorem first8 (w : World) (hg : EtIs w) :
    Calls Tryd.prog 15 #[] w fun e w' => e = .returned (.bool true) ∧ Ext w w' := by
  obtain ⟨i0, hi, hz0, hz1, hz2⟩ := info_parts infoInt
  go_enter Tryd.func15, Tryd.ntmps15
  go_wp2_with fail
  refine (all_any 16 3 _ (by decide) (by decide)).mono ?_; rintro e w1 ⟨u1, rfl, h1, hx1⟩
  go_wp2_with fail
  refine (forward_all (rowL 16 fun _ => 3) _ _ (Ints.of_row h1 (by decide))).mono ?_; rintro e w2 ⟨u2, x2, rfl, hx2, hm⟩
  rw [f8a.1] at hm
  obtain ⟨hm, rfl⟩ := hm
  rw [f8a.2.1, rowL_length] at hm
  obtain ⟨g2, cap2, rfl, hg2, hgl2, -, -⟩ := own_form hm (by decide)
  have c0 := (own_cell hm (k := 0) (by decide)).1
  have c5 := (own_cell hm (k := 5) (by decide)).1
  rw [f8a.2.2.1] at c0
  rw [f8a.2.2.2] at c5
  have E2 := hx1.trans hx2
  clear hm h1 hx1 hx2 hg2
  go_wp2_with (at_make; refine wpList_make_full _ rfl _ _ 22 rfl w2.heap.size 3 i0 (.int .i64 0) 1 Tryd.underlying22 hi hz0 hz1 .i64 .i64 _ _ 16 rfl rfl rfl rfl (by rw [hz2]; decide) (by decide) (Nat.le_refl _) ?_; intro w3 hown hgrow; rw [zeros_row] at hown; obtain ⟨z0, y0⟩ := own_cell hown (k := 0) (by decide))
  have hset := own_set (x := -9) hown (k := 0) (by decide)
  have E3 : Ext w2 w3 := Below.grown (Ext.refl w2) hgrow (Nat.le_refl _) (fun k hk => by cases hk)
  refine (inverse_all (rowL 16 fun i => if i = 0 then -9 else 0) _ _ (Ints.of_row hset (by decide))).mono ?_; rintro e w4 ⟨u4, x4, rfl, hx4, hm4⟩
  rw [f8b.1] at hm4
  obtain ⟨hm4, rfl⟩ := hm4
  rw [f8b.2, rowL_length] at hm4
  have hb4 := Ints.of_row hm4 (by decide)
  have E34 : Ext w2 w4 := (Below.setCell E3 (Nat.le_refl _) _).trans (Below.mono hx4 (by simp [World.size_setCell]; exact E3.size))
  have d0 := E34.cell c0
  have d5 := E34.cell c5
  have E4 := E2.trans E34
  clear hset hown hgrow z0 y0 c0 c5 hm4 hx4 E34 E3 E2
  go_wp2_with fail
  refine (all_any 3 1 _ (by decide) (by decide)).mono ?_; rintro e w5 ⟨u5, rfl, h5, hx5⟩
  go_wp2_with fail
  refine (forward_all (rowL 3 fun _ => 1) _ _ (Ints.of_row h5 (by decide))).mono ?_; rintro e w6 ⟨u6, x6, rfl, hx6, hm6⟩
  rw [f8c] at hm6
  obtain ⟨rfl, rfl⟩ := hm6
  have E56 := hx5.trans hx6
  have c0 := E56.cell d0
  have c5 := E56.cell d5
  have hb6 := hb4.ext E56
  have E6 := E4.trans E56
  clear h5 hx5 hx6 E56 d0 d5 hb4 E4
  go_wp2_with fail
  refine (all_any 16 (-1) _ (by decide) (by decide)).mono ?_; rintro e w7 ⟨u7, rfl, h7, hx7⟩
  go_wp2_with fail
  refine (ints_same _ (rowL 16 fun _ => -1) _ _ _ (hb6.ext hx7) (Ints.of_row h7 (by decide))).mono ?_; rintro e w8 ⟨rfl, hx8⟩
  have E8 := E6.trans (hx7.trans hx8)
  rw [decide_eq_true rfl]
  clear hb6 h7 hx7 hx8 E6
  go_wp2_with fail
  refine (fail_any 14 _).mono ?_; rintro e w9 ⟨rfl, hx9⟩
  go_wp2_with fail
  have E9 := E8.trans hx9
  refine (same_err [] 14 _ _ _ (hg.ext E9) rfl (Row.nil _) (by decide) (by decide)).mono ?_; rintro e w10 ⟨rfl, hx10⟩
  have E10 := E9.trans hx10
  clear hx9 hx10 E9 E8
  go_wp2_with fail
  refine (sign_in 3 1 (by decide) (by decide) _).mono ?_; rintro e w11 ⟨rfl, rfl⟩
  rw [show sgn 3 1 = -1 by decide]
  go_wp2
  go_ret
  exact ⟨rfl, E10⟩
end Go.Proofs.YtbmknmenaaanaaaDoor
