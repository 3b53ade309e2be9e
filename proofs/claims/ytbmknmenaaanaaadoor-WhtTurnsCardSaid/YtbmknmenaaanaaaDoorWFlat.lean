/- kinlaw8.WhtFlat: the walk. -/
import Derived.Test.YtbmknmenaaanaaaDoorW8Math
namespace Go.Proofs.YtbmknmenaaanaaaDoor
set_option linter.unusedVariables false
set_option linter.unusedSimpArgs false
open Go.RowKit Go.Extern.Stop Go.Stop Go.Extern

theorem own_ext {w w' : World} {base : Nat} {e : TypeId} {size n : Nat} {v : Value} {xs : List Value} (h : w.ownsRow base e size v n xs) (k : Ext w w') : w'.ownsRow base e size v n xs := by
  obtain ⟨hl, h⟩ := h
  refine ⟨hl, ?_⟩
  rcases h with h | ⟨g, cap, cur, rfl, hb, hg, h⟩
  · exact Or.inl h
  · have hlt : g < w.heap.size := by
      rcases Nat.lt_or_ge g w.heap.size with h' | h'
      · exact h'
      · rw [Array.getElem?_eq_none h'] at hg; cases hg
    exact Or.inr ⟨g, cap, cur, rfl, hb, (k.block hlt).trans hg, h⟩
theorem Ints.had' {w : World} {a : Option Addr} {n cap : Nat} {zs : List Int} (h : Ints w (.slice a n cap) zs) : 0 < n → ∃ g off, a = some ⟨g, off, none⟩ := fun h0 => by
  obtain ⟨⟨a', cap', e, _, _, h3, _⟩, _⟩ := h
  simp only [Value.slice.injEq] at e
  obtain ⟨rfl, rfl, rfl⟩ := e
  exact h3 h0
theorem Ints.of_cells {w : World} {g off n cap : Nat} {zs : List Int} (hl : zs.length = n) (h1 : n ≤ cap) (h2 : cap ≤ maxLen) (hb : n ≤ 4611686018427387903) (h : ∀ j x, zs[j]? = some x → w.cell? ⟨g, off + j, none⟩ = some (.int .i64 x)) : Ints w (.slice (some ⟨g, off, none⟩) n cap) zs := by
  subst hl
  refine ⟨⟨_, _, rfl, h1, h2, fun _ => ⟨g, off, rfl⟩, fun g' off' e j u hu => ?_⟩, hb⟩
  simp only [Option.some.injEq, Addr.mk.injEq, and_true] at e
  obtain ⟨rfl, rfl⟩ := e
  rw [List.getElem?_map] at hu
  obtain ⟨x, hx, rfl⟩ := Option.map_eq_some_iff.1 hu
  exact h j x hx
theorem bit_low {m i : Nat} (h : i < 2 ^ (m + 1)) : i < 2 ^ m ↔ i.testBit m = false := by
  constructor
  · exact Nat.testBit_lt_two_pow
  · intro hb
    refine Nat.lt_of_not_le fun h5 => ?_
    rw [Nat.testBit_of_two_pow_le_and_two_pow_add_one_gt h5 h] at hb
    cases hb
theorem flat_delta (m : Nat) (v : Int) (i : Nat) : wht m (fun i => if i = 0 then v else 0) i = if i < 2 ^ m then v else 0 := by
  induction m generalizing i with
  | zero => simp [wht]
  | succ m ih =>
    rw [wht, wpass, ih, ih]
    have hp : 2 ^ (m + 1) = 2 * 2 ^ m := by rw [Nat.pow_succ, Nat.mul_comm]
    by_cases h2 : i < 2 ^ (m + 1)
    · have h4 := flip_lt h2 (Nat.lt_succ_self m)
      rw [if_pos h2]
      cases hb : i.testBit m with
      | true =>
        have h1 : ¬ i < 2 ^ m := fun h => by rw [(bit_low h2).1 h] at hb; cases hb
        have h3 : flip m i < 2 ^ m := (bit_low h4).2 (by rw [flip_bit, hb]; rfl)
        simp only [if_true]
        rw [if_pos h3, if_neg h1]
        omega
      | false =>
        have h1 : i < 2 ^ m := (bit_low h2).2 hb
        have h3 : ¬ flip m i < 2 ^ m := fun h => by have := (bit_low h4).1 h; rw [flip_bit, hb] at this; cases this
        simp only [Bool.false_eq_true, if_false]
        rw [if_pos h1, if_neg h3]
        omega
    · have h1 : ¬ i < 2 ^ m := by omega
      have h3 : ¬ flip m i < 2 ^ m := fun h => h2 (by have := flip_lt (M := m + 1) (Nat.lt_of_lt_of_le h (by omega)) (Nat.lt_succ_self m); rw [flip_flip] at this; exact this)
      rw [if_neg h2, if_neg h1, if_neg h3]
      split <;> omega
/-- one number everywhere -/
theorem flat1 {N : Nat} {v : Int} (hN : N = 16 ∨ N = 64) (hv : -65536 ≤ v ∧ v ≤ 65536) : blkAns (rowL N fun _ => v) 65536 = none ∧ fwdL (rowL N fun _ => v) = rowL N (fun i => if i = 0 then N * v else 0) := by
  obtain ⟨e, h3⟩ := lg_of hN
  refine ⟨blkAns_ok (by rw [rowL_length]; exact hN) (rowL_within fun _ _ => hv), ?_⟩
  unfold fwdL fwdF
  rw [rowL_length]
  apply rowL_congr
  intro j hj
  rw [wht_congr (g := wht (lgN N) (fun i => if i = 0 then v else 0)) (Nat.le_refl _) (fun i hi => by rw [flat_delta, if_pos hi, getD_rowL, if_pos (by omega)]) j (by omega), wht_wht]
  simp only []
  by_cases h0 : j = 0
  · rw [if_pos h0, if_pos h0]
    rcases h3 with ⟨e5, e4⟩ | ⟨e5, e4⟩ <;> rw [e4, e5] <;> rfl
  · rw [if_neg h0, if_neg h0]
    simp
theorem flat2 {N : Nat} {v b : Int} (hN : N = 16 ∨ N = 64) (hv : -65536 ≤ v ∧ v ≤ 65536) (hb : -(N : Int) ≤ 2 * b ∧ 2 * b < N) :
    blkAns (rowL N fun i => if i = 0 then N * v + b else (if i = 0 then N * v else 0)) 16777216 = none ∧ invL (rowL N fun i => if i = 0 then N * v + b else (if i = 0 then N * v else 0)) = rowL N (fun _ => v) := by
  obtain ⟨e, h3⟩ := lg_of hN
  refine ⟨blkAns_ok (by rw [rowL_length]; exact hN) (rowL_within fun i hi => ?_), ?_⟩
  · by_cases h0 : i = 0
    · rw [if_pos h0]
      rcases hN with rfl | rfl <;> push_cast at hb ⊢ <;> omega
    · rw [if_neg h0, if_neg h0]
      omega
  · unfold invL
    rw [rowL_length]
    apply rowL_congr
    intro j hj
    unfold invF
    rw [wht_congr (g := fun i => if i = 0 then N * v + b else 0) (Nat.le_refl _) (fun i hi => by
      rw [getD_rowL, if_pos (by omega)]
      by_cases h0 : i = 0
      · rw [if_pos h0, if_pos h0]
      · rw [if_neg h0, if_neg h0, if_neg h0]) j (by omega), flat_delta, if_pos (by omega)]
    rcases h3 with ⟨e5, e4⟩ | ⟨e5, e4⟩ <;> rw [e4] <;> subst e5 <;> push_cast at hb ⊢ <;> omega

def FlatOut (N : Nat) (v b : Int) : Prop := v < -65536 ∨ ¬ v < -65536 ∧ 65536 < v ∨ (¬ v < -65536 ∧ ¬ 65536 < v) ∧ 2 * b < -(N : Int) ∨ (¬ v < -65536 ∧ ¬ 65536 < v) ∧ ¬ 2 * b < -(N : Int) ∧ N ≤ 2 * b
set_option maxHeartbeats 1000000 in
set_option maxRecDepth 20000 in
theorem flat_out (v b : Int) (l : Bool) (w : World) (hg : EtIs w) (h : FlatOut (if l then 64 else 16) v b) :
    Calls Tryd.prog 8 #[.int .i64 v, .int .i64 b, .bool l] w fun e w' => e = .returned (.bool true) ∧ Ext w w' := by
  have t1 : (-16 : Int).tdiv 2 = -8 := rfl
  have t2 : (-64 : Int).tdiv 2 = -32 := rfl
  have t3 : (16 : Int).tdiv 2 = 8 := rfl
  have t4 : (64 : Int).tdiv 2 = 32 := rfl
  cases l
  all_goals
    simp only [FlatOut, if_true, Bool.false_eq_true, if_false] at h
    rcases h with h1 | ⟨h1, h2⟩ | ⟨⟨h1, h2⟩, h3⟩ | ⟨⟨h1, h2⟩, h3, h4⟩
    all_goals
      go_enter Tryd.func8, Tryd.ntmps8
      go_wp2_with fail
      refine (first8 _ hg).mono ?_; rintro e w1 ⟨rfl, hx1⟩
      go_wp2_with fail
      refine (first8 _ (hg.ext hx1)).mono ?_; rintro e w2 ⟨rfl, hx2⟩
      go_wp2
      go_ret
      exact ⟨rfl, hx1.trans hx2⟩

set_option maxHeartbeats 1000000 in
set_option maxRecDepth 20000 in
theorem flat_in (v b : Int) (l : Bool) (N : Nat) (w : World) (hg : EtIs w) (hv : -65536 ≤ v ∧ v ≤ 65536) (hb : -(N : Int) ≤ 2 * b ∧ 2 * b < N) (hN : l = false ∧ N = 16 ∨ l = true ∧ N = 64) (cF dF : Nat → Int) (c0 : cF 0 = N * v) (cz : ∀ i, 0 < i → cF i = 0) (hd : Hid (dF = fun i => if i = 0 then N * v + b else cF i))
    (f1 : Hid (∀ W u, Ints W u (rowL N fun _ => v) → Calls Tryd.prog 17 #[u] W (WPost W none (rowL N cF))))
    (f2 : Hid (∀ W u, Ints W u (rowL N dF) → Calls Tryd.prog 19 #[u] W (WPost W none (rowL N fun _ => v)))) :
    Calls Tryd.prog 8 #[.int .i64 v, .int .i64 b, .bool l] w fun e w' => e = .returned (.bool true) ∧ Ext w w' := by
  have t1 : (-16 : Int).tdiv 2 = -8 := rfl
  have t2 : (-64 : Int).tdiv 2 = -32 := rfl
  have t3 : (16 : Int).tdiv 2 = 8 := rfl
  have t4 : (64 : Int).tdiv 2 = 32 := rfl
  have C0 := Lib.hid c0
  have CZ := Lib.hid cz
  clear c0 cz
  rcases hN with ⟨rfl, rfl⟩ | ⟨rfl, rfl⟩
  · go_enter Tryd.func8, Tryd.ntmps8
    go_wp2_with fail
    refine (first8 _ hg).mono ?_; rintro e w1 ⟨rfl, hx1⟩
    go_wp2_with fail
    refine (all_any 16 v _ (by decide) (by decide)).mono ?_; rintro e w2 ⟨u2, rfl, h2, hx2⟩
    go_wp2_with fail
    refine (f1.out _ _ (Ints.of_row h2 (by decide))).mono ?_; rintro e w3 ⟨u3, x3, rfl, hx3, hm, rfl⟩
    rw [rowL_length] at hm
    obtain ⟨g, cap, rfl, hg3, hgl, hc1, hc2⟩ := own_form hm (by decide)
    obtain ⟨k0, y0⟩ := own_cell hm (k := 0) (by decide)
    rw [C0.out] at k0
    have tl : Ints w3 (.slice (some ⟨g, 1, none⟩) 15 (cap - 1)) (rowL 15 fun _ => 0) := Ints.of_cells (rowL_length _ _) (by omega) (by omega) (by decide) (fun j x hj => by
      have hlt : j < 15 := by
        have := (List.getElem?_eq_some_iff.1 hj).1
        rwa [rowL_length] at this
      rw [rowL_get hlt] at hj
      obtain rfl := Option.some.inj hj
      have := (own_cell hm (k := 1 + j) (by omega)).1
      rwa [CZ.out (1 + j) (by omega)] at this)
    have E3 := hx1.trans (hx2.trans hx3)
    go_wp2_with fail
    refine (within_any _ 0 0 _ _ tl).mono ?_; rintro e w4 ⟨rfl, hx4⟩
    rw [decide_eq_true (show within 0 0 (rowL 15 fun _ => 0) from rowL_within fun _ _ => by decide)]
    have hm4 := own_ext hm hx4
    have q0 := hx4.cell k0
    have z0 := (Below.frozen hx4 (p := ⟨g, 0, none⟩) hgl).trans y0
    have E4 := E3.trans hx4
    have hgl4 : g < w4.heap.size := Nat.lt_of_lt_of_le hgl hx4.size
    have hgw : w.heap.size ≤ g := Nat.le_trans (hx1.trans hx2).size hg3
    clear hm k0 y0 tl h2 hx1 hx2 hx3 hx4 E3 hgl hg3
    have hs := own_set (x := 16 * v + b) hm4 (k := 0) (by decide)
    have hi := Ints.of_row hs (by decide)
    rw [show (fun i => if i = 0 then 16 * v + b else cF i) = dF from hd.out.symm] at hi
    have q1 : (w4.setCell ⟨g, 0, none⟩ (.int .i64 (16 * v + b))).cell? ⟨g, 0, none⟩ = some (.int .i64 (16 * v + b)) := World.cell?_setCell_same _ _ _ q0
    go_wp2_with fail
    have E5 := Below.setCell E4 (p := ⟨g, 0, none⟩) hgw (.int .i64 (16 * v + b))
    refine (f2.out _ _ hi).mono ?_; rintro e w6 ⟨u6, x6, rfl, hx6, hm6, rfl⟩
    have q6 := hx6.cell q1
    rw [rowL_length] at hm6
    have hb6 := Ints.of_row hm6 (by decide)
    have E6 : Ext w w6 := E5.trans (Below.mono hx6 (by simp only [World.size_setCell]; exact E4.size))
    clear hi q1 hs hm4 q0 z0 hx6 hm6 E5
    go_wp2_with fail
    refine (first8 _ (hg.ext E6)).mono ?_; rintro e w7 ⟨rfl, hx7⟩
    have E7 := E6.trans hx7
    have hb7 := hb6.ext hx7
    have q7 := hx7.cell q6
    clear hb6 q6 hx7 E6
    go_wp2_with fail
    refine (all_any 16 v _ (by decide) (by decide)).mono ?_; rintro e w8 ⟨u8, rfl, h8, hx8⟩
    go_wp2_with fail
    refine (ints_same _ (rowL 16 fun _ => v) _ _ _ (hb7.ext hx8) (Ints.of_row h8 (by decide))).mono ?_; rintro e w9 ⟨rfl, hx9⟩
    rw [decide_eq_true rfl]
    go_wp2
    go_ret
    exact ⟨rfl, E7.trans (hx8.trans hx9)⟩
  · go_enter Tryd.func8, Tryd.ntmps8
    go_wp2_with fail
    refine (first8 _ hg).mono ?_; rintro e w1 ⟨rfl, hx1⟩
    go_wp2_with fail
    refine (all_any 64 v _ (by decide) (by decide)).mono ?_; rintro e w2 ⟨u2, rfl, h2, hx2⟩
    go_wp2_with fail
    refine (f1.out _ _ (Ints.of_row h2 (by decide))).mono ?_; rintro e w3 ⟨u3, x3, rfl, hx3, hm, rfl⟩
    rw [rowL_length] at hm
    obtain ⟨g, cap, rfl, hg3, hgl, hc1, hc2⟩ := own_form hm (by decide)
    obtain ⟨k0, y0⟩ := own_cell hm (k := 0) (by decide)
    rw [C0.out] at k0
    have tl : Ints w3 (.slice (some ⟨g, 1, none⟩) 63 (cap - 1)) (rowL 63 fun _ => 0) := Ints.of_cells (rowL_length _ _) (by omega) (by omega) (by decide) (fun j x hj => by
      have hlt : j < 63 := by
        have := (List.getElem?_eq_some_iff.1 hj).1
        rwa [rowL_length] at this
      rw [rowL_get hlt] at hj
      obtain rfl := Option.some.inj hj
      have := (own_cell hm (k := 1 + j) (by omega)).1
      rwa [CZ.out (1 + j) (by omega)] at this)
    have E3 := hx1.trans (hx2.trans hx3)
    go_wp2_with fail
    refine (within_any _ 0 0 _ _ tl).mono ?_; rintro e w4 ⟨rfl, hx4⟩
    rw [decide_eq_true (show within 0 0 (rowL 63 fun _ => 0) from rowL_within fun _ _ => by decide)]
    have hm4 := own_ext hm hx4
    have q0 := hx4.cell k0
    have z0 := (Below.frozen hx4 (p := ⟨g, 0, none⟩) hgl).trans y0
    have E4 := E3.trans hx4
    have hgl4 : g < w4.heap.size := Nat.lt_of_lt_of_le hgl hx4.size
    have hgw : w.heap.size ≤ g := Nat.le_trans (hx1.trans hx2).size hg3
    clear hm k0 y0 tl h2 hx1 hx2 hx3 hx4 E3 hgl hg3
    have hs := own_set (x := 64 * v + b) hm4 (k := 0) (by decide)
    have hi := Ints.of_row hs (by decide)
    rw [show (fun i => if i = 0 then 64 * v + b else cF i) = dF from hd.out.symm] at hi
    have q1 : (w4.setCell ⟨g, 0, none⟩ (.int .i64 (64 * v + b))).cell? ⟨g, 0, none⟩ = some (.int .i64 (64 * v + b)) := World.cell?_setCell_same _ _ _ q0
    go_wp2_with fail
    have E5 := Below.setCell E4 (p := ⟨g, 0, none⟩) hgw (.int .i64 (64 * v + b))
    refine (f2.out _ _ hi).mono ?_; rintro e w6 ⟨u6, x6, rfl, hx6, hm6, rfl⟩
    have q6 := hx6.cell q1
    rw [rowL_length] at hm6
    have hb6 := Ints.of_row hm6 (by decide)
    have E6 : Ext w w6 := E5.trans (Below.mono hx6 (by simp only [World.size_setCell]; exact E4.size))
    clear hi q1 hs hm4 q0 z0 hx6 hm6 E5
    go_wp2_with fail
    refine (first8 _ (hg.ext E6)).mono ?_; rintro e w7 ⟨rfl, hx7⟩
    have E7 := E6.trans hx7
    have hb7 := hb6.ext hx7
    have q7 := hx7.cell q6
    clear hb6 q6 hx7 E6
    go_wp2_with fail
    refine (all_any 64 v _ (by decide) (by decide)).mono ?_; rintro e w8 ⟨u8, rfl, h8, hx8⟩
    go_wp2_with fail
    refine (ints_same _ (rowL 64 fun _ => v) _ _ _ (hb7.ext hx8) (Ints.of_row h8 (by decide))).mono ?_; rintro e w9 ⟨rfl, hx9⟩
    rw [decide_eq_true rfl]
    go_wp2
    go_ret
    exact ⟨rfl, E7.trans (hx8.trans hx9)⟩
theorem flat_law (v b : Int) (l : Bool) (w : World) (hg : EtIs w) :
    Calls Tryd.prog 8 #[.int .i64 v, .int .i64 b, .bool l] w fun e w' => e = .returned (.bool true) ∧ Ext w w' := by
  by_cases h : FlatOut (if l then 64 else 16) v b
  · exact flat_out v b l w hg h
  · obtain ⟨N, hN⟩ : ∃ N : Nat, N = if l then 64 else 16 := ⟨_, rfl⟩
    rw [← hN] at h
    have hNN : N = 16 ∨ N = 64 := by cases l; exact Or.inl hN; exact Or.inr hN
    have hv : -65536 ≤ v ∧ v ≤ 65536 := by unfold FlatOut at h; omega
    have hb : -(N : Int) ≤ 2 * b ∧ 2 * b < N := by unfold FlatOut at h; omega
    obtain ⟨a1, a2⟩ := flat1 hNN hv
    obtain ⟨b1, b2⟩ := flat2 hNN hv hb
    refine flat_in v b l N w hg hv hb (by cases l; exact Or.inl ⟨rfl, hN⟩; exact Or.inr ⟨rfl, hN⟩) (fun i => if i = 0 then N * v else 0) (fun i => if i = 0 then N * v + b else (if i = 0 then N * v else 0)) (if_pos rfl) (fun i hi => if_neg (by omega)) rfl (fun W u hu => ?_) (fun W u hu => ?_)
    · have := forward_all _ u W hu
      rw [a1, a2] at this
      exact this
    · have := inverse_all _ u W hu
      rw [b1, b2] at this
      exact this
end Go.Proofs.YtbmknmenaaanaaaDoor
