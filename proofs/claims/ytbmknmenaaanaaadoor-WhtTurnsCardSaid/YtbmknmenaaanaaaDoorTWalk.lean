/- kinlaw8.WhtTurns: the walk. -/
import Derived.Test.YtbmknmenaaanaaaDoorRInvr
import Derived.Test.YtbmknmenaaanaaaDoorCopy
import Derived.Deep.RegionHeld3
namespace Go.Proofs.YtbmknmenaaanaaaDoor
set_option linter.unusedVariables false
set_option linter.unusedSimpArgs false
open Go.RowKit Go.Extern.Stop Go.Stop Go.Extern

theorem evar_new (w : World) (k : Int) : (w.alloc (.cells #[.int .i64 k, .slice none 0 0] 32)).cell? ⟨w.heap.size, 0, none⟩ = some (.int .i64 k) ∧ (w.alloc (.cells #[.int .i64 k, .slice none 0 0] 32)).cell? ⟨w.heap.size, 1, none⟩ = some (.slice none 0 0) := by
  refine ⟨?_, ?_⟩ <;> simp
theorem psum_tsum (n : Nat) (f : Nat → Int) (i k : Nat) : psum n f i k = tsum (sg n i) f k := by
  induction k with
  | zero => rfl
  | succ k ih => unfold psum tsum; rw [ih]
theorem psum_wht4 (f : Nat → Int) {i : Nat} (hi : i < 16) : psum 4 f i (4 * 4) = wht 4 f i := by
  rw [psum_tsum, wht_tsum (by decide) f i hi]
  exact tsum_congr fun j hj => by rw [bsg_tab4 i hi j hj]; rfl
theorem psum_wht8 (f : Nat → Int) {i : Nat} (hi : i < 64) : psum 8 f i (8 * 8) = wht 6 f i := by
  rw [psum_tsum, wht_tsum (by decide) f i hi]
  exact tsum_congr fun j hj => by rw [bsg_tab8 i hi j hj]; rfl
theorem rforward_all (zs : List Int) (v : Value) (w : World) (ha : Ints w v zs) : Calls Tryd.prog 18 #[v] w (RBPost w (blkAns zs 65536) (fwdL zs)) := by
  unfold blkAns
  split
  · rename_i h
    split
    · rename_i hw
      rcases h with h | h
      · refine rforward_ok zs 16 4 v w ha h.symm (Or.inl ⟨rfl, rfl⟩) hw _ ?_
        show _ = _
        rw [fwdL_row zs h]
        apply rowL_congr
        intro i hi
        unfold fwdF
        rw [h]
        exact (psum_wht4 _ hi).symm
      · refine rforward_ok zs 64 8 v w ha h.symm (Or.inr ⟨rfl, rfl⟩) hw _ ?_
        show _ = _
        rw [fwdL_row zs h]
        apply rowL_congr
        intro i hi
        unfold fwdF
        rw [h]
        exact (psum_wht8 _ hi).symm
    · rename_i hw
      rcases h with h | h
      · exact rforward_range zs 16 4 v w ha h.symm (Or.inl ⟨rfl, rfl⟩) hw _
      · exact rforward_range zs 64 8 v w ha h.symm (Or.inr ⟨rfl, rfl⟩) hw _
  · rename_i h
    exact rforward_fit zs.length v w ha.form (fun e => h (Or.inl e)) (fun e => h (Or.inr e)) _
theorem rinverse_all (zs : List Int) (v : Value) (w : World) (ha : Ints w v zs) : Calls Tryd.prog 20 #[v] w (RBPost w (blkAns zs 16777216) (invL zs)) := by
  unfold blkAns
  split
  · rename_i h
    split
    · rename_i hw
      rcases h with h | h
      · refine rinverse_ok4 zs v w ha h hw _ ?_
        show _ = _
        unfold invL
        rw [h]
        apply rowL_congr
        intro i hi
        unfold midR invF
        rw [if_pos hi]
        show _ = (psum 4 (fun t => zs.getD t 0) i (4 * 4) + 16 / 2) / 16
        rw [psum_wht4 _ hi]
        rfl
      · refine rinverse_ok8 zs v w ha h hw _ ?_
        show _ = _
        unfold invL
        rw [h]
        apply rowL_congr
        intro i hi
        unfold midR invF
        rw [if_pos hi]
        show _ = (psum 8 (fun t => zs.getD t 0) i (8 * 8) + 64 / 2) / 64
        rw [psum_wht8 _ hi]
        rfl
    · rename_i hw
      rcases h with h | h
      · exact rinverse_range zs 16 4 v w ha h.symm (Or.inl ⟨rfl, rfl⟩) hw _
      · exact rinverse_range zs 64 8 v w ha h.symm (Or.inr ⟨rfl, rfl⟩) hw _
  · rename_i h
    exact rinverse_fit zs.length v w ha.form (fun e => h (Or.inl e)) (fun e => h (Or.inr e)) _
theorem blk_ok {zs : List Int} {F : Int} : ∀ k', blkAns zs F = some k' → k' ≠ 0 := by
  intro k' h
  unfold blkAns at h
  split at h
  · split at h
    · cases h
    · simp only [Option.some.injEq] at h; omega
  · simp only [Option.some.injEq] at h; omega
def LPair (an : Option Int) (x : Value) (k : Int) : Prop := match an with
  | none => x = .nilIface ∧ k = 0
  | some k' => x = .iface 29 (.int .i64 k') ∧ k = k' ∧ k' ≠ 0
theorem same_lpair {an : Option Int} {x : Value} {k : Int} (w : World) (hg : EtIs w) (h : LPair an x k) :
    Calls Tryd.prog 22 #[x, .agg #[.int .i64 k, .slice none 0 0]] w fun e w' => e = .returned (.bool true) ∧ Ext w w' := by
  cases an with
  | none =>
    obtain ⟨rfl, rfl⟩ := h
    exact same_nil w hg
  | some k' =>
    obtain ⟨rfl, rfl, h4⟩ := h
    exact same_err [] k _ _ w hg rfl (Row.nil _) h4 (by decide)
def outL (an : Option Int) (o : List Int) : List Int := match an with
  | none => o
  | some _ => []
theorem lpair_of {w0 w1 w2 : World} {an : Option Int} {o : List Int} {u x u' : Value} {k : Int}
    (h1 : match (generalizing := false) an with | none => w1.ownsRow w0.heap.size 3 1 u o.length (o.map (Value.int .i64)) ∧ x = .nilIface | some k => u = .slice none 0 0 ∧ x = .iface 29 (.int .i64 k)) (hx : Ext w1 w2)
    (h2 : match (generalizing := false) an with | none => Ints w2 u' o ∧ k = 0 | some k' => u' = .slice none 0 0 ∧ k = k') (hok : ∀ k', an = some k' → k' ≠ 0) :
    Ints w2 u (outL an o) ∧ Ints w2 u' (outL an o) ∧ LPair an x k := by
  cases an with
  | none => exact ⟨(Ints.of_owns h1.1 h2.1.2).ext hx, h2.1, h1.2, h2.2⟩
  | some k' =>
    obtain ⟨rfl, h1⟩ := h1
    obtain ⟨rfl, h2⟩ := h2
    exact ⟨Ints.nil _, Ints.nil _, h1, h2, hok k' rfl⟩

set_option maxHeartbeats 4000000 in
set_option maxRecDepth 20000 in
theorem turns_long (v u : Value) (n m : Nat) (w : World) (hg : EtIs w) (hv : ∃ a cap, v = .slice a n cap) (hu : ∃ a cap, u = .slice a m cap) (hl : 5000 < n ∨ ¬ 5000 < n ∧ 5000 < m) :
    Calls Tryd.prog 3 #[v, u] w fun e w' => e = .returned (.bool true) ∧ Ext w w' := by
  obtain ⟨a, cap, rfl⟩ := hv
  obtain ⟨b, cap', rfl⟩ := hu
  rcases hl with h1 | ⟨h1, h2⟩
  all_goals
    go_enter Tryd.func3, Tryd.ntmps3
    go_wp2_with fail
    refine (first8 _ hg).mono ?_; rintro e w1 ⟨rfl, hx1⟩
    go_wp2_with fail
    refine (first8 _ (hg.ext hx1)).mono ?_; rintro e w2 ⟨rfl, hx2⟩
    go_wp2
    go_ret
    exact ⟨rfl, hx1.trans hx2⟩

set_option maxHeartbeats 4000000 in
set_option maxRecDepth 20000 in
theorem turns_walk (zs ls o1 o2 : List Int) (an1 an2 : Option Int) (a b : Option Addr) (n m cap cap' : Nat) (w : World) (hg : EtIs w) (ha : Ints w (.slice a n cap) zs) (hb : Ints w (.slice b m cap') ls) (hl : ¬ 5000 < n) (hl' : ¬ 5000 < m)
    (fa : Hid (∀ W, Ints W (.slice a n cap) zs → Calls Tryd.prog 16 #[.slice a n cap] W fun e w' => ∃ u, e = .returned u ∧ Ints w' u zs ∧ Ext W w'))
    (fb : Hid (∀ W, Ints W (.slice b m cap') ls → Calls Tryd.prog 16 #[.slice b m cap'] W fun e w' => ∃ u, e = .returned u ∧ Ints w' u ls ∧ Ext W w'))
    (f1 : Hid (∀ W v, Ints W v zs → Calls Tryd.prog 17 #[v] W (WPost W an1 o1)))
    (r1 : Hid (∀ W v, Ints W v zs → Calls Tryd.prog 18 #[v] W (RBPost W an1 o1)))
    (f2 : Hid (∀ W v, Ints W v ls → Calls Tryd.prog 19 #[v] W (WPost W an2 o2)))
    (r2 : Hid (∀ W v, Ints W v ls → Calls Tryd.prog 20 #[v] W (RBPost W an2 o2)))
    (hok1 : Hid (∀ k', an1 = some k' → k' ≠ 0)) (hok2 : Hid (∀ k', an2 = some k' → k' ≠ 0)) :
    Calls Tryd.prog 3 #[.slice a n cap, .slice b m cap'] w fun e w' => e = .returned (.bool true) ∧ Ext w w' := by
  go_enter Tryd.func3, Tryd.ntmps3
  go_wp2_with fail
  refine (first8 _ hg).mono ?_; rintro e w1 ⟨rfl, hx1⟩
  have ha1 := ha.ext hx1
  have hb1 := hb.ext hx1
  have E1 := hx1
  clear hx1
  go_wp2_with fail
  refine (fa.out _ ha1).mono ?_; rintro e w2 ⟨u2, rfl, hi2, hx2⟩
  have E2 : Ext w w2 := E1.trans hx2
  go_wp2_with fail
  refine (fb.out _ (hb.ext E2)).mono ?_; rintro e w3 ⟨u3, rfl, hj3, hx3⟩
  have hi3 := hi2.ext hx3
  have E3 : Ext w w3 := E2.trans hx3
  clear hx2 hx3 hi2 E1 E2 ha1 hb1
  go_wp2_with fail
  refine (f1.out _ _ hi3).mono ?_; rintro e w4 ⟨u4, x4, rfl, hx4, hm4⟩
  have hi4 := hi3.ext hx4
  have hj4 := hj3.ext hx4
  have E4 : Ext w w4 := E3.trans hx4
  clear hi3 hj3 E3 hx4
  go_wp2_with fail
  refine (r1.out _ _ (ha.ext E4)).mono ?_; rintro e w5 ⟨u5, k5, rfl, hx5, hm5⟩
  obtain ⟨I4, I5, P5⟩ := lpair_of hm4 hx5 hm5 hok1.out
  have A5 := hx5.alloc (.cells #[.int .i64 k5, .slice none 0 0] 32)
  have S5 := (Ext.refl w5).alloc (.cells #[.int .i64 k5, .slice none 0 0] 32)
  obtain ⟨q0, q1⟩ := evar_new w5 k5
  have I4 := I4.ext S5
  have I5 := I5.ext S5
  have hi5 := hi4.ext A5
  have hj5 := hj4.ext A5
  have E5 := E4.trans A5
  clear hm4 hm5 hi4 hj4 hx5 S5 A5 E4
  go_wp2_with fail
  refine (f2.out _ _ hj5).mono ?_; rintro e w6 ⟨u6, x6, rfl, hx6, hm6⟩
  have I4 := I4.ext hx6
  have I5 := I5.ext hx6
  have q0 := hx6.cell q0
  have q1 := hx6.cell q1
  have hi6 := hi5.ext hx6
  have hj6 := hj5.ext hx6
  have E6 : Ext w w6 := E5.trans hx6
  clear hi5 hj5 hx6 E5
  go_wp2_with fail
  refine (r2.out _ _ (hb.ext E6)).mono ?_; rintro e w7 ⟨u7, k7, rfl, hx7, hm7⟩
  obtain ⟨I6, I7, P7⟩ := lpair_of hm6 hx7 hm7 hok2.out
  have A7 := hx7.alloc (.cells #[.int .i64 k7, .slice none 0 0] 32)
  have S7 := (Ext.refl w7).alloc (.cells #[.int .i64 k7, .slice none 0 0] 32)
  obtain ⟨p0, p1⟩ := evar_new w7 k7
  have I4 := I4.ext A7
  have I5 := I5.ext A7
  have q0 := A7.cell q0
  have q1 := A7.cell q1
  have I6 := I6.ext S7
  have I7 := I7.ext S7
  have hi7 := hi6.ext A7
  have hj7 := hj6.ext A7
  have E7 := E6.trans A7
  clear hm6 hm7 hi6 hj6 hx7 S7 A7 E6
  go_wp2_with fail
  refine (first8 _ (hg.ext E7)).mono ?_; rintro e w8 ⟨rfl, hx8⟩
  have I4 := I4.ext hx8
  have I5 := I5.ext hx8
  have q0 := hx8.cell q0
  have q1 := hx8.cell q1
  have I6 := I6.ext hx8
  have I7 := I7.ext hx8
  have p0 := hx8.cell p0
  have p1 := hx8.cell p1
  have hi7 := hi7.ext hx8
  have hj7 := hj7.ext hx8
  have E8 : Ext w w8 := E7.trans hx8
  clear hx8 E7
  go_wp2_with fail
  refine (ints_same (outL an1 o1) (outL an1 o1) _ _ _ I4 I5).mono ?_; rintro e w9 ⟨rfl, hx9⟩
  rw [decide_eq_true rfl]
  have q0 := hx9.cell q0
  have q1 := hx9.cell q1
  have I6 := I6.ext hx9
  have I7 := I7.ext hx9
  have p0 := hx9.cell p0
  have p1 := hx9.cell p1
  have hi7 := hi7.ext hx9
  have hj7 := hj7.ext hx9
  have E9 : Ext w w9 := E8.trans hx9
  clear hx9 E8 I4 I5
  go_wp2_with fail
  refine (same_lpair _ (hg.ext E9) P5).mono ?_; rintro e w10 ⟨rfl, hx10⟩
  have I6 := I6.ext hx10
  have I7 := I7.ext hx10
  have p0 := hx10.cell p0
  have p1 := hx10.cell p1
  have hi7 := hi7.ext hx10
  have hj7 := hj7.ext hx10
  have E10 : Ext w w10 := E9.trans hx10
  clear hx10 E9 q0 q1
  go_wp2_with fail
  refine (ints_same (outL an2 o2) (outL an2 o2) _ _ _ I6 I7).mono ?_; rintro e w11 ⟨rfl, hx11⟩
  rw [decide_eq_true rfl]
  have p0 := hx11.cell p0
  have p1 := hx11.cell p1
  have hi7 := hi7.ext hx11
  have hj7 := hj7.ext hx11
  have E11 : Ext w w11 := E10.trans hx11
  clear hx11 E10 I6 I7
  go_wp2_with fail
  refine (same_lpair _ (hg.ext E11) P7).mono ?_; rintro e w12 ⟨rfl, hx12⟩
  have hi7 := hi7.ext hx12
  have hj7 := hj7.ext hx12
  have E12 : Ext w w12 := E11.trans hx12
  clear hx12 E11 p0 p1
  go_wp2_with fail
  refine (ints_same zs zs _ _ _ hi7 (ha.ext E12)).mono ?_; rintro e w13 ⟨rfl, hx13⟩
  rw [decide_eq_true rfl]
  have hj7 := hj7.ext hx13
  have E13 : Ext w w13 := E12.trans hx13
  go_wp2_with fail
  refine (ints_same ls ls _ _ _ hj7 (hb.ext E13)).mono ?_; rintro e w14 ⟨rfl, hx14⟩
  rw [decide_eq_true rfl]
  go_wp2
  go_ret
  exact ⟨rfl, E13.trans hx14⟩
theorem turns_law (zs ls : List Int) (v u : Value) (w : World) (hg : EtIs w) (hr : Row w v zs.length (zs.map (Value.int .i64))) (hr' : Row w u ls.length (ls.map (Value.int .i64))) :
    Calls Tryd.prog 3 #[v, u] w fun e w' => e = .returned (.bool true) ∧ Ext w w' := by
  by_cases hl : 5000 < zs.length ∨ ¬ 5000 < zs.length ∧ 5000 < ls.length
  · exact turns_long v u _ _ w hg hr.form hr'.form hl
  · have h1 : ¬ 5000 < zs.length := fun h => hl (Or.inl h)
    have h2 : ¬ 5000 < ls.length := fun h => hl (Or.inr ⟨h1, h⟩)
    have ha : Ints w v zs := ⟨hr, by omega⟩
    have hb : Ints w u ls := ⟨hr', by omega⟩
    obtain ⟨a, cap, rfl⟩ := ha.form
    obtain ⟨b, cap', rfl⟩ := hb.form
    exact turns_walk zs ls _ _ _ _ a b _ _ cap cap' w hg ha hb h1 h2 (fun W h => copy_ints zs _ W h (by omega)) (fun W h => copy_ints ls _ W h (by omega))
      (fun W v h => forward_all zs v W h) (fun W v h => rforward_all zs v W h) (fun W v h => inverse_all ls v W h) (fun W v h => rinverse_all ls v W h) blk_ok blk_ok
end Go.Proofs.YtbmknmenaaanaaaDoor
