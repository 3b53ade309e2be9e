/- alloc.Caps of anything, kinlaw19.first: contracts over this seat's translation. -/
import Derived.Test.YtbmknmenaaanaaaDoorACaps
namespace Go.Proofs.YtbmknmenaaanaaaDoor
set_option linter.unusedVariables false
set_option linter.unusedSimpArgs false
open Go.RowKit Go.Extern.Stop Go.Stop Go.Extern

theorem caps_all (c : Cfg) (zs : List Int) (v : Value) (w : World) (ha : Ints w v zs) :
    Calls Tryd.prog 28 #[.agg #[.int .i64 c.qmin, .int .i64 c.qmax, .int .i64 c.reach, .int .i64 c.cut, .int .i64 c.gop, .int .i64 c.rate, .int .i64 c.room, .int .i64 c.fill], v] w (AnsPost w (capAns c zs) (capsOf c zs)) := by
  by_cases g : Good c
  · by_cases s : 1 ≤ zs.length ∧ zs.length ≤ 16
    · refine caps_any c zs v w g ha s.1 s.2 (capAns c zs) ?_ _ rfl
      show _ = _
      unfold capAns
      rw [if_pos g]
      by_cases hw : within 1 16777216 zs
      · rw [if_pos hw, if_pos (show Wts zs from ⟨s, hw⟩)]
      · rw [if_neg hw, if_neg (show ¬ Wts zs from fun h => hw h.2)]
    · refine (caps_noL c zs.length v w g ha.form (by omega)).mono ?_
      rintro e w' ⟨he, hx⟩
      refine ⟨_, _, he, hx, ?_⟩
      unfold capAns
      rw [if_pos g, if_neg (show ¬ Wts zs from fun h => s h.1)]
      exact ⟨rfl, rfl⟩
  · refine (caps_noC c v w g).mono ?_
    rintro e w' ⟨he, hx⟩
    refine ⟨_, _, he, hx, ?_⟩
    unfold capAns
    rw [if_neg g]
    exact ⟨rfl, rfl⟩

def cfg9 : Cfg := ⟨0, 15, 0, 0, 4, 10, 30, 20⟩
theorem good9 : Good cfg9 := by unfold Good cfg9; decide
theorem capA (zs ys : List Int) (h1 : Wts zs) (h2 : capsOf cfg9 zs = ys) (w : World) (v : Value) (h : Ints w v zs) : Calls Tryd.prog 28 #[.agg #[.int .i64 0, .int .i64 15, .int .i64 0, .int .i64 0, .int .i64 4, .int .i64 10, .int .i64 30, .int .i64 20], v] w
    fun e w' => ∃ u, e = .returned (.tuple #[u, .nilIface]) ∧ Ext w w' ∧ Ints w' u ys :=
  (caps_all cfg9 zs v w h).mono fun e w' ⟨u, x, he, hx, hm⟩ => by
    have hd : capAns cfg9 zs = none := by unfold capAns; rw [if_pos good9, if_pos h1]
    rw [hd] at hm
    obtain ⟨hi, rfl⟩ := hm
    rw [h2] at hi
    exact ⟨u, he, hx, hi⟩
theorem capB (w : World) (v : Value) (h : Ints w v []) : Calls Tryd.prog 28 #[.agg #[.int .i64 0, .int .i64 15, .int .i64 0, .int .i64 0, .int .i64 4, .int .i64 10, .int .i64 30, .int .i64 20], v] w
    fun e w' => ∃ u, e = .returned (.tuple #[u, .iface 29 (.int .i64 3)]) ∧ Ext w w' :=
  (caps_all cfg9 [] v w h).mono fun e w' ⟨u, x, he, hx, hm⟩ => by
    have hd : capAns cfg9 [] = some ([], 3) := by unfold capAns; rw [if_pos good9, if_neg (show ¬ Wts [] from fun h => by have := h.1.1; simp at this)]
    rw [hd] at hm
    obtain ⟨rfl, hi⟩ := hm
    obtain rfl : x = .iface 29 (.int .i64 3) := hi
    exact ⟨_, he, hx⟩
theorem w112 : Wts [1, 1, 2] := ⟨by decide, by decide⟩
theorem w1001 : Wts [100, 1] := ⟨by decide, by decide⟩

set_option maxHeartbeats 1000000 in
set_option maxRecDepth 20000 in
theorem first19 (w : World) (hg : EtIs w) :
    Calls Tryd.prog 27 #[] w fun e w' => e = .returned (.bool true) ∧ Ext w w' := by
  go_enter Tryd.func27, Tryd.ntmps27
  go_wp2_with fail
  refine (capA [1, 1, 2] [10, 10, 20] w112 (by decide) _ _ (by exact ints_lit [1, 1, 2] _ rfl (by decide) (by simp) rfl)).mono ?_; rintro e w1 ⟨u1, rfl, hx1, hi1⟩
  obtain ⟨c0, c1, c2, c3, c4, c5, c6, c7⟩ := ((CfgAt.mk' w cfg9).ext (((Ext.refl _).alloc _).trans hx1))
  simp only [cfg9] at c0 c1 c2 c3 c4 c5 c6 c7
  have E1 : Ext w w1 := ((Ext.refl _).alloc _).trans (((Ext.refl _).alloc _).trans hx1)
  clear hx1
  go_wp2_with fail
  refine (capA [100, 1] [20, 8] w1001 (by decide) _ _ (by exact ints_lit [100, 1] _ rfl (by decide) (by simp) rfl)).mono ?_; rintro e w2 ⟨u2, rfl, hx2, hi2⟩
  have E2 := ((Ext.refl w1).alloc _).trans hx2
  have d0 := E2.cell c0
  have d1 := E2.cell c1
  have d2 := E2.cell c2
  have d3 := E2.cell c3
  have d4 := E2.cell c4
  have d5 := E2.cell c5
  have d6 := E2.cell c6
  have d7 := E2.cell c7
  have hi1' := hi1.ext E2
  have F2 := E1.trans E2
  clear hx2 c0 c1 c2 c3 c4 c5 c6 c7 E1 E2 hi1
  go_wp2_with fail
  refine (capB _ _ (Ints.nil _)).mono ?_; rintro e w3 ⟨u3, rfl, hx3⟩
  have j1 := hi1'.ext hx3
  have j2 := hi2.ext hx3
  have F3 := F2.trans hx3
  clear hx3 d0 d1 d2 d3 d4 d5 d6 d7 F2 hi1' hi2
  go_wp2_with fail
  refine (ints_same [10, 10, 20] [10, 10, 20] _ _ _ (j1.ext ((Ext.refl w3).alloc _)) (by exact ints_lit [10, 10, 20] _ rfl (by decide) (by simp) rfl)).mono ?_; rintro e w4 ⟨rfl, hx4⟩
  have E4 := ((Ext.refl w3).alloc _).trans hx4
  have F4 := F3.trans E4
  clear hx4 j1 F3
  go_wp2_with fail
  refine (ints_same [20, 8] [20, 8] _ _ _ ((j2.ext E4).ext ((Ext.refl w4).alloc _)) (by exact ints_lit [20, 8] _ rfl (by decide) (by simp) rfl)).mono ?_; rintro e w5 ⟨rfl, hx5⟩
  have F5 := F4.trans (((Ext.refl w4).alloc _).trans hx5)
  clear hx5 j2 F4 E4
  go_wp2_with fail
  refine (fail_any 3 _).mono ?_; rintro e w6 ⟨rfl, hx6⟩
  go_wp2_with fail
  have F6 := F5.trans hx6
  refine (same_err [] 3 _ _ _ (hg.ext F6) rfl (Row.nil _) (by decide) (by decide)).mono ?_; rintro e w7 ⟨rfl, hx7⟩
  go_wp2
  go_ret
  exact ⟨rfl, F6.trans hx7⟩
end Go.Proofs.YtbmknmenaaanaaaDoor
