/- kinlaw19.AllocCaps: the walk. -/
import Derived.Test.YtbmknmenaaanaaaDoorA19
import Derived.Test.YtbmknmenaaanaaaDoorRCaps
namespace Go.Proofs.YtbmknmenaaanaaaDoor
set_option linter.unusedVariables false
set_option linter.unusedSimpArgs false
open Go.RowKit Go.Extern.Stop Go.Stop Go.Extern

set_option maxHeartbeats 2000000 in
set_option maxRecDepth 20000 in
theorem acap_long (c : Cfg) (v : Value) (n : Nat) (w : World) (hg : EtIs w) (hv : ∃ a cap, v = .slice a n cap) (hl : 5000 < n) :
    Calls Tryd.prog 9 #[.agg #[.int .i64 c.qmin, .int .i64 c.qmax, .int .i64 c.reach, .int .i64 c.cut, .int .i64 c.gop, .int .i64 c.rate, .int .i64 c.room, .int .i64 c.fill], v] w fun e w' => e = .returned (.bool true) ∧ Ext w w' := by
  have E1 : Ext w (w.alloc (.cells #[.int .i64 c.qmin, .int .i64 c.qmax, .int .i64 c.reach, .int .i64 c.cut, .int .i64 c.gop, .int .i64 c.rate, .int .i64 c.room, .int .i64 c.fill] 44)) := (Ext.refl w).alloc _
  obtain ⟨a, cap, rfl⟩ := hv
  go_enter Tryd.func9, Tryd.ntmps9
  go_wp2_with fail
  refine (first19 _ (hg.ext E1)).mono ?_; rintro e w1 ⟨rfl, hx1⟩
  go_wp2_with fail
  refine (first19 _ (hg.ext (E1.trans hx1))).mono ?_; rintro e w2 ⟨rfl, hx2⟩
  go_wp2
  go_ret
  exact ⟨rfl, E1.trans (hx1.trans hx2)⟩

/-- what the document's Caps answers -/
def RPost (w : World) (k : Int) (out : List Int) (e : Ending) (w' : World) : Prop := ∃ u, e = .returned (.tuple #[u, .agg #[.int .i64 k, .slice none 0 0]]) ∧ Ext w w' ∧ Ints w' u out

set_option maxHeartbeats 2000000 in
set_option maxRecDepth 20000 in
theorem acap_none (c : Cfg) (zs gs : List Int) (a : Option Addr) (n cap : Nat) (w : World) (hg : EtIs w) (ha : Ints w (.slice a n cap) zs) (hl : ¬ 5000 < n) (hz : zs.length ≤ 1000000)
    (f1 : Hid (∀ W v, Ints W v zs → Calls Tryd.prog 28 #[.agg #[.int .i64 c.qmin, .int .i64 c.qmax, .int .i64 c.reach, .int .i64 c.cut, .int .i64 c.gop, .int .i64 c.rate, .int .i64 c.room, .int .i64 c.fill], v] W (AnsPost W none gs)))
    (f2 : Hid (∀ W, Ints W (.slice a n cap) zs → Calls Tryd.prog 29 #[.agg #[.int .i64 c.qmin, .int .i64 c.qmax, .int .i64 c.reach, .int .i64 c.cut, .int .i64 c.gop, .int .i64 c.rate, .int .i64 c.room, .int .i64 c.fill], .slice a n cap] W (RPost W 0 gs))) :
    Calls Tryd.prog 9 #[.agg #[.int .i64 c.qmin, .int .i64 c.qmax, .int .i64 c.reach, .int .i64 c.cut, .int .i64 c.gop, .int .i64 c.rate, .int .i64 c.room, .int .i64 c.fill], .slice a n cap] w fun e w' => e = .returned (.bool true) ∧ Ext w w' := by
  have E1 : Ext w (w.alloc (.cells #[.int .i64 c.qmin, .int .i64 c.qmax, .int .i64 c.reach, .int .i64 c.cut, .int .i64 c.gop, .int .i64 c.rate, .int .i64 c.room, .int .i64 c.fill] 44)) := (Ext.refl w).alloc _
  go_enter Tryd.func9, Tryd.ntmps9
  go_wp2_with fail
  refine (first19 _ (hg.ext E1)).mono ?_; rintro e w1 ⟨rfl, hx1⟩
  obtain ⟨c0, c1, c2, c3, c4, c5, c6, c7⟩ := (CfgAt.mk' w c).ext hx1
  have E2 := E1.trans hx1
  clear E1 hx1
  go_wp2_with fail
  refine (copy_ints zs _ _ (ha.ext E2) hz).mono ?_; rintro e w2 ⟨u2, rfl, hi2, hx2⟩
  have j0 := hx2.cell c0
  have j1 := hx2.cell c1
  have j2 := hx2.cell c2
  have j3 := hx2.cell c3
  have j4 := hx2.cell c4
  have j5 := hx2.cell c5
  have j6 := hx2.cell c6
  have j7 := hx2.cell c7
  have E3 := E2.trans hx2
  clear E2 hx2 c0 c1 c2 c3 c4 c5 c6 c7
  go_wp2_with fail
  refine (f1.out _ _ hi2).mono ?_; rintro e w3 ⟨u3, x3, rfl, hx3, hi3, rfl⟩
  have k0 := hx3.cell j0
  have k1 := hx3.cell j1
  have k2 := hx3.cell j2
  have k3 := hx3.cell j3
  have k4 := hx3.cell j4
  have k5 := hx3.cell j5
  have k6 := hx3.cell j6
  have k7 := hx3.cell j7
  have E4 := E3.trans hx3
  have hi2' := hi2.ext hx3
  clear E3 hx3 hi2 j0 j1 j2 j3 j4 j5 j6 j7
  go_wp2_with fail
  refine (f2.out _ (ha.ext E4)).mono ?_; rintro e w4 ⟨u4, rfl, hx4, hi4⟩
  have E5 := E4.trans hx4
  have hi5 := hi2'.ext hx4
  have hi3' := hi3.ext hx4
  clear hi3
  clear hx4 E4 hi2' k0 k1 k2 k3 k4 k5 k6 k7
  go_wp2_with fail
  have EA := E5.alloc (.cells #[.int .i64 0, .slice none 0 0] 32)
  refine (first19 _ (hg.ext EA)).mono ?_; rintro e w5 ⟨rfl, hx5⟩
  have q0 := hx5.cell (p := ⟨w4.heap.size, 0, none⟩) (v := .int .i64 0) (by simp)
  have q1 := hx5.cell (p := ⟨w4.heap.size, 1, none⟩) (v := .slice none 0 0) (by simp)
  have ES := ((Ext.refl w4).alloc (.cells #[.int .i64 0, .slice none 0 0] 32)).trans hx5
  have E6 := EA.trans hx5
  have i4 := hi4.ext ES
  have i5 := hi5.ext ES
  have i3 := hi3'.ext ES
  clear hi3' EA hx5 E5 hi4 hi5
  go_wp2_with fail
  refine (ints_same gs gs _ _ _ i3 i4).mono ?_; rintro e w6 ⟨rfl, hx6⟩
  rw [decide_eq_true rfl]
  have r0 := hx6.cell q0
  have r1 := hx6.cell q1
  have E7 := E6.trans hx6
  have i6 := i5.ext hx6
  clear q0 q1 E6 i5
  go_wp2_with fail
  refine (same_nil _ (hg.ext E7)).mono ?_; rintro e w7 ⟨rfl, hx7⟩
  have E8 := E7.trans hx7
  go_wp2_with fail
  refine (ints_same zs zs _ _ _ (i6.ext hx7) (ha.ext E8)).mono ?_; rintro e w8 ⟨rfl, hx8⟩
  rw [decide_eq_true rfl]
  go_wp2
  go_ret
  exact ⟨rfl, E8.trans hx8⟩

set_option maxHeartbeats 2000000 in
set_option maxRecDepth 20000 in
theorem acap_some (c : Cfg) (zs gs : List Int) (a : Option Addr) (n cap : Nat) (w : World) (hg : EtIs w) (ha : Ints w (.slice a n cap) zs) (hl : ¬ 5000 < n) (hz : zs.length ≤ 1000000) (kk : Int) (hk0 : kk ≠ 0)
    (f1 : Hid (∀ W v, Ints W v zs → Calls Tryd.prog 28 #[.agg #[.int .i64 c.qmin, .int .i64 c.qmax, .int .i64 c.reach, .int .i64 c.cut, .int .i64 c.gop, .int .i64 c.rate, .int .i64 c.room, .int .i64 c.fill], v] W (AnsPost W (some ([], kk)) gs)))
    (f2 : Hid (∀ W, Ints W (.slice a n cap) zs → Calls Tryd.prog 29 #[.agg #[.int .i64 c.qmin, .int .i64 c.qmax, .int .i64 c.reach, .int .i64 c.cut, .int .i64 c.gop, .int .i64 c.rate, .int .i64 c.room, .int .i64 c.fill], .slice a n cap] W (RPost W kk []))) :
    Calls Tryd.prog 9 #[.agg #[.int .i64 c.qmin, .int .i64 c.qmax, .int .i64 c.reach, .int .i64 c.cut, .int .i64 c.gop, .int .i64 c.rate, .int .i64 c.room, .int .i64 c.fill], .slice a n cap] w fun e w' => e = .returned (.bool true) ∧ Ext w w' := by
  have E1 : Ext w (w.alloc (.cells #[.int .i64 c.qmin, .int .i64 c.qmax, .int .i64 c.reach, .int .i64 c.cut, .int .i64 c.gop, .int .i64 c.rate, .int .i64 c.room, .int .i64 c.fill] 44)) := (Ext.refl w).alloc _
  have HK0 := Lib.hid hk0
  clear hk0
  go_enter Tryd.func9, Tryd.ntmps9
  go_wp2_with fail
  refine (first19 _ (hg.ext E1)).mono ?_; rintro e w1 ⟨rfl, hx1⟩
  obtain ⟨c0, c1, c2, c3, c4, c5, c6, c7⟩ := (CfgAt.mk' w c).ext hx1
  have E2 := E1.trans hx1
  clear E1 hx1
  go_wp2_with fail
  refine (copy_ints zs _ _ (ha.ext E2) hz).mono ?_; rintro e w2 ⟨u2, rfl, hi2, hx2⟩
  have j0 := hx2.cell c0
  have j1 := hx2.cell c1
  have j2 := hx2.cell c2
  have j3 := hx2.cell c3
  have j4 := hx2.cell c4
  have j5 := hx2.cell c5
  have j6 := hx2.cell c6
  have j7 := hx2.cell c7
  have E3 := E2.trans hx2
  clear E2 hx2 c0 c1 c2 c3 c4 c5 c6 c7
  go_wp2_with fail
  refine (f1.out _ _ hi2).mono ?_; rintro e w3 ⟨u3, x3, rfl, hx3, rfl, he3⟩
  obtain ⟨tx, vx, hne⟩ := he3.ne_nil
  have k0 := hx3.cell j0
  have k1 := hx3.cell j1
  have k2 := hx3.cell j2
  have k3 := hx3.cell j3
  have k4 := hx3.cell j4
  have k5 := hx3.cell j5
  have k6 := hx3.cell j6
  have k7 := hx3.cell j7
  have E4 := E3.trans hx3
  have hi2' := hi2.ext hx3
  clear E3 hx3 hi2 j0 j1 j2 j3 j4 j5 j6 j7
  go_wp2_with fail
  refine (f2.out _ (ha.ext E4)).mono ?_; rintro e w4 ⟨u4, rfl, hx4, hi4⟩
  have E5 := E4.trans hx4
  have hi5 := hi2'.ext hx4
  have he4 := he3.ext hx4
  clear he3
  clear hx4 E4 hi2' k0 k1 k2 k3 k4 k5 k6 k7
  go_wp2_with fail
  have EA := E5.alloc (.cells #[.int .i64 kk, .slice none 0 0] 32)
  refine (first19 _ (hg.ext EA)).mono ?_; rintro e w5 ⟨rfl, hx5⟩
  have q0 := hx5.cell (p := ⟨w4.heap.size, 0, none⟩) (v := .int .i64 kk) (by simp)
  have q1 := hx5.cell (p := ⟨w4.heap.size, 1, none⟩) (v := .slice none 0 0) (by simp)
  have ES := ((Ext.refl w4).alloc (.cells #[.int .i64 kk, .slice none 0 0] 32)).trans hx5
  have E6 := EA.trans hx5
  have i4 := hi4.ext ES
  have i5 := hi5.ext ES
  have e3 := he4.ext ES
  clear he4 EA hx5 E5 hi4 hi5
  subst hne
  go_wp2_with fail
  refine (ints_same [] [] _ _ _ (Ints.nil _) i4).mono ?_; rintro e w6 ⟨rfl, hx6⟩
  rw [decide_eq_true rfl]
  have r0 := hx6.cell q0
  have r1 := hx6.cell q1
  have E7 := E6.trans hx6
  have i6 := i5.ext hx6
  clear q0 q1 E6 i5
  go_wp2_with fail
  refine (same_err [] kk _ _ _ (hg.ext E7) (e3.ext hx6) (Row.nil _) HK0.out (by decide)).mono ?_; rintro e w7 ⟨rfl, hx7⟩
  have E8 := E7.trans hx7
  go_wp2_with fail
  refine (ints_same zs zs _ _ _ (i6.ext hx7) (ha.ext E8)).mono ?_; rintro e w8 ⟨rfl, hx8⟩
  rw [decide_eq_true rfl]
  go_wp2
  go_ret
  exact ⟨rfl, E8.trans hx8⟩
theorem acap_law (c : Cfg) (zs : List Int) (v : Value) (w : World) (hg : EtIs w) (hr : Row w v zs.length (zs.map (Value.int .i64))) :
    Calls Tryd.prog 9 #[.agg #[.int .i64 c.qmin, .int .i64 c.qmax, .int .i64 c.reach, .int .i64 c.cut, .int .i64 c.gop, .int .i64 c.rate, .int .i64 c.room, .int .i64 c.fill], v] w fun e w' => e = .returned (.bool true) ∧ Ext w w' := by
  by_cases hl : 5000 < zs.length
  · exact acap_long c v zs.length w hg hr.form hl
  · have ha : Ints w v zs := ⟨hr, by omega⟩
    obtain ⟨a, cap, rfl⟩ := ha.form
    by_cases g : Good c
    · by_cases s : 1 ≤ zs.length ∧ zs.length ≤ 16
      · by_cases hw : within 1 16777216 zs
        · have hq : capAns c zs = none := by unfold capAns; rw [if_pos g, if_pos (show Wts zs from ⟨s, hw⟩)]
          refine acap_none c zs (capsOf c zs) a _ cap w hg ha hl (by omega) (fun W v h => by rw [← hq]; exact caps_all c zs v W h) (fun W h => ?_)
          refine (rcaps_ok c zs zs.length _ W g h rfl s hw _ rfl _ rfl).mono ?_
          rintro e w' ⟨u, he, hx, hi⟩
          exact ⟨u, he, hx, hi⟩
        · have hq : capAns c zs = some ([], 3) := by unfold capAns; rw [if_pos g, if_neg (show ¬ Wts zs from fun h => hw h.2)]
          refine acap_some c zs (capsOf c zs) a _ cap w hg ha hl (by omega) 3 (by decide) (fun W v h => by rw [← hq]; exact caps_all c zs v W h) (fun W h => ?_)
          exact (rcaps_noW c zs zs.length _ W g h rfl s hw).mono fun e w' ⟨he, hx⟩ => ⟨_, he, hx, Ints.nil _⟩
      · have hq : capAns c zs = some ([], 3) := by unfold capAns; rw [if_pos g, if_neg (show ¬ Wts zs from fun h => s h.1)]
        refine acap_some c zs (capsOf c zs) a _ cap w hg ha hl (by omega) 3 (by decide) (fun W v h => by rw [← hq]; exact caps_all c zs v W h) (fun W h => ?_)
        exact (rcaps_noL c zs.length _ W g ⟨a, cap, rfl⟩ (by omega)).mono fun e w' ⟨he, hx⟩ => ⟨_, he, hx, Ints.nil _⟩
    · have hq : capAns c zs = some ([], 11) := by unfold capAns; rw [if_neg g]
      refine acap_some c zs (capsOf c zs) a _ cap w hg ha hl (by omega) 11 (by decide) (fun W v h => by rw [← hq]; exact caps_all c zs v W h) (fun W h => ?_)
      exact (rcaps_noC c zs.length _ W g ⟨a, cap, rfl⟩).mono fun e w' ⟨he, hx⟩ => ⟨_, he, hx, Ints.nil _⟩
end Go.Proofs.YtbmknmenaaanaaaDoor
