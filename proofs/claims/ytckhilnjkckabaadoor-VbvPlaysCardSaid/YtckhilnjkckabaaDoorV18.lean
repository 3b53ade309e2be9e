/- kinlaw18.bucket and kinlaw18.first: contracts over this seat's translation. -/
import Derived.Test.YtckhilnjkckabaaDoorCfgAt
import Derived.Test.YtckhilnjkckabaaDoorAppRow
namespace Go.Proofs.YtckhilnjkckabaaDoor
set_option linter.unusedVariables false
set_option linter.unusedSimpArgs false
open Go.RowKit Go.Extern.Stop Go.Stop Go.Extern

theorem bucket_any (r m f : Int) (w : World) :
    Calls Tryd.prog 21 #[.int .i64 r, .int .i64 m, .int .i64 f] w fun e w' => e = .returned (.agg #[.int .i64 0, .int .i64 15, .int .i64 0, .int .i64 0, .int .i64 4, .int .i64 r, .int .i64 m, .int .i64 f]) ∧ Ext w w' := by
  go_enter Tryd.func21, Tryd.ntmps21
  go_wp2
  exact bodyPost_ret (v := .agg #[.int .i64 0, .int .i64 15, .int .i64 0, .int .i64 0, .int .i64 4, .int .i64 r, .int .i64 m, .int .i64 f]) (by simp [results, Tryd.results21, go_sem]) rfl ⟨rfl, by repeat (first | exact Ext.refl _ | apply Ext.alloc)⟩

def cfg0 : Cfg := ⟨0, 15, 0, 0, 4, 10, 30, 20⟩
theorem good0 : Good cfg0 := by unfold Good cfg0; decide
theorem play1 (w : World) (v : Value) (h : Ints w v [10, 25]) : Calls Tryd.prog 8 #[.agg #[.int .i64 0, .int .i64 15, .int .i64 0, .int .i64 0, .int .i64 4, .int .i64 10, .int .i64 30, .int .i64 20], v] w
    fun e w' => ∃ x, e = .returned (.tuple #[.slice none 0 0, x]) ∧ Ext w w' ∧ IsErr w' [(⟨#[118, 98, 118]⟩, (1 : Int))] 14 x :=
  (play_any cfg0 [10, 25] v w good0 h ⟨by decide, by unfold within; decide⟩).mono fun e w' ⟨u, x, he, hx, hm⟩ => by
    have hd : playErr cfg0.rate cfg0.room cfg0.fill [10, 25] 0 = some (1, 14) := by decide
    rw [hd] at hm
    obtain ⟨rfl, hi⟩ := hm
    exact ⟨x, he, hx, hi⟩
theorem play2 (w : World) (v : Value) (h : Ints w v [10, 10, 10]) : Calls Tryd.prog 8 #[.agg #[.int .i64 0, .int .i64 15, .int .i64 0, .int .i64 0, .int .i64 4, .int .i64 10, .int .i64 30, .int .i64 20], v] w
    fun e w' => ∃ u, e = .returned (.tuple #[u, .nilIface]) ∧ Ext w w' ∧ Ints w' u [20, 20, 20] :=
  (play_any cfg0 [10, 10, 10] v w good0 h ⟨by decide, by unfold within; decide⟩).mono fun e w' ⟨u, x, he, hx, hm⟩ => by
    have hd : playErr cfg0.rate cfg0.room cfg0.fill [10, 10, 10] 0 = none := by decide
    rw [hd] at hm
    obtain ⟨hi, rfl⟩ := hm
    exact ⟨u, he, hx, hi⟩
theorem fills1 (w : World) (v : Value) (h : Ints w v [8, 8, 0]) : Calls Tryd.prog 10 #[.agg #[.int .i64 0, .int .i64 15, .int .i64 0, .int .i64 0, .int .i64 4, .int .i64 10, .int .i64 30, .int .i64 20], v] w
    fun e w' => ∃ u, e = .returned (.tuple #[u, .nilIface]) ∧ Ext w w' ∧ Ints w' u [0, 0, 4] :=
  (fills_any cfg0 [8, 8, 0] v w good0 h ⟨by decide, by unfold within; decide⟩).mono fun e w' ⟨u, x, he, hx, hm⟩ => by
    have hd : fillErr cfg0.rate cfg0.room cfg0.fill [8, 8, 0] 0 = none := by decide
    rw [hd] at hm
    obtain ⟨hi, rfl⟩ := hm
    exact ⟨u, he, hx, hi⟩
theorem may0 (w : World) : Calls Tryd.prog 12 #[.agg #[.int .i64 0, .int .i64 15, .int .i64 0, .int .i64 0, .int .i64 4, .int .i64 10, .int .i64 30, .int .i64 20]] w fun e w' => e = .returned (.bool true) ∧ Ext w w' := may_yes cfg0 w good0
theorem Check0 (w : World) : Calls Tryd.prog 13 #[.agg #[.int .i64 0, .int .i64 0, .int .i64 0, .int .i64 0, .int .i64 0, .int .i64 0, .int .i64 0, .int .i64 0]] w fun e w' => e = .returned (.iface 32 (.int .i64 11)) ∧ Ext w w' := Check_no ⟨0, 0, 0, 0, 0, 0, 0, 0⟩ w (by unfold Good; decide)

set_option maxHeartbeats 1000000 in
set_option maxRecDepth 20000 in
theorem first18 (w : World) (hg : EtIs w) :
    Calls Tryd.prog 5 #[] w fun e w' => e = .returned (.bool true) ∧ Ext w w' := by
  go_enter Tryd.func5, Tryd.ntmps5
  go_wp2_with fail
  refine (bucket_any 10 30 20 _).mono ?_; rintro e w1 ⟨rfl, hx1⟩
  go_wp2_with fail
  refine (play1 _ _ (by exact ints_lit [10, 25] _ rfl (by decide) (by simp) rfl)).mono ?_; rintro e w2 ⟨x1, rfl, hx2, hi1⟩
  have C := (CfgAt.mk' w1 cfg0).ext (((Ext.refl _).alloc _).trans hx2)
  obtain ⟨c0, c1, c2, c3, c4, c5, c6, c7⟩ := C
  simp only [cfg0] at c0 c1 c2 c3 c4 c5 c6 c7
  have E2 : Ext w w2 := hx1.trans (((Ext.refl _).alloc _).trans (((Ext.refl _).alloc _).trans hx2))
  clear hx2 hx1
  go_wp2_with fail
  refine (play2 _ _ (by exact ints_lit [10, 10, 10] _ rfl (by decide) (by simp) rfl)).mono ?_; rintro e w3 ⟨u2, rfl, hx3, hi2⟩
  have E3 := ((Ext.refl w2).alloc _).trans hx3
  have d0 := E3.cell c0
  have d1 := E3.cell c1
  have d2 := E3.cell c2
  have d3 := E3.cell c3
  have d4 := E3.cell c4
  have d5 := E3.cell c5
  have d6 := E3.cell c6
  have d7 := E3.cell c7
  clear hx3 c0 c1 c2 c3 c4 c5 c6 c7
  go_wp2_with fail
  refine (fills1 _ _ (by exact ints_lit [8, 8, 0] _ rfl (by decide) (by simp) rfl)).mono ?_; rintro e w4 ⟨u3, rfl, hx4, hi3⟩
  have E4 := ((Ext.refl w3).alloc _).trans hx4
  have c0 := E4.cell d0
  have c1 := E4.cell d1
  have c2 := E4.cell d2
  have c3 := E4.cell d3
  have c4 := E4.cell d4
  have c5 := E4.cell d5
  have c6 := E4.cell d6
  have c7 := E4.cell d7
  clear hx4 d0 d1 d2 d3 d4 d5 d6 d7
  have j1 := (hi1.ext E3).ext E4
  have j2 := (hi2.ext E4)
  have EE := (E2.trans E3).trans E4
  have hg4 := hg.ext EE
  clear hi1 hi2 E2 E3 E4 hg
  go_wp2_with fail
  refine (wrap_any _ 1 14 _ (by decide)).mono ?_; rintro e w5 ⟨r5, rfl, hr5, hx5⟩
  go_wp2_with fail
  refine (same_err [(⟨#[118, 98, 118]⟩, (1 : Int))] 14 _ _ _ (hg4.ext hx5) (j1.ext hx5) (Row.of_owns hr5) (by decide) (by decide)).mono ?_; rintro e w6 ⟨rfl, hx6⟩
  have E6 := hx5.trans hx6
  clear hx5 hx6 hr5 j1
  go_wp2_with fail
  refine (ints_same [20, 20, 20] [20, 20, 20] _ _ _ ((j2.ext E6).ext ((Ext.refl w6).alloc _)) (by exact ints_lit [20, 20, 20] _ rfl (by decide) (by simp) rfl)).mono ?_; rintro e w7 ⟨rfl, hx7⟩
  have E7 := E6.trans (((Ext.refl w6).alloc _).trans hx7)
  clear hx7 j2 E6
  go_wp2_with fail
  refine (ints_same [0, 0, 4] [0, 0, 4] _ _ _ ((hi3.ext E7).ext ((Ext.refl w7).alloc _)) (by exact ints_lit [0, 0, 4] _ rfl (by decide) (by simp) rfl)).mono ?_; rintro e w8 ⟨rfl, hx8⟩
  have E8 := E7.trans (((Ext.refl w7).alloc _).trans hx8)
  have d0 := E8.cell c0
  have d1 := E8.cell c1
  have d2 := E8.cell c2
  have d3 := E8.cell c3
  have d4 := E8.cell c4
  have d5 := E8.cell c5
  have d6 := E8.cell c6
  have d7 := E8.cell c7
  clear hx8 hi3 E7 c0 c1 c2 c3 c4 c5 c6 c7
  go_wp2_with fail
  refine (may0 _).mono ?_; rintro e w9 ⟨rfl, hx9⟩
  go_wp2_with fail
  refine (Check0 _).mono ?_; rintro e w10 ⟨rfl, hx10⟩
  go_wp2_with fail
  refine (fail_any 11 _).mono ?_; rintro e w11 ⟨rfl, hx11⟩
  go_wp2_with fail
  have E11 := E8.trans (hx9.trans (hx10.trans hx11))
  refine (same_err [] 11 _ _ _ (hg4.ext E11) rfl (Row.nil _) (by decide) (by decide)).mono ?_; rintro e w12 ⟨rfl, hx12⟩
  go_wp2
  go_ret
  exact ⟨rfl, EE.trans (E11.trans hx12)⟩
end Go.Proofs.YtckhilnjkckabaaDoor
