/- Contracts of this seat: Vbv, VbvNo, VbvCheck. -/
import Derived.Test.YtlaedbglclmheaaGreatDoorZb
/- vbv.May, vbv.Check, vbv.check: contracts over this seat's translation. -/
namespace Go.Proofs.YtlaedbglclmheaaGreatDoor
set_option linter.unusedVariables false
set_option linter.unusedSimpArgs false
open Go.RowKit Go.Extern.Stop Go.Stop Go.Extern

/-- a configuration -/
structure Cfg where
  qmin : Int
  qmax : Int
  reach : Int
  cut : Int
  gop : Int
  rate : Int
  room : Int
  fill : Int

def Good (c : Cfg) : Prop := 0 ≤ c.qmin ∧ c.qmin ≤ c.qmax ∧ c.qmax ≤ 15 ∧ 0 ≤ c.reach ∧ c.reach ≤ 7 ∧ 0 ≤ c.cut ∧ c.cut ≤ 16320 ∧ 1 ≤ c.gop ∧ c.gop ≤ 16 ∧ 8 ≤ c.rate ∧ c.rate ≤ c.room ∧ c.room ≤ 16384 ∧ 8 ≤ c.fill ∧ c.fill ≤ c.room

theorem not_good {c : Cfg} (h : ¬ Good c) : (c.qmin < 0) ∨ (0 ≤ c.qmin ∧ c.qmax < c.qmin) ∨ (0 ≤ c.qmin ∧ c.qmin ≤ c.qmax ∧ 15 < c.qmax) ∨ (0 ≤ c.qmin ∧ c.qmin ≤ c.qmax ∧ c.qmax ≤ 15 ∧ c.reach < 0) ∨ (0 ≤ c.qmin ∧ c.qmin ≤ c.qmax ∧ c.qmax ≤ 15 ∧ 0 ≤ c.reach ∧ 7 < c.reach) ∨ (0 ≤ c.qmin ∧ c.qmin ≤ c.qmax ∧ c.qmax ≤ 15 ∧ 0 ≤ c.reach ∧ c.reach ≤ 7 ∧ c.cut < 0) ∨ (0 ≤ c.qmin ∧ c.qmin ≤ c.qmax ∧ c.qmax ≤ 15 ∧ 0 ≤ c.reach ∧ c.reach ≤ 7 ∧ 0 ≤ c.cut ∧ 16320 < c.cut) ∨ (0 ≤ c.qmin ∧ c.qmin ≤ c.qmax ∧ c.qmax ≤ 15 ∧ 0 ≤ c.reach ∧ c.reach ≤ 7 ∧ 0 ≤ c.cut ∧ c.cut ≤ 16320 ∧ c.gop < 1) ∨ (0 ≤ c.qmin ∧ c.qmin ≤ c.qmax ∧ c.qmax ≤ 15 ∧ 0 ≤ c.reach ∧ c.reach ≤ 7 ∧ 0 ≤ c.cut ∧ c.cut ≤ 16320 ∧ 1 ≤ c.gop ∧ 16 < c.gop) ∨ (0 ≤ c.qmin ∧ c.qmin ≤ c.qmax ∧ c.qmax ≤ 15 ∧ 0 ≤ c.reach ∧ c.reach ≤ 7 ∧ 0 ≤ c.cut ∧ c.cut ≤ 16320 ∧ 1 ≤ c.gop ∧ c.gop ≤ 16 ∧ c.rate < 8) ∨ (0 ≤ c.qmin ∧ c.qmin ≤ c.qmax ∧ c.qmax ≤ 15 ∧ 0 ≤ c.reach ∧ c.reach ≤ 7 ∧ 0 ≤ c.cut ∧ c.cut ≤ 16320 ∧ 1 ≤ c.gop ∧ c.gop ≤ 16 ∧ 8 ≤ c.rate ∧ c.room < c.rate) ∨ (0 ≤ c.qmin ∧ c.qmin ≤ c.qmax ∧ c.qmax ≤ 15 ∧ 0 ≤ c.reach ∧ c.reach ≤ 7 ∧ 0 ≤ c.cut ∧ c.cut ≤ 16320 ∧ 1 ≤ c.gop ∧ c.gop ≤ 16 ∧ 8 ≤ c.rate ∧ c.rate ≤ c.room ∧ 16384 < c.room) ∨ (0 ≤ c.qmin ∧ c.qmin ≤ c.qmax ∧ c.qmax ≤ 15 ∧ 0 ≤ c.reach ∧ c.reach ≤ 7 ∧ 0 ≤ c.cut ∧ c.cut ≤ 16320 ∧ 1 ≤ c.gop ∧ c.gop ≤ 16 ∧ 8 ≤ c.rate ∧ c.rate ≤ c.room ∧ c.room ≤ 16384 ∧ c.fill < 8) ∨ (0 ≤ c.qmin ∧ c.qmin ≤ c.qmax ∧ c.qmax ≤ 15 ∧ 0 ≤ c.reach ∧ c.reach ≤ 7 ∧ 0 ≤ c.cut ∧ c.cut ≤ 16320 ∧ 1 ≤ c.gop ∧ c.gop ≤ 16 ∧ 8 ≤ c.rate ∧ c.rate ≤ c.room ∧ c.room ≤ 16384 ∧ 8 ≤ c.fill ∧ c.room < c.fill) := by
  by_cases a0 : 0 ≤ c.qmin
  rotate_left
  · exact (Or.inl (by omega))
  by_cases a1 : c.qmin ≤ c.qmax
  rotate_left
  · exact (Or.inr (Or.inl ⟨a0, by omega⟩))
  by_cases a2 : c.qmax ≤ 15
  rotate_left
  · exact (Or.inr (Or.inr (Or.inl ⟨a0, a1, by omega⟩)))
  by_cases a3 : 0 ≤ c.reach
  rotate_left
  · exact (Or.inr (Or.inr (Or.inr (Or.inl ⟨a0, a1, a2, by omega⟩))))
  by_cases a4 : c.reach ≤ 7
  rotate_left
  · exact (Or.inr (Or.inr (Or.inr (Or.inr (Or.inl ⟨a0, a1, a2, a3, by omega⟩)))))
  by_cases a5 : 0 ≤ c.cut
  rotate_left
  · exact (Or.inr (Or.inr (Or.inr (Or.inr (Or.inr (Or.inl ⟨a0, a1, a2, a3, a4, by omega⟩))))))
  by_cases a6 : c.cut ≤ 16320
  rotate_left
  · exact (Or.inr (Or.inr (Or.inr (Or.inr (Or.inr (Or.inr (Or.inl ⟨a0, a1, a2, a3, a4, a5, by omega⟩)))))))
  by_cases a7 : 1 ≤ c.gop
  rotate_left
  · exact (Or.inr (Or.inr (Or.inr (Or.inr (Or.inr (Or.inr (Or.inr (Or.inl ⟨a0, a1, a2, a3, a4, a5, a6, by omega⟩))))))))
  by_cases a8 : c.gop ≤ 16
  rotate_left
  · exact (Or.inr (Or.inr (Or.inr (Or.inr (Or.inr (Or.inr (Or.inr (Or.inr (Or.inl ⟨a0, a1, a2, a3, a4, a5, a6, a7, by omega⟩)))))))))
  by_cases a9 : 8 ≤ c.rate
  rotate_left
  · exact (Or.inr (Or.inr (Or.inr (Or.inr (Or.inr (Or.inr (Or.inr (Or.inr (Or.inr (Or.inl ⟨a0, a1, a2, a3, a4, a5, a6, a7, a8, by omega⟩))))))))))
  by_cases a10 : c.rate ≤ c.room
  rotate_left
  · exact (Or.inr (Or.inr (Or.inr (Or.inr (Or.inr (Or.inr (Or.inr (Or.inr (Or.inr (Or.inr (Or.inl ⟨a0, a1, a2, a3, a4, a5, a6, a7, a8, a9, by omega⟩)))))))))))
  by_cases a11 : c.room ≤ 16384
  rotate_left
  · exact (Or.inr (Or.inr (Or.inr (Or.inr (Or.inr (Or.inr (Or.inr (Or.inr (Or.inr (Or.inr (Or.inr (Or.inl ⟨a0, a1, a2, a3, a4, a5, a6, a7, a8, a9, a10, by omega⟩))))))))))))
  by_cases a12 : 8 ≤ c.fill
  rotate_left
  · exact (Or.inr (Or.inr (Or.inr (Or.inr (Or.inr (Or.inr (Or.inr (Or.inr (Or.inr (Or.inr (Or.inr (Or.inr (Or.inl ⟨a0, a1, a2, a3, a4, a5, a6, a7, a8, a9, a10, a11, by omega⟩)))))))))))))
  by_cases a13 : c.fill ≤ c.room
  rotate_left
  · exact (Or.inr (Or.inr (Or.inr (Or.inr (Or.inr (Or.inr (Or.inr (Or.inr (Or.inr (Or.inr (Or.inr (Or.inr (Or.inr ⟨a0, a1, a2, a3, a4, a5, a6, a7, a8, a9, a10, a11, a12, by omega⟩)))))))))))))
  exact absurd ⟨a0, a1, a2, a3, a4, a5, a6, a7, a8, a9, a10, a11, a12, a13⟩ h

set_option maxRecDepth 20000 in
set_option maxHeartbeats 1000000 in
theorem may_yes (c : Cfg) (w : World) (h : Good c) :
    Calls Tryz.prog 134 #[.agg #[.int .i64 c.qmin, .int .i64 c.qmax, .int .i64 c.reach, .int .i64 c.cut, .int .i64 c.gop, .int .i64 c.rate, .int .i64 c.room, .int .i64 c.fill]] w fun e w' => e = .returned (.bool true) ∧ Ext w w' := by
  obtain ⟨h1, h2, h3, h4, h5, h6, h7, h8, h9, h10, h11, h12, h13, h14⟩ := h
  have E1 : Ext w (w.alloc (.cells #[.int .i64 c.qmin, .int .i64 c.qmax, .int .i64 c.reach, .int .i64 c.cut, .int .i64 c.gop, .int .i64 c.rate, .int .i64 c.room, .int .i64 c.fill] 63)) := (Ext.refl w).alloc _
  go_enter Tryz.func134, Tryz.ntmps134
  go_wp2
  go_ret
  exact ⟨rfl, E1⟩
end Go.Proofs.YtlaedbglclmheaaGreatDoor

/- vbv.May of a configuration that may not be: its contract over this seat's translation. -/
namespace Go.Proofs.YtlaedbglclmheaaGreatDoor
set_option linter.unusedVariables false
set_option linter.unusedSimpArgs false
open Go.RowKit Go.Extern.Stop Go.Stop Go.Extern

set_option maxRecDepth 20000 in
set_option maxHeartbeats 8000000 in
theorem may_no (c : Cfg) (w : World) (h : ¬ Good c) :
    Calls Tryz.prog 134 #[.agg #[.int .i64 c.qmin, .int .i64 c.qmax, .int .i64 c.reach, .int .i64 c.cut, .int .i64 c.gop, .int .i64 c.rate, .int .i64 c.room, .int .i64 c.fill]] w fun e w' => e = .returned (.bool false) ∧ Ext w w' := by
  have E1 : Ext w (w.alloc (.cells #[.int .i64 c.qmin, .int .i64 c.qmax, .int .i64 c.reach, .int .i64 c.cut, .int .i64 c.gop, .int .i64 c.rate, .int .i64 c.room, .int .i64 c.fill] 63)) := (Ext.refl w).alloc _
  rcases not_good h with h0 | ⟨h0, h1⟩ | ⟨h0, h1, h2⟩ | ⟨h0, h1, h2, h3⟩ | ⟨h0, h1, h2, h3, h4⟩ | ⟨h0, h1, h2, h3, h4, h5⟩ | ⟨h0, h1, h2, h3, h4, h5, h6⟩ | ⟨h0, h1, h2, h3, h4, h5, h6, h7⟩ | ⟨h0, h1, h2, h3, h4, h5, h6, h7, h8⟩ | ⟨h0, h1, h2, h3, h4, h5, h6, h7, h8, h9⟩ | ⟨h0, h1, h2, h3, h4, h5, h6, h7, h8, h9, h10⟩ | ⟨h0, h1, h2, h3, h4, h5, h6, h7, h8, h9, h10, h11⟩ | ⟨h0, h1, h2, h3, h4, h5, h6, h7, h8, h9, h10, h11, h12⟩ | ⟨h0, h1, h2, h3, h4, h5, h6, h7, h8, h9, h10, h11, h12, h13⟩
  all_goals
    clear h
    go_enter Tryz.func134, Tryz.ntmps134
    go_wp2
    go_ret
    exact ⟨by first | rfl | (simp; omega), E1⟩

end Go.Proofs.YtlaedbglclmheaaGreatDoor

/- vbv.Check and vbv.check: contracts over this seat's translation. -/
namespace Go.Proofs.YtlaedbglclmheaaGreatDoor
set_option linter.unusedVariables false
set_option linter.unusedSimpArgs false
open Go.RowKit Go.Extern.Stop Go.Stop Go.Extern

theorem Check_yes (c : Cfg) (w : World) (h : Good c) :
    Calls Tryz.prog 107 #[.agg #[.int .i64 c.qmin, .int .i64 c.qmax, .int .i64 c.reach, .int .i64 c.cut, .int .i64 c.gop, .int .i64 c.rate, .int .i64 c.room, .int .i64 c.fill]] w fun e w' => e = .returned .nilIface ∧ Ext w w' := by
  have E1 : Ext w (w.alloc (.cells #[.int .i64 c.qmin, .int .i64 c.qmax, .int .i64 c.reach, .int .i64 c.cut, .int .i64 c.gop, .int .i64 c.rate, .int .i64 c.room, .int .i64 c.fill] 63)) := (Ext.refl w).alloc _
  have H := Lib.hid h
  clear h
  go_enter Tryz.func107, Tryz.ntmps107
  go_wp2_with (go_at_call 134; refine (may_yes c _ H.out).mono ?_; rintro e w' ⟨rfl, hx⟩)
  go_ret
  exact ⟨rfl, E1.trans hx⟩
theorem Check_no (c : Cfg) (w : World) (h : ¬ Good c) :
    Calls Tryz.prog 107 #[.agg #[.int .i64 c.qmin, .int .i64 c.qmax, .int .i64 c.reach, .int .i64 c.cut, .int .i64 c.gop, .int .i64 c.rate, .int .i64 c.room, .int .i64 c.fill]] w fun e w' => e = .returned (.iface 35 (.int .i64 11)) ∧ Ext w w' := by
  have E1 : Ext w (w.alloc (.cells #[.int .i64 c.qmin, .int .i64 c.qmax, .int .i64 c.reach, .int .i64 c.cut, .int .i64 c.gop, .int .i64 c.rate, .int .i64 c.room, .int .i64 c.fill] 63)) := (Ext.refl w).alloc _
  have H := Lib.hid h
  clear h
  go_enter Tryz.func107, Tryz.ntmps107
  go_wp2_with (go_at_call 134; refine (may_no c _ H.out).mono ?_; rintro e w' ⟨rfl, hx⟩)
  go_ret
  exact ⟨rfl, E1.trans hx⟩

theorem check_no (c : Cfg) (v : Value) (w : World) (h : ¬ Good c) :
    Calls Tryz.prog 109 #[.agg #[.int .i64 c.qmin, .int .i64 c.qmax, .int .i64 c.reach, .int .i64 c.cut, .int .i64 c.gop, .int .i64 c.rate, .int .i64 c.room, .int .i64 c.fill], v] w fun e w' => e = .returned (.iface 35 (.int .i64 11)) ∧ Ext w w' := by
  have E1 : Ext w (w.alloc (.cells #[.int .i64 c.qmin, .int .i64 c.qmax, .int .i64 c.reach, .int .i64 c.cut, .int .i64 c.gop, .int .i64 c.rate, .int .i64 c.room, .int .i64 c.fill] 63)) := (Ext.refl w).alloc _
  have H := Lib.hid h
  clear h
  go_enter Tryz.func109, Tryz.ntmps109
  go_wp2_with (go_at_call 107; refine (Check_no c _ H.out).mono ?_; rintro e w' ⟨rfl, hx⟩)
  go_ret
  exact ⟨rfl, E1.trans hx⟩

/-- sizes that may be -/
def Sizes (zs : List Int) : Prop := zs.length ≤ 4096 ∧ within 0 1073741824 zs

set_option maxHeartbeats 1000000 in
set_option maxRecDepth 20000 in
theorem check_long (c : Cfg) (zs : List Int) (v : Value) (w : World) (h : Good c) (ha : Ints w v zs) (hl : 4096 < zs.length) :
    Calls Tryz.prog 109 #[.agg #[.int .i64 c.qmin, .int .i64 c.qmax, .int .i64 c.reach, .int .i64 c.cut, .int .i64 c.gop, .int .i64 c.rate, .int .i64 c.room, .int .i64 c.fill], v] w fun e w' => e = .returned (.iface 35 (.int .i64 3)) ∧ Ext w w' := by
  have E1 : Ext w (w.alloc (.cells #[.int .i64 c.qmin, .int .i64 c.qmax, .int .i64 c.reach, .int .i64 c.cut, .int .i64 c.gop, .int .i64 c.rate, .int .i64 c.room, .int .i64 c.fill] 63)) := (Ext.refl w).alloc _
  obtain ⟨a, cap, rfl⟩ := ha.form
  have H := Lib.hid h
  clear h ha
  go_enter Tryz.func109, Tryz.ntmps109
  go_wp2_with (go_at_call 107; refine (Check_yes c _ H.out).mono ?_; rintro e w' ⟨rfl, hx⟩)
  go_ret
  exact ⟨rfl, E1.trans hx⟩

set_option maxHeartbeats 2000000 in
set_option maxRecDepth 20000 in
theorem check_any (c : Cfg) (zs : List Int) (v : Value) (w : World) (h : Good c) (ha : Ints w v zs) (hl : zs.length ≤ 4096) :
    Calls Tryz.prog 109 #[.agg #[.int .i64 c.qmin, .int .i64 c.qmax, .int .i64 c.reach, .int .i64 c.cut, .int .i64 c.gop, .int .i64 c.rate, .int .i64 c.room, .int .i64 c.fill], v] w
      fun e w' => e = .returned (if within 0 1073741824 zs then .nilIface else .iface 35 (.int .i64 3)) ∧ Ext w w' := by
  have E1 : Ext w (w.alloc (.cells #[.int .i64 c.qmin, .int .i64 c.qmax, .int .i64 c.reach, .int .i64 c.cut, .int .i64 c.gop, .int .i64 c.rate, .int .i64 c.room, .int .i64 c.fill] 63)) := (Ext.refl w).alloc _
  obtain ⟨n, hn⟩ : ∃ n, n = zs.length := ⟨_, rfl⟩
  have H := Lib.hid h
  clear h
  by_cases hz : n = 0
  · obtain ⟨a, cap, rfl⟩ := ha.form
    obtain rfl : zs = [] := List.eq_nil_of_length_eq_zero (by omega)
    clear ha hz hn
    have hw : within 0 1073741824 [] := fun x hx => by cases hx
    rw [if_pos hw]
    go_enter Tryz.func109, Tryz.ntmps109
    go_wp2_with (go_at_call 107; refine (Check_yes c _ H.out).mono ?_; rintro e w' ⟨rfl, hx⟩)
    refine wp_loop_rounds 1 ?_
    rw [rounds_succ]
    go_wp2
    go_ret
    exact ⟨rfl, E1.trans hx⟩
  · obtain ⟨g, off, cap, rfl, c1, c2⟩ := ha.addr (by omega)
    rw [← hn] at ha hl c1 ⊢
    have HN := Lib.hid hn
    unfold maxLen at c2
    clear hn
    obtain ⟨r, hr⟩ : ∃ r, r = (if within 0 1073741824 zs then Value.nilIface else .iface 35 (.int .i64 3)) := ⟨_, rfl⟩
    rw [← hr]
    have HR := Lib.hid hr
    clear hr
    go_enter Tryz.func109, Tryz.ntmps109
    go_wp2_with (go_at_call 107; refine (Check_yes c _ H.out).mono ?_; rintro e w' ⟨rfl, hx⟩)
    have hE := E1.trans hx
    have ha' := ha.ext hE
    go_loop [19] (fun i => ∃ k : Nat, k ≤ n ∧ i = .int .i64 k ∧ Hid (∀ j x, j < k → zs[j]? = some x → 0 ≤ x ∧ x ≤ 1073741824)) (fun i => n - (intOf i).toNat)
    case atStart => exact ⟨0, Nat.zero_le _, rfl, fun j _ hj => absurd hj (Nat.not_lt_zero _)⟩
    case round =>
      obtain ⟨k, hk, rfl, HJ⟩ := hrel
      by_cases hlt : k < n
      · obtain ⟨x, hx'⟩ : ∃ x, zs[k]? = some x := ⟨_, List.getElem?_eq_getElem (by rw [← HN.out]; exact hlt)⟩
        have cx := ha'.at hx'
        have HX := Lib.hid hx'
        clear hx'
        by_cases h1 : x < 0
        · go_wp2
          go_ret
          refine ⟨?_, hE⟩
          have : ¬ within 0 1073741824 zs := fun hw => by have := (hw.at HX.out).1; omega
          rw [HR.out, if_neg this]; rfl
        · by_cases h2 : 1073741824 < x
          · go_wp2
            go_ret
            refine ⟨?_, hE⟩
            have : ¬ within 0 1073741824 zs := fun hw => by have := (hw.at HX.out).2; omega
            rw [HR.out, if_neg this]; rfl
          · go_wp2
            go_round
            case rel => exact ⟨k + 1, by omega, by go_num, fun j y hj hy => by
              by_cases hjk : j = k
              · subst hjk
                have : x = y := Option.some.inj (HX.out.symm.trans hy)
                omega
              · exact HJ.out j y (by omega) hy⟩
            case measure => simp [intOf]; omega
      · go_wp2
        go_ret
        refine ⟨?_, hE⟩
        have : within 0 1073741824 zs := within_of_gets fun j x hj hx => HJ.out j x (by rw [← HN.out] at hj; omega) hx
        rw [HR.out, if_pos this]; rfl
end Go.Proofs.YtlaedbglclmheaaGreatDoor
