/- vbv.Check and vbv.check: contracts over this seat's translation. -/
import Derived.Test.YtckhilnjkckabaaDoorVbvNo
import Derived.Test.YtckhilnjkckabaaDoorCopy
namespace Go.Proofs.YtckhilnjkckabaaDoor
set_option linter.unusedVariables false
set_option linter.unusedSimpArgs false
open Go.RowKit Go.Extern.Stop Go.Stop Go.Extern

theorem Check_yes (c : Cfg) (w : World) (h : Good c) :
    Calls Tryd.prog 13 #[.agg #[.int .i64 c.qmin, .int .i64 c.qmax, .int .i64 c.reach, .int .i64 c.cut, .int .i64 c.gop, .int .i64 c.rate, .int .i64 c.room, .int .i64 c.fill]] w fun e w' => e = .returned .nilIface ∧ Ext w w' := by
  have E1 : Ext w (w.alloc (.cells #[.int .i64 c.qmin, .int .i64 c.qmax, .int .i64 c.reach, .int .i64 c.cut, .int .i64 c.gop, .int .i64 c.rate, .int .i64 c.room, .int .i64 c.fill] 23)) := (Ext.refl w).alloc _
  have H := Lib.hid h
  clear h
  go_enter Tryd.func13, Tryd.ntmps13
  go_wp2_with (go_at_call 12; refine (may_yes c _ H.out).mono ?_; rintro e w' ⟨rfl, hx⟩)
  go_ret
  exact ⟨rfl, E1.trans hx⟩
theorem Check_no (c : Cfg) (w : World) (h : ¬ Good c) :
    Calls Tryd.prog 13 #[.agg #[.int .i64 c.qmin, .int .i64 c.qmax, .int .i64 c.reach, .int .i64 c.cut, .int .i64 c.gop, .int .i64 c.rate, .int .i64 c.room, .int .i64 c.fill]] w fun e w' => e = .returned (.iface 32 (.int .i64 11)) ∧ Ext w w' := by
  have E1 : Ext w (w.alloc (.cells #[.int .i64 c.qmin, .int .i64 c.qmax, .int .i64 c.reach, .int .i64 c.cut, .int .i64 c.gop, .int .i64 c.rate, .int .i64 c.room, .int .i64 c.fill] 23)) := (Ext.refl w).alloc _
  have H := Lib.hid h
  clear h
  go_enter Tryd.func13, Tryd.ntmps13
  go_wp2_with (go_at_call 12; refine (may_no c _ H.out).mono ?_; rintro e w' ⟨rfl, hx⟩)
  go_ret
  exact ⟨rfl, E1.trans hx⟩

theorem check_no (c : Cfg) (v : Value) (w : World) (h : ¬ Good c) :
    Calls Tryd.prog 24 #[.agg #[.int .i64 c.qmin, .int .i64 c.qmax, .int .i64 c.reach, .int .i64 c.cut, .int .i64 c.gop, .int .i64 c.rate, .int .i64 c.room, .int .i64 c.fill], v] w fun e w' => e = .returned (.iface 32 (.int .i64 11)) ∧ Ext w w' := by
  have E1 : Ext w (w.alloc (.cells #[.int .i64 c.qmin, .int .i64 c.qmax, .int .i64 c.reach, .int .i64 c.cut, .int .i64 c.gop, .int .i64 c.rate, .int .i64 c.room, .int .i64 c.fill] 23)) := (Ext.refl w).alloc _
  have H := Lib.hid h
  clear h
  go_enter Tryd.func24, Tryd.ntmps24
  go_wp2_with (go_at_call 13; refine (Check_no c _ H.out).mono ?_; rintro e w' ⟨rfl, hx⟩)
  go_ret
  exact ⟨rfl, E1.trans hx⟩

/-- sizes that may be -/
def Sizes (zs : List Int) : Prop := zs.length ≤ 4096 ∧ within 0 1073741824 zs

set_option maxHeartbeats 1000000 in
set_option maxRecDepth 20000 in
theorem check_long (c : Cfg) (zs : List Int) (v : Value) (w : World) (h : Good c) (ha : Ints w v zs) (hl : 4096 < zs.length) :
    Calls Tryd.prog 24 #[.agg #[.int .i64 c.qmin, .int .i64 c.qmax, .int .i64 c.reach, .int .i64 c.cut, .int .i64 c.gop, .int .i64 c.rate, .int .i64 c.room, .int .i64 c.fill], v] w fun e w' => e = .returned (.iface 32 (.int .i64 3)) ∧ Ext w w' := by
  have E1 : Ext w (w.alloc (.cells #[.int .i64 c.qmin, .int .i64 c.qmax, .int .i64 c.reach, .int .i64 c.cut, .int .i64 c.gop, .int .i64 c.rate, .int .i64 c.room, .int .i64 c.fill] 23)) := (Ext.refl w).alloc _
  obtain ⟨a, cap, rfl⟩ := ha.form
  have H := Lib.hid h
  clear h ha
  go_enter Tryd.func24, Tryd.ntmps24
  go_wp2_with (go_at_call 13; refine (Check_yes c _ H.out).mono ?_; rintro e w' ⟨rfl, hx⟩)
  go_ret
  exact ⟨rfl, E1.trans hx⟩

set_option maxHeartbeats 2000000 in
set_option maxRecDepth 20000 in
theorem check_any (c : Cfg) (zs : List Int) (v : Value) (w : World) (h : Good c) (ha : Ints w v zs) (hl : zs.length ≤ 4096) :
    Calls Tryd.prog 24 #[.agg #[.int .i64 c.qmin, .int .i64 c.qmax, .int .i64 c.reach, .int .i64 c.cut, .int .i64 c.gop, .int .i64 c.rate, .int .i64 c.room, .int .i64 c.fill], v] w
      fun e w' => e = .returned (if within 0 1073741824 zs then .nilIface else .iface 32 (.int .i64 3)) ∧ Ext w w' := by
  have E1 : Ext w (w.alloc (.cells #[.int .i64 c.qmin, .int .i64 c.qmax, .int .i64 c.reach, .int .i64 c.cut, .int .i64 c.gop, .int .i64 c.rate, .int .i64 c.room, .int .i64 c.fill] 23)) := (Ext.refl w).alloc _
  obtain ⟨n, hn⟩ : ∃ n, n = zs.length := ⟨_, rfl⟩
  have H := Lib.hid h
  clear h
  by_cases hz : n = 0
  · obtain ⟨a, cap, rfl⟩ := ha.form
    obtain rfl : zs = [] := List.eq_nil_of_length_eq_zero (by omega)
    clear ha hz hn
    have hw : within 0 1073741824 [] := fun x hx => by cases hx
    rw [if_pos hw]
    go_enter Tryd.func24, Tryd.ntmps24
    go_wp2_with (go_at_call 13; refine (Check_yes c _ H.out).mono ?_; rintro e w' ⟨rfl, hx⟩)
    refine wp_loop_rounds 1 ?_
    rw [rounds_succ]
    go_wp2
    go_ret
    exact ⟨rfl, E1.trans hx⟩
  · obtain ⟨g, off, cap, rfl, c1, c2⟩ := ha.addr (by omega)
    rw [← hn] at ha hl c1 ⊢
    have HN := Lib.hid hn
    unfold maxLen at c2
    clear hn
    obtain ⟨r, hr⟩ : ∃ r, r = (if within 0 1073741824 zs then Value.nilIface else .iface 32 (.int .i64 3)) := ⟨_, rfl⟩
    rw [← hr]
    have HR := Lib.hid hr
    clear hr
    go_enter Tryd.func24, Tryd.ntmps24
    go_wp2_with (go_at_call 13; refine (Check_yes c _ H.out).mono ?_; rintro e w' ⟨rfl, hx⟩)
    have hE := E1.trans hx
    have ha' := ha.ext hE
    go_loop [19] (fun i => ∃ k : Nat, k ≤ n ∧ i = .int .i64 k ∧ Hid (∀ j x, j < k → zs[j]? = some x → 0 ≤ x ∧ x ≤ 1073741824)) (fun i => n - (intOf i).toNat)
    case atStart => exact ⟨0, Nat.zero_le _, rfl, fun j _ hj => absurd hj (Nat.not_lt_zero _)⟩
    case round =>
      obtain ⟨k, hk, rfl, HJ⟩ := hrel
      by_cases hlt : k < n
      · obtain ⟨x, hx'⟩ : ∃ x, zs[k]? = some x := ⟨_, List.getElem?_eq_getElem (by rw [← HN.out]; exact hlt)⟩
        have cx := ha'.at hx'
        have HX := Lib.hid hx'
        clear hx'
        by_cases h1 : x < 0
        · go_wp2
          go_ret
          refine ⟨?_, hE⟩
          have : ¬ within 0 1073741824 zs := fun hw => by have := (hw.at HX.out).1; omega
          rw [HR.out, if_neg this]; rfl
        · by_cases h2 : 1073741824 < x
          · go_wp2
            go_ret
            refine ⟨?_, hE⟩
            have : ¬ within 0 1073741824 zs := fun hw => by have := (hw.at HX.out).2; omega
            rw [HR.out, if_neg this]; rfl
          · go_wp2
            go_round
            case rel => exact ⟨k + 1, by omega, by go_num, fun j y hj hy => by
              by_cases hjk : j = k
              · subst hjk
                have : x = y := Option.some.inj (HX.out.symm.trans hy)
                omega
              · exact HJ.out j y (by omega) hy⟩
            case measure => simp [intOf]; omega
      · go_wp2
        go_ret
        refine ⟨?_, hE⟩
        have : within 0 1073741824 zs := within_of_gets fun j x hj hx => HJ.out j x (by rw [← HN.out] at hj; omega) hx
        rw [HR.out, if_pos this]; rfl
end Go.Proofs.YtckhilnjkckabaaDoor
