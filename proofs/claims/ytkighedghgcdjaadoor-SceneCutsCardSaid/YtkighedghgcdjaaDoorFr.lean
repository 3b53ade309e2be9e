/- Frames: what they are, which may be; plane.isSide, isSample, Clip, May and the document's: contracts over this seat's translation. -/
import Derived.Test.YtkighedghgcdjaaDoorFall
import Derived.Test.YtkighedghgcdjaaDoorMm
namespace Go.Proofs.YtkighedghgcdjaaDoor
set_option linter.unusedVariables false
set_option linter.unusedSimpArgs false
open Go.RowKit Go.Extern.Stop Go.Stop Go.Extern

def sideB (n : Int) : Bool := decide (8 ≤ n) && decide (n ≤ 32) && decide (n % 8 = 0)
/-- may a frame of these sides and samples be? -/
def may (W H : Int) (zs : List Int) : Prop := sideB W = true ∧ sideB H = true ∧ (zs.length : Int) = W * H ∧ within 0 255 zs
instance (W H : Int) (zs : List Int) : Decidable (may W H zs) := by unfold may; exact inferInstance
theorem sideB_true {n : Int} (h : sideB n = true) : 8 ≤ n ∧ n ≤ 32 ∧ n % 8 = 0 := by
  unfold sideB at h
  simp at h
  omega
theorem sideB_cases {n : Int} (h : sideB n = true) : n = 8 ∨ n = 16 ∨ n = 24 ∨ n = 32 := by
  have := sideB_true h
  omega
theorem may_area {W H : Int} {zs : List Int} (h : may W H zs) : 64 ≤ W * H ∧ W * H ≤ 1024 := by
  rcases sideB_cases h.1 with rfl | rfl | rfl | rfl <;> rcases sideB_cases h.2.1 with rfl | rfl | rfl | rfl <;> decide
theorem side_area {W H : Int} (h : sideB W = true) (k : sideB H = true) : 64 ≤ W * H ∧ W * H ≤ 1024 := by
  rcases sideB_cases h with rfl | rfl | rfl | rfl <;> rcases sideB_cases k with rfl | rfl | rfl | rfl <;> decide

theorem side_any (n : Int) (w : World) : Calls Tryd.prog 52 #[.int .i64 n] w fun e w' => e = .returned (.bool (sideB n)) ∧ w = w' := by
  by_cases h1 : 8 ≤ n
  · by_cases h2 : n ≤ 32
    · by_cases h3 : n % 8 = 0
      · have hs : sideB n = true := by unfold sideB; simp [h1, h2, h3]
        have H := Lib.hid hs
        clear hs
        go_enter Tryd.func52, Tryd.ntmps52
        go_wp2
        go_ret
        exact ⟨by rw [H.out]; rfl, rfl⟩
      · have hs : sideB n = false := by unfold sideB; simp [h3]
        have b1 : (n % 8 == 0) = false := by simpa using h3
        have H := Lib.hid hs
        clear hs h3
        go_enter Tryd.func52, Tryd.ntmps52
        go_wp2
        go_ret
        exact ⟨by rw [H.out]; rfl, rfl⟩
    · have hs : sideB n = false := by unfold sideB; simp [h2]
      have H := Lib.hid hs
      clear hs
      go_enter Tryd.func52, Tryd.ntmps52
      go_wp2
      go_ret
      exact ⟨by rw [H.out]; rfl, rfl⟩
  · have hs : sideB n = false := by unfold sideB; simp [h1]
    have H := Lib.hid hs
    clear hs
    go_enter Tryd.func52, Tryd.ntmps52
    go_wp2
    go_ret
    exact ⟨by rw [H.out]; rfl, rfl⟩
theorem rside_any (n : Int) (w : World) : Calls Tryd.prog 55 #[.int .i64 n] w fun e w' => e = .returned (.bool (sideB n)) ∧ w = w' := by
  by_cases h1 : 8 ≤ n
  · by_cases h2 : n ≤ 32
    · by_cases h3 : n % 8 = 0
      · have hs : sideB n = true := by unfold sideB; simp [h1, h2, h3]
        have H := Lib.hid hs
        clear hs
        go_enter Tryd.func55, Tryd.ntmps55
        go_wp2
        go_ret
        exact ⟨by rw [H.out]; rfl, rfl⟩
      · have hs : sideB n = false := by unfold sideB; simp [h3]
        have b1 : (n % 8 == 0) = false := by simpa using h3
        have H := Lib.hid hs
        clear hs h3
        go_enter Tryd.func55, Tryd.ntmps55
        go_wp2
        go_ret
        exact ⟨by rw [H.out]; rfl, rfl⟩
    · have hs : sideB n = false := by unfold sideB; simp [h2]
      have H := Lib.hid hs
      clear hs
      go_enter Tryd.func55, Tryd.ntmps55
      go_wp2
      go_ret
      exact ⟨by rw [H.out]; rfl, rfl⟩
  · have hs : sideB n = false := by unfold sideB; simp [h1]
    have H := Lib.hid hs
    clear hs
    go_enter Tryd.func55, Tryd.ntmps55
    go_wp2
    go_ret
    exact ⟨by rw [H.out]; rfl, rfl⟩
def smpB (n : Int) : Bool := decide (0 ≤ n) && decide (n ≤ 255)
theorem smp_any (n : Int) (w : World) : Calls Tryd.prog 53 #[.int .i64 n] w fun e w' => e = .returned (.bool (smpB n)) ∧ w = w' := by
  by_cases h1 : 0 ≤ n
  · by_cases h2 : n ≤ 255
    · have H : Hid (smpB n = true) := by show _ = _; unfold smpB; simp [h1, h2]
      go_enter Tryd.func53, Tryd.ntmps53
      go_wp2
      go_ret
      exact ⟨by rw [H.out]; rfl, rfl⟩
    · have H : Hid (smpB n = false) := by show _ = _; unfold smpB; simp [h2]
      go_enter Tryd.func53, Tryd.ntmps53
      go_wp2
      go_ret
      exact ⟨by rw [H.out]; rfl, rfl⟩
  · have H : Hid (smpB n = false) := by show _ = _; unfold smpB; simp [h1]
    go_enter Tryd.func53, Tryd.ntmps53
    go_wp2
    go_ret
    exact ⟨by rw [H.out]; rfl, rfl⟩
def clipI (n : Int) : Int := max 0 (min n 255)
theorem clip_any (n : Int) (w : World) : Calls Tryd.prog 23 #[.int .i64 n] w fun e w' => e = .returned (.int .i64 (clipI n)) ∧ w = w' := by
  have r1 := mx2
  have r2 := mn2
  go_enter Tryd.func23, Tryd.ntmps23
  go_wp2
  go_ret
  exact ⟨rfl, rfl⟩
theorem rclip_any (n : Int) (w : World) : Calls Tryd.prog 24 #[.int .i64 n] w fun e w' => e = .returned (.int .i64 (clipI n)) ∧ w = w' := by
  have r1 := mx2
  have r2 := mn2
  have e : min (max n 0) 255 = clipI n := by unfold clipI; omega
  have H := Lib.hid e
  clear e
  go_enter Tryd.func24, Tryd.ntmps24
  go_wp2
  go_ret
  exact ⟨by rw [← H.out]; rfl, rfl⟩
set_option maxRecDepth 20000 in
set_option maxHeartbeats 1000000 in
theorem may_any (W H : Int) (zs : List Int) (a : Option Addr) (n cap : Nat) (w : World) (h : Ints w (.slice a n cap) zs) :
    Calls Tryd.prog 21 #[.agg #[.int .i64 W, .int .i64 H, .slice a n cap]] w fun e w' => e = .returned (.bool (decide (may W H zs))) ∧ Ext w w' := by
  have E1 : Ext w (w.alloc (.cells #[.int .i64 W, .int .i64 H, .slice a n cap] 24)) := (Ext.refl w).alloc _
  have HN := Lib.hid h.len
  cases hs : sideB W with
  | false =>
    have HR : Hid (decide (may W H zs) = false) := by show _ = _; simp [may, hs]
    go_enter Tryd.func21, Tryd.ntmps21
    go_wp2_with (go_at_call 52; refine (side_any _ _).mono ?_; rintro e w' ⟨rfl, rfl⟩)
    go_ret
    exact ⟨by rw [HR.out]; rfl, E1⟩
  | true =>
    cases ht : sideB H with
    | false =>
      have HR : Hid (decide (may W H zs) = false) := by show _ = _; simp [may, ht]
      go_enter Tryd.func21, Tryd.ntmps21
      go_wp2_with (go_at_call 52; refine (side_any _ _).mono ?_; rintro e w' ⟨rfl, rfl⟩)
      go_ret
      exact ⟨by rw [HR.out]; rfl, E1⟩
    | true =>
      obtain ⟨b1, b2⟩ := side_area hs ht
      by_cases hl : (n : Int) = W * H
      · have HL := Lib.hid hl
        have hl2 : ((n : Int) != W * H) = false := by simpa using hl
        have hn0 : 0 < n ∧ n ≤ 1024 := by omega
        clear hl
        obtain ⟨hn0, hn1⟩ := hn0
        have HS : Hid (sideB W = true ∧ sideB H = true) := ⟨hs, ht⟩
        obtain ⟨g, off, rfl⟩ := h.had hn0
        go_enter Tryd.func21, Tryd.ntmps21
        go_wp2_with (go_at_call 52; refine (side_any _ _).mono ?_; rintro e w' ⟨rfl, rfl⟩)
        go_loop [29] (fun i => ∃ k : Nat, k ≤ n ∧ i = .int .i64 k ∧ Hid (∀ j x, j < k → zs[j]? = some x → 0 ≤ x ∧ x ≤ 255)) (fun i => n - (intOf i).toNat)
        case atStart => exact ⟨0, Nat.zero_le _, rfl, fun j _ hj => absurd hj (Nat.not_lt_zero _)⟩
        case round =>
          obtain ⟨k, hk, rfl, HJ⟩ := hrel
          by_cases hlt : k < n
          · obtain ⟨x, hx⟩ : ∃ x, zs[k]? = some x := ⟨_, List.getElem?_eq_getElem (by rw [← HN.out]; exact hlt)⟩
            have cx := E1.cell (h.at hx)
            have HX := Lib.hid hx
            clear hx
            cases hb : smpB x with
            | true =>
              have HB := Lib.hid hb
              go_wp2_with (go_at_call 53; refine (smp_any _ _).mono ?_; rintro e w' ⟨rfl, rfl⟩)
              go_round
              case rel => exact ⟨k + 1, by omega, by go_num, fun j y hj hy => by
                by_cases hjk : j = k
                · subst hjk
                  have : x = y := Option.some.inj (HX.out.symm.trans hy)
                  have h2 := HB.out
                  unfold smpB at h2
                  simp at h2
                  omega
                · exact HJ.out j y (by omega) hy⟩
              case measure => simp [intOf]; omega
            | false =>
              have HB := Lib.hid hb
              go_wp2_with (go_at_call 53; refine (smp_any _ _).mono ?_; rintro e w' ⟨rfl, rfl⟩)
              go_ret
              refine ⟨?_, E1⟩
              have : ¬ may W H zs := fun hm => by
                have h1 := hm.2.2.2.at HX.out
                have h2 := HB.out
                unfold smpB at h2
                simp at h2
                omega
              rw [decide_eq_false this]; rfl
          · go_wp2
            go_ret
            refine ⟨?_, E1⟩
            have : may W H zs := ⟨HS.out.1, HS.out.2, by rw [← HN.out]; exact HL.out, within_of_gets fun j x hj hx => HJ.out j x (by rw [← HN.out] at hj; omega) hx⟩
            rw [decide_eq_true this]; rfl
      · have HR : Hid (decide (may W H zs) = false) := by show _ = _; rw [decide_eq_false (fun hm => hl (by rw [HN.out]; exact hm.2.2.1))]
        have hl2 : ((n : Int) != W * H) = true := by simpa using hl
        clear hl
        go_enter Tryd.func21, Tryd.ntmps21
        go_wp2_with (go_at_call 52; refine (side_any _ _).mono ?_; rintro e w' ⟨rfl, rfl⟩)
        go_ret
        exact ⟨by rw [HR.out]; rfl, E1⟩
end Go.Proofs.YtkighedghgcdjaaDoor
