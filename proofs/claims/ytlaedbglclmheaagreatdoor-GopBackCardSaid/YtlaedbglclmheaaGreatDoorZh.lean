/- Contracts of this seat: Fr, AnyB, BMath, Blk, Fr2, In, In2, EdR. -/
import Derived.Test.YtlaedbglclmheaaGreatDoorZb
import Derived.Test.YtlaedbglclmheaaGreatDoorZa
import Derived.Test.YtlaedbglclmheaaGreatDoorCards
import Derived.Test.YtlaedbglclmheaaGreatDoorZc
import Derived.BigRegion
import Derived.BigQuiet
import Derived.Deep.QuietTactic
/- Frames: what they are, which may be; plane.isSide, isSample, Clip, May and the document's: contracts over this seat's translation. -/
namespace Go.Proofs.YtlaedbglclmheaaGreatDoor
set_option linter.unusedVariables false
set_option linter.unusedSimpArgs false
open Go.RowKit Go.Extern.Stop Go.Stop Go.Extern

def sideB (n : Int) : Bool := decide (8 ≤ n) && decide (n ≤ 32) && decide (n % 8 = 0)
/-- may a frame of these sides and samples be? -/
def may (W H : Int) (zs : List Int) : Prop := sideB W = true ∧ sideB H = true ∧ (zs.length : Int) = W * H ∧ within 0 255 zs
instance (W H : Int) (zs : List Int) : Decidable (may W H zs) := by unfold may; exact inferInstance
theorem sideB_true {n : Int} (h : sideB n = true) : 8 ≤ n ∧ n ≤ 32 ∧ n % 8 = 0 := by
  unfold sideB at h
  simp at h
  omega
theorem sideB_cases {n : Int} (h : sideB n = true) : n = 8 ∨ n = 16 ∨ n = 24 ∨ n = 32 := by
  have := sideB_true h
  omega
theorem may_area {W H : Int} {zs : List Int} (h : may W H zs) : 64 ≤ W * H ∧ W * H ≤ 1024 := by
  rcases sideB_cases h.1 with rfl | rfl | rfl | rfl <;> rcases sideB_cases h.2.1 with rfl | rfl | rfl | rfl <;> decide
theorem side_area {W H : Int} (h : sideB W = true) (k : sideB H = true) : 64 ≤ W * H ∧ W * H ≤ 1024 := by
  rcases sideB_cases h with rfl | rfl | rfl | rfl <;> rcases sideB_cases k with rfl | rfl | rfl | rfl <;> decide

theorem side_any (n : Int) (w : World) : Calls Tryz.prog 135 #[.int .i64 n] w fun e w' => e = .returned (.bool (sideB n)) ∧ w = w' := by
  by_cases h1 : 8 ≤ n
  · by_cases h2 : n ≤ 32
    · by_cases h3 : n % 8 = 0
      · have hs : sideB n = true := by unfold sideB; simp [h1, h2, h3]
        have H := Lib.hid hs
        clear hs
        go_enter Tryz.func135, Tryz.ntmps135
        go_wp2
        go_ret
        exact ⟨by rw [H.out]; rfl, rfl⟩
      · have hs : sideB n = false := by unfold sideB; simp [h3]
        have b1 : (n % 8 == 0) = false := by simpa using h3
        have H := Lib.hid hs
        clear hs h3
        go_enter Tryz.func135, Tryz.ntmps135
        go_wp2
        go_ret
        exact ⟨by rw [H.out]; rfl, rfl⟩
    · have hs : sideB n = false := by unfold sideB; simp [h2]
      have H := Lib.hid hs
      clear hs
      go_enter Tryz.func135, Tryz.ntmps135
      go_wp2
      go_ret
      exact ⟨by rw [H.out]; rfl, rfl⟩
  · have hs : sideB n = false := by unfold sideB; simp [h1]
    have H := Lib.hid hs
    clear hs
    go_enter Tryz.func135, Tryz.ntmps135
    go_wp2
    go_ret
    exact ⟨by rw [H.out]; rfl, rfl⟩
def smpB (n : Int) : Bool := decide (0 ≤ n) && decide (n ≤ 255)
theorem smp_any (n : Int) (w : World) : Calls Tryz.prog 136 #[.int .i64 n] w fun e w' => e = .returned (.bool (smpB n)) ∧ w = w' := by
  by_cases h1 : 0 ≤ n
  · by_cases h2 : n ≤ 255
    · have H : Hid (smpB n = true) := by show _ = _; unfold smpB; simp [h1, h2]
      go_enter Tryz.func136, Tryz.ntmps136
      go_wp2
      go_ret
      exact ⟨by rw [H.out]; rfl, rfl⟩
    · have H : Hid (smpB n = false) := by show _ = _; unfold smpB; simp [h2]
      go_enter Tryz.func136, Tryz.ntmps136
      go_wp2
      go_ret
      exact ⟨by rw [H.out]; rfl, rfl⟩
  · have H : Hid (smpB n = false) := by show _ = _; unfold smpB; simp [h1]
    go_enter Tryz.func136, Tryz.ntmps136
    go_wp2
    go_ret
    exact ⟨by rw [H.out]; rfl, rfl⟩
def clipI (n : Int) : Int := max 0 (min n 255)
theorem clip_any (n : Int) (w : World) : Calls Tryz.prog 227 #[.int .i64 n] w fun e w' => e = .returned (.int .i64 (clipI n)) ∧ w = w' := by
  have r1 := mx2
  have r2 := mn2
  go_enter Tryz.func227, Tryz.ntmps227
  go_wp2
  go_ret
  exact ⟨rfl, rfl⟩
set_option maxRecDepth 20000 in
set_option maxHeartbeats 1000000 in
theorem may_any (W H : Int) (zs : List Int) (a : Option Addr) (n cap : Nat) (w : World) (h : Ints w (.slice a n cap) zs) :
    Calls Tryz.prog 123 #[.agg #[.int .i64 W, .int .i64 H, .slice a n cap]] w fun e w' => e = .returned (.bool (decide (may W H zs))) ∧ Ext w w' := by
  have E1 : Ext w (w.alloc (.cells #[.int .i64 W, .int .i64 H, .slice a n cap] 99)) := (Ext.refl w).alloc _
  have HN := Lib.hid h.len
  cases hs : sideB W with
  | false =>
    have HR : Hid (decide (may W H zs) = false) := by show _ = _; simp [may, hs]
    go_enter Tryz.func123, Tryz.ntmps123
    go_wp2_with (go_at_call 135; refine (side_any _ _).mono ?_; rintro e w' ⟨rfl, rfl⟩)
    go_ret
    exact ⟨by rw [HR.out]; rfl, E1⟩
  | true =>
    cases ht : sideB H with
    | false =>
      have HR : Hid (decide (may W H zs) = false) := by show _ = _; simp [may, ht]
      go_enter Tryz.func123, Tryz.ntmps123
      go_wp2_with (go_at_call 135; refine (side_any _ _).mono ?_; rintro e w' ⟨rfl, rfl⟩)
      go_ret
      exact ⟨by rw [HR.out]; rfl, E1⟩
    | true =>
      obtain ⟨b1, b2⟩ := side_area hs ht
      by_cases hl : (n : Int) = W * H
      · have HL := Lib.hid hl
        have hl2 : ((n : Int) != W * H) = false := by simpa using hl
        have hn0 : 0 < n ∧ n ≤ 1024 := by omega
        clear hl
        obtain ⟨hn0, hn1⟩ := hn0
        have HS : Hid (sideB W = true ∧ sideB H = true) := ⟨hs, ht⟩
        obtain ⟨g, off, rfl⟩ := h.had hn0
        go_enter Tryz.func123, Tryz.ntmps123
        go_wp2_with (go_at_call 135; refine (side_any _ _).mono ?_; rintro e w' ⟨rfl, rfl⟩)
        go_loop [29] (fun i => ∃ k : Nat, k ≤ n ∧ i = .int .i64 k ∧ Hid (∀ j x, j < k → zs[j]? = some x → 0 ≤ x ∧ x ≤ 255)) (fun i => n - (intOf i).toNat)
        case atStart => exact ⟨0, Nat.zero_le _, rfl, fun j _ hj => absurd hj (Nat.not_lt_zero _)⟩
        case round =>
          obtain ⟨k, hk, rfl, HJ⟩ := hrel
          by_cases hlt : k < n
          · obtain ⟨x, hx⟩ : ∃ x, zs[k]? = some x := ⟨_, List.getElem?_eq_getElem (by rw [← HN.out]; exact hlt)⟩
            have cx := E1.cell (h.at hx)
            have HX := Lib.hid hx
            clear hx
            cases hb : smpB x with
            | true =>
              have HB := Lib.hid hb
              go_wp2_with (go_at_call 136; refine (smp_any _ _).mono ?_; rintro e w' ⟨rfl, rfl⟩)
              go_round
              case rel => exact ⟨k + 1, by omega, by go_num, fun j y hj hy => by
                by_cases hjk : j = k
                · subst hjk
                  have : x = y := Option.some.inj (HX.out.symm.trans hy)
                  have h2 := HB.out
                  unfold smpB at h2
                  simp at h2
                  omega
                · exact HJ.out j y (by omega) hy⟩
              case measure => simp [intOf]; omega
            | false =>
              have HB := Lib.hid hb
              go_wp2_with (go_at_call 136; refine (smp_any _ _).mono ?_; rintro e w' ⟨rfl, rfl⟩)
              go_ret
              refine ⟨?_, E1⟩
              have : ¬ may W H zs := fun hm => by
                have h1 := hm.2.2.2.at HX.out
                have h2 := HB.out
                unfold smpB at h2
                simp at h2
                omega
              rw [decide_eq_false this]; rfl
          · go_wp2
            go_ret
            refine ⟨?_, E1⟩
            have : may W H zs := ⟨HS.out.1, HS.out.2, by rw [← HN.out]; exact HL.out, within_of_gets fun j x hj hx => HJ.out j x (by rw [← HN.out] at hj; omega) hx⟩
            rw [decide_eq_true this]; rfl
      · have HR : Hid (decide (may W H zs) = false) := by show _ = _; rw [decide_eq_false (fun hm => hl (by rw [HN.out]; exact hm.2.2.1))]
        have hl2 : ((n : Int) != W * H) = true := by simpa using hl
        clear hl
        go_enter Tryz.func123, Tryz.ntmps123
        go_wp2_with (go_at_call 135; refine (side_any _ _).mono ?_; rintro e w' ⟨rfl, rfl⟩)
        go_ret
        exact ⟨by rw [HR.out]; rfl, E1⟩
end Go.Proofs.YtlaedbglclmheaaGreatDoor

/- slices.ContainsFunc at this seat's predicates: contracts over this seat's translation. -/
namespace Go.Proofs.YtlaedbglclmheaaGreatDoor
set_option linter.unusedVariables false
set_option linter.unusedSimpArgs false
open Go.RowKit Go.Extern.Stop Go.Stop Go.Extern

def IdxPost (w : World) (b : Bool) (e : Ending) (w' : World) : Prop := ∃ i : Int, e = .returned (.int .i64 i) ∧ decide (0 ≤ i) = b ∧ w = w'
def farB (x : Int) : Bool := decide (x < -1048576) || decide (1048576 < x)
def nzB (x : Int) : Bool := decide (x ≠ 0)
def nosmpB (x : Int) : Bool := decide (x < 0) || decide (255 < x)
theorem any_of_get {zs : List Int} {p : Int → Bool} {k : Nat} {x : Int} (h : zs[k]? = some x) (hp : p x = true) : zs.any p = true := List.any_eq_true.2 ⟨x, List.mem_of_getElem? h, hp⟩
theorem any_no {zs : List Int} {p : Int → Bool} (h : ∀ j x, j < zs.length → zs[j]? = some x → p x = false) : zs.any p = false := by
  rw [Bool.eq_false_iff]
  intro ht
  obtain ⟨x, hx, hp⟩ := List.any_eq_true.1 ht
  obtain ⟨j, hj, e⟩ := List.mem_iff_getElem.1 hx
  have := h j x hj (by rw [List.getElem?_eq_getElem hj, e])
  rw [this] at hp
  cases hp

theorem farB_call (n : Int) (w : World) : Calls Tryz.prog 264 #[.int .i64 n] w fun e w' => e = .returned (.bool (farB n)) ∧ w = w' := by
  by_cases h1 : n < -1048576
  · have H : Hid (farB n = true) := by show _ = _; unfold farB; simp [h1]
    go_enter Tryz.func264, Tryz.ntmps264
    go_wp2
    go_ret
    exact ⟨by rw [H.out]; rfl, rfl⟩
  · by_cases h2 : 1048576 < n
    · have H : Hid (farB n = true) := by show _ = _; unfold farB; simp [h2]
      go_enter Tryz.func264, Tryz.ntmps264
      go_wp2
      go_ret
      exact ⟨by rw [H.out]; rfl, rfl⟩
    · have H : Hid (farB n = false) := by show _ = _; unfold farB; simp [h1, h2]
      go_enter Tryz.func264, Tryz.ntmps264
      go_wp2
      go_ret
      exact ⟨by rw [H.out]; rfl, rfl⟩
theorem nzB_call (n : Int) (w : World) : Calls Tryz.prog 205 #[.int .i64 n] w fun e w' => e = .returned (.bool (nzB n)) ∧ w = w' := by
  by_cases h1 : n = 0
  · have H : Hid (nzB n = false) := by show _ = _; unfold nzB; simp [h1]
    have b1 : (n != 0) = false := by simpa using h1
    clear h1
    go_enter Tryz.func205, Tryz.ntmps205
    go_wp2
    go_ret
    exact ⟨by rw [H.out]; rfl, rfl⟩
  · have H : Hid (nzB n = true) := by show _ = _; unfold nzB; simp [h1]
    have b1 : (n != 0) = true := by simpa using h1
    clear h1
    go_enter Tryz.func205, Tryz.ntmps205
    go_wp2
    go_ret
    exact ⟨by rw [H.out]; rfl, rfl⟩
theorem nosmpB_call (n : Int) (w : World) : Calls Tryz.prog 251 #[.int .i64 n] w fun e w' => e = .returned (.bool (nosmpB n)) ∧ w = w' := by
  have H : Hid ((n != clipI n) = nosmpB n) := by
    show _ = _
    unfold nosmpB clipI
    rw [Bool.eq_iff_iff]
    simp only [bne_iff_ne, ne_eq, Bool.or_eq_true, decide_eq_true_eq]
    omega
  go_enter Tryz.func251, Tryz.ntmps251
  go_wp2_with fail
  refine (clip_any _ _).mono ?_; rintro e w1 ⟨rfl, rfl⟩
  go_wp2
  go_ret
  exact ⟨by rw [← H.out]; rfl, rfl⟩
theorem nosmpBm_call (n : Int) (w : World) : Calls Tryz.prog 255 #[.int .i64 n] w fun e w' => e = .returned (.bool (nosmpB n)) ∧ w = w' := by
  have H : Hid ((n != clipI n) = nosmpB n) := by
    show _ = _
    unfold nosmpB clipI
    rw [Bool.eq_iff_iff]
    simp only [bne_iff_ne, ne_eq, Bool.or_eq_true, decide_eq_true_eq]
    omega
  go_enter Tryz.func255, Tryz.ntmps255
  go_wp2_with fail
  refine (clip_any _ _).mono ?_; rintro e w1 ⟨rfl, rfl⟩
  go_wp2
  go_ret
  exact ⟨by rw [← H.out]; rfl, rfl⟩
set_option maxRecDepth 20000 in
set_option maxHeartbeats 1000000 in
theorem farB_idx (zs : List Int) (v : Value) (w : World) (ha : Ints w v zs) :
    Calls Tryz.prog 216 #[v, .func (.func 264) #[] #[]] w (IdxPost w (zs.any farB)) := by
  obtain ⟨a, cap, rfl⟩ := ha.form
  obtain ⟨n, hn⟩ : ∃ n, n = zs.length := ⟨_, rfl⟩
  have hle := ha.2
  rw [← hn] at ha hle ⊢
  have AG := Lib.hid ha.had
  have HN := Lib.hid hn
  clear hn
  go_enter Tryz.func216, Tryz.ntmps216
  go_wp2
  go_loop [8] (fun i => ∃ k : Nat, k ≤ n ∧ i = .int .i64 k ∧ Hid (∀ j x, j < k → zs[j]? = some x → farB x = false)) (fun i => n - (intOf i).toNat)
  case atStart => exact ⟨0, Nat.zero_le _, rfl, fun j _ hj => absurd hj (Nat.not_lt_zero _)⟩
  case round =>
    obtain ⟨k, hk, rfl, HJ⟩ := hrel
    by_cases hlt : k < n
    · obtain ⟨x, hx⟩ : ∃ x, zs[k]? = some x := ⟨_, List.getElem?_eq_getElem (by rw [← HN.out]; exact hlt)⟩
      obtain ⟨g, off, rfl⟩ := AG.out (by omega)
      have cx := ha.at hx
      have HX := Lib.hid hx
      clear hx
      cases hb : farB x with
      | true =>
        have HB := Lib.hid hb
        go_wp2_with (go_at_call 264; refine (farB_call _ _).mono ?_; rintro e w' ⟨rfl, rfl⟩)
        go_ret
        exact ⟨_, rfl, by rw [any_of_get HX.out HB.out]; simp, rfl⟩
      | false =>
        have HB := Lib.hid hb
        go_wp2_with (go_at_call 264; refine (farB_call _ _).mono ?_; rintro e w' ⟨rfl, rfl⟩)
        go_round
        case rel => exact ⟨k + 1, by omega, by go_num, fun j y hj hy => by
          by_cases hjk : j = k
          · subst hjk
            obtain rfl : x = y := Option.some.inj (HX.out.symm.trans hy)
            exact HB.out
          · exact HJ.out j y (by omega) hy⟩
        case measure => simp [intOf]; omega
    · go_wp2
      go_ret
      refine ⟨_, rfl, ?_, rfl⟩
      rw [any_no (fun j x hj hx => HJ.out j x (by rw [← HN.out] at hj; omega) hx)]
      rfl
theorem farB_has (zs : List Int) (v : Value) (w : World) (ha : Ints w v zs) :
    Calls Tryz.prog 190 #[v, .func (.func 264) #[] #[]] w fun e w' => e = .returned (.bool (zs.any farB)) ∧ w = w' := by
  have H := Lib.hid (farB_idx zs v w ha)
  clear ha
  go_enter Tryz.func190, Tryz.ntmps190
  go_wp2_with fail
  refine (H.out).mono ?_; rintro e w1 ⟨i, rfl, hi, rfl⟩
  have HI := Lib.hid hi
  clear hi
  go_wp2
  go_ret
  exact ⟨by rw [← HI.out]; rfl, rfl⟩
set_option maxRecDepth 20000 in
set_option maxHeartbeats 1000000 in
theorem nzB_idx (zs : List Int) (v : Value) (w : World) (ha : Ints w v zs) :
    Calls Tryz.prog 216 #[v, .func (.func 205) #[] #[]] w (IdxPost w (zs.any nzB)) := by
  obtain ⟨a, cap, rfl⟩ := ha.form
  obtain ⟨n, hn⟩ : ∃ n, n = zs.length := ⟨_, rfl⟩
  have hle := ha.2
  rw [← hn] at ha hle ⊢
  have AG := Lib.hid ha.had
  have HN := Lib.hid hn
  clear hn
  go_enter Tryz.func216, Tryz.ntmps216
  go_wp2
  go_loop [8] (fun i => ∃ k : Nat, k ≤ n ∧ i = .int .i64 k ∧ Hid (∀ j x, j < k → zs[j]? = some x → nzB x = false)) (fun i => n - (intOf i).toNat)
  case atStart => exact ⟨0, Nat.zero_le _, rfl, fun j _ hj => absurd hj (Nat.not_lt_zero _)⟩
  case round =>
    obtain ⟨k, hk, rfl, HJ⟩ := hrel
    by_cases hlt : k < n
    · obtain ⟨x, hx⟩ : ∃ x, zs[k]? = some x := ⟨_, List.getElem?_eq_getElem (by rw [← HN.out]; exact hlt)⟩
      obtain ⟨g, off, rfl⟩ := AG.out (by omega)
      have cx := ha.at hx
      have HX := Lib.hid hx
      clear hx
      cases hb : nzB x with
      | true =>
        have HB := Lib.hid hb
        go_wp2_with (go_at_call 205; refine (nzB_call _ _).mono ?_; rintro e w' ⟨rfl, rfl⟩)
        go_ret
        exact ⟨_, rfl, by rw [any_of_get HX.out HB.out]; simp, rfl⟩
      | false =>
        have HB := Lib.hid hb
        go_wp2_with (go_at_call 205; refine (nzB_call _ _).mono ?_; rintro e w' ⟨rfl, rfl⟩)
        go_round
        case rel => exact ⟨k + 1, by omega, by go_num, fun j y hj hy => by
          by_cases hjk : j = k
          · subst hjk
            obtain rfl : x = y := Option.some.inj (HX.out.symm.trans hy)
            exact HB.out
          · exact HJ.out j y (by omega) hy⟩
        case measure => simp [intOf]; omega
    · go_wp2
      go_ret
      refine ⟨_, rfl, ?_, rfl⟩
      rw [any_no (fun j x hj hx => HJ.out j x (by rw [← HN.out] at hj; omega) hx)]
      rfl
theorem nzB_has (zs : List Int) (v : Value) (w : World) (ha : Ints w v zs) :
    Calls Tryz.prog 190 #[v, .func (.func 205) #[] #[]] w fun e w' => e = .returned (.bool (zs.any nzB)) ∧ w = w' := by
  have H := Lib.hid (nzB_idx zs v w ha)
  clear ha
  go_enter Tryz.func190, Tryz.ntmps190
  go_wp2_with fail
  refine (H.out).mono ?_; rintro e w1 ⟨i, rfl, hi, rfl⟩
  have HI := Lib.hid hi
  clear hi
  go_wp2
  go_ret
  exact ⟨by rw [← HI.out]; rfl, rfl⟩
set_option maxRecDepth 20000 in
set_option maxHeartbeats 1000000 in
theorem nosmpB_idx (zs : List Int) (v : Value) (w : World) (ha : Ints w v zs) :
    Calls Tryz.prog 216 #[v, .func (.func 251) #[] #[]] w (IdxPost w (zs.any nosmpB)) := by
  obtain ⟨a, cap, rfl⟩ := ha.form
  obtain ⟨n, hn⟩ : ∃ n, n = zs.length := ⟨_, rfl⟩
  have hle := ha.2
  rw [← hn] at ha hle ⊢
  have AG := Lib.hid ha.had
  have HN := Lib.hid hn
  clear hn
  go_enter Tryz.func216, Tryz.ntmps216
  go_wp2
  go_loop [8] (fun i => ∃ k : Nat, k ≤ n ∧ i = .int .i64 k ∧ Hid (∀ j x, j < k → zs[j]? = some x → nosmpB x = false)) (fun i => n - (intOf i).toNat)
  case atStart => exact ⟨0, Nat.zero_le _, rfl, fun j _ hj => absurd hj (Nat.not_lt_zero _)⟩
  case round =>
    obtain ⟨k, hk, rfl, HJ⟩ := hrel
    by_cases hlt : k < n
    · obtain ⟨x, hx⟩ : ∃ x, zs[k]? = some x := ⟨_, List.getElem?_eq_getElem (by rw [← HN.out]; exact hlt)⟩
      obtain ⟨g, off, rfl⟩ := AG.out (by omega)
      have cx := ha.at hx
      have HX := Lib.hid hx
      clear hx
      cases hb : nosmpB x with
      | true =>
        have HB := Lib.hid hb
        go_wp2_with (go_at_call 251; refine (nosmpB_call _ _).mono ?_; rintro e w' ⟨rfl, rfl⟩)
        go_ret
        exact ⟨_, rfl, by rw [any_of_get HX.out HB.out]; simp, rfl⟩
      | false =>
        have HB := Lib.hid hb
        go_wp2_with (go_at_call 251; refine (nosmpB_call _ _).mono ?_; rintro e w' ⟨rfl, rfl⟩)
        go_round
        case rel => exact ⟨k + 1, by omega, by go_num, fun j y hj hy => by
          by_cases hjk : j = k
          · subst hjk
            obtain rfl : x = y := Option.some.inj (HX.out.symm.trans hy)
            exact HB.out
          · exact HJ.out j y (by omega) hy⟩
        case measure => simp [intOf]; omega
    · go_wp2
      go_ret
      refine ⟨_, rfl, ?_, rfl⟩
      rw [any_no (fun j x hj hx => HJ.out j x (by rw [← HN.out] at hj; omega) hx)]
      rfl
theorem nosmpB_has (zs : List Int) (v : Value) (w : World) (ha : Ints w v zs) :
    Calls Tryz.prog 190 #[v, .func (.func 251) #[] #[]] w fun e w' => e = .returned (.bool (zs.any nosmpB)) ∧ w = w' := by
  have H := Lib.hid (nosmpB_idx zs v w ha)
  clear ha
  go_enter Tryz.func190, Tryz.ntmps190
  go_wp2_with fail
  refine (H.out).mono ?_; rintro e w1 ⟨i, rfl, hi, rfl⟩
  have HI := Lib.hid hi
  clear hi
  go_wp2
  go_ret
  exact ⟨by rw [← HI.out]; rfl, rfl⟩
set_option maxRecDepth 20000 in
set_option maxHeartbeats 1000000 in
theorem nosmpBm_idx (zs : List Int) (v : Value) (w : World) (ha : Ints w v zs) :
    Calls Tryz.prog 216 #[v, .func (.func 255) #[] #[]] w (IdxPost w (zs.any nosmpB)) := by
  obtain ⟨a, cap, rfl⟩ := ha.form
  obtain ⟨n, hn⟩ : ∃ n, n = zs.length := ⟨_, rfl⟩
  have hle := ha.2
  rw [← hn] at ha hle ⊢
  have AG := Lib.hid ha.had
  have HN := Lib.hid hn
  clear hn
  go_enter Tryz.func216, Tryz.ntmps216
  go_wp2
  go_loop [8] (fun i => ∃ k : Nat, k ≤ n ∧ i = .int .i64 k ∧ Hid (∀ j x, j < k → zs[j]? = some x → nosmpB x = false)) (fun i => n - (intOf i).toNat)
  case atStart => exact ⟨0, Nat.zero_le _, rfl, fun j _ hj => absurd hj (Nat.not_lt_zero _)⟩
  case round =>
    obtain ⟨k, hk, rfl, HJ⟩ := hrel
    by_cases hlt : k < n
    · obtain ⟨x, hx⟩ : ∃ x, zs[k]? = some x := ⟨_, List.getElem?_eq_getElem (by rw [← HN.out]; exact hlt)⟩
      obtain ⟨g, off, rfl⟩ := AG.out (by omega)
      have cx := ha.at hx
      have HX := Lib.hid hx
      clear hx
      cases hb : nosmpB x with
      | true =>
        have HB := Lib.hid hb
        go_wp2_with (go_at_call 255; refine (nosmpBm_call _ _).mono ?_; rintro e w' ⟨rfl, rfl⟩)
        go_ret
        exact ⟨_, rfl, by rw [any_of_get HX.out HB.out]; simp, rfl⟩
      | false =>
        have HB := Lib.hid hb
        go_wp2_with (go_at_call 255; refine (nosmpBm_call _ _).mono ?_; rintro e w' ⟨rfl, rfl⟩)
        go_round
        case rel => exact ⟨k + 1, by omega, by go_num, fun j y hj hy => by
          by_cases hjk : j = k
          · subst hjk
            obtain rfl : x = y := Option.some.inj (HX.out.symm.trans hy)
            exact HB.out
          · exact HJ.out j y (by omega) hy⟩
        case measure => simp [intOf]; omega
    · go_wp2
      go_ret
      refine ⟨_, rfl, ?_, rfl⟩
      rw [any_no (fun j x hj hx => HJ.out j x (by rw [← HN.out] at hj; omega) hx)]
      rfl
theorem nosmpBm_has (zs : List Int) (v : Value) (w : World) (ha : Ints w v zs) :
    Calls Tryz.prog 190 #[v, .func (.func 255) #[] #[]] w fun e w' => e = .returned (.bool (zs.any nosmpB)) ∧ w = w' := by
  have H := Lib.hid (nosmpBm_idx zs v w ha)
  clear ha
  go_enter Tryz.func190, Tryz.ntmps190
  go_wp2_with fail
  refine (H.out).mono ?_; rintro e w1 ⟨i, rfl, hi, rfl⟩
  have HI := Lib.hid hi
  clear hi
  go_wp2
  go_ret
  exact ⟨by rw [← HI.out]; rfl, rfl⟩
end Go.Proofs.YtlaedbglclmheaaGreatDoor

/- Chapter 7, plain arithmetic: how unlike two rows are, and the zigzag of 4 and 8. -/
namespace Go.Proofs.YtlaedbglclmheaaGreatDoor
set_option linter.unusedVariables false
set_option linter.unusedSimpArgs false

/-- how unlike the first n of two rows are -/
def sadF (f g : Nat → Int) : Nat → Int
  | 0 => 0
  | j + 1 => sadF f g j + max (f j - g j) (g j - f j)
theorem sadF_comm (f g : Nat → Int) (n : Nat) : sadF f g n = sadF g f n := by
  induction n with
  | zero => rfl
  | succ n ih => unfold sadF; omega
theorem sadF_tri (f g h : Nat → Int) (n : Nat) : sadF f h n ≤ sadF f g n + sadF g h n := by
  induction n with
  | zero => simp [sadF]
  | succ n ih => unfold sadF; omega
theorem sadF_pos (f g : Nat → Int) (n : Nat) : 0 ≤ sadF f g n := by
  induction n with
  | zero => simp [sadF]
  | succ n ih => unfold sadF; omega
theorem sadF_zero (f g : Nat → Int) (n : Nat) : sadF f g n = 0 ↔ ∀ j, j < n → f j = g j := by
  induction n with
  | zero => simp [sadF]
  | succ n ih =>
    have hp := sadF_pos f g n
    unfold sadF
    constructor
    · intro h j hj
      by_cases e : j = n
      · subst e; omega
      · exact ih.1 (by omega) j (by omega)
    · intro h
      have h1 := ih.2 (fun j hj => h j (by omega))
      have h2 := h n (by omega)
      omega
theorem sadF_bound {f g : Nat → Int} {B : Int} (hf : ∀ j, -B ≤ f j ∧ f j ≤ B) (hg : ∀ j, -B ≤ g j ∧ g j ≤ B) (n : Nat) : sadF f g n ≤ 2 * B * n := by
  induction n with
  | zero => simp [sadF]
  | succ n ih =>
    have h1 := hf n
    have h2 := hg n
    have e : 2 * B * ((n : Nat) + 1 : Int) = 2 * B * n + 2 * B := by rw [Int.mul_add]; omega
    unfold sadF
    push_cast
    omega
/-- the index that lies i-th on the diagonal s of a square of n, by the landed way: rows from lo to hi -/
def zigLo (n s : Nat) : Nat := s + 1 - n
def zigHi (n s : Nat) : Nat := min s (n - 1)
def zigAt (n s i : Nat) : Nat := let y := if s % 2 = 0 then zigHi n s - (i - zigLo n s) else i; y * n + s - y
def zigDiag (n s k : Nat) : List Nat := (List.range (k - zigLo n s)).map fun i => zigAt n s (zigLo n s + i)
def zigPre (n s : Nat) : List Nat := (List.range s).flatMap fun s => zigDiag n s (zigHi n s + 1)
/-- and by the document's way: rows from 0 to s, those that lie inside -/
def zigY (s i : Nat) : Nat := if s % 2 = 0 then s - i else i
def zigRow (n s k : Nat) : List Nat := ((List.range k).filter fun i => zigY s i < n ∧ s - zigY s i < n).map fun i => zigY s i * n + s - zigY s i
theorem zig_same4 : ∀ s < 7, zigRow 4 s (s + 1) = zigDiag 4 s (zigHi 4 s + 1) := by decide +kernel
theorem zig_same8 : ∀ s < 15, zigRow 8 s (s + 1) = zigDiag 8 s (zigHi 8 s + 1) := by decide +kernel
theorem zig_four : zigPre 4 7 = [0, 1, 4, 8, 5, 2, 3, 6, 9, 12, 13, 10, 7, 11, 14, 15] := by decide +kernel
theorem zig_len : (zigPre 4 7).length = 16 ∧ (zigPre 8 15).length = 64 := by decide +kernel
theorem zig_once : (zigPre 4 7).Nodup ∧ (zigPre 8 15).Nodup ∧ (∀ x ∈ zigPre 4 7, x < 16) ∧ (∀ x ∈ zigPre 8 15, x < 64) := by decide +kernel
theorem zigDiag_succ {n s k : Nat} (h : zigLo n s ≤ k) : zigDiag n s (k + 1) = zigDiag n s k ++ [zigAt n s k] := by
  unfold zigDiag
  rw [show k + 1 - zigLo n s = (k - zigLo n s) + 1 by omega, List.range_succ, List.map_append]
  simp only [List.map_cons, List.map_nil]
  rw [show zigLo n s + (k - zigLo n s) = k by omega]
theorem zigPre_succ (n s : Nat) : zigPre n (s + 1) = zigPre n s ++ zigDiag n s (zigHi n s + 1) := by
  unfold zigPre
  rw [List.range_succ, List.flatMap_append]
  simp
theorem zigRow_succ (n s k : Nat) : zigRow n s (k + 1) = zigRow n s k ++ (if zigY s k < n ∧ s - zigY s k < n then [zigY s k * n + s - zigY s k] else []) := by
  unfold zigRow
  rw [List.range_succ, List.filter_append, List.map_append]
  congr 1
  by_cases h : zigY s k < n ∧ s - zigY s k < n
  · rw [if_pos h]; simp [h]
  · rw [if_neg h]; simp [List.filter_cons, h]
/-- the quarter of an index of 64, and its place there -/
def qOf (i : Nat) : Nat := i / 32 * 2 + i % 8 / 4
def qAt (i : Nat) : Nat := i % 32 / 8 * 4 + i % 4
def qIdx (q k : Nat) : List Nat := (List.range k).filter fun i => qOf i == q
theorem qOf_landed : ∀ i < 64, i / 8 / 4 * 2 + i % 8 / 4 = qOf i ∧ qOf i < 4 ∧ qAt i < 16 := by decide +kernel
theorem qIdx_succ (q k : Nat) : qIdx q (k + 1) = qIdx q k ++ (if qOf k = q then [k] else []) := by
  unfold qIdx
  rw [List.range_succ, List.filter_append]
  congr 1
  by_cases h : qOf k = q
  · rw [if_pos h]; simp [h]
  · rw [if_neg h]; simp [h]
theorem qIdx_count : ∀ i < 64, (qIdx (qOf i) i).length = qAt i := by decide +kernel
theorem qIdx_full : ∀ q < 4, (qIdx q 64).length = 16 := by decide +kernel
theorem qIdx_back : ∀ i < 64, (qIdx (qOf i) 64)[qAt i]? = some i := by decide +kernel
end Go.Proofs.YtlaedbglclmheaaGreatDoor

/- block.matched, Sad, Sub, Add, Zero: contracts over this seat's translation. -/
namespace Go.Proofs.YtlaedbglclmheaaGreatDoor
set_option linter.unusedVariables false
set_option linter.unusedSimpArgs false
open Go.RowKit Go.Extern.Stop Go.Stop Go.Extern

def fit : Fall := some ([], 14)
def range : Fall := some ([], 3)
/-- what forbids to hold two lists against one another -/
def matAns (xs ys : List Int) : Fall := if xs.length = ys.length then (if xs.any farB = true ∨ ys.any farB = true then range else none) else fit
theorem farB_no {x : Int} (h : farB x = false) : -1048576 ≤ x ∧ x ≤ 1048576 := by
  unfold farB at h
  simp at h
  omega
theorem any_false {zs : List Int} {p : Int → Bool} (h : zs.any p = false) (j : Nat) (d : Int) (hd : p d = false) : p (zs.getD j d) = false := by
  by_cases hj : j < zs.length
  · have hm : zs.getD j d ∈ zs := by simp [List.getD, hj]
    cases hp : p (zs.getD j d) with
    | false => rfl
    | true => rw [List.any_eq_true.2 ⟨_, hm, hp⟩] at h; cases h
  · simpa [List.getD, List.getElem?_eq_none (Nat.not_lt.1 hj)] using hd
theorem matAns_none {xs ys : List Int} (h : matAns xs ys = none) : xs.length = ys.length ∧ (∀ j, -1048576 ≤ xs.getD j 0 ∧ xs.getD j 0 ≤ 1048576) ∧ ∀ j, -1048576 ≤ ys.getD j 0 ∧ ys.getD j 0 ≤ 1048576 := by
  unfold matAns at h
  split at h
  · rename_i h1
    split at h
    · cases h
    · rename_i h2
      refine ⟨h1, fun j => farB_no (any_false ?_ j 0 rfl), fun j => farB_no (any_false ?_ j 0 rfl)⟩
      · cases hx : xs.any farB with
        | false => rfl
        | true => exact absurd (Or.inl hx) h2
      · cases hx : ys.any farB with
        | false => rfl
        | true => exact absurd (Or.inr hx) h2
  · cases h

set_option maxRecDepth 20000 in
theorem matched_any (xs ys : List Int) (v u : Value) (w : World) (ha : Ints w v xs) (hb : Ints w u ys) :
    Calls Tryz.prog 252 #[v, u] w (EPost w (matAns xs ys)) := by
  obtain ⟨a, cap, rfl⟩ := ha.form
  obtain ⟨b, cap', rfl⟩ := hb.form
  by_cases hl : xs.length = ys.length
  · have b1 : ((xs.length : Int) != (ys.length : Int)) = false := by simp; omega
    have H1 := Lib.hid (farB_has xs _ w ha)
    have H2 := Lib.hid (farB_has ys _ w hb)
    cases hx : xs.any farB with
    | true =>
      have HR : Hid (matAns xs ys = range) := by show _ = _; unfold matAns; rw [if_pos hl, if_pos (Or.inl hx)]
      clear hl ha hb
      go_enter Tryz.func252, Tryz.ntmps252
      go_wp2_with fail
      refine (H1.out).mono ?_; rintro e w1 ⟨rfl, rfl⟩
      go_wp2
      go_ret
      exact ⟨_, rfl, Ext.refl w, by rw [HR.out]; exact ErrIs.code (by decide)⟩
    | false =>
      cases hy : ys.any farB with
      | true =>
        have HR : Hid (matAns xs ys = range) := by show _ = _; unfold matAns; rw [if_pos hl, if_pos (Or.inr hy)]
        clear hl ha hb
        go_enter Tryz.func252, Tryz.ntmps252
        go_wp2_with fail
        refine (H1.out).mono ?_; rintro e w1 ⟨rfl, rfl⟩
        go_wp2_with fail
        refine (H2.out).mono ?_; rintro e w2 ⟨rfl, rfl⟩
        go_wp2
        go_ret
        exact ⟨_, rfl, Ext.refl w, by rw [HR.out]; exact ErrIs.code (by decide)⟩
      | false =>
        have HR : Hid (matAns xs ys = none) := by show _ = _; unfold matAns; rw [if_pos hl, if_neg (by rw [hx, hy]; decide)]
        clear hl ha hb
        go_enter Tryz.func252, Tryz.ntmps252
        go_wp2_with fail
        refine (H1.out).mono ?_; rintro e w1 ⟨rfl, rfl⟩
        go_wp2_with fail
        refine (H2.out).mono ?_; rintro e w2 ⟨rfl, rfl⟩
        go_wp2
        go_ret
        exact ⟨_, rfl, Ext.refl w, by rw [HR.out]; rfl⟩
  · have b1 : ((xs.length : Int) != (ys.length : Int)) = true := by simp; omega
    have HR : Hid (matAns xs ys = fit) := by show _ = _; unfold matAns; rw [if_neg hl]
    clear hl ha hb
    go_enter Tryz.func252, Tryz.ntmps252
    go_wp2
    go_ret
    exact ⟨_, rfl, Ext.refl w, by rw [HR.out]; exact ErrIs.code (by decide)⟩
/-- how unlike two lists are -/
def sadV (xs ys : List Int) : Int := match matAns xs ys with
  | none => sadF (fun i => xs.getD i 0) (fun i => ys.getD i 0) xs.length
  | some _ => 0
theorem getD_of_get {zs : List Int} {j : Nat} {x : Int} (h : zs[j]? = some x) : zs.getD j 0 = x := by simp [List.getD, h]
theorem get_of_lt {zs : List Int} {j : Nat} (h : j < zs.length) : zs[j]? = some (zs.getD j 0) := by simp [List.getD, h]

set_option maxRecDepth 20000 in
set_option maxHeartbeats 1000000 in
theorem sad_any (xs ys : List Int) (v u : Value) (w : World) (ha : Ints w v xs) (hb : Ints w u ys) (hN : xs.length ≤ 1000000) :
    Calls Tryz.prog 241 #[v, u] w (IPost w (sadV xs ys) (matAns xs ys)) := by
  have M := Lib.hid (matched_any xs ys v u w ha hb)
  obtain ⟨a, cap, rfl⟩ := ha.form
  obtain ⟨b, cap', rfl⟩ := hb.form
  cases hm : matAns xs ys with
  | some f =>
    have HV : Hid (sadV xs ys = 0) := by show _ = _; unfold sadV; rw [hm]
    rw [hm] at M
    clear ha hb hm
    go_enter Tryz.func241, Tryz.ntmps241
    go_wp2_with fail
    refine (M.out).mono ?_; rintro e w1 ⟨x, rfl, hx, he⟩
    obtain ⟨t, y, rfl⟩ := he.ne
    go_wp2
    go_ret2
    exact ⟨_, by rw [HV.out]; rfl, hx, he⟩
  | none =>
    obtain ⟨hl, hX, hY⟩ := matAns_none hm
    have HV : Hid (sadV xs ys = sadF (fun i => xs.getD i 0) (fun i => ys.getD i 0) xs.length) := by show _ = _; unfold sadV; rw [hm]
    rw [hm] at M
    obtain ⟨n, hn⟩ : ∃ n, n = xs.length := ⟨_, rfl⟩
    rw [← hn] at ha hN HV hl M ⊢
    rw [← hl] at hb M ⊢
    have AG := Lib.hid ha.had
    have BG := Lib.hid hb.had
    have HN := Lib.hid hn
    have HL := Lib.hid hl
    have HX := Lib.hid hX
    have HY := Lib.hid hY
    clear hm hl hX hY hn
    go_enter Tryz.func241, Tryz.ntmps241
    go_wp2_with fail
    refine (M.out).mono ?_; rintro e w1 ⟨x, rfl, hx, he⟩
    obtain rfl : x = .nilIface := he
    have ha := ha.ext hx
    have hb := hb.ext hx
    go_wp2
    go_loopw [7, 18] (fun sv iv wr => ∃ k : Nat, k ≤ n ∧ iv = .int .i64 k ∧ sv = .int .i64 (sadF (fun i => xs.getD i 0) (fun i => ys.getD i 0) k) ∧ Ext w1 wr) (fun _ iv _ => n - (intOf iv).toNat)
    case atStart => exact ⟨0, Nat.zero_le _, rfl, rfl, Ext.refl _⟩
    case round =>
      obtain ⟨k, hk, rfl, rfl, hE⟩ := hrel
      by_cases hlt : k < n
      · obtain ⟨x, hx'⟩ : ∃ x, xs.getD k 0 = x := ⟨_, rfl⟩
        obtain ⟨y, hy'⟩ : ∃ y, ys.getD k 0 = y := ⟨_, rfl⟩
        obtain ⟨g, off, rfl⟩ := AG.out (by omega)
        obtain ⟨g', off', rfl⟩ := BG.out (by omega)
        have cx := hE.cell (ha.at (get_of_lt (by rw [← HN.out]; exact hlt)))
        have cy := hE.cell (hb.at (get_of_lt (by rw [← HL.out]; exact hlt)))
        have bx := HX.out k
        have by' := HY.out k
        have b0 := sadF_bound HX.out HY.out k
        have b1 := sadF_pos (fun i => xs.getD i 0) (fun i => ys.getD i 0) k
        have HS : Hid (sadF (fun i => xs.getD i 0) (fun i => ys.getD i 0) (k + 1) = sadF (fun i => xs.getD i 0) (fun i => ys.getD i 0) k + max (x - y) (y - x)) := by show _ = _; rw [← hx', ← hy']; rfl
        rw [hx'] at cx bx
        rw [hy'] at cy by'
        clear hx' hy'
        revert b0 b1 HS
        generalize sadF (fun i => xs.getD i 0) (fun i => ys.getD i 0) k = s
        intro b0 b1 HS
        have r1 := mx2
        have e1 : IntKind.i64.wrap (x - y) = x - y := by rw [IntKind.wrap_i64]; omega
        have e2 : IntKind.i64.wrap (y - x) = y - x := by rw [IntKind.wrap_i64]; omega
        have e3 : IntKind.i64.wrap (s + max (x - y) (y - x)) = s + max (x - y) (y - x) := by rw [IntKind.wrap_i64]; omega
        go_wp2
        go_quiet (fail)
        go_wp2
        go_roundw
        case rel => exact ⟨k + 1, by omega, by go_num, by rw [HS.out], hE.drewN _⟩
        case measure => simp [intOf]; omega
      · obtain rfl : k = n := by omega
        go_wp2
        go_ret2
        exact ⟨_, by rw [HV.out]; rfl, hx.trans hE, rfl⟩
end Go.Proofs.YtlaedbglclmheaaGreatDoor

/- plane.matched, Sum, Peak: contracts over this seat's translation. -/
namespace Go.Proofs.YtlaedbglclmheaaGreatDoor
set_option linter.unusedVariables false
set_option linter.unusedSimpArgs false
open Go.RowKit Go.Extern.Stop Go.Stop Go.Extern

def form : Fall := some ([], 2)
/-- what forbids to hold two frames against one another -/
def frAns (W H : Int) (xs : List Int) (W' H' : Int) (ys : List Int) : Fall := if may W H xs ∧ may W' H' ys then (if W = W' ∧ H = H' then none else fit) else form
theorem frAns_none {W H W' H' : Int} {xs ys : List Int} (h : frAns W H xs W' H' ys = none) : may W H xs ∧ may W' H' ys ∧ W = W' ∧ H = H' := by
  unfold frAns at h
  split at h
  · rename_i h1
    split at h
    · rename_i h2
      exact ⟨h1.1, h1.2, h2.1, h2.2⟩
    · cases h
  · cases h
theorem frAns_comm (W H : Int) (xs : List Int) (W' H' : Int) (ys : List Int) : frAns W H xs W' H' ys = frAns W' H' ys W H xs := by
  unfold frAns
  by_cases h : may W H xs ∧ may W' H' ys
  · rw [if_pos h, if_pos h.symm]
    by_cases k : W = W' ∧ H = H'
    · rw [if_pos k, if_pos ⟨k.1.symm, k.2.symm⟩]
    · rw [if_neg k, if_neg (fun e => k ⟨e.1.symm, e.2.symm⟩)]
  · rw [if_neg h, if_neg (fun e => h e.symm)]
theorem may_getD {W H : Int} {zs : List Int} (h : may W H zs) (j : Nat) : 0 ≤ zs.getD j 0 ∧ zs.getD j 0 ≤ 255 := by
  by_cases hj : j < zs.length
  · exact h.2.2.2.at (get_of_lt hj)
  · simp [List.getD, List.getElem?_eq_none (Nat.not_lt.1 hj)]
theorem may_len {W H : Int} {zs : List Int} (h : may W H zs) : zs.length ≤ 1024 := by have := may_area h; have := h.2.2.1; omega
theorem frAns_len {W H W' H' : Int} {xs ys : List Int} (h : frAns W H xs W' H' ys = none) : xs.length = ys.length := by
  obtain ⟨h1, h2, rfl, rfl⟩ := frAns_none h
  have := h1.2.2.1
  have := h2.2.2.1
  omega

def sumV (W H : Int) (xs : List Int) (W' H' : Int) (ys : List Int) : Int := match frAns W H xs W' H' ys with
  | none => sadF (fun i => xs.getD i 0) (fun i => ys.getD i 0) xs.length
  | some _ => 0
def peakF (f g : Nat → Int) : Nat → Int
  | 0 => 0
  | j + 1 => max (peakF f g j) (max (f j - g j) (g j - f j))
def peakV (W H : Int) (xs : List Int) (W' H' : Int) (ys : List Int) : Int := match frAns W H xs W' H' ys with
  | none => peakF (fun i => xs.getD i 0) (fun i => ys.getD i 0) xs.length
  | some _ => 0
def stepOfsum (s x y : Int) : Int := s + max (x - y) (y - x)
def stepOfpeak (s x y : Int) : Int := max s (max (x - y) (y - x))
theorem peakF_pos (f g : Nat → Int) (n : Nat) : 0 ≤ peakF f g n := by
  induction n with
  | zero => simp [peakF]
  | succ n ih => unfold peakF; omega
theorem peakF_le {f g : Nat → Int} (hf : ∀ j, 0 ≤ f j ∧ f j ≤ 255) (hg : ∀ j, 0 ≤ g j ∧ g j ≤ 255) (n : Nat) : peakF f g n ≤ 255 := by
  induction n with
  | zero => simp [peakF]
  | succ n ih => have := hf n; have := hg n; unfold peakF; omega
theorem sadF_le {f g : Nat → Int} (hf : ∀ j, 0 ≤ f j ∧ f j ≤ 255) (hg : ∀ j, 0 ≤ g j ∧ g j ≤ 255) (n : Nat) : sadF f g n ≤ 255 * n := by
  induction n with
  | zero => simp [sadF]
  | succ n ih => have := hf n; have := hg n; unfold sadF; push_cast; omega
end Go.Proofs.YtlaedbglclmheaaGreatDoor

/- intra.isSide, check, predict, Predict: contracts over this seat's translation. -/
namespace Go.Proofs.YtlaedbglclmheaaGreatDoor
set_option linter.unusedVariables false
set_option linter.unusedSimpArgs false
open Go.RowKit Go.Extern.Stop Go.Stop Go.Extern

def kind : Fall := some ([], 13)
def sdB (n : Int) : Bool := decide (n = 4) || decide (n = 8)
theorem sdB_nat {n : Nat} (h : sdB n = true) : n = 4 ∨ n = 8 := by unfold sdB at h; simp at h; omega
theorem sd_any (n : Int) (w : World) : Calls Tryz.prog 228 #[.int .i64 n] w fun e w' => e = .returned (.bool (sdB n)) ∧ w = w' := by
  by_cases h1 : n = 4
  · have H : Hid (sdB n = true) := by show _ = _; unfold sdB; simp [h1]
    have b1 : (n == 4) = true := by simpa using h1
    clear h1
    go_enter Tryz.func228, Tryz.ntmps228
    go_wp2
    go_ret
    exact ⟨by rw [H.out]; rfl, rfl⟩
  · by_cases h2 : n = 8
    · have H : Hid (sdB n = true) := by show _ = _; unfold sdB; simp [h2]
      have b1 : (n == 4) = false := by simpa using h1
      have b2 : (n == 8) = true := by simpa using h2
      clear h1 h2
      go_enter Tryz.func228, Tryz.ntmps228
      go_wp2
      go_ret
      exact ⟨by rw [H.out]; rfl, rfl⟩
    · have H : Hid (sdB n = false) := by show _ = _; unfold sdB; simp [h1, h2]
      have b1 : (n == 4) = false := by simpa using h1
      have b2 : (n == 8) = false := by simpa using h2
      clear h1 h2
      go_enter Tryz.func228, Tryz.ntmps228
      go_wp2
      go_ret
      exact ⟨by rw [H.out]; rfl, rfl⟩
/-- what forbids to predict from these neighbours -/
def chkAns (ts ls : List Int) (c : Int) : Fall := if sdB ts.length = true ∧ ls.length = ts.length then (if ts.any nosmpB = true ∨ ls.any nosmpB = true ∨ nosmpB c = true then range else none) else fit
theorem nosmp_false {x : Int} (h : nosmpB x = false) : 0 ≤ x ∧ x ≤ 255 := by unfold nosmpB at h; simp at h; omega
theorem chkAns_none {ts ls : List Int} {c : Int} (h : chkAns ts ls c = none) : (ts.length = 4 ∨ ts.length = 8) ∧ ls.length = ts.length ∧ (∀ j, 0 ≤ ts.getD j 0 ∧ ts.getD j 0 ≤ 255) ∧ (∀ j, 0 ≤ ls.getD j 0 ∧ ls.getD j 0 ≤ 255) ∧ 0 ≤ c ∧ c ≤ 255 := by
  unfold chkAns at h
  split at h
  · rename_i h1
    split at h
    · cases h
    · rename_i h2
      have k1 : ts.any nosmpB = false := by cases hx : ts.any nosmpB with | false => rfl | true => exact absurd (Or.inl hx) h2
      have k2 : ls.any nosmpB = false := by cases hx : ls.any nosmpB with | false => rfl | true => exact absurd (Or.inr (Or.inl hx)) h2
      have k3 : nosmpB c = false := by cases hx : nosmpB c with | false => rfl | true => exact absurd (Or.inr (Or.inr hx)) h2
      exact ⟨sdB_nat h1.1, h1.2, fun j => nosmp_false (any_false k1 j 0 rfl), fun j => nosmp_false (any_false k2 j 0 rfl), nosmp_false k3⟩
  · cases h
set_option maxRecDepth 20000 in
theorem icheck_any (ts ls : List Int) (c : Int) (v u : Value) (w : World) (ha : Ints w v ts) (hb : Ints w u ls) :
    Calls Tryz.prog 229 #[v, u, .int .i64 c] w (EPost w (chkAns ts ls c)) := by
  have N1 := Lib.hid (nosmpB_has ts v w ha)
  have N2 := Lib.hid (nosmpB_has ls u w hb)
  obtain ⟨a, cap, rfl⟩ := ha.form
  obtain ⟨b, cap', rfl⟩ := hb.form
  clear ha hb
  cases hs : sdB ts.length with
  | false =>
    have HR : Hid (chkAns ts ls c = fit) := by show _ = _; unfold chkAns; rw [if_neg (fun e => by rw [hs] at e; cases e.1)]
    go_enter Tryz.func229, Tryz.ntmps229
    go_wp2_with fail
    refine (sd_any _ _).mono ?_; rintro e w1 ⟨rfl, rfl⟩
    go_wp2
    go_ret
    exact ⟨_, rfl, Ext.refl w, by rw [HR.out]; exact ErrIs.code (by decide)⟩
  | true =>
    by_cases hl : ls.length = ts.length
    · have b1 : ((ls.length : Int) != (ts.length : Int)) = false := by simp; omega
      cases h1 : ts.any nosmpB with
      | true =>
        have HR : Hid (chkAns ts ls c = range) := by show _ = _; unfold chkAns; rw [if_pos ⟨hs, hl⟩, if_pos (Or.inl h1)]
        clear hl
        go_enter Tryz.func229, Tryz.ntmps229
        go_wp2_with fail
        refine (sd_any _ _).mono ?_; rintro e w1 ⟨rfl, rfl⟩
        go_wp2_with fail
        refine (N1.out).mono ?_; rintro e w1 ⟨rfl, rfl⟩
        go_wp2
        go_ret
        exact ⟨_, rfl, Ext.refl w, by rw [HR.out]; exact ErrIs.code (by decide)⟩
      | false =>
        cases h2 : ls.any nosmpB with
        | true =>
          have HR : Hid (chkAns ts ls c = range) := by show _ = _; unfold chkAns; rw [if_pos ⟨hs, hl⟩, if_pos (Or.inr (Or.inl h2))]
          clear hl
          go_enter Tryz.func229, Tryz.ntmps229
          go_wp2_with fail
          refine (sd_any _ _).mono ?_; rintro e w1 ⟨rfl, rfl⟩
          go_wp2_with fail
          refine (N1.out).mono ?_; rintro e w1 ⟨rfl, rfl⟩
          go_wp2_with fail
          refine (N2.out).mono ?_; rintro e w1 ⟨rfl, rfl⟩
          go_wp2
          go_ret
          exact ⟨_, rfl, Ext.refl w, by rw [HR.out]; exact ErrIs.code (by decide)⟩
        | false =>
          cases h3 : nosmpB c with
          | true =>
            have HR : Hid (chkAns ts ls c = range) := by show _ = _; unfold chkAns; rw [if_pos ⟨hs, hl⟩, if_pos (Or.inr (Or.inr h3))]
            clear hl
            go_enter Tryz.func229, Tryz.ntmps229
            go_wp2_with fail
            refine (sd_any _ _).mono ?_; rintro e w1 ⟨rfl, rfl⟩
            go_wp2_with fail
            refine (N1.out).mono ?_; rintro e w1 ⟨rfl, rfl⟩
            go_wp2_with fail
            refine (N2.out).mono ?_; rintro e w1 ⟨rfl, rfl⟩
            go_wp2_with fail
            refine (nosmpB_call _ _).mono ?_; rintro e w1 ⟨rfl, rfl⟩
            go_wp2
            go_ret
            exact ⟨_, rfl, Ext.refl w, by rw [HR.out]; exact ErrIs.code (by decide)⟩
          | false =>
            have HR : Hid (chkAns ts ls c = none) := by show _ = _; unfold chkAns; rw [if_pos ⟨hs, hl⟩, if_neg (by rw [h1, h2, h3]; decide)]
            clear hl
            go_enter Tryz.func229, Tryz.ntmps229
            go_wp2_with fail
            refine (sd_any _ _).mono ?_; rintro e w1 ⟨rfl, rfl⟩
            go_wp2_with fail
            refine (N1.out).mono ?_; rintro e w1 ⟨rfl, rfl⟩
            go_wp2_with fail
            refine (N2.out).mono ?_; rintro e w1 ⟨rfl, rfl⟩
            go_wp2_with fail
            refine (nosmpB_call _ _).mono ?_; rintro e w1 ⟨rfl, rfl⟩
            go_wp2
            go_ret
            exact ⟨_, rfl, Ext.refl w, by rw [HR.out]; rfl⟩
    · have b1 : ((ls.length : Int) != (ts.length : Int)) = true := by simp; omega
      have HR : Hid (chkAns ts ls c = fit) := by show _ = _; unfold chkAns; rw [if_neg (fun e => hl e.2)]
      clear hl
      go_enter Tryz.func229, Tryz.ntmps229
      go_wp2_with fail
      refine (sd_any _ _).mono ?_; rintro e w1 ⟨rfl, rfl⟩
      go_wp2
      go_ret
      exact ⟨_, rfl, Ext.refl w, by rw [HR.out]; exact ErrIs.code (by decide)⟩

/-- all neighbours together -/
def nbF (t l : Nat → Int) : Nat → Int
  | 0 => 0
  | j + 1 => nbF t l j + (t j + l j)
def meanOf (ts ls : List Int) : Int := (ts.length + nbF (fun i => ts.getD i 0) (fun i => ls.getD i 0) ts.length) / (2 * ts.length)
/-- a square from its neighbours, by each mode -/
def prdF (mode : Int) (ts ls : List Int) (c : Int) (k : Nat) : Int :=
  if mode = 0 then meanOf ts ls else if mode = 1 then ts.getD (k % ts.length) 0 else if mode = 2 then ls.getD (k / ts.length) 0 else clipI (ls.getD (k / ts.length) 0 + ts.getD (k % ts.length) 0 - c)
def prdL (mode : Int) (ts ls : List Int) (c : Int) : List Int := rowL (ts.length * ts.length) (prdF mode ts ls c)
theorem nbF_bound {t l : Nat → Int} (h : ∀ j, 0 ≤ t j ∧ t j ≤ 255) (k : ∀ j, 0 ≤ l j ∧ l j ≤ 255) (n : Nat) : 0 ≤ nbF t l n ∧ nbF t l n ≤ 510 * n := by
  induction n with
  | zero => simp [nbF]
  | succ n ih => have := h n; have := k n; unfold nbF; push_cast; omega
theorem rowL_succi (k : Nat) (f : Nat → Int) : rowL (k + 1) f = rowL k f ++ [f k] := by
  unfold rowL
  rw [List.range_succ, List.map_append]
  rfl
set_option maxHeartbeats 8000000 in
set_option maxRecDepth 20000 in
theorem predict_0_4 (ts ls : List Int) (c : Int) (v u : Value) (w : World) (ha : Ints w v ts) (hb : Ints w u ls) (hn : ts.length = 4) (hl : ls.length = 4) (hT : ∀ j, 0 ≤ ts.getD j 0 ∧ ts.getD j 0 ≤ 255) (hL : ∀ j, 0 ≤ ls.getD j 0 ∧ ls.getD j 0 ≤ 255) (hc : 0 ≤ c ∧ c ≤ 255) :
    Calls Tryz.prog 230 #[.int .i64 0, v, u, .int .i64 c] w fun e w' => ∃ u, e = .returned u ∧ Ext w w' ∧ Ints w' u (prdL 0 ts ls c) := by
  obtain ⟨i0, hi, hz0, hz1, hz2⟩ := info_parts infoInt
  obtain ⟨g, off, cap, rfl, -, -⟩ := ha.addr (by omega)
  obtain ⟨g', off', cap', rfl, -, -⟩ := hb.addr (by omega)
  have HM : Hid (meanOf ts ls = (4 + nbF (fun i => ts.getD i 0) (fun i => ls.getD i 0) 4) / (2 * 4)) := by show _ = _; unfold meanOf; rw [hn]; rfl
  have HP : Hid (prdL 0 ts ls c = rowL 16 (prdF 0 ts ls c)) := by show _ = _; unfold prdL; rw [hn]
  rw [hn] at ha ⊢
  rw [hl] at hb ⊢
  have HN := Lib.hid hn
  have HLL := Lib.hid hl
  have HT := Lib.hid hT
  have HL := Lib.hid hL
  clear hn hl hT hL
  go_enter Tryz.func230, Tryz.ntmps230
  go_wp2
  go_loopw [10, 21] (fun sv iv wr => ∃ k : Nat, k ≤ 4 ∧ iv = .int .i64 k ∧ sv = .int .i64 (4 + nbF (fun i => ts.getD i 0) (fun i => ls.getD i 0) k) ∧ Ext w wr) (fun _ iv _ => 4 - (intOf iv).toNat)
  case atStart => exact ⟨0, Nat.zero_le _, rfl, rfl, Ext.refl _⟩
  case round =>
    obtain ⟨k, hk, rfl, rfl, hE⟩ := hrel
    by_cases hlt : k < 4
    · obtain ⟨x, hx'⟩ : ∃ x, ts.getD k 0 = x := ⟨_, rfl⟩
      obtain ⟨y, hy'⟩ : ∃ y, ls.getD k 0 = y := ⟨_, rfl⟩
      have cx := hE.cell (ha.at (get_of_lt (by rw [HN.out]; exact hlt)))
      have cy := hE.cell (hb.at (get_of_lt (by rw [HLL.out]; exact hlt)))
      have bx := HT.out k
      have by' := HL.out k
      have b0 := nbF_bound HT.out HL.out k
      have HS : Hid (nbF (fun i => ts.getD i 0) (fun i => ls.getD i 0) (k + 1) = nbF (fun i => ts.getD i 0) (fun i => ls.getD i 0) k + (x + y)) := by show _ = _; rw [← hx', ← hy']; rfl
      rw [hx'] at cx bx
      rw [hy'] at cy by'
      clear hx' hy'
      revert b0 HS
      generalize nbF (fun i => ts.getD i 0) (fun i => ls.getD i 0) k = s
      intro b0 HS
      have e1 : IntKind.i64.wrap (x + y) = x + y := by rw [IntKind.wrap_i64]; omega
      have e2 : IntKind.i64.wrap (4 + s + (x + y)) = 4 + s + (x + y) := by rw [IntKind.wrap_i64]; omega
      go_wp2
      go_quiet (fail)
      go_wp2
      go_roundw
      case rel => exact ⟨k + 1, by omega, by go_num, by rw [HS.out]; congr 1; omega, hE.drewN _⟩
      case measure => simp [intOf]; omega
    · obtain rfl : k = 4 := by omega
      have b0 := nbF_bound HT.out HL.out 4
      have hB0 := hE.size
      revert b0 HM
      generalize nbF (fun i => ts.getD i 0) (fun i => ls.getD i 0) 4 = s
      intro HM b0
      obtain ⟨mean, hmean⟩ : ∃ mean, (4 + s) / (2 * 4) = mean := ⟨_, rfl⟩
      have hmd : (4 + s) / 8 = mean := hmean
      have HMN : Hid (meanOf ts ls = mean) := by show _ = _; rw [HM.out, hmean]
      clear hmean HM
      go_wp2_with (at_make; refine wpList_make_own _ rfl _ _ 49 rfl w.heap.size 3 i0 (.int .i64 0) 1 Tryz.underlying49 hi hz0 hz1 .i64 .i64 _ 16 rfl rfl rfl (by rw [hz2]; omega) (by unfold maxLen; omega) hB0 ?_; intro w2 hown hgrow)
      have hE2 : Ext w w2 := hE.of_below (Below.grown (Below.refl _ _) hgrow (Nat.le_refl _) (fun k hk => by cases hk)) hB0
      clear hgrow hi hz0 hz1 hz2 hE hB0
      go_wp2
      go_loopw [12, 46] (fun bv jv wr => ∃ j : Nat, j ≤ 4 ∧ jv = .int .i64 j ∧ Hid (wr.ownsRow w.heap.size 3 1 bv (j * 4) ((rowL (j * 4) (prdF 0 ts ls c)).map (Value.int .i64))) ∧ Ext w wr) (fun _ jv _ => 4 - (intOf jv).toNat)
      case atStart => exact ⟨0, Nat.zero_le _, rfl, hown, hE2⟩
      case round =>
        clear hown hE2
        obtain ⟨j, hj, rfl, HO, hE⟩ := hrel
        by_cases hlt : j < 4
        · obtain ⟨y, hy'⟩ : ∃ y, ls.getD j 0 = y := ⟨_, rfl⟩
          have cy := hE.cell (hb.at (get_of_lt (by rw [HLL.out]; exact hlt)))
          have by' := HL.out j
          rw [hy'] at cy by'
          have HY := Lib.hid hy'
          have t1 : decide ((j : Int) < 4) = true := decide_eq_true (by omega)
          clear hy'
          go_wp2
          go_loopw [12, 52] (fun bv iv wr => ∃ i : Nat, i ≤ 4 ∧ iv = .int .i64 i ∧ Hid (wr.ownsRow w.heap.size 3 1 bv (j * 4 + i) ((rowL (j * 4 + i) (prdF 0 ts ls c)).map (Value.int .i64))) ∧ Ext w wr) (fun _ iv _ => 4 - (intOf iv).toNat)
          case atStart => exact ⟨0, Nat.zero_le _, rfl, HO.out, hE⟩
          case round =>
            clear HO hE cy
            obtain ⟨i, hi, rfl, HO, hE⟩ := hrel
            have hB := hE.size
            by_cases hit : i < 4
            · obtain ⟨x, hx'⟩ : ∃ x, ts.getD i 0 = x := ⟨_, rfl⟩
              have cx := hE.cell (ha.at (get_of_lt (by rw [HN.out]; exact hit)))
              have bx := HT.out i
              rw [hx'] at cx bx
              obtain ⟨z, hz⟩ : ∃ z, clipI (y + x - c) = z := ⟨_, rfl⟩
              have HC : Hid (∀ W, Calls Tryz.prog 227 #[.int .i64 (y + x - c)] W fun e w' => e = .returned (.int .i64 z) ∧ W = w') := fun W => by rw [← hz]; exact clip_any _ W
              have HS : Hid ((rowL (j * 4 + i + 1) (prdF 0 ts ls c)).map (Value.int .i64) = (rowL (j * 4 + i) (prdF 0 ts ls c)).map (Value.int .i64) ++ [.int .i64 mean]) := by
                show _ = _
                rw [rowL_succi, List.map_append]
                have e1 : (j * 4 + i) % ts.length = i := by rw [HN.out]; omega
                have e2 : (j * 4 + i) / ts.length = j := by rw [HN.out]; omega
                have e3 : prdF 0 ts ls c (j * 4 + i) = mean := by
                  unfold prdF
                  rw [e1, e2, hx', HY.out, hz, HMN.out]
                  rfl
                rw [e3]
                rfl
              clear hx' hz
              go_wp2_with (at_builtin; refine push_int rfl _ _ 49 rfl Tryz.underlying49 _ _ _ _ rfl HO.out (by show Value.slice (some ⟨wr.heap.size, 0, none⟩) 1 1 = _; simp) hB (by omega) ?_; intro v' w7 h1 h2)
              have HO7 := Lib.hid h1
              have hE7 := hE.of_below h2 (Nat.le_refl _)
              clear h1 h2 HO hE
              go_wp2
              go_roundw
              case rel => exact ⟨i + 1, by omega, by go_num, by
                show World.ownsRow _ _ _ _ _ _ _
                rw [show j * 4 + (i + 1) = j * 4 + i + 1 by omega, HS.out]
                exact HO7.out, hE7⟩
              case measure => simp [intOf]; omega
            · obtain rfl : i = 4 := by omega
              go_wp2
              go_roundw
              case rel => exact ⟨j + 1, by omega, by go_num, by
                show World.ownsRow _ _ _ _ _ _ _
                rw [show (j + 1) * 4 = j * 4 + 4 by omega]
                exact HO.out, hE⟩
              case measure => simp [intOf]; omega
        · obtain rfl : j = 4 := by omega
          go_wp2
          go_ret
          exact ⟨_, rfl, hE, by rw [HP.out]; exact Ints.of_row HO.out (by omega)⟩
set_option maxHeartbeats 8000000 in
set_option maxRecDepth 20000 in
theorem predict_1_4 (ts ls : List Int) (c : Int) (v u : Value) (w : World) (ha : Ints w v ts) (hb : Ints w u ls) (hn : ts.length = 4) (hl : ls.length = 4) (hT : ∀ j, 0 ≤ ts.getD j 0 ∧ ts.getD j 0 ≤ 255) (hL : ∀ j, 0 ≤ ls.getD j 0 ∧ ls.getD j 0 ≤ 255) (hc : 0 ≤ c ∧ c ≤ 255) :
    Calls Tryz.prog 230 #[.int .i64 1, v, u, .int .i64 c] w fun e w' => ∃ u, e = .returned u ∧ Ext w w' ∧ Ints w' u (prdL 1 ts ls c) := by
  obtain ⟨i0, hi, hz0, hz1, hz2⟩ := info_parts infoInt
  obtain ⟨g, off, cap, rfl, -, -⟩ := ha.addr (by omega)
  obtain ⟨g', off', cap', rfl, -, -⟩ := hb.addr (by omega)
  have HM : Hid (meanOf ts ls = (4 + nbF (fun i => ts.getD i 0) (fun i => ls.getD i 0) 4) / (2 * 4)) := by show _ = _; unfold meanOf; rw [hn]; rfl
  have HP : Hid (prdL 1 ts ls c = rowL 16 (prdF 1 ts ls c)) := by show _ = _; unfold prdL; rw [hn]
  rw [hn] at ha ⊢
  rw [hl] at hb ⊢
  have HN := Lib.hid hn
  have HLL := Lib.hid hl
  have HT := Lib.hid hT
  have HL := Lib.hid hL
  clear hn hl hT hL
  go_enter Tryz.func230, Tryz.ntmps230
  go_wp2
  go_loopw [10, 21] (fun sv iv wr => ∃ k : Nat, k ≤ 4 ∧ iv = .int .i64 k ∧ sv = .int .i64 (4 + nbF (fun i => ts.getD i 0) (fun i => ls.getD i 0) k) ∧ Ext w wr) (fun _ iv _ => 4 - (intOf iv).toNat)
  case atStart => exact ⟨0, Nat.zero_le _, rfl, rfl, Ext.refl _⟩
  case round =>
    obtain ⟨k, hk, rfl, rfl, hE⟩ := hrel
    by_cases hlt : k < 4
    · obtain ⟨x, hx'⟩ : ∃ x, ts.getD k 0 = x := ⟨_, rfl⟩
      obtain ⟨y, hy'⟩ : ∃ y, ls.getD k 0 = y := ⟨_, rfl⟩
      have cx := hE.cell (ha.at (get_of_lt (by rw [HN.out]; exact hlt)))
      have cy := hE.cell (hb.at (get_of_lt (by rw [HLL.out]; exact hlt)))
      have bx := HT.out k
      have by' := HL.out k
      have b0 := nbF_bound HT.out HL.out k
      have HS : Hid (nbF (fun i => ts.getD i 0) (fun i => ls.getD i 0) (k + 1) = nbF (fun i => ts.getD i 0) (fun i => ls.getD i 0) k + (x + y)) := by show _ = _; rw [← hx', ← hy']; rfl
      rw [hx'] at cx bx
      rw [hy'] at cy by'
      clear hx' hy'
      revert b0 HS
      generalize nbF (fun i => ts.getD i 0) (fun i => ls.getD i 0) k = s
      intro b0 HS
      have e1 : IntKind.i64.wrap (x + y) = x + y := by rw [IntKind.wrap_i64]; omega
      have e2 : IntKind.i64.wrap (4 + s + (x + y)) = 4 + s + (x + y) := by rw [IntKind.wrap_i64]; omega
      go_wp2
      go_quiet (fail)
      go_wp2
      go_roundw
      case rel => exact ⟨k + 1, by omega, by go_num, by rw [HS.out]; congr 1; omega, hE.drewN _⟩
      case measure => simp [intOf]; omega
    · obtain rfl : k = 4 := by omega
      have b0 := nbF_bound HT.out HL.out 4
      have hB0 := hE.size
      revert b0 HM
      generalize nbF (fun i => ts.getD i 0) (fun i => ls.getD i 0) 4 = s
      intro HM b0
      obtain ⟨mean, hmean⟩ : ∃ mean, (4 + s) / (2 * 4) = mean := ⟨_, rfl⟩
      have hmd : (4 + s) / 8 = mean := hmean
      have HMN : Hid (meanOf ts ls = mean) := by show _ = _; rw [HM.out, hmean]
      clear hmean HM
      go_wp2_with (at_make; refine wpList_make_own _ rfl _ _ 49 rfl w.heap.size 3 i0 (.int .i64 0) 1 Tryz.underlying49 hi hz0 hz1 .i64 .i64 _ 16 rfl rfl rfl (by rw [hz2]; omega) (by unfold maxLen; omega) hB0 ?_; intro w2 hown hgrow)
      have hE2 : Ext w w2 := hE.of_below (Below.grown (Below.refl _ _) hgrow (Nat.le_refl _) (fun k hk => by cases hk)) hB0
      clear hgrow hi hz0 hz1 hz2 hE hB0
      go_wp2
      go_loopw [12, 46] (fun bv jv wr => ∃ j : Nat, j ≤ 4 ∧ jv = .int .i64 j ∧ Hid (wr.ownsRow w.heap.size 3 1 bv (j * 4) ((rowL (j * 4) (prdF 1 ts ls c)).map (Value.int .i64))) ∧ Ext w wr) (fun _ jv _ => 4 - (intOf jv).toNat)
      case atStart => exact ⟨0, Nat.zero_le _, rfl, hown, hE2⟩
      case round =>
        clear hown hE2
        obtain ⟨j, hj, rfl, HO, hE⟩ := hrel
        by_cases hlt : j < 4
        · obtain ⟨y, hy'⟩ : ∃ y, ls.getD j 0 = y := ⟨_, rfl⟩
          have cy := hE.cell (hb.at (get_of_lt (by rw [HLL.out]; exact hlt)))
          have by' := HL.out j
          rw [hy'] at cy by'
          have HY := Lib.hid hy'
          have t1 : decide ((j : Int) < 4) = true := decide_eq_true (by omega)
          clear hy'
          go_wp2
          go_loopw [12, 52] (fun bv iv wr => ∃ i : Nat, i ≤ 4 ∧ iv = .int .i64 i ∧ Hid (wr.ownsRow w.heap.size 3 1 bv (j * 4 + i) ((rowL (j * 4 + i) (prdF 1 ts ls c)).map (Value.int .i64))) ∧ Ext w wr) (fun _ iv _ => 4 - (intOf iv).toNat)
          case atStart => exact ⟨0, Nat.zero_le _, rfl, HO.out, hE⟩
          case round =>
            clear HO hE cy
            obtain ⟨i, hi, rfl, HO, hE⟩ := hrel
            have hB := hE.size
            by_cases hit : i < 4
            · obtain ⟨x, hx'⟩ : ∃ x, ts.getD i 0 = x := ⟨_, rfl⟩
              have cx := hE.cell (ha.at (get_of_lt (by rw [HN.out]; exact hit)))
              have bx := HT.out i
              rw [hx'] at cx bx
              obtain ⟨z, hz⟩ : ∃ z, clipI (y + x - c) = z := ⟨_, rfl⟩
              have HC : Hid (∀ W, Calls Tryz.prog 227 #[.int .i64 (y + x - c)] W fun e w' => e = .returned (.int .i64 z) ∧ W = w') := fun W => by rw [← hz]; exact clip_any _ W
              have HS : Hid ((rowL (j * 4 + i + 1) (prdF 1 ts ls c)).map (Value.int .i64) = (rowL (j * 4 + i) (prdF 1 ts ls c)).map (Value.int .i64) ++ [.int .i64 x]) := by
                show _ = _
                rw [rowL_succi, List.map_append]
                have e1 : (j * 4 + i) % ts.length = i := by rw [HN.out]; omega
                have e2 : (j * 4 + i) / ts.length = j := by rw [HN.out]; omega
                have e3 : prdF 1 ts ls c (j * 4 + i) = x := by
                  unfold prdF
                  rw [e1, e2, hx', HY.out, hz, HMN.out]
                  rfl
                rw [e3]
                rfl
              clear hx' hz
              go_wp2_with (at_builtin; refine push_int rfl _ _ 49 rfl Tryz.underlying49 _ _ _ _ rfl HO.out (by show Value.slice (some ⟨wr.heap.size, 0, none⟩) 1 1 = _; simp) hB (by omega) ?_; intro v' w7 h1 h2)
              have HO7 := Lib.hid h1
              have hE7 := hE.of_below h2 (Nat.le_refl _)
              clear h1 h2 HO hE
              go_wp2
              go_roundw
              case rel => exact ⟨i + 1, by omega, by go_num, by
                show World.ownsRow _ _ _ _ _ _ _
                rw [show j * 4 + (i + 1) = j * 4 + i + 1 by omega, HS.out]
                exact HO7.out, hE7⟩
              case measure => simp [intOf]; omega
            · obtain rfl : i = 4 := by omega
              go_wp2
              go_roundw
              case rel => exact ⟨j + 1, by omega, by go_num, by
                show World.ownsRow _ _ _ _ _ _ _
                rw [show (j + 1) * 4 = j * 4 + 4 by omega]
                exact HO.out, hE⟩
              case measure => simp [intOf]; omega
        · obtain rfl : j = 4 := by omega
          go_wp2
          go_ret
          exact ⟨_, rfl, hE, by rw [HP.out]; exact Ints.of_row HO.out (by omega)⟩
set_option maxHeartbeats 8000000 in
set_option maxRecDepth 20000 in
theorem predict_2_4 (ts ls : List Int) (c : Int) (v u : Value) (w : World) (ha : Ints w v ts) (hb : Ints w u ls) (hn : ts.length = 4) (hl : ls.length = 4) (hT : ∀ j, 0 ≤ ts.getD j 0 ∧ ts.getD j 0 ≤ 255) (hL : ∀ j, 0 ≤ ls.getD j 0 ∧ ls.getD j 0 ≤ 255) (hc : 0 ≤ c ∧ c ≤ 255) :
    Calls Tryz.prog 230 #[.int .i64 2, v, u, .int .i64 c] w fun e w' => ∃ u, e = .returned u ∧ Ext w w' ∧ Ints w' u (prdL 2 ts ls c) := by
  obtain ⟨i0, hi, hz0, hz1, hz2⟩ := info_parts infoInt
  obtain ⟨g, off, cap, rfl, -, -⟩ := ha.addr (by omega)
  obtain ⟨g', off', cap', rfl, -, -⟩ := hb.addr (by omega)
  have HM : Hid (meanOf ts ls = (4 + nbF (fun i => ts.getD i 0) (fun i => ls.getD i 0) 4) / (2 * 4)) := by show _ = _; unfold meanOf; rw [hn]; rfl
  have HP : Hid (prdL 2 ts ls c = rowL 16 (prdF 2 ts ls c)) := by show _ = _; unfold prdL; rw [hn]
  rw [hn] at ha ⊢
  rw [hl] at hb ⊢
  have HN := Lib.hid hn
  have HLL := Lib.hid hl
  have HT := Lib.hid hT
  have HL := Lib.hid hL
  clear hn hl hT hL
  go_enter Tryz.func230, Tryz.ntmps230
  go_wp2
  go_loopw [10, 21] (fun sv iv wr => ∃ k : Nat, k ≤ 4 ∧ iv = .int .i64 k ∧ sv = .int .i64 (4 + nbF (fun i => ts.getD i 0) (fun i => ls.getD i 0) k) ∧ Ext w wr) (fun _ iv _ => 4 - (intOf iv).toNat)
  case atStart => exact ⟨0, Nat.zero_le _, rfl, rfl, Ext.refl _⟩
  case round =>
    obtain ⟨k, hk, rfl, rfl, hE⟩ := hrel
    by_cases hlt : k < 4
    · obtain ⟨x, hx'⟩ : ∃ x, ts.getD k 0 = x := ⟨_, rfl⟩
      obtain ⟨y, hy'⟩ : ∃ y, ls.getD k 0 = y := ⟨_, rfl⟩
      have cx := hE.cell (ha.at (get_of_lt (by rw [HN.out]; exact hlt)))
      have cy := hE.cell (hb.at (get_of_lt (by rw [HLL.out]; exact hlt)))
      have bx := HT.out k
      have by' := HL.out k
      have b0 := nbF_bound HT.out HL.out k
      have HS : Hid (nbF (fun i => ts.getD i 0) (fun i => ls.getD i 0) (k + 1) = nbF (fun i => ts.getD i 0) (fun i => ls.getD i 0) k + (x + y)) := by show _ = _; rw [← hx', ← hy']; rfl
      rw [hx'] at cx bx
      rw [hy'] at cy by'
      clear hx' hy'
      revert b0 HS
      generalize nbF (fun i => ts.getD i 0) (fun i => ls.getD i 0) k = s
      intro b0 HS
      have e1 : IntKind.i64.wrap (x + y) = x + y := by rw [IntKind.wrap_i64]; omega
      have e2 : IntKind.i64.wrap (4 + s + (x + y)) = 4 + s + (x + y) := by rw [IntKind.wrap_i64]; omega
      go_wp2
      go_quiet (fail)
      go_wp2
      go_roundw
      case rel => exact ⟨k + 1, by omega, by go_num, by rw [HS.out]; congr 1; omega, hE.drewN _⟩
      case measure => simp [intOf]; omega
    · obtain rfl : k = 4 := by omega
      have b0 := nbF_bound HT.out HL.out 4
      have hB0 := hE.size
      revert b0 HM
      generalize nbF (fun i => ts.getD i 0) (fun i => ls.getD i 0) 4 = s
      intro HM b0
      obtain ⟨mean, hmean⟩ : ∃ mean, (4 + s) / (2 * 4) = mean := ⟨_, rfl⟩
      have hmd : (4 + s) / 8 = mean := hmean
      have HMN : Hid (meanOf ts ls = mean) := by show _ = _; rw [HM.out, hmean]
      clear hmean HM
      go_wp2_with (at_make; refine wpList_make_own _ rfl _ _ 49 rfl w.heap.size 3 i0 (.int .i64 0) 1 Tryz.underlying49 hi hz0 hz1 .i64 .i64 _ 16 rfl rfl rfl (by rw [hz2]; omega) (by unfold maxLen; omega) hB0 ?_; intro w2 hown hgrow)
      have hE2 : Ext w w2 := hE.of_below (Below.grown (Below.refl _ _) hgrow (Nat.le_refl _) (fun k hk => by cases hk)) hB0
      clear hgrow hi hz0 hz1 hz2 hE hB0
      go_wp2
      go_loopw [12, 46] (fun bv jv wr => ∃ j : Nat, j ≤ 4 ∧ jv = .int .i64 j ∧ Hid (wr.ownsRow w.heap.size 3 1 bv (j * 4) ((rowL (j * 4) (prdF 2 ts ls c)).map (Value.int .i64))) ∧ Ext w wr) (fun _ jv _ => 4 - (intOf jv).toNat)
      case atStart => exact ⟨0, Nat.zero_le _, rfl, hown, hE2⟩
      case round =>
        clear hown hE2
        obtain ⟨j, hj, rfl, HO, hE⟩ := hrel
        by_cases hlt : j < 4
        · obtain ⟨y, hy'⟩ : ∃ y, ls.getD j 0 = y := ⟨_, rfl⟩
          have cy := hE.cell (hb.at (get_of_lt (by rw [HLL.out]; exact hlt)))
          have by' := HL.out j
          rw [hy'] at cy by'
          have HY := Lib.hid hy'
          have t1 : decide ((j : Int) < 4) = true := decide_eq_true (by omega)
          clear hy'
          go_wp2
          go_loopw [12, 52] (fun bv iv wr => ∃ i : Nat, i ≤ 4 ∧ iv = .int .i64 i ∧ Hid (wr.ownsRow w.heap.size 3 1 bv (j * 4 + i) ((rowL (j * 4 + i) (prdF 2 ts ls c)).map (Value.int .i64))) ∧ Ext w wr) (fun _ iv _ => 4 - (intOf iv).toNat)
          case atStart => exact ⟨0, Nat.zero_le _, rfl, HO.out, hE⟩
          case round =>
            clear HO hE cy
            obtain ⟨i, hi, rfl, HO, hE⟩ := hrel
            have hB := hE.size
            by_cases hit : i < 4
            · obtain ⟨x, hx'⟩ : ∃ x, ts.getD i 0 = x := ⟨_, rfl⟩
              have cx := hE.cell (ha.at (get_of_lt (by rw [HN.out]; exact hit)))
              have bx := HT.out i
              rw [hx'] at cx bx
              obtain ⟨z, hz⟩ : ∃ z, clipI (y + x - c) = z := ⟨_, rfl⟩
              have HC : Hid (∀ W, Calls Tryz.prog 227 #[.int .i64 (y + x - c)] W fun e w' => e = .returned (.int .i64 z) ∧ W = w') := fun W => by rw [← hz]; exact clip_any _ W
              have HS : Hid ((rowL (j * 4 + i + 1) (prdF 2 ts ls c)).map (Value.int .i64) = (rowL (j * 4 + i) (prdF 2 ts ls c)).map (Value.int .i64) ++ [.int .i64 y]) := by
                show _ = _
                rw [rowL_succi, List.map_append]
                have e1 : (j * 4 + i) % ts.length = i := by rw [HN.out]; omega
                have e2 : (j * 4 + i) / ts.length = j := by rw [HN.out]; omega
                have e3 : prdF 2 ts ls c (j * 4 + i) = y := by
                  unfold prdF
                  rw [e1, e2, hx', HY.out, hz, HMN.out]
                  rfl
                rw [e3]
                rfl
              clear hx' hz
              go_wp2_with (at_builtin; refine push_int rfl _ _ 49 rfl Tryz.underlying49 _ _ _ _ rfl HO.out (by show Value.slice (some ⟨wr.heap.size, 0, none⟩) 1 1 = _; simp) hB (by omega) ?_; intro v' w7 h1 h2)
              have HO7 := Lib.hid h1
              have hE7 := hE.of_below h2 (Nat.le_refl _)
              clear h1 h2 HO hE
              go_wp2
              go_roundw
              case rel => exact ⟨i + 1, by omega, by go_num, by
                show World.ownsRow _ _ _ _ _ _ _
                rw [show j * 4 + (i + 1) = j * 4 + i + 1 by omega, HS.out]
                exact HO7.out, hE7⟩
              case measure => simp [intOf]; omega
            · obtain rfl : i = 4 := by omega
              go_wp2
              go_roundw
              case rel => exact ⟨j + 1, by omega, by go_num, by
                show World.ownsRow _ _ _ _ _ _ _
                rw [show (j + 1) * 4 = j * 4 + 4 by omega]
                exact HO.out, hE⟩
              case measure => simp [intOf]; omega
        · obtain rfl : j = 4 := by omega
          go_wp2
          go_ret
          exact ⟨_, rfl, hE, by rw [HP.out]; exact Ints.of_row HO.out (by omega)⟩
set_option maxHeartbeats 8000000 in
set_option maxRecDepth 20000 in
theorem predict_3_4 (ts ls : List Int) (c : Int) (v u : Value) (w : World) (ha : Ints w v ts) (hb : Ints w u ls) (hn : ts.length = 4) (hl : ls.length = 4) (hT : ∀ j, 0 ≤ ts.getD j 0 ∧ ts.getD j 0 ≤ 255) (hL : ∀ j, 0 ≤ ls.getD j 0 ∧ ls.getD j 0 ≤ 255) (hc : 0 ≤ c ∧ c ≤ 255) :
    Calls Tryz.prog 230 #[.int .i64 3, v, u, .int .i64 c] w fun e w' => ∃ u, e = .returned u ∧ Ext w w' ∧ Ints w' u (prdL 3 ts ls c) := by
  obtain ⟨i0, hi, hz0, hz1, hz2⟩ := info_parts infoInt
  obtain ⟨g, off, cap, rfl, -, -⟩ := ha.addr (by omega)
  obtain ⟨g', off', cap', rfl, -, -⟩ := hb.addr (by omega)
  have HM : Hid (meanOf ts ls = (4 + nbF (fun i => ts.getD i 0) (fun i => ls.getD i 0) 4) / (2 * 4)) := by show _ = _; unfold meanOf; rw [hn]; rfl
  have HP : Hid (prdL 3 ts ls c = rowL 16 (prdF 3 ts ls c)) := by show _ = _; unfold prdL; rw [hn]
  rw [hn] at ha ⊢
  rw [hl] at hb ⊢
  have HN := Lib.hid hn
  have HLL := Lib.hid hl
  have HT := Lib.hid hT
  have HL := Lib.hid hL
  clear hn hl hT hL
  go_enter Tryz.func230, Tryz.ntmps230
  go_wp2
  go_loopw [10, 21] (fun sv iv wr => ∃ k : Nat, k ≤ 4 ∧ iv = .int .i64 k ∧ sv = .int .i64 (4 + nbF (fun i => ts.getD i 0) (fun i => ls.getD i 0) k) ∧ Ext w wr) (fun _ iv _ => 4 - (intOf iv).toNat)
  case atStart => exact ⟨0, Nat.zero_le _, rfl, rfl, Ext.refl _⟩
  case round =>
    obtain ⟨k, hk, rfl, rfl, hE⟩ := hrel
    by_cases hlt : k < 4
    · obtain ⟨x, hx'⟩ : ∃ x, ts.getD k 0 = x := ⟨_, rfl⟩
      obtain ⟨y, hy'⟩ : ∃ y, ls.getD k 0 = y := ⟨_, rfl⟩
      have cx := hE.cell (ha.at (get_of_lt (by rw [HN.out]; exact hlt)))
      have cy := hE.cell (hb.at (get_of_lt (by rw [HLL.out]; exact hlt)))
      have bx := HT.out k
      have by' := HL.out k
      have b0 := nbF_bound HT.out HL.out k
      have HS : Hid (nbF (fun i => ts.getD i 0) (fun i => ls.getD i 0) (k + 1) = nbF (fun i => ts.getD i 0) (fun i => ls.getD i 0) k + (x + y)) := by show _ = _; rw [← hx', ← hy']; rfl
      rw [hx'] at cx bx
      rw [hy'] at cy by'
      clear hx' hy'
      revert b0 HS
      generalize nbF (fun i => ts.getD i 0) (fun i => ls.getD i 0) k = s
      intro b0 HS
      have e1 : IntKind.i64.wrap (x + y) = x + y := by rw [IntKind.wrap_i64]; omega
      have e2 : IntKind.i64.wrap (4 + s + (x + y)) = 4 + s + (x + y) := by rw [IntKind.wrap_i64]; omega
      go_wp2
      go_quiet (fail)
      go_wp2
      go_roundw
      case rel => exact ⟨k + 1, by omega, by go_num, by rw [HS.out]; congr 1; omega, hE.drewN _⟩
      case measure => simp [intOf]; omega
    · obtain rfl : k = 4 := by omega
      have b0 := nbF_bound HT.out HL.out 4
      have hB0 := hE.size
      revert b0 HM
      generalize nbF (fun i => ts.getD i 0) (fun i => ls.getD i 0) 4 = s
      intro HM b0
      obtain ⟨mean, hmean⟩ : ∃ mean, (4 + s) / (2 * 4) = mean := ⟨_, rfl⟩
      have hmd : (4 + s) / 8 = mean := hmean
      have HMN : Hid (meanOf ts ls = mean) := by show _ = _; rw [HM.out, hmean]
      clear hmean HM
      go_wp2_with (at_make; refine wpList_make_own _ rfl _ _ 49 rfl w.heap.size 3 i0 (.int .i64 0) 1 Tryz.underlying49 hi hz0 hz1 .i64 .i64 _ 16 rfl rfl rfl (by rw [hz2]; omega) (by unfold maxLen; omega) hB0 ?_; intro w2 hown hgrow)
      have hE2 : Ext w w2 := hE.of_below (Below.grown (Below.refl _ _) hgrow (Nat.le_refl _) (fun k hk => by cases hk)) hB0
      clear hgrow hi hz0 hz1 hz2 hE hB0
      go_wp2
      go_loopw [12, 46] (fun bv jv wr => ∃ j : Nat, j ≤ 4 ∧ jv = .int .i64 j ∧ Hid (wr.ownsRow w.heap.size 3 1 bv (j * 4) ((rowL (j * 4) (prdF 3 ts ls c)).map (Value.int .i64))) ∧ Ext w wr) (fun _ jv _ => 4 - (intOf jv).toNat)
      case atStart => exact ⟨0, Nat.zero_le _, rfl, hown, hE2⟩
      case round =>
        clear hown hE2
        obtain ⟨j, hj, rfl, HO, hE⟩ := hrel
        by_cases hlt : j < 4
        · obtain ⟨y, hy'⟩ : ∃ y, ls.getD j 0 = y := ⟨_, rfl⟩
          have cy := hE.cell (hb.at (get_of_lt (by rw [HLL.out]; exact hlt)))
          have by' := HL.out j
          rw [hy'] at cy by'
          have HY := Lib.hid hy'
          have t1 : decide ((j : Int) < 4) = true := decide_eq_true (by omega)
          clear hy'
          go_wp2
          go_loopw [12, 52] (fun bv iv wr => ∃ i : Nat, i ≤ 4 ∧ iv = .int .i64 i ∧ Hid (wr.ownsRow w.heap.size 3 1 bv (j * 4 + i) ((rowL (j * 4 + i) (prdF 3 ts ls c)).map (Value.int .i64))) ∧ Ext w wr) (fun _ iv _ => 4 - (intOf iv).toNat)
          case atStart => exact ⟨0, Nat.zero_le _, rfl, HO.out, hE⟩
          case round =>
            clear HO hE cy
            obtain ⟨i, hi, rfl, HO, hE⟩ := hrel
            have hB := hE.size
            by_cases hit : i < 4
            · obtain ⟨x, hx'⟩ : ∃ x, ts.getD i 0 = x := ⟨_, rfl⟩
              have cx := hE.cell (ha.at (get_of_lt (by rw [HN.out]; exact hit)))
              have bx := HT.out i
              rw [hx'] at cx bx
              obtain ⟨z, hz⟩ : ∃ z, clipI (y + x - c) = z := ⟨_, rfl⟩
              have HC : Hid (∀ W, Calls Tryz.prog 227 #[.int .i64 (y + x - c)] W fun e w' => e = .returned (.int .i64 z) ∧ W = w') := fun W => by rw [← hz]; exact clip_any _ W
              have HS : Hid ((rowL (j * 4 + i + 1) (prdF 3 ts ls c)).map (Value.int .i64) = (rowL (j * 4 + i) (prdF 3 ts ls c)).map (Value.int .i64) ++ [.int .i64 z]) := by
                show _ = _
                rw [rowL_succi, List.map_append]
                have e1 : (j * 4 + i) % ts.length = i := by rw [HN.out]; omega
                have e2 : (j * 4 + i) / ts.length = j := by rw [HN.out]; omega
                have e3 : prdF 3 ts ls c (j * 4 + i) = z := by
                  unfold prdF
                  rw [e1, e2, hx', HY.out, hz, HMN.out]
                  rfl
                rw [e3]
                rfl
              clear hx' hz
              go_wp2_with fail
              refine (HC.out _).mono ?_; rintro e w8 ⟨rfl, rfl⟩
              go_wp2_with (at_builtin; refine push_int rfl _ _ 49 rfl Tryz.underlying49 _ _ _ _ rfl HO.out (by show Value.slice (some ⟨wr.heap.size, 0, none⟩) 1 1 = _; simp) hB (by omega) ?_; intro v' w7 h1 h2)
              have HO7 := Lib.hid h1
              have hE7 := hE.of_below h2 (Nat.le_refl _)
              clear h1 h2 HO hE
              go_wp2
              go_roundw
              case rel => exact ⟨i + 1, by omega, by go_num, by
                show World.ownsRow _ _ _ _ _ _ _
                rw [show j * 4 + (i + 1) = j * 4 + i + 1 by omega, HS.out]
                exact HO7.out, hE7⟩
              case measure => simp [intOf]; omega
            · obtain rfl : i = 4 := by omega
              go_wp2
              go_roundw
              case rel => exact ⟨j + 1, by omega, by go_num, by
                show World.ownsRow _ _ _ _ _ _ _
                rw [show (j + 1) * 4 = j * 4 + 4 by omega]
                exact HO.out, hE⟩
              case measure => simp [intOf]; omega
        · obtain rfl : j = 4 := by omega
          go_wp2
          go_ret
          exact ⟨_, rfl, hE, by rw [HP.out]; exact Ints.of_row HO.out (by omega)⟩
set_option maxHeartbeats 8000000 in
set_option maxRecDepth 20000 in
theorem predict_0_8 (ts ls : List Int) (c : Int) (v u : Value) (w : World) (ha : Ints w v ts) (hb : Ints w u ls) (hn : ts.length = 8) (hl : ls.length = 8) (hT : ∀ j, 0 ≤ ts.getD j 0 ∧ ts.getD j 0 ≤ 255) (hL : ∀ j, 0 ≤ ls.getD j 0 ∧ ls.getD j 0 ≤ 255) (hc : 0 ≤ c ∧ c ≤ 255) :
    Calls Tryz.prog 230 #[.int .i64 0, v, u, .int .i64 c] w fun e w' => ∃ u, e = .returned u ∧ Ext w w' ∧ Ints w' u (prdL 0 ts ls c) := by
  obtain ⟨i0, hi, hz0, hz1, hz2⟩ := info_parts infoInt
  obtain ⟨g, off, cap, rfl, -, -⟩ := ha.addr (by omega)
  obtain ⟨g', off', cap', rfl, -, -⟩ := hb.addr (by omega)
  have HM : Hid (meanOf ts ls = (8 + nbF (fun i => ts.getD i 0) (fun i => ls.getD i 0) 8) / (2 * 8)) := by show _ = _; unfold meanOf; rw [hn]; rfl
  have HP : Hid (prdL 0 ts ls c = rowL 64 (prdF 0 ts ls c)) := by show _ = _; unfold prdL; rw [hn]
  rw [hn] at ha ⊢
  rw [hl] at hb ⊢
  have HN := Lib.hid hn
  have HLL := Lib.hid hl
  have HT := Lib.hid hT
  have HL := Lib.hid hL
  clear hn hl hT hL
  go_enter Tryz.func230, Tryz.ntmps230
  go_wp2
  go_loopw [10, 21] (fun sv iv wr => ∃ k : Nat, k ≤ 8 ∧ iv = .int .i64 k ∧ sv = .int .i64 (8 + nbF (fun i => ts.getD i 0) (fun i => ls.getD i 0) k) ∧ Ext w wr) (fun _ iv _ => 8 - (intOf iv).toNat)
  case atStart => exact ⟨0, Nat.zero_le _, rfl, rfl, Ext.refl _⟩
  case round =>
    obtain ⟨k, hk, rfl, rfl, hE⟩ := hrel
    by_cases hlt : k < 8
    · obtain ⟨x, hx'⟩ : ∃ x, ts.getD k 0 = x := ⟨_, rfl⟩
      obtain ⟨y, hy'⟩ : ∃ y, ls.getD k 0 = y := ⟨_, rfl⟩
      have cx := hE.cell (ha.at (get_of_lt (by rw [HN.out]; exact hlt)))
      have cy := hE.cell (hb.at (get_of_lt (by rw [HLL.out]; exact hlt)))
      have bx := HT.out k
      have by' := HL.out k
      have b0 := nbF_bound HT.out HL.out k
      have HS : Hid (nbF (fun i => ts.getD i 0) (fun i => ls.getD i 0) (k + 1) = nbF (fun i => ts.getD i 0) (fun i => ls.getD i 0) k + (x + y)) := by show _ = _; rw [← hx', ← hy']; rfl
      rw [hx'] at cx bx
      rw [hy'] at cy by'
      clear hx' hy'
      revert b0 HS
      generalize nbF (fun i => ts.getD i 0) (fun i => ls.getD i 0) k = s
      intro b0 HS
      have e1 : IntKind.i64.wrap (x + y) = x + y := by rw [IntKind.wrap_i64]; omega
      have e2 : IntKind.i64.wrap (8 + s + (x + y)) = 8 + s + (x + y) := by rw [IntKind.wrap_i64]; omega
      go_wp2
      go_quiet (fail)
      go_wp2
      go_roundw
      case rel => exact ⟨k + 1, by omega, by go_num, by rw [HS.out]; congr 1; omega, hE.drewN _⟩
      case measure => simp [intOf]; omega
    · obtain rfl : k = 8 := by omega
      have b0 := nbF_bound HT.out HL.out 8
      have hB0 := hE.size
      revert b0 HM
      generalize nbF (fun i => ts.getD i 0) (fun i => ls.getD i 0) 8 = s
      intro HM b0
      obtain ⟨mean, hmean⟩ : ∃ mean, (8 + s) / (2 * 8) = mean := ⟨_, rfl⟩
      have hmd : (8 + s) / 16 = mean := hmean
      have HMN : Hid (meanOf ts ls = mean) := by show _ = _; rw [HM.out, hmean]
      clear hmean HM
      go_wp2_with (at_make; refine wpList_make_own _ rfl _ _ 49 rfl w.heap.size 3 i0 (.int .i64 0) 1 Tryz.underlying49 hi hz0 hz1 .i64 .i64 _ 64 rfl rfl rfl (by rw [hz2]; omega) (by unfold maxLen; omega) hB0 ?_; intro w2 hown hgrow)
      have hE2 : Ext w w2 := hE.of_below (Below.grown (Below.refl _ _) hgrow (Nat.le_refl _) (fun k hk => by cases hk)) hB0
      clear hgrow hi hz0 hz1 hz2 hE hB0
      go_wp2
      go_loopw [12, 46] (fun bv jv wr => ∃ j : Nat, j ≤ 8 ∧ jv = .int .i64 j ∧ Hid (wr.ownsRow w.heap.size 3 1 bv (j * 8) ((rowL (j * 8) (prdF 0 ts ls c)).map (Value.int .i64))) ∧ Ext w wr) (fun _ jv _ => 8 - (intOf jv).toNat)
      case atStart => exact ⟨0, Nat.zero_le _, rfl, hown, hE2⟩
      case round =>
        clear hown hE2
        obtain ⟨j, hj, rfl, HO, hE⟩ := hrel
        by_cases hlt : j < 8
        · obtain ⟨y, hy'⟩ : ∃ y, ls.getD j 0 = y := ⟨_, rfl⟩
          have cy := hE.cell (hb.at (get_of_lt (by rw [HLL.out]; exact hlt)))
          have by' := HL.out j
          rw [hy'] at cy by'
          have HY := Lib.hid hy'
          have t1 : decide ((j : Int) < 8) = true := decide_eq_true (by omega)
          clear hy'
          go_wp2
          go_loopw [12, 52] (fun bv iv wr => ∃ i : Nat, i ≤ 8 ∧ iv = .int .i64 i ∧ Hid (wr.ownsRow w.heap.size 3 1 bv (j * 8 + i) ((rowL (j * 8 + i) (prdF 0 ts ls c)).map (Value.int .i64))) ∧ Ext w wr) (fun _ iv _ => 8 - (intOf iv).toNat)
          case atStart => exact ⟨0, Nat.zero_le _, rfl, HO.out, hE⟩
          case round =>
            clear HO hE cy
            obtain ⟨i, hi, rfl, HO, hE⟩ := hrel
            have hB := hE.size
            by_cases hit : i < 8
            · obtain ⟨x, hx'⟩ : ∃ x, ts.getD i 0 = x := ⟨_, rfl⟩
              have cx := hE.cell (ha.at (get_of_lt (by rw [HN.out]; exact hit)))
              have bx := HT.out i
              rw [hx'] at cx bx
              obtain ⟨z, hz⟩ : ∃ z, clipI (y + x - c) = z := ⟨_, rfl⟩
              have HC : Hid (∀ W, Calls Tryz.prog 227 #[.int .i64 (y + x - c)] W fun e w' => e = .returned (.int .i64 z) ∧ W = w') := fun W => by rw [← hz]; exact clip_any _ W
              have HS : Hid ((rowL (j * 8 + i + 1) (prdF 0 ts ls c)).map (Value.int .i64) = (rowL (j * 8 + i) (prdF 0 ts ls c)).map (Value.int .i64) ++ [.int .i64 mean]) := by
                show _ = _
                rw [rowL_succi, List.map_append]
                have e1 : (j * 8 + i) % ts.length = i := by rw [HN.out]; omega
                have e2 : (j * 8 + i) / ts.length = j := by rw [HN.out]; omega
                have e3 : prdF 0 ts ls c (j * 8 + i) = mean := by
                  unfold prdF
                  rw [e1, e2, hx', HY.out, hz, HMN.out]
                  rfl
                rw [e3]
                rfl
              clear hx' hz
              go_wp2_with (at_builtin; refine push_int rfl _ _ 49 rfl Tryz.underlying49 _ _ _ _ rfl HO.out (by show Value.slice (some ⟨wr.heap.size, 0, none⟩) 1 1 = _; simp) hB (by omega) ?_; intro v' w7 h1 h2)
              have HO7 := Lib.hid h1
              have hE7 := hE.of_below h2 (Nat.le_refl _)
              clear h1 h2 HO hE
              go_wp2
              go_roundw
              case rel => exact ⟨i + 1, by omega, by go_num, by
                show World.ownsRow _ _ _ _ _ _ _
                rw [show j * 8 + (i + 1) = j * 8 + i + 1 by omega, HS.out]
                exact HO7.out, hE7⟩
              case measure => simp [intOf]; omega
            · obtain rfl : i = 8 := by omega
              go_wp2
              go_roundw
              case rel => exact ⟨j + 1, by omega, by go_num, by
                show World.ownsRow _ _ _ _ _ _ _
                rw [show (j + 1) * 8 = j * 8 + 8 by omega]
                exact HO.out, hE⟩
              case measure => simp [intOf]; omega
        · obtain rfl : j = 8 := by omega
          go_wp2
          go_ret
          exact ⟨_, rfl, hE, by rw [HP.out]; exact Ints.of_row HO.out (by omega)⟩
set_option maxHeartbeats 8000000 in
set_option maxRecDepth 20000 in
theorem predict_1_8 (ts ls : List Int) (c : Int) (v u : Value) (w : World) (ha : Ints w v ts) (hb : Ints w u ls) (hn : ts.length = 8) (hl : ls.length = 8) (hT : ∀ j, 0 ≤ ts.getD j 0 ∧ ts.getD j 0 ≤ 255) (hL : ∀ j, 0 ≤ ls.getD j 0 ∧ ls.getD j 0 ≤ 255) (hc : 0 ≤ c ∧ c ≤ 255) :
    Calls Tryz.prog 230 #[.int .i64 1, v, u, .int .i64 c] w fun e w' => ∃ u, e = .returned u ∧ Ext w w' ∧ Ints w' u (prdL 1 ts ls c) := by
  obtain ⟨i0, hi, hz0, hz1, hz2⟩ := info_parts infoInt
  obtain ⟨g, off, cap, rfl, -, -⟩ := ha.addr (by omega)
  obtain ⟨g', off', cap', rfl, -, -⟩ := hb.addr (by omega)
  have HM : Hid (meanOf ts ls = (8 + nbF (fun i => ts.getD i 0) (fun i => ls.getD i 0) 8) / (2 * 8)) := by show _ = _; unfold meanOf; rw [hn]; rfl
  have HP : Hid (prdL 1 ts ls c = rowL 64 (prdF 1 ts ls c)) := by show _ = _; unfold prdL; rw [hn]
  rw [hn] at ha ⊢
  rw [hl] at hb ⊢
  have HN := Lib.hid hn
  have HLL := Lib.hid hl
  have HT := Lib.hid hT
  have HL := Lib.hid hL
  clear hn hl hT hL
  go_enter Tryz.func230, Tryz.ntmps230
  go_wp2
  go_loopw [10, 21] (fun sv iv wr => ∃ k : Nat, k ≤ 8 ∧ iv = .int .i64 k ∧ sv = .int .i64 (8 + nbF (fun i => ts.getD i 0) (fun i => ls.getD i 0) k) ∧ Ext w wr) (fun _ iv _ => 8 - (intOf iv).toNat)
  case atStart => exact ⟨0, Nat.zero_le _, rfl, rfl, Ext.refl _⟩
  case round =>
    obtain ⟨k, hk, rfl, rfl, hE⟩ := hrel
    by_cases hlt : k < 8
    · obtain ⟨x, hx'⟩ : ∃ x, ts.getD k 0 = x := ⟨_, rfl⟩
      obtain ⟨y, hy'⟩ : ∃ y, ls.getD k 0 = y := ⟨_, rfl⟩
      have cx := hE.cell (ha.at (get_of_lt (by rw [HN.out]; exact hlt)))
      have cy := hE.cell (hb.at (get_of_lt (by rw [HLL.out]; exact hlt)))
      have bx := HT.out k
      have by' := HL.out k
      have b0 := nbF_bound HT.out HL.out k
      have HS : Hid (nbF (fun i => ts.getD i 0) (fun i => ls.getD i 0) (k + 1) = nbF (fun i => ts.getD i 0) (fun i => ls.getD i 0) k + (x + y)) := by show _ = _; rw [← hx', ← hy']; rfl
      rw [hx'] at cx bx
      rw [hy'] at cy by'
      clear hx' hy'
      revert b0 HS
      generalize nbF (fun i => ts.getD i 0) (fun i => ls.getD i 0) k = s
      intro b0 HS
      have e1 : IntKind.i64.wrap (x + y) = x + y := by rw [IntKind.wrap_i64]; omega
      have e2 : IntKind.i64.wrap (8 + s + (x + y)) = 8 + s + (x + y) := by rw [IntKind.wrap_i64]; omega
      go_wp2
      go_quiet (fail)
      go_wp2
      go_roundw
      case rel => exact ⟨k + 1, by omega, by go_num, by rw [HS.out]; congr 1; omega, hE.drewN _⟩
      case measure => simp [intOf]; omega
    · obtain rfl : k = 8 := by omega
      have b0 := nbF_bound HT.out HL.out 8
      have hB0 := hE.size
      revert b0 HM
      generalize nbF (fun i => ts.getD i 0) (fun i => ls.getD i 0) 8 = s
      intro HM b0
      obtain ⟨mean, hmean⟩ : ∃ mean, (8 + s) / (2 * 8) = mean := ⟨_, rfl⟩
      have hmd : (8 + s) / 16 = mean := hmean
      have HMN : Hid (meanOf ts ls = mean) := by show _ = _; rw [HM.out, hmean]
      clear hmean HM
      go_wp2_with (at_make; refine wpList_make_own _ rfl _ _ 49 rfl w.heap.size 3 i0 (.int .i64 0) 1 Tryz.underlying49 hi hz0 hz1 .i64 .i64 _ 64 rfl rfl rfl (by rw [hz2]; omega) (by unfold maxLen; omega) hB0 ?_; intro w2 hown hgrow)
      have hE2 : Ext w w2 := hE.of_below (Below.grown (Below.refl _ _) hgrow (Nat.le_refl _) (fun k hk => by cases hk)) hB0
      clear hgrow hi hz0 hz1 hz2 hE hB0
      go_wp2
      go_loopw [12, 46] (fun bv jv wr => ∃ j : Nat, j ≤ 8 ∧ jv = .int .i64 j ∧ Hid (wr.ownsRow w.heap.size 3 1 bv (j * 8) ((rowL (j * 8) (prdF 1 ts ls c)).map (Value.int .i64))) ∧ Ext w wr) (fun _ jv _ => 8 - (intOf jv).toNat)
      case atStart => exact ⟨0, Nat.zero_le _, rfl, hown, hE2⟩
      case round =>
        clear hown hE2
        obtain ⟨j, hj, rfl, HO, hE⟩ := hrel
        by_cases hlt : j < 8
        · obtain ⟨y, hy'⟩ : ∃ y, ls.getD j 0 = y := ⟨_, rfl⟩
          have cy := hE.cell (hb.at (get_of_lt (by rw [HLL.out]; exact hlt)))
          have by' := HL.out j
          rw [hy'] at cy by'
          have HY := Lib.hid hy'
          have t1 : decide ((j : Int) < 8) = true := decide_eq_true (by omega)
          clear hy'
          go_wp2
          go_loopw [12, 52] (fun bv iv wr => ∃ i : Nat, i ≤ 8 ∧ iv = .int .i64 i ∧ Hid (wr.ownsRow w.heap.size 3 1 bv (j * 8 + i) ((rowL (j * 8 + i) (prdF 1 ts ls c)).map (Value.int .i64))) ∧ Ext w wr) (fun _ iv _ => 8 - (intOf iv).toNat)
          case atStart => exact ⟨0, Nat.zero_le _, rfl, HO.out, hE⟩
          case round =>
            clear HO hE cy
            obtain ⟨i, hi, rfl, HO, hE⟩ := hrel
            have hB := hE.size
            by_cases hit : i < 8
            · obtain ⟨x, hx'⟩ : ∃ x, ts.getD i 0 = x := ⟨_, rfl⟩
              have cx := hE.cell (ha.at (get_of_lt (by rw [HN.out]; exact hit)))
              have bx := HT.out i
              rw [hx'] at cx bx
              obtain ⟨z, hz⟩ : ∃ z, clipI (y + x - c) = z := ⟨_, rfl⟩
              have HC : Hid (∀ W, Calls Tryz.prog 227 #[.int .i64 (y + x - c)] W fun e w' => e = .returned (.int .i64 z) ∧ W = w') := fun W => by rw [← hz]; exact clip_any _ W
              have HS : Hid ((rowL (j * 8 + i + 1) (prdF 1 ts ls c)).map (Value.int .i64) = (rowL (j * 8 + i) (prdF 1 ts ls c)).map (Value.int .i64) ++ [.int .i64 x]) := by
                show _ = _
                rw [rowL_succi, List.map_append]
                have e1 : (j * 8 + i) % ts.length = i := by rw [HN.out]; omega
                have e2 : (j * 8 + i) / ts.length = j := by rw [HN.out]; omega
                have e3 : prdF 1 ts ls c (j * 8 + i) = x := by
                  unfold prdF
                  rw [e1, e2, hx', HY.out, hz, HMN.out]
                  rfl
                rw [e3]
                rfl
              clear hx' hz
              go_wp2_with (at_builtin; refine push_int rfl _ _ 49 rfl Tryz.underlying49 _ _ _ _ rfl HO.out (by show Value.slice (some ⟨wr.heap.size, 0, none⟩) 1 1 = _; simp) hB (by omega) ?_; intro v' w7 h1 h2)
              have HO7 := Lib.hid h1
              have hE7 := hE.of_below h2 (Nat.le_refl _)
              clear h1 h2 HO hE
              go_wp2
              go_roundw
              case rel => exact ⟨i + 1, by omega, by go_num, by
                show World.ownsRow _ _ _ _ _ _ _
                rw [show j * 8 + (i + 1) = j * 8 + i + 1 by omega, HS.out]
                exact HO7.out, hE7⟩
              case measure => simp [intOf]; omega
            · obtain rfl : i = 8 := by omega
              go_wp2
              go_roundw
              case rel => exact ⟨j + 1, by omega, by go_num, by
                show World.ownsRow _ _ _ _ _ _ _
                rw [show (j + 1) * 8 = j * 8 + 8 by omega]
                exact HO.out, hE⟩
              case measure => simp [intOf]; omega
        · obtain rfl : j = 8 := by omega
          go_wp2
          go_ret
          exact ⟨_, rfl, hE, by rw [HP.out]; exact Ints.of_row HO.out (by omega)⟩
set_option maxHeartbeats 8000000 in
set_option maxRecDepth 20000 in
theorem predict_2_8 (ts ls : List Int) (c : Int) (v u : Value) (w : World) (ha : Ints w v ts) (hb : Ints w u ls) (hn : ts.length = 8) (hl : ls.length = 8) (hT : ∀ j, 0 ≤ ts.getD j 0 ∧ ts.getD j 0 ≤ 255) (hL : ∀ j, 0 ≤ ls.getD j 0 ∧ ls.getD j 0 ≤ 255) (hc : 0 ≤ c ∧ c ≤ 255) :
    Calls Tryz.prog 230 #[.int .i64 2, v, u, .int .i64 c] w fun e w' => ∃ u, e = .returned u ∧ Ext w w' ∧ Ints w' u (prdL 2 ts ls c) := by
  obtain ⟨i0, hi, hz0, hz1, hz2⟩ := info_parts infoInt
  obtain ⟨g, off, cap, rfl, -, -⟩ := ha.addr (by omega)
  obtain ⟨g', off', cap', rfl, -, -⟩ := hb.addr (by omega)
  have HM : Hid (meanOf ts ls = (8 + nbF (fun i => ts.getD i 0) (fun i => ls.getD i 0) 8) / (2 * 8)) := by show _ = _; unfold meanOf; rw [hn]; rfl
  have HP : Hid (prdL 2 ts ls c = rowL 64 (prdF 2 ts ls c)) := by show _ = _; unfold prdL; rw [hn]
  rw [hn] at ha ⊢
  rw [hl] at hb ⊢
  have HN := Lib.hid hn
  have HLL := Lib.hid hl
  have HT := Lib.hid hT
  have HL := Lib.hid hL
  clear hn hl hT hL
  go_enter Tryz.func230, Tryz.ntmps230
  go_wp2
  go_loopw [10, 21] (fun sv iv wr => ∃ k : Nat, k ≤ 8 ∧ iv = .int .i64 k ∧ sv = .int .i64 (8 + nbF (fun i => ts.getD i 0) (fun i => ls.getD i 0) k) ∧ Ext w wr) (fun _ iv _ => 8 - (intOf iv).toNat)
  case atStart => exact ⟨0, Nat.zero_le _, rfl, rfl, Ext.refl _⟩
  case round =>
    obtain ⟨k, hk, rfl, rfl, hE⟩ := hrel
    by_cases hlt : k < 8
    · obtain ⟨x, hx'⟩ : ∃ x, ts.getD k 0 = x := ⟨_, rfl⟩
      obtain ⟨y, hy'⟩ : ∃ y, ls.getD k 0 = y := ⟨_, rfl⟩
      have cx := hE.cell (ha.at (get_of_lt (by rw [HN.out]; exact hlt)))
      have cy := hE.cell (hb.at (get_of_lt (by rw [HLL.out]; exact hlt)))
      have bx := HT.out k
      have by' := HL.out k
      have b0 := nbF_bound HT.out HL.out k
      have HS : Hid (nbF (fun i => ts.getD i 0) (fun i => ls.getD i 0) (k + 1) = nbF (fun i => ts.getD i 0) (fun i => ls.getD i 0) k + (x + y)) := by show _ = _; rw [← hx', ← hy']; rfl
      rw [hx'] at cx bx
      rw [hy'] at cy by'
      clear hx' hy'
      revert b0 HS
      generalize nbF (fun i => ts.getD i 0) (fun i => ls.getD i 0) k = s
      intro b0 HS
      have e1 : IntKind.i64.wrap (x + y) = x + y := by rw [IntKind.wrap_i64]; omega
      have e2 : IntKind.i64.wrap (8 + s + (x + y)) = 8 + s + (x + y) := by rw [IntKind.wrap_i64]; omega
      go_wp2
      go_quiet (fail)
      go_wp2
      go_roundw
      case rel => exact ⟨k + 1, by omega, by go_num, by rw [HS.out]; congr 1; omega, hE.drewN _⟩
      case measure => simp [intOf]; omega
    · obtain rfl : k = 8 := by omega
      have b0 := nbF_bound HT.out HL.out 8
      have hB0 := hE.size
      revert b0 HM
      generalize nbF (fun i => ts.getD i 0) (fun i => ls.getD i 0) 8 = s
      intro HM b0
      obtain ⟨mean, hmean⟩ : ∃ mean, (8 + s) / (2 * 8) = mean := ⟨_, rfl⟩
      have hmd : (8 + s) / 16 = mean := hmean
      have HMN : Hid (meanOf ts ls = mean) := by show _ = _; rw [HM.out, hmean]
      clear hmean HM
      go_wp2_with (at_make; refine wpList_make_own _ rfl _ _ 49 rfl w.heap.size 3 i0 (.int .i64 0) 1 Tryz.underlying49 hi hz0 hz1 .i64 .i64 _ 64 rfl rfl rfl (by rw [hz2]; omega) (by unfold maxLen; omega) hB0 ?_; intro w2 hown hgrow)
      have hE2 : Ext w w2 := hE.of_below (Below.grown (Below.refl _ _) hgrow (Nat.le_refl _) (fun k hk => by cases hk)) hB0
      clear hgrow hi hz0 hz1 hz2 hE hB0
      go_wp2
      go_loopw [12, 46] (fun bv jv wr => ∃ j : Nat, j ≤ 8 ∧ jv = .int .i64 j ∧ Hid (wr.ownsRow w.heap.size 3 1 bv (j * 8) ((rowL (j * 8) (prdF 2 ts ls c)).map (Value.int .i64))) ∧ Ext w wr) (fun _ jv _ => 8 - (intOf jv).toNat)
      case atStart => exact ⟨0, Nat.zero_le _, rfl, hown, hE2⟩
      case round =>
        clear hown hE2
        obtain ⟨j, hj, rfl, HO, hE⟩ := hrel
        by_cases hlt : j < 8
        · obtain ⟨y, hy'⟩ : ∃ y, ls.getD j 0 = y := ⟨_, rfl⟩
          have cy := hE.cell (hb.at (get_of_lt (by rw [HLL.out]; exact hlt)))
          have by' := HL.out j
          rw [hy'] at cy by'
          have HY := Lib.hid hy'
          have t1 : decide ((j : Int) < 8) = true := decide_eq_true (by omega)
          clear hy'
          go_wp2
          go_loopw [12, 52] (fun bv iv wr => ∃ i : Nat, i ≤ 8 ∧ iv = .int .i64 i ∧ Hid (wr.ownsRow w.heap.size 3 1 bv (j * 8 + i) ((rowL (j * 8 + i) (prdF 2 ts ls c)).map (Value.int .i64))) ∧ Ext w wr) (fun _ iv _ => 8 - (intOf iv).toNat)
          case atStart => exact ⟨0, Nat.zero_le _, rfl, HO.out, hE⟩
          case round =>
            clear HO hE cy
            obtain ⟨i, hi, rfl, HO, hE⟩ := hrel
            have hB := hE.size
            by_cases hit : i < 8
            · obtain ⟨x, hx'⟩ : ∃ x, ts.getD i 0 = x := ⟨_, rfl⟩
              have cx := hE.cell (ha.at (get_of_lt (by rw [HN.out]; exact hit)))
              have bx := HT.out i
              rw [hx'] at cx bx
              obtain ⟨z, hz⟩ : ∃ z, clipI (y + x - c) = z := ⟨_, rfl⟩
              have HC : Hid (∀ W, Calls Tryz.prog 227 #[.int .i64 (y + x - c)] W fun e w' => e = .returned (.int .i64 z) ∧ W = w') := fun W => by rw [← hz]; exact clip_any _ W
              have HS : Hid ((rowL (j * 8 + i + 1) (prdF 2 ts ls c)).map (Value.int .i64) = (rowL (j * 8 + i) (prdF 2 ts ls c)).map (Value.int .i64) ++ [.int .i64 y]) := by
                show _ = _
                rw [rowL_succi, List.map_append]
                have e1 : (j * 8 + i) % ts.length = i := by rw [HN.out]; omega
                have e2 : (j * 8 + i) / ts.length = j := by rw [HN.out]; omega
                have e3 : prdF 2 ts ls c (j * 8 + i) = y := by
                  unfold prdF
                  rw [e1, e2, hx', HY.out, hz, HMN.out]
                  rfl
                rw [e3]
                rfl
              clear hx' hz
              go_wp2_with (at_builtin; refine push_int rfl _ _ 49 rfl Tryz.underlying49 _ _ _ _ rfl HO.out (by show Value.slice (some ⟨wr.heap.size, 0, none⟩) 1 1 = _; simp) hB (by omega) ?_; intro v' w7 h1 h2)
              have HO7 := Lib.hid h1
              have hE7 := hE.of_below h2 (Nat.le_refl _)
              clear h1 h2 HO hE
              go_wp2
              go_roundw
              case rel => exact ⟨i + 1, by omega, by go_num, by
                show World.ownsRow _ _ _ _ _ _ _
                rw [show j * 8 + (i + 1) = j * 8 + i + 1 by omega, HS.out]
                exact HO7.out, hE7⟩
              case measure => simp [intOf]; omega
            · obtain rfl : i = 8 := by omega
              go_wp2
              go_roundw
              case rel => exact ⟨j + 1, by omega, by go_num, by
                show World.ownsRow _ _ _ _ _ _ _
                rw [show (j + 1) * 8 = j * 8 + 8 by omega]
                exact HO.out, hE⟩
              case measure => simp [intOf]; omega
        · obtain rfl : j = 8 := by omega
          go_wp2
          go_ret
          exact ⟨_, rfl, hE, by rw [HP.out]; exact Ints.of_row HO.out (by omega)⟩
set_option maxHeartbeats 8000000 in
set_option maxRecDepth 20000 in
theorem predict_3_8 (ts ls : List Int) (c : Int) (v u : Value) (w : World) (ha : Ints w v ts) (hb : Ints w u ls) (hn : ts.length = 8) (hl : ls.length = 8) (hT : ∀ j, 0 ≤ ts.getD j 0 ∧ ts.getD j 0 ≤ 255) (hL : ∀ j, 0 ≤ ls.getD j 0 ∧ ls.getD j 0 ≤ 255) (hc : 0 ≤ c ∧ c ≤ 255) :
    Calls Tryz.prog 230 #[.int .i64 3, v, u, .int .i64 c] w fun e w' => ∃ u, e = .returned u ∧ Ext w w' ∧ Ints w' u (prdL 3 ts ls c) := by
  obtain ⟨i0, hi, hz0, hz1, hz2⟩ := info_parts infoInt
  obtain ⟨g, off, cap, rfl, -, -⟩ := ha.addr (by omega)
  obtain ⟨g', off', cap', rfl, -, -⟩ := hb.addr (by omega)
  have HM : Hid (meanOf ts ls = (8 + nbF (fun i => ts.getD i 0) (fun i => ls.getD i 0) 8) / (2 * 8)) := by show _ = _; unfold meanOf; rw [hn]; rfl
  have HP : Hid (prdL 3 ts ls c = rowL 64 (prdF 3 ts ls c)) := by show _ = _; unfold prdL; rw [hn]
  rw [hn] at ha ⊢
  rw [hl] at hb ⊢
  have HN := Lib.hid hn
  have HLL := Lib.hid hl
  have HT := Lib.hid hT
  have HL := Lib.hid hL
  clear hn hl hT hL
  go_enter Tryz.func230, Tryz.ntmps230
  go_wp2
  go_loopw [10, 21] (fun sv iv wr => ∃ k : Nat, k ≤ 8 ∧ iv = .int .i64 k ∧ sv = .int .i64 (8 + nbF (fun i => ts.getD i 0) (fun i => ls.getD i 0) k) ∧ Ext w wr) (fun _ iv _ => 8 - (intOf iv).toNat)
  case atStart => exact ⟨0, Nat.zero_le _, rfl, rfl, Ext.refl _⟩
  case round =>
    obtain ⟨k, hk, rfl, rfl, hE⟩ := hrel
    by_cases hlt : k < 8
    · obtain ⟨x, hx'⟩ : ∃ x, ts.getD k 0 = x := ⟨_, rfl⟩
      obtain ⟨y, hy'⟩ : ∃ y, ls.getD k 0 = y := ⟨_, rfl⟩
      have cx := hE.cell (ha.at (get_of_lt (by rw [HN.out]; exact hlt)))
      have cy := hE.cell (hb.at (get_of_lt (by rw [HLL.out]; exact hlt)))
      have bx := HT.out k
      have by' := HL.out k
      have b0 := nbF_bound HT.out HL.out k
      have HS : Hid (nbF (fun i => ts.getD i 0) (fun i => ls.getD i 0) (k + 1) = nbF (fun i => ts.getD i 0) (fun i => ls.getD i 0) k + (x + y)) := by show _ = _; rw [← hx', ← hy']; rfl
      rw [hx'] at cx bx
      rw [hy'] at cy by'
      clear hx' hy'
      revert b0 HS
      generalize nbF (fun i => ts.getD i 0) (fun i => ls.getD i 0) k = s
      intro b0 HS
      have e1 : IntKind.i64.wrap (x + y) = x + y := by rw [IntKind.wrap_i64]; omega
      have e2 : IntKind.i64.wrap (8 + s + (x + y)) = 8 + s + (x + y) := by rw [IntKind.wrap_i64]; omega
      go_wp2
      go_quiet (fail)
      go_wp2
      go_roundw
      case rel => exact ⟨k + 1, by omega, by go_num, by rw [HS.out]; congr 1; omega, hE.drewN _⟩
      case measure => simp [intOf]; omega
    · obtain rfl : k = 8 := by omega
      have b0 := nbF_bound HT.out HL.out 8
      have hB0 := hE.size
      revert b0 HM
      generalize nbF (fun i => ts.getD i 0) (fun i => ls.getD i 0) 8 = s
      intro HM b0
      obtain ⟨mean, hmean⟩ : ∃ mean, (8 + s) / (2 * 8) = mean := ⟨_, rfl⟩
      have hmd : (8 + s) / 16 = mean := hmean
      have HMN : Hid (meanOf ts ls = mean) := by show _ = _; rw [HM.out, hmean]
      clear hmean HM
      go_wp2_with (at_make; refine wpList_make_own _ rfl _ _ 49 rfl w.heap.size 3 i0 (.int .i64 0) 1 Tryz.underlying49 hi hz0 hz1 .i64 .i64 _ 64 rfl rfl rfl (by rw [hz2]; omega) (by unfold maxLen; omega) hB0 ?_; intro w2 hown hgrow)
      have hE2 : Ext w w2 := hE.of_below (Below.grown (Below.refl _ _) hgrow (Nat.le_refl _) (fun k hk => by cases hk)) hB0
      clear hgrow hi hz0 hz1 hz2 hE hB0
      go_wp2
      go_loopw [12, 46] (fun bv jv wr => ∃ j : Nat, j ≤ 8 ∧ jv = .int .i64 j ∧ Hid (wr.ownsRow w.heap.size 3 1 bv (j * 8) ((rowL (j * 8) (prdF 3 ts ls c)).map (Value.int .i64))) ∧ Ext w wr) (fun _ jv _ => 8 - (intOf jv).toNat)
      case atStart => exact ⟨0, Nat.zero_le _, rfl, hown, hE2⟩
      case round =>
        clear hown hE2
        obtain ⟨j, hj, rfl, HO, hE⟩ := hrel
        by_cases hlt : j < 8
        · obtain ⟨y, hy'⟩ : ∃ y, ls.getD j 0 = y := ⟨_, rfl⟩
          have cy := hE.cell (hb.at (get_of_lt (by rw [HLL.out]; exact hlt)))
          have by' := HL.out j
          rw [hy'] at cy by'
          have HY := Lib.hid hy'
          have t1 : decide ((j : Int) < 8) = true := decide_eq_true (by omega)
          clear hy'
          go_wp2
          go_loopw [12, 52] (fun bv iv wr => ∃ i : Nat, i ≤ 8 ∧ iv = .int .i64 i ∧ Hid (wr.ownsRow w.heap.size 3 1 bv (j * 8 + i) ((rowL (j * 8 + i) (prdF 3 ts ls c)).map (Value.int .i64))) ∧ Ext w wr) (fun _ iv _ => 8 - (intOf iv).toNat)
          case atStart => exact ⟨0, Nat.zero_le _, rfl, HO.out, hE⟩
          case round =>
            clear HO hE cy
            obtain ⟨i, hi, rfl, HO, hE⟩ := hrel
            have hB := hE.size
            by_cases hit : i < 8
            · obtain ⟨x, hx'⟩ : ∃ x, ts.getD i 0 = x := ⟨_, rfl⟩
              have cx := hE.cell (ha.at (get_of_lt (by rw [HN.out]; exact hit)))
              have bx := HT.out i
              rw [hx'] at cx bx
              obtain ⟨z, hz⟩ : ∃ z, clipI (y + x - c) = z := ⟨_, rfl⟩
              have HC : Hid (∀ W, Calls Tryz.prog 227 #[.int .i64 (y + x - c)] W fun e w' => e = .returned (.int .i64 z) ∧ W = w') := fun W => by rw [← hz]; exact clip_any _ W
              have HS : Hid ((rowL (j * 8 + i + 1) (prdF 3 ts ls c)).map (Value.int .i64) = (rowL (j * 8 + i) (prdF 3 ts ls c)).map (Value.int .i64) ++ [.int .i64 z]) := by
                show _ = _
                rw [rowL_succi, List.map_append]
                have e1 : (j * 8 + i) % ts.length = i := by rw [HN.out]; omega
                have e2 : (j * 8 + i) / ts.length = j := by rw [HN.out]; omega
                have e3 : prdF 3 ts ls c (j * 8 + i) = z := by
                  unfold prdF
                  rw [e1, e2, hx', HY.out, hz, HMN.out]
                  rfl
                rw [e3]
                rfl
              clear hx' hz
              go_wp2_with fail
              refine (HC.out _).mono ?_; rintro e w8 ⟨rfl, rfl⟩
              go_wp2_with (at_builtin; refine push_int rfl _ _ 49 rfl Tryz.underlying49 _ _ _ _ rfl HO.out (by show Value.slice (some ⟨wr.heap.size, 0, none⟩) 1 1 = _; simp) hB (by omega) ?_; intro v' w7 h1 h2)
              have HO7 := Lib.hid h1
              have hE7 := hE.of_below h2 (Nat.le_refl _)
              clear h1 h2 HO hE
              go_wp2
              go_roundw
              case rel => exact ⟨i + 1, by omega, by go_num, by
                show World.ownsRow _ _ _ _ _ _ _
                rw [show j * 8 + (i + 1) = j * 8 + i + 1 by omega, HS.out]
                exact HO7.out, hE7⟩
              case measure => simp [intOf]; omega
            · obtain rfl : i = 8 := by omega
              go_wp2
              go_roundw
              case rel => exact ⟨j + 1, by omega, by go_num, by
                show World.ownsRow _ _ _ _ _ _ _
                rw [show (j + 1) * 8 = j * 8 + 8 by omega]
                exact HO.out, hE⟩
              case measure => simp [intOf]; omega
        · obtain rfl : j = 8 := by omega
          go_wp2
          go_ret
          exact ⟨_, rfl, hE, by rw [HP.out]; exact Ints.of_row HO.out (by omega)⟩
end Go.Proofs.YtlaedbglclmheaaGreatDoor

/- intra.Predict; kinlaw10.first: contracts over this seat's translation. -/
namespace Go.Proofs.YtlaedbglclmheaaGreatDoor
set_option linter.unusedVariables false
set_option linter.unusedSimpArgs false
open Go.RowKit Go.Extern.Stop Go.Stop Go.Extern

theorem predict_ok (m : Int) (ts ls : List Int) (c : Int) (v u : Value) (w : World) (ha : Ints w v ts) (hb : Ints w u ls) (hm : 0 ≤ m ∧ m ≤ 3) (h : chkAns ts ls c = none) :
    Calls Tryz.prog 230 #[.int .i64 m, v, u, .int .i64 c] w fun e w' => ∃ u, e = .returned u ∧ Ext w w' ∧ Ints w' u (prdL m ts ls c) := by
  obtain ⟨h1, h2, h3, h4, h5⟩ := chkAns_none h
  rcases h1 with h1 | h1
  · rcases (by omega : m = 0 ∨ m = 1 ∨ m = 2 ∨ m = 3) with rfl | rfl | rfl | rfl
    · exact predict_0_4 ts ls c v u w ha hb h1 (by omega) h3 h4 h5
    · exact predict_1_4 ts ls c v u w ha hb h1 (by omega) h3 h4 h5
    · exact predict_2_4 ts ls c v u w ha hb h1 (by omega) h3 h4 h5
    · exact predict_3_4 ts ls c v u w ha hb h1 (by omega) h3 h4 h5
  · rcases (by omega : m = 0 ∨ m = 1 ∨ m = 2 ∨ m = 3) with rfl | rfl | rfl | rfl
    · exact predict_0_8 ts ls c v u w ha hb h1 (by omega) h3 h4 h5
    · exact predict_1_8 ts ls c v u w ha hb h1 (by omega) h3 h4 h5
    · exact predict_2_8 ts ls c v u w ha hb h1 (by omega) h3 h4 h5
    · exact predict_3_8 ts ls c v u w ha hb h1 (by omega) h3 h4 h5
def prdAns (m : Int) (ts ls : List Int) (c : Int) : Fall := if m < 0 ∨ 4 ≤ m then kind else chkAns ts ls c
def prdV (m : Int) (ts ls : List Int) (c : Int) : List Int := match prdAns m ts ls c with
  | none => prdL m ts ls c
  | some _ => []
theorem prdAns_none {m : Int} {ts ls : List Int} {c : Int} (h : prdAns m ts ls c = none) : (0 ≤ m ∧ m ≤ 3) ∧ chkAns ts ls c = none := by
  unfold prdAns at h
  split at h
  · cases h
  · exact ⟨by omega, h⟩
set_option maxRecDepth 20000 in
set_option maxHeartbeats 1000000 in
theorem Predict_any (m : Int) (ts ls : List Int) (c : Int) (v u : Value) (w : World) (ha : Ints w v ts) (hb : Ints w u ls) :
    Calls Tryz.prog 199 #[.int .i64 m, v, u, .int .i64 c] w (ZPost w (prdV m ts ls c) (prdAns m ts ls c)) := by
  by_cases h1 : m < 0
  · have HA : Hid (prdAns m ts ls c = kind) := by show _ = _; unfold prdAns; rw [if_pos (Or.inl h1)]
    have HV : Hid (prdV m ts ls c = []) := by show _ = _; unfold prdV; rw [HA.out]; rfl
    clear ha hb
    go_enter Tryz.func199, Tryz.ntmps199
    go_wp2
    go_ret2
    exact ⟨_, _, rfl, Ext.refl w, by rw [HV.out]; exact Ints.nil _, by rw [HA.out]; exact ErrIs.code (by decide)⟩
  · by_cases h2 : 4 ≤ m
    · have HA : Hid (prdAns m ts ls c = kind) := by show _ = _; unfold prdAns; rw [if_pos (Or.inr h2)]
      have HV : Hid (prdV m ts ls c = []) := by show _ = _; unfold prdV; rw [HA.out]; rfl
      clear ha hb
      go_enter Tryz.func199, Tryz.ntmps199
      go_wp2
      go_ret2
      exact ⟨_, _, rfl, Ext.refl w, by rw [HV.out]; exact Ints.nil _, by rw [HA.out]; exact ErrIs.code (by decide)⟩
    · have HA : Hid (prdAns m ts ls c = chkAns ts ls c) := by show _ = _; unfold prdAns; rw [if_neg (by omega)]
      have C1 := Lib.hid (icheck_any ts ls c v u w ha hb)
      cases hc : chkAns ts ls c with
      | some f =>
        have HV : Hid (prdV m ts ls c = []) := by show _ = _; unfold prdV; rw [HA.out, hc]
        rw [hc] at HA C1
        clear ha hb hc
        go_enter Tryz.func199, Tryz.ntmps199
        go_wp2_with fail
        refine (C1.out).mono ?_; rintro e w1 ⟨x, rfl, hx, he⟩
        obtain ⟨t, y, rfl⟩ := he.ne
        go_wp2
        go_ret2
        exact ⟨_, _, rfl, hx, by rw [HV.out]; exact Ints.nil _, by rw [HA.out]; exact he⟩
      | none =>
        have HV : Hid (prdV m ts ls c = prdL m ts ls c) := by show _ = _; unfold prdV; rw [HA.out, hc]
        have C2 := Lib.hid (fun W h k => predict_ok m ts ls c v u W h k (by omega) hc)
        rw [hc] at HA C1
        clear hc
        go_enter Tryz.func199, Tryz.ntmps199
        go_wp2_with fail
        refine (C1.out).mono ?_; rintro e w1 ⟨x, rfl, hx, he⟩
        obtain rfl : x = .nilIface := he
        go_wp2_with fail
        refine (C2.out _ (ha.ext (by repeat (first | exact Ext.refl _ | assumption | refine Ext.alloc ?_ _ | refine Ext.drew ?_ | refine Ext.drewN ?_ _ | refine Ext.setCell ?_ (by first | exact Nat.le_refl _ | (simp; done) | omega) _ | refine Ext.trans ?_ (by assumption)))) (hb.ext (by repeat (first | exact Ext.refl _ | assumption | refine Ext.alloc ?_ _ | refine Ext.drew ?_ | refine Ext.drewN ?_ _ | refine Ext.setCell ?_ (by first | exact Nat.le_refl _ | (simp; done) | omega) _ | refine Ext.trans ?_ (by assumption))))).mono ?_; rintro e w2 ⟨u2, rfl, hx2, hz2⟩
        go_wp2
        go_ret2
        exact ⟨_, _, rfl, hx.trans hx2, by rw [HV.out]; exact hz2, by rw [HA.out]; rfl⟩
theorem Ints.liti (w : World) (zs : List Int) (h : zs.length ≤ 1000000) : Ints (w.alloc (.cells (zs.map (Value.int .i64)).toArray 3)) (.slice (some ⟨w.heap.size, 0, none⟩) zs.length zs.length) zs := by
  have := World.ownsRow_lit (e := 3) (base := w.heap.size) (size := 1) w (zs.map (Value.int .i64)).toArray zs.length (Nat.le_refl _) (by unfold maxLen; omega) (by simp)
  simp only [List.toList_toArray] at this
  exact Ints.of_owns this (by omega)
theorem lits2i (w : World) (xs ys : List Int) (h : xs.length ≤ 1000000) (k : ys.length ≤ 1000000) :
    Ints ((w.alloc (.cells (xs.map (Value.int .i64)).toArray 3)).alloc (.cells (ys.map (Value.int .i64)).toArray 3)) (.slice (some ⟨w.heap.size, 0, none⟩) xs.length xs.length) xs ∧
    Ints ((w.alloc (.cells (xs.map (Value.int .i64)).toArray 3)).alloc (.cells (ys.map (Value.int .i64)).toArray 3)) (.slice (some ⟨w.heap.size + 1, 0, none⟩) ys.length ys.length) ys := by
  refine ⟨(Ints.liti w xs h).ext ((Ext.refl _).alloc _), ?_⟩
  have := Ints.liti (w.alloc (.cells (xs.map (Value.int .i64)).toArray 3)) ys k
  simpa using this
theorem prd_first : prdAns 0 [0, 0, 0, 0] [8, 8, 8, 8] 0 = none ∧ prdV 0 [0, 0, 0, 0] [8, 8, 8, 8] 0 = [4, 4, 4, 4, 4, 4, 4, 4, 4, 4, 4, 4, 4, 4, 4, 4] ∧
    prdAns 3 [10, 20, 30, 40] [0, 0, 0, 250] 9 = none ∧ prdV 3 [10, 20, 30, 40] [0, 0, 0, 250] 9 = [1, 11, 21, 31, 1, 11, 21, 31, 1, 11, 21, 31, 251, 255, 255, 255] ∧ prdAns 4 [] [] 0 = kind := by decide +kernel
end Go.Proofs.YtlaedbglclmheaaGreatDoor

/- kinref.Frame of two that are the same, kinref6.Lies, kinref10.sample: contracts over this seat's translation. -/
namespace Go.Proofs.YtlaedbglclmheaaGreatDoor
set_option linter.unusedVariables false
set_option linter.unusedSimpArgs false
open Go.RowKit Go.Extern.Stop Go.Stop Go.Extern

set_option maxRecDepth 20000 in
set_option maxHeartbeats 1000000 in
theorem frame_same (W H : Int) (zs : List Int) (a b : Option Addr) (n m ca cb : Nat) (w : World) (ha : Ints w (.slice a n ca) zs) (hb : Ints w (.slice b m cb) zs) :
    Calls Tryz.prog 46 #[.agg #[.int .i64 W, .int .i64 H, .slice a n ca], .agg #[.int .i64 W, .int .i64 H, .slice b m cb]] w fun e w' => e = .returned (.bool true) ∧ Ext w w' := by
  go_enter Tryz.func46, Tryz.ntmps46
  go_wp2_with fail
  refine (ints_same zs zs _ _ _ (ha.ext (by repeat (first | exact Ext.refl _ | assumption | refine Ext.alloc ?_ _ | refine Ext.drew ?_ | refine Ext.drewN ?_ _ | refine Ext.setCell ?_ (by first | exact Nat.le_refl _ | (simp; done) | omega) _ | refine Ext.trans ?_ (by assumption)))) (hb.ext (by repeat (first | exact Ext.refl _ | assumption | refine Ext.alloc ?_ _ | refine Ext.drew ?_ | refine Ext.drewN ?_ _ | refine Ext.setCell ?_ (by first | exact Nat.le_refl _ | (simp; done) | omega) _ | refine Ext.trans ?_ (by assumption))))).mono ?_; rintro e w1 ⟨rfl, hx1⟩
  rw [decide_eq_true rfl]
  go_wp2
  go_ret
  exact ⟨rfl, (by repeat (first | exact Ext.refl _ | assumption | refine Ext.alloc ?_ _ | refine Ext.drew ?_ | refine Ext.drewN ?_ _ | refine Ext.setCell ?_ (by first | exact Nat.le_refl _ | (simp; done) | omega) _ | refine Ext.trans ?_ (by assumption)))⟩
/-- does a square lie in a frame -/
def liesB (W H x y n : Int) : Bool := decide (0 ≤ x) && decide (0 ≤ y) && decide (x ≤ W - n) && decide (y ≤ H - n)
/-- the document's sample of a place -/
def placeF (W : Int) (zs : List Int) (x y : Int) : Int := if x < 0 ∨ y < 0 then 128 else zs.getD (y * W + x).toNat 0
end Go.Proofs.YtlaedbglclmheaaGreatDoor
