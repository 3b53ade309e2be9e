/- block.Order: its contract over this seat's translation. -/
import Derived.Test.YtkealkjijfbdoaaDoorBlk2
namespace Go.Proofs.YtkealkjijfbdoaaDoor
set_option linter.unusedVariables false
set_option linter.unusedSimpArgs false
open Go.RowKit Go.Extern.Stop Go.Stop Go.Extern

def natC (l : List Nat) : List Value := l.map fun (x : Nat) => Value.int .i64 (x : Int)
theorem natC_append (a b : List Nat) : natC (a ++ b) = natC a ++ natC b := by simp [natC]
def intsOf (l : List Nat) : List Int := l.map fun (x : Nat) => (x : Int)
theorem natC_ints (l : List Nat) : natC l = (intsOf l).map (Value.int .i64) := by simp [natC, intsOf]
def ordV (n : Int) : List Int := if n = 4 then intsOf (zigPre 4 7) else if n = 8 then intsOf (zigPre 8 15) else []
theorem zigLo_le {n s : Nat} (hs : s ≤ 2 * n - 2) : zigLo n s ≤ zigHi n s + 1 := by unfold zigLo zigHi; omega
theorem zigPre_len4 : ∀ s < 7, (zigPre 4 s).length ≤ 16 ∧ zigLo 4 s ≤ zigHi 4 s ∧ zigHi 4 s < 4 := by decide +kernel
set_option maxHeartbeats 4000000 in
set_option maxRecDepth 20000 in
theorem order_4 (w : World) : Calls Tryd.prog 53 #[.int .i64 4] w fun e w' => ∃ u, e = .returned u ∧ Ext w w' ∧ Ints w' u (ordV 4) := by
  obtain ⟨i0, hi, hz0, hz1, hz2⟩ := info_parts infoInt
  have HR : Hid (ordV 4 = intsOf (zigPre 4 7)) := by show _ = _; unfold ordV; rfl
  have r1 := mx2
  have r2 := mn2
  go_enter Tryd.func53, Tryd.ntmps53
  go_wp2_with (at_make; refine wpList_make_own _ rfl _ _ 22 rfl w.heap.size 3 i0 (.int .i64 0) 1 Tryd.underlying22 hi hz0 hz1 .i64 .i64 _ 16 rfl rfl rfl (by rw [hz2]; omega) (by unfold maxLen; omega) (Nat.le_refl _) ?_; intro w2 hown hgrow)
  have hE : Ext w w2 := Below.grown (Ext.refl w) hgrow (Nat.le_refl _) (fun k hk => by cases hk)
  have hB := hE.size
  clear hgrow hi hz0 hz1 hz2
  go_wp2
  go_loopw [3, 22] (fun v sv wr => ∃ s : Nat, s ≤ 7 ∧ sv = .int .i64 s ∧ Hid (wr.ownsRow w.heap.size 3 1 v (zigPre 4 s).length (natC (zigPre 4 s))) ∧ Ext w wr) (fun _ sv _ => 7 - (intOf sv).toNat)
  case atStart => exact ⟨0, Nat.zero_le _, rfl, hown, hE⟩
  case round =>
    clear hown hE hB
    obtain ⟨s, hs, rfl, HO, hE⟩ := hrel
    by_cases hlt : s < 7
    · obtain ⟨q1, q2, q3⟩ := zigPre_len4 s hlt
      have q4 := (zigPre_len4 s hlt).1
      obtain ⟨lo, hlo⟩ : ∃ lo, lo = zigLo 4 s := ⟨_, rfl⟩
      obtain ⟨hi, hhi⟩ : ∃ hi, hi = zigHi 4 s := ⟨_, rfl⟩
      have e5 : max 0 ((s : Int) - 4 + 1) = (lo : Int) := by rw [hlo]; unfold zigLo; omega
      have t1 : decide ((s : Int) < 7) = true := decide_eq_true (by omega)
      have e6 : min (s : Int) 3 = (hi : Int) := by rw [hhi]; unfold zigHi; omega
      have f1 : (s : Int) - 4 + 1 ≤ lo := by omega
      have f2 : (hi : Int) ≤ s := by omega
      have f3 : lo ≤ hi := by rw [hlo, hhi]; exact q2
      have f4 : hi < 4 := by rw [hhi]; exact q3
      have HLO := Lib.hid hlo
      have HHI := Lib.hid hhi
      clear hlo hhi q2 q3
      obtain ⟨L, hL⟩ : ∃ L, L = (zigPre 4 s).length := ⟨_, rfl⟩
      rw [← hL] at q1 HO
      have HL := Lib.hid hL
      clear hL
      go_wp2
      go_loopw [3, 7] (fun v iv wr => ∃ i : Nat, lo ≤ i ∧ i ≤ hi + 1 ∧ iv = .int .i64 i ∧ Hid (wr.ownsRow w.heap.size 3 1 v (L + (i - lo)) (natC (zigPre 4 s ++ zigDiag 4 s i))) ∧ Ext w wr) (fun _ iv _ => hi + 1 - (intOf iv).toNat)
      case atStart => exact ⟨lo, Nat.le_refl _, by omega, rfl, by
        show World.ownsRow _ _ _ _ _ _ _
        have h : World.ownsRow _ _ _ _ _ _ _ := HO.out
        rw [show zigDiag 4 s lo = [] by unfold zigDiag; rw [HLO.out, Nat.sub_self]; rfl, List.append_nil, Nat.sub_self]
        exact h, hE⟩
      case round =>
        clear HO hE
        obtain ⟨i, hi1, hi2, rfl, HO, hE⟩ := hrel
        have hB := hE.size
        by_cases hik : i ≤ hi
        · have HS : Hid (natC (zigPre 4 s ++ zigDiag 4 s (i + 1)) = natC (zigPre 4 s ++ zigDiag 4 s i) ++ [.int .i64 ((zigAt 4 s i : Nat) : Int)]) := by
            show _ = _
            rw [zigDiag_succ (by rw [← HLO.out]; exact hi1), ← List.append_assoc, natC_append (_ ++ _)]
            rfl
          by_cases hp : s % 2 = 0
          · have b2 : ((s : Int) % 2 == 0) = true := by simp; omega
            have HA : Hid (((zigAt 4 s i : Nat) : Int) = ((hi : Int) - (i - lo)) * 4 + s - ((hi : Int) - (i - lo))) := by
              show _ = _
              unfold zigAt
              rw [if_pos hp, ← HLO.out, ← HHI.out]
              simp only
              omega
            clear hp
            go_wp2_with (at_builtin; refine push_int rfl _ _ 22 rfl Tryd.underlying22 _ _ _ _ rfl HO.out (by show Value.slice (some ⟨wr.heap.size, 0, none⟩) 1 1 = _; simp) hB (by omega) ?_; intro v' w7 h1 h2)
            have HO7 := Lib.hid h1
            have hE7 := hE.of_below h2 (Nat.le_refl _)
            clear h1 h2 HO hE
            go_wp2
            go_roundw
            case rel => exact ⟨i + 1, by omega, by omega, by go_num, by
              show World.ownsRow _ _ _ _ _ _ _
              rw [HS.out, HA.out, show L + (i + 1 - lo) = L + (i - lo) + 1 by omega]
              exact HO7.out, hE7⟩
            case measure => simp [intOf]; omega
          · have b2 : ((s : Int) % 2 == 0) = false := by simp; omega
            have HA : Hid (((zigAt 4 s i : Nat) : Int) = (i : Int) * 4 + s - i) := by
              show _ = _
              unfold zigAt
              rw [if_neg hp]
              simp only
              omega
            clear hp
            go_wp2_with (at_builtin; refine push_int rfl _ _ 22 rfl Tryd.underlying22 _ _ _ _ rfl HO.out (by show Value.slice (some ⟨wr.heap.size, 0, none⟩) 1 1 = _; simp) hB (by omega) ?_; intro v' w7 h1 h2)
            have HO7 := Lib.hid h1
            have hE7 := hE.of_below h2 (Nat.le_refl _)
            clear h1 h2 HO hE
            go_wp2
            go_roundw
            case rel => exact ⟨i + 1, by omega, by omega, by go_num, by
              show World.ownsRow _ _ _ _ _ _ _
              rw [HS.out, HA.out, show L + (i + 1 - lo) = L + (i - lo) + 1 by omega]
              exact HO7.out, hE7⟩
            case measure => simp [intOf]; omega
        · obtain rfl : i = hi + 1 := by omega
          go_wp2
          go_roundw
          case rel => exact ⟨s + 1, by omega, by go_num, by
            show World.ownsRow _ _ _ _ _ _ _
            have h : World.ownsRow _ _ _ _ _ _ _ := HO.out
            have e : zigPre 4 (s + 1) = zigPre 4 s ++ zigDiag 4 s (hi + 1) := by rw [zigPre_succ, HHI.out]
            have hl : L + (hi + 1 - lo) = (zigPre 4 (s + 1)).length := by
              rw [e, List.length_append, ← HL.out]
              unfold zigDiag
              rw [List.length_map, List.length_range, HLO.out]
            rw [← hl, e]
            exact h, hE⟩
          case measure => simp [intOf]; omega
    · obtain rfl : s = 7 := by omega
      go_wp2
      go_ret
      refine ⟨_, rfl, hE, ?_⟩
      rw [HR.out]
      have h : World.ownsRow _ _ _ _ _ _ _ := HO.out
      rw [natC_ints] at h
      exact Ints.of_owns h (by rw [show (intsOf (zigPre 4 7)).length = (zigPre 4 7).length by simp [intsOf]]; have := zig_len; omega)
theorem zigPre_len8 : ∀ s < 15, (zigPre 8 s).length ≤ 64 ∧ zigLo 8 s ≤ zigHi 8 s ∧ zigHi 8 s < 8 := by decide +kernel
set_option maxHeartbeats 4000000 in
set_option maxRecDepth 20000 in
theorem order_8 (w : World) : Calls Tryd.prog 53 #[.int .i64 8] w fun e w' => ∃ u, e = .returned u ∧ Ext w w' ∧ Ints w' u (ordV 8) := by
  obtain ⟨i0, hi, hz0, hz1, hz2⟩ := info_parts infoInt
  have HR : Hid (ordV 8 = intsOf (zigPre 8 15)) := by show _ = _; unfold ordV; rfl
  have r1 := mx2
  have r2 := mn2
  go_enter Tryd.func53, Tryd.ntmps53
  go_wp2_with (at_make; refine wpList_make_own _ rfl _ _ 22 rfl w.heap.size 3 i0 (.int .i64 0) 1 Tryd.underlying22 hi hz0 hz1 .i64 .i64 _ 64 rfl rfl rfl (by rw [hz2]; omega) (by unfold maxLen; omega) (Nat.le_refl _) ?_; intro w2 hown hgrow)
  have hE : Ext w w2 := Below.grown (Ext.refl w) hgrow (Nat.le_refl _) (fun k hk => by cases hk)
  have hB := hE.size
  clear hgrow hi hz0 hz1 hz2
  go_wp2
  go_loopw [3, 22] (fun v sv wr => ∃ s : Nat, s ≤ 15 ∧ sv = .int .i64 s ∧ Hid (wr.ownsRow w.heap.size 3 1 v (zigPre 8 s).length (natC (zigPre 8 s))) ∧ Ext w wr) (fun _ sv _ => 15 - (intOf sv).toNat)
  case atStart => exact ⟨0, Nat.zero_le _, rfl, hown, hE⟩
  case round =>
    clear hown hE hB
    obtain ⟨s, hs, rfl, HO, hE⟩ := hrel
    by_cases hlt : s < 15
    · obtain ⟨q1, q2, q3⟩ := zigPre_len8 s hlt
      have q4 := (zigPre_len8 s hlt).1
      obtain ⟨lo, hlo⟩ : ∃ lo, lo = zigLo 8 s := ⟨_, rfl⟩
      obtain ⟨hi, hhi⟩ : ∃ hi, hi = zigHi 8 s := ⟨_, rfl⟩
      have e5 : max 0 ((s : Int) - 8 + 1) = (lo : Int) := by rw [hlo]; unfold zigLo; omega
      have t1 : decide ((s : Int) < 15) = true := decide_eq_true (by omega)
      have e6 : min (s : Int) 7 = (hi : Int) := by rw [hhi]; unfold zigHi; omega
      have f1 : (s : Int) - 8 + 1 ≤ lo := by omega
      have f2 : (hi : Int) ≤ s := by omega
      have f3 : lo ≤ hi := by rw [hlo, hhi]; exact q2
      have f4 : hi < 8 := by rw [hhi]; exact q3
      have HLO := Lib.hid hlo
      have HHI := Lib.hid hhi
      clear hlo hhi q2 q3
      obtain ⟨L, hL⟩ : ∃ L, L = (zigPre 8 s).length := ⟨_, rfl⟩
      rw [← hL] at q1 HO
      have HL := Lib.hid hL
      clear hL
      go_wp2
      go_loopw [3, 7] (fun v iv wr => ∃ i : Nat, lo ≤ i ∧ i ≤ hi + 1 ∧ iv = .int .i64 i ∧ Hid (wr.ownsRow w.heap.size 3 1 v (L + (i - lo)) (natC (zigPre 8 s ++ zigDiag 8 s i))) ∧ Ext w wr) (fun _ iv _ => hi + 1 - (intOf iv).toNat)
      case atStart => exact ⟨lo, Nat.le_refl _, by omega, rfl, by
        show World.ownsRow _ _ _ _ _ _ _
        have h : World.ownsRow _ _ _ _ _ _ _ := HO.out
        rw [show zigDiag 8 s lo = [] by unfold zigDiag; rw [HLO.out, Nat.sub_self]; rfl, List.append_nil, Nat.sub_self]
        exact h, hE⟩
      case round =>
        clear HO hE
        obtain ⟨i, hi1, hi2, rfl, HO, hE⟩ := hrel
        have hB := hE.size
        by_cases hik : i ≤ hi
        · have HS : Hid (natC (zigPre 8 s ++ zigDiag 8 s (i + 1)) = natC (zigPre 8 s ++ zigDiag 8 s i) ++ [.int .i64 ((zigAt 8 s i : Nat) : Int)]) := by
            show _ = _
            rw [zigDiag_succ (by rw [← HLO.out]; exact hi1), ← List.append_assoc, natC_append (_ ++ _)]
            rfl
          by_cases hp : s % 2 = 0
          · have b2 : ((s : Int) % 2 == 0) = true := by simp; omega
            have HA : Hid (((zigAt 8 s i : Nat) : Int) = ((hi : Int) - (i - lo)) * 8 + s - ((hi : Int) - (i - lo))) := by
              show _ = _
              unfold zigAt
              rw [if_pos hp, ← HLO.out, ← HHI.out]
              simp only
              omega
            clear hp
            go_wp2_with (at_builtin; refine push_int rfl _ _ 22 rfl Tryd.underlying22 _ _ _ _ rfl HO.out (by show Value.slice (some ⟨wr.heap.size, 0, none⟩) 1 1 = _; simp) hB (by omega) ?_; intro v' w7 h1 h2)
            have HO7 := Lib.hid h1
            have hE7 := hE.of_below h2 (Nat.le_refl _)
            clear h1 h2 HO hE
            go_wp2
            go_roundw
            case rel => exact ⟨i + 1, by omega, by omega, by go_num, by
              show World.ownsRow _ _ _ _ _ _ _
              rw [HS.out, HA.out, show L + (i + 1 - lo) = L + (i - lo) + 1 by omega]
              exact HO7.out, hE7⟩
            case measure => simp [intOf]; omega
          · have b2 : ((s : Int) % 2 == 0) = false := by simp; omega
            have HA : Hid (((zigAt 8 s i : Nat) : Int) = (i : Int) * 8 + s - i) := by
              show _ = _
              unfold zigAt
              rw [if_neg hp]
              simp only
              omega
            clear hp
            go_wp2_with (at_builtin; refine push_int rfl _ _ 22 rfl Tryd.underlying22 _ _ _ _ rfl HO.out (by show Value.slice (some ⟨wr.heap.size, 0, none⟩) 1 1 = _; simp) hB (by omega) ?_; intro v' w7 h1 h2)
            have HO7 := Lib.hid h1
            have hE7 := hE.of_below h2 (Nat.le_refl _)
            clear h1 h2 HO hE
            go_wp2
            go_roundw
            case rel => exact ⟨i + 1, by omega, by omega, by go_num, by
              show World.ownsRow _ _ _ _ _ _ _
              rw [HS.out, HA.out, show L + (i + 1 - lo) = L + (i - lo) + 1 by omega]
              exact HO7.out, hE7⟩
            case measure => simp [intOf]; omega
        · obtain rfl : i = hi + 1 := by omega
          go_wp2
          go_roundw
          case rel => exact ⟨s + 1, by omega, by go_num, by
            show World.ownsRow _ _ _ _ _ _ _
            have h : World.ownsRow _ _ _ _ _ _ _ := HO.out
            have e : zigPre 8 (s + 1) = zigPre 8 s ++ zigDiag 8 s (hi + 1) := by rw [zigPre_succ, HHI.out]
            have hl : L + (hi + 1 - lo) = (zigPre 8 (s + 1)).length := by
              rw [e, List.length_append, ← HL.out]
              unfold zigDiag
              rw [List.length_map, List.length_range, HLO.out]
            rw [← hl, e]
            exact h, hE⟩
          case measure => simp [intOf]; omega
    · obtain rfl : s = 15 := by omega
      go_wp2
      go_ret
      refine ⟨_, rfl, hE, ?_⟩
      rw [HR.out]
      have h : World.ownsRow _ _ _ _ _ _ _ := HO.out
      rw [natC_ints] at h
      exact Ints.of_owns h (by rw [show (intsOf (zigPre 8 15)).length = (zigPre 8 15).length by simp [intsOf]]; have := zig_len; omega)
theorem order_no (n : Int) (w : World) (h1 : n ≠ 4) (h2 : n ≠ 8) : Calls Tryd.prog 53 #[.int .i64 n] w fun e w' => ∃ u, e = .returned u ∧ Ext w w' ∧ Ints w' u (ordV n) := by
  have HR : Hid (ordV n = []) := by show _ = _; unfold ordV; rw [if_neg h1, if_neg h2]
  have b1 : (n != 4) = true := by simpa using h1
  have b2 : (n != 8) = true := by simpa using h2
  clear h1 h2
  go_enter Tryd.func53, Tryd.ntmps53
  go_wp2
  go_ret
  exact ⟨_, rfl, Ext.refl w, by rw [HR.out]; exact Ints.nil _⟩
theorem order_any (n : Int) (w : World) : Calls Tryd.prog 53 #[.int .i64 n] w fun e w' => ∃ u, e = .returned u ∧ Ext w w' ∧ Ints w' u (ordV n) := by
  by_cases h1 : n = 4
  · subst h1; exact order_4 w
  · by_cases h2 : n = 8
    · subst h2; exact order_8 w
    · exact order_no n w h1 h2
end Go.Proofs.YtkealkjijfbdoaaDoor
