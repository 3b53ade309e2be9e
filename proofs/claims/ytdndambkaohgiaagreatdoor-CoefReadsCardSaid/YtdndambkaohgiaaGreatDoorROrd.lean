/- kinref7.Order: its contract over this seat's translation. -/
import Derived.Test.YtdndambkaohgiaaGreatDoorZb
namespace Go.Proofs.YtdndambkaohgiaaGreatDoor
set_option linter.unusedVariables false
set_option linter.unusedSimpArgs false
open Go.RowKit Go.Extern.Stop Go.Stop Go.Extern

theorem zigRow_len (n s k : Nat) : (zigRow n s k).length ≤ k := by
  unfold zigRow
  rw [List.length_map]
  have := List.length_filter_le (fun i => decide (zigY s i < n ∧ s - zigY s i < n)) (List.range k)
  rw [List.length_range] at this
  exact this
set_option maxHeartbeats 8000000 in
set_option maxRecDepth 20000 in
theorem rordown_4 (w : World) : Calls Tryz.prog 48 #[.int .i64 4] w fun e w' => ∃ u, e = .returned u ∧ Ext w w' ∧ w'.ownsRow w.heap.size 3 1 u (zigPre 4 7).length (natC (zigPre 4 7)) := by
  go_enter Tryz.func48, Tryz.ntmps48
  go_wp2
  go_loopw [3, 4] (fun v sv wr => ∃ s : Nat, s ≤ 7 ∧ sv = .int .i64 s ∧ Hid (wr.ownsRow w.heap.size 3 1 v (zigPre 4 s).length (natC (zigPre 4 s))) ∧ Ext w wr) (fun _ sv _ => 7 - (intOf sv).toNat)
  case atStart => exact ⟨0, Nat.zero_le _, rfl, World.ownsRow_nil _ _ _ _, Ext.refl _⟩
  case round =>
    obtain ⟨s, hs, rfl, HO, hE⟩ := hrel
    by_cases hlt : s < 7
    · have q1 := (zigPre_len4 s hlt).1
      have t1 : decide ((s : Int) ≤ 6) = true := decide_eq_true (by omega)
      go_wp2
      go_loopw [3, 5] (fun v iv wr => ∃ i : Nat, i ≤ s + 1 ∧ iv = .int .i64 i ∧ Hid (wr.ownsRow w.heap.size 3 1 v (zigPre 4 s ++ zigRow 4 s i).length (natC (zigPre 4 s ++ zigRow 4 s i))) ∧ Ext w wr) (fun _ iv _ => s + 1 - (intOf iv).toNat)
      case atStart => exact ⟨0, Nat.zero_le _, rfl, by
        show World.ownsRow _ _ _ _ _ _ _
        rw [show zigRow 4 s 0 = [] from rfl, List.append_nil]
        exact HO.out, hE⟩
      case round =>
        clear HO hE
        obtain ⟨i, hi, rfl, HO, hE⟩ := hrel
        have hB := hE.size
        have hrl := zigRow_len 4 s i
        have hll : (zigPre 4 s ++ zigRow 4 s i).length ≤ 1000 := by rw [List.length_append]; omega
        by_cases hik : i ≤ s
        · by_cases hp : s % 2 = 0
          · have b2 : ((s : Int) % 2 == 0) = true := by simp; omega
            have hy : zigY s i = s - i := by unfold zigY; rw [if_pos hp]
            by_cases c1 : s - i < 4
            · by_cases c2 : i < 4
              · have HS : Hid (zigRow 4 s (i + 1) = zigRow 4 s i ++ [(s - i) * 4 + s - (s - i)]) := by show _ = _; rw [zigRow_succ, hy, if_pos (by omega)]
                have HA : Hid ((((s - i) * 4 + s - (s - i) : Nat) : Int) = ((s : Int) - i) * 4 + s - (s - i)) := by show _ = _; omega
                have t2 : decide ((s : Int) - i < 4) = true := decide_eq_true (by omega)
                have t3 : decide ((s : Int) - (s - i) < 4) = true := decide_eq_true (by omega)
                clear hp hy
                go_wp2_with (at_builtin; refine push_int rfl _ _ 29 rfl Tryz.underlying29 _ _ _ _ rfl HO.out (by show Value.slice (some ⟨wr.heap.size, 0, none⟩) 1 1 = _; simp) hB (by omega) ?_; intro v' w7 h1 h2)
                have HO7 := Lib.hid h1
                have hE7 := hE.of_below h2 (Nat.le_refl _)
                clear h1 h2 HO hE
                go_wp2
                go_roundw
                case rel => exact ⟨i + 1, by omega, by go_num, by
                  show World.ownsRow _ _ _ _ _ _ _
                  rw [HS.out, ← List.append_assoc, natC_append (_ ++ _), List.length_append]
                  have h : World.ownsRow _ _ _ _ _ _ _ := HO7.out
                  rw [← HA.out] at h
                  exact h, hE7⟩
                case measure => simp [intOf]; omega
              · have HS : Hid (zigRow 4 s (i + 1) = zigRow 4 s i) := by show _ = _; rw [zigRow_succ, hy, if_neg (by omega), List.append_nil]
                have t2 : decide ((s : Int) - i < 4) = true := decide_eq_true (by omega)
                have t3 : decide ((s : Int) - (s - i) < 4) = false := decide_eq_false (by omega)
                clear hp hy
                go_wp2
                go_roundw
                case rel => exact ⟨i + 1, by omega, by go_num, by
                  show World.ownsRow _ _ _ _ _ _ _
                  rw [HS.out]
                  exact HO.out, hE⟩
                case measure => simp [intOf]; omega
            · have HS : Hid (zigRow 4 s (i + 1) = zigRow 4 s i) := by show _ = _; rw [zigRow_succ, hy, if_neg (by omega), List.append_nil]
              have t2 : decide ((s : Int) - i < 4) = false := decide_eq_false (by omega)
              clear hp hy
              go_wp2
              go_roundw
              case rel => exact ⟨i + 1, by omega, by go_num, by
                show World.ownsRow _ _ _ _ _ _ _
                rw [HS.out]
                exact HO.out, hE⟩
              case measure => simp [intOf]; omega
          · have b2 : ((s : Int) % 2 == 0) = false := by simp; omega
            have hy : zigY s i = i := by unfold zigY; rw [if_neg hp]
            by_cases c1 : i < 4
            · by_cases c2 : s - i < 4
              · have HS : Hid (zigRow 4 s (i + 1) = zigRow 4 s i ++ [i * 4 + s - i]) := by show _ = _; rw [zigRow_succ, hy, if_pos (by omega)]
                have HA : Hid (((i * 4 + s - i : Nat) : Int) = (i : Int) * 4 + s - i) := by show _ = _; omega
                have t2 : decide ((i : Int) < 4) = true := decide_eq_true (by omega)
                have t3 : decide ((s : Int) - i < 4) = true := decide_eq_true (by omega)
                clear hp hy
                go_wp2_with (at_builtin; refine push_int rfl _ _ 29 rfl Tryz.underlying29 _ _ _ _ rfl HO.out (by show Value.slice (some ⟨wr.heap.size, 0, none⟩) 1 1 = _; simp) hB (by omega) ?_; intro v' w7 h1 h2)
                have HO7 := Lib.hid h1
                have hE7 := hE.of_below h2 (Nat.le_refl _)
                clear h1 h2 HO hE
                go_wp2
                go_roundw
                case rel => exact ⟨i + 1, by omega, by go_num, by
                  show World.ownsRow _ _ _ _ _ _ _
                  rw [HS.out, ← List.append_assoc, natC_append (_ ++ _), List.length_append]
                  have h : World.ownsRow _ _ _ _ _ _ _ := HO7.out
                  rw [← HA.out] at h
                  exact h, hE7⟩
                case measure => simp [intOf]; omega
              · have HS : Hid (zigRow 4 s (i + 1) = zigRow 4 s i) := by show _ = _; rw [zigRow_succ, hy, if_neg (by omega), List.append_nil]
                have t2 : decide ((i : Int) < 4) = true := decide_eq_true (by omega)
                have t3 : decide ((s : Int) - i < 4) = false := decide_eq_false (by omega)
                clear hp hy
                go_wp2
                go_roundw
                case rel => exact ⟨i + 1, by omega, by go_num, by
                  show World.ownsRow _ _ _ _ _ _ _
                  rw [HS.out]
                  exact HO.out, hE⟩
                case measure => simp [intOf]; omega
            · have HS : Hid (zigRow 4 s (i + 1) = zigRow 4 s i) := by show _ = _; rw [zigRow_succ, hy, if_neg (by omega), List.append_nil]
              have t2 : decide ((i : Int) < 4) = false := decide_eq_false (by omega)
              clear hp hy
              go_wp2
              go_roundw
              case rel => exact ⟨i + 1, by omega, by go_num, by
                show World.ownsRow _ _ _ _ _ _ _
                rw [HS.out]
                exact HO.out, hE⟩
              case measure => simp [intOf]; omega
        · obtain rfl : i = s + 1 := by omega
          have e : zigPre 4 (s + 1) = zigPre 4 s ++ zigRow 4 s (s + 1) := by rw [zigPre_succ, zig_same4 s hlt]
          have HE : Hid (zigPre 4 s ++ zigRow 4 s (s + 1) = zigPre 4 (s + 1)) := e.symm
          clear e
          go_wp2
          go_roundw
          case rel => exact ⟨s + 1, by omega, by go_num, by
            show World.ownsRow _ _ _ _ _ _ _
            rw [← HE.out]
            exact HO.out, hE⟩
          case measure => simp [intOf]; omega
    · obtain rfl : s = 7 := by omega
      go_wp2
      go_ret
      exact ⟨_, rfl, hE, HO.out⟩
theorem rorder_4 (w : World) : Calls Tryz.prog 48 #[.int .i64 4] w fun e w' => ∃ u, e = .returned u ∧ Ext w w' ∧ Ints w' u (ordV 4) := by
  refine (rordown_4 w).mono ?_
  rintro e w' ⟨u, rfl, hx, h⟩
  refine ⟨u, rfl, hx, ?_⟩
  rw [show ordV 4 = intsOf (zigPre 4 7) from rfl]
  rw [natC_ints] at h
  exact Ints.of_owns h (by rw [show (intsOf (zigPre 4 7)).length = (zigPre 4 7).length by simp [intsOf]]; have := zig_len; omega)
set_option maxHeartbeats 8000000 in
set_option maxRecDepth 20000 in
theorem rordown_8 (w : World) : Calls Tryz.prog 48 #[.int .i64 8] w fun e w' => ∃ u, e = .returned u ∧ Ext w w' ∧ w'.ownsRow w.heap.size 3 1 u (zigPre 8 15).length (natC (zigPre 8 15)) := by
  go_enter Tryz.func48, Tryz.ntmps48
  go_wp2
  go_loopw [3, 4] (fun v sv wr => ∃ s : Nat, s ≤ 15 ∧ sv = .int .i64 s ∧ Hid (wr.ownsRow w.heap.size 3 1 v (zigPre 8 s).length (natC (zigPre 8 s))) ∧ Ext w wr) (fun _ sv _ => 15 - (intOf sv).toNat)
  case atStart => exact ⟨0, Nat.zero_le _, rfl, World.ownsRow_nil _ _ _ _, Ext.refl _⟩
  case round =>
    obtain ⟨s, hs, rfl, HO, hE⟩ := hrel
    by_cases hlt : s < 15
    · have q1 := (zigPre_len8 s hlt).1
      have t1 : decide ((s : Int) ≤ 14) = true := decide_eq_true (by omega)
      go_wp2
      go_loopw [3, 5] (fun v iv wr => ∃ i : Nat, i ≤ s + 1 ∧ iv = .int .i64 i ∧ Hid (wr.ownsRow w.heap.size 3 1 v (zigPre 8 s ++ zigRow 8 s i).length (natC (zigPre 8 s ++ zigRow 8 s i))) ∧ Ext w wr) (fun _ iv _ => s + 1 - (intOf iv).toNat)
      case atStart => exact ⟨0, Nat.zero_le _, rfl, by
        show World.ownsRow _ _ _ _ _ _ _
        rw [show zigRow 8 s 0 = [] from rfl, List.append_nil]
        exact HO.out, hE⟩
      case round =>
        clear HO hE
        obtain ⟨i, hi, rfl, HO, hE⟩ := hrel
        have hB := hE.size
        have hrl := zigRow_len 8 s i
        have hll : (zigPre 8 s ++ zigRow 8 s i).length ≤ 1000 := by rw [List.length_append]; omega
        by_cases hik : i ≤ s
        · by_cases hp : s % 2 = 0
          · have b2 : ((s : Int) % 2 == 0) = true := by simp; omega
            have hy : zigY s i = s - i := by unfold zigY; rw [if_pos hp]
            by_cases c1 : s - i < 8
            · by_cases c2 : i < 8
              · have HS : Hid (zigRow 8 s (i + 1) = zigRow 8 s i ++ [(s - i) * 8 + s - (s - i)]) := by show _ = _; rw [zigRow_succ, hy, if_pos (by omega)]
                have HA : Hid ((((s - i) * 8 + s - (s - i) : Nat) : Int) = ((s : Int) - i) * 8 + s - (s - i)) := by show _ = _; omega
                have t2 : decide ((s : Int) - i < 8) = true := decide_eq_true (by omega)
                have t3 : decide ((s : Int) - (s - i) < 8) = true := decide_eq_true (by omega)
                clear hp hy
                go_wp2_with (at_builtin; refine push_int rfl _ _ 29 rfl Tryz.underlying29 _ _ _ _ rfl HO.out (by show Value.slice (some ⟨wr.heap.size, 0, none⟩) 1 1 = _; simp) hB (by omega) ?_; intro v' w7 h1 h2)
                have HO7 := Lib.hid h1
                have hE7 := hE.of_below h2 (Nat.le_refl _)
                clear h1 h2 HO hE
                go_wp2
                go_roundw
                case rel => exact ⟨i + 1, by omega, by go_num, by
                  show World.ownsRow _ _ _ _ _ _ _
                  rw [HS.out, ← List.append_assoc, natC_append (_ ++ _), List.length_append]
                  have h : World.ownsRow _ _ _ _ _ _ _ := HO7.out
                  rw [← HA.out] at h
                  exact h, hE7⟩
                case measure => simp [intOf]; omega
              · have HS : Hid (zigRow 8 s (i + 1) = zigRow 8 s i) := by show _ = _; rw [zigRow_succ, hy, if_neg (by omega), List.append_nil]
                have t2 : decide ((s : Int) - i < 8) = true := decide_eq_true (by omega)
                have t3 : decide ((s : Int) - (s - i) < 8) = false := decide_eq_false (by omega)
                clear hp hy
                go_wp2
                go_roundw
                case rel => exact ⟨i + 1, by omega, by go_num, by
                  show World.ownsRow _ _ _ _ _ _ _
                  rw [HS.out]
                  exact HO.out, hE⟩
                case measure => simp [intOf]; omega
            · have HS : Hid (zigRow 8 s (i + 1) = zigRow 8 s i) := by show _ = _; rw [zigRow_succ, hy, if_neg (by omega), List.append_nil]
              have t2 : decide ((s : Int) - i < 8) = false := decide_eq_false (by omega)
              clear hp hy
              go_wp2
              go_roundw
              case rel => exact ⟨i + 1, by omega, by go_num, by
                show World.ownsRow _ _ _ _ _ _ _
                rw [HS.out]
                exact HO.out, hE⟩
              case measure => simp [intOf]; omega
          · have b2 : ((s : Int) % 2 == 0) = false := by simp; omega
            have hy : zigY s i = i := by unfold zigY; rw [if_neg hp]
            by_cases c1 : i < 8
            · by_cases c2 : s - i < 8
              · have HS : Hid (zigRow 8 s (i + 1) = zigRow 8 s i ++ [i * 8 + s - i]) := by show _ = _; rw [zigRow_succ, hy, if_pos (by omega)]
                have HA : Hid (((i * 8 + s - i : Nat) : Int) = (i : Int) * 8 + s - i) := by show _ = _; omega
                have t2 : decide ((i : Int) < 8) = true := decide_eq_true (by omega)
                have t3 : decide ((s : Int) - i < 8) = true := decide_eq_true (by omega)
                clear hp hy
                go_wp2_with (at_builtin; refine push_int rfl _ _ 29 rfl Tryz.underlying29 _ _ _ _ rfl HO.out (by show Value.slice (some ⟨wr.heap.size, 0, none⟩) 1 1 = _; simp) hB (by omega) ?_; intro v' w7 h1 h2)
                have HO7 := Lib.hid h1
                have hE7 := hE.of_below h2 (Nat.le_refl _)
                clear h1 h2 HO hE
                go_wp2
                go_roundw
                case rel => exact ⟨i + 1, by omega, by go_num, by
                  show World.ownsRow _ _ _ _ _ _ _
                  rw [HS.out, ← List.append_assoc, natC_append (_ ++ _), List.length_append]
                  have h : World.ownsRow _ _ _ _ _ _ _ := HO7.out
                  rw [← HA.out] at h
                  exact h, hE7⟩
                case measure => simp [intOf]; omega
              · have HS : Hid (zigRow 8 s (i + 1) = zigRow 8 s i) := by show _ = _; rw [zigRow_succ, hy, if_neg (by omega), List.append_nil]
                have t2 : decide ((i : Int) < 8) = true := decide_eq_true (by omega)
                have t3 : decide ((s : Int) - i < 8) = false := decide_eq_false (by omega)
                clear hp hy
                go_wp2
                go_roundw
                case rel => exact ⟨i + 1, by omega, by go_num, by
                  show World.ownsRow _ _ _ _ _ _ _
                  rw [HS.out]
                  exact HO.out, hE⟩
                case measure => simp [intOf]; omega
            · have HS : Hid (zigRow 8 s (i + 1) = zigRow 8 s i) := by show _ = _; rw [zigRow_succ, hy, if_neg (by omega), List.append_nil]
              have t2 : decide ((i : Int) < 8) = false := decide_eq_false (by omega)
              clear hp hy
              go_wp2
              go_roundw
              case rel => exact ⟨i + 1, by omega, by go_num, by
                show World.ownsRow _ _ _ _ _ _ _
                rw [HS.out]
                exact HO.out, hE⟩
              case measure => simp [intOf]; omega
        · obtain rfl : i = s + 1 := by omega
          have e : zigPre 8 (s + 1) = zigPre 8 s ++ zigRow 8 s (s + 1) := by rw [zigPre_succ, zig_same8 s hlt]
          have HE : Hid (zigPre 8 s ++ zigRow 8 s (s + 1) = zigPre 8 (s + 1)) := e.symm
          clear e
          go_wp2
          go_roundw
          case rel => exact ⟨s + 1, by omega, by go_num, by
            show World.ownsRow _ _ _ _ _ _ _
            rw [← HE.out]
            exact HO.out, hE⟩
          case measure => simp [intOf]; omega
    · obtain rfl : s = 15 := by omega
      go_wp2
      go_ret
      exact ⟨_, rfl, hE, HO.out⟩
theorem rorder_8 (w : World) : Calls Tryz.prog 48 #[.int .i64 8] w fun e w' => ∃ u, e = .returned u ∧ Ext w w' ∧ Ints w' u (ordV 8) := by
  refine (rordown_8 w).mono ?_
  rintro e w' ⟨u, rfl, hx, h⟩
  refine ⟨u, rfl, hx, ?_⟩
  rw [show ordV 8 = intsOf (zigPre 8 15) from rfl]
  rw [natC_ints] at h
  exact Ints.of_owns h (by rw [show (intsOf (zigPre 8 15)).length = (zigPre 8 15).length by simp [intsOf]]; have := zig_len; omega)
theorem rorder_no (n : Int) (w : World) (h1 : n ≠ 4) (h2 : n ≠ 8) : Calls Tryz.prog 48 #[.int .i64 n] w fun e w' => ∃ u, e = .returned u ∧ Ext w w' ∧ Ints w' u (ordV n) := by
  have HR : Hid (ordV n = []) := by show _ = _; unfold ordV; rw [if_neg h1, if_neg h2]
  have b1 : (n != 4) = true := by simpa using h1
  have b2 : (n != 8) = true := by simpa using h2
  clear h1 h2
  go_enter Tryz.func48, Tryz.ntmps48
  go_wp2
  go_ret
  exact ⟨_, rfl, Ext.refl w, by rw [HR.out]; exact Ints.nil _⟩
theorem rorder_any (n : Int) (w : World) : Calls Tryz.prog 48 #[.int .i64 n] w fun e w' => ∃ u, e = .returned u ∧ Ext w w' ∧ Ints w' u (ordV n) := by
  by_cases h1 : n = 4
  · subst h1; exact rorder_4 w
  · by_cases h2 : n = 8
    · subst h2; exact rorder_8 w
    · exact rorder_no n w h1 h2
end Go.Proofs.YtdndambkaohgiaaGreatDoor
