/- alloc.Caps: its contract over this seat's translation. -/
import Derived.Test.YtbmknmenaaanaaaDoorVAll
import Derived.Test.YtbmknmenaaanaaaDoorAMath
namespace Go.Proofs.YtbmknmenaaanaaaDoor
set_option linter.unusedVariables false
set_option linter.unusedSimpArgs false
open Go.RowKit Go.Extern.Stop Go.Stop Go.Extern

def totalOf (c : Cfg) (n : Nat) : Int := c.fill + ((n : Int) - 1) * c.rate
def capsOf (c : Cfg) (zs : List Int) : List Int := capsL c.rate c.room (totalOf c zs.length) zs.sum c.fill zs
open Classical in
noncomputable def capAns (c : Cfg) (zs : List Int) : Option (List (ByteArray × Int) × Int) :=
  if Good c then (if Wts zs then none else some ([], 3)) else some ([], 11)
theorem capAns_none {c : Cfg} {zs : List Int} (h : capAns c zs = none) : Good c ∧ Wts zs := by
  unfold capAns at h
  split at h
  · rename_i g
    split at h
    · rename_i s
      exact ⟨g, s⟩
    · cases h
  · cases h

theorem caps_noC (c : Cfg) (v : Value) (w : World) (h : ¬ Good c) :
    Calls Tryd.prog 28 #[.agg #[.int .i64 c.qmin, .int .i64 c.qmax, .int .i64 c.reach, .int .i64 c.cut, .int .i64 c.gop, .int .i64 c.rate, .int .i64 c.room, .int .i64 c.fill], v] w fun e w' => e = .returned (.tuple #[.slice none 0 0, .iface 29 (.int .i64 11)]) ∧ Ext w w' := by
  have E1 : Ext w (w.alloc (.cells #[.int .i64 c.qmin, .int .i64 c.qmax, .int .i64 c.reach, .int .i64 c.cut, .int .i64 c.gop, .int .i64 c.rate, .int .i64 c.room, .int .i64 c.fill] 44)) := (Ext.refl w).alloc _
  have H := Lib.hid h
  clear h
  go_enter Tryd.func28, Tryd.ntmps28
  go_wp2_with (go_at_call 55; refine (may_no c _ H.out).mono ?_; rintro e w' ⟨rfl, hx⟩)
  go_ret2
  exact ⟨rfl, E1.trans hx⟩
theorem caps_noL (c : Cfg) (n : Nat) (v : Value) (w : World) (h : Good c) (hv : ∃ a cap, v = .slice a n cap) (hl : n = 0 ∨ 16 < n) :
    Calls Tryd.prog 28 #[.agg #[.int .i64 c.qmin, .int .i64 c.qmax, .int .i64 c.reach, .int .i64 c.cut, .int .i64 c.gop, .int .i64 c.rate, .int .i64 c.room, .int .i64 c.fill], v] w fun e w' => e = .returned (.tuple #[.slice none 0 0, .iface 29 (.int .i64 3)]) ∧ Ext w w' := by
  have E1 : Ext w (w.alloc (.cells #[.int .i64 c.qmin, .int .i64 c.qmax, .int .i64 c.reach, .int .i64 c.cut, .int .i64 c.gop, .int .i64 c.rate, .int .i64 c.room, .int .i64 c.fill] 44)) := (Ext.refl w).alloc _
  have H := Lib.hid h
  clear h
  obtain ⟨a, cap, rfl⟩ := hv
  rcases hl with rfl | hl
  · go_enter Tryd.func28, Tryd.ntmps28
    go_wp2_with (go_at_call 55; refine (may_yes c _ H.out).mono ?_; rintro e w' ⟨rfl, hx⟩)
    go_ret2
    exact ⟨rfl, E1.trans hx⟩
  · have h0 : n ≠ 0 := by omega
    go_enter Tryd.func28, Tryd.ntmps28
    go_wp2_with (go_at_call 55; refine (may_yes c _ H.out).mono ?_; rintro e w' ⟨rfl, hx⟩)
    go_ret2
    exact ⟨rfl, E1.trans hx⟩

set_option maxHeartbeats 1000000 in
set_option maxRecDepth 20000 in
theorem caps_any (c : Cfg) (zs : List Int) (v : Value) (w : World) (h : Good c) (ha : Ints w v zs) (hl0 : 1 ≤ zs.length) (hl : zs.length ≤ 16) (an : Option (List (ByteArray × Int) × Int)) (han : Hid (an = if within 1 16777216 zs then none else some ([], 3))) (ys : List Int) (hys : Hid (ys = capsOf c zs)) :
    Calls Tryd.prog 28 #[.agg #[.int .i64 c.qmin, .int .i64 c.qmax, .int .i64 c.reach, .int .i64 c.cut, .int .i64 c.gop, .int .i64 c.rate, .int .i64 c.room, .int .i64 c.fill], v] w (AnsPost w an ys) := by
  have E1 : Ext w (w.alloc (.cells #[.int .i64 c.qmin, .int .i64 c.qmax, .int .i64 c.reach, .int .i64 c.cut, .int .i64 c.gop, .int .i64 c.rate, .int .i64 c.room, .int .i64 c.fill] 44)) := (Ext.refl w).alloc _
  have H := Lib.hid h
  obtain ⟨_, _, _, _, _, _, _, _, _, g1, g2, g3, g4, g5⟩ := h
  obtain ⟨i0, hi, hz0, hz1, hz2⟩ := info_parts infoInt
  obtain ⟨g, off, cap, rfl, c1, c2⟩ := ha.addr (by omega)
  obtain ⟨n, hn⟩ : ∃ n, n = zs.length := ⟨_, rfl⟩
  rw [← hn] at ha hl0 hl c1 ⊢
  have HN := Lib.hid hn
  unfold maxLen at c2
  clear hn
  have hm0 : 0 ≤ ((n : Int) - 1) * c.rate := Int.mul_nonneg (by omega) (by omega)
  have hm1 : ((n : Int) - 1) * c.rate ≤ 15 * 16384 := Int.mul_le_mul (by omega) (by omega) (by omega) (by omega)
  have n0 : ((n : Int) == 0) = false := by simp; omega
  go_enter Tryd.func28, Tryd.ntmps28
  go_wp2_with fail
  refine (may_yes c _ H.out).mono ?_; rintro e w1 ⟨rfl, hx⟩
  have k5 := hx.cell (p := ⟨w.heap.size, 5, none⟩) (v := .int .i64 c.rate) (by simp)
  have k6 := hx.cell (p := ⟨w.heap.size, 6, none⟩) (v := .int .i64 c.room) (by simp)
  have k7 := hx.cell (p := ⟨w.heap.size, 7, none⟩) (v := .int .i64 c.fill) (by simp)
  have hE := E1.trans hx
  have ha1 := ha.ext hE
  have HA0 := Lib.hid ha
  have hsz := hx.size
  clear E1 hx ha
  go_wp2
  go_loop [6, 30] (fun sv iv => ∃ (k : Nat) (S : Int), k ≤ n ∧ iv = .int .i64 k ∧ sv = .int .i64 S ∧ (0 ≤ S ∧ S ≤ 16777216 * k) ∧ Hid (S = (zs.take k).sum) ∧ Hid (∀ j x, j < k → zs[j]? = some x → 1 ≤ x ∧ x ≤ 16777216)) (fun _ iv => n - (intOf iv).toNat)
  case atStart => exact ⟨0, 0, Nat.zero_le _, rfl, rfl, by decide, rfl, fun j _ hj => absurd hj (Nat.not_lt_zero _)⟩
  case round =>
    obtain ⟨k, S, hk, rfl, rfl, hS, HS, HJ⟩ := hrel
    by_cases hlt : k < n
    · obtain ⟨x, hx⟩ : ∃ x, zs[k]? = some x := ⟨_, List.getElem?_eq_getElem (by rw [← HN.out]; exact hlt)⟩
      have cx := ha1.at hx
      have HX := Lib.hid hx
      clear hx
      by_cases h1 : x < 1
      · go_wp2
        go_ret2
        have hw : ¬ within 1 16777216 zs := fun hw => by have := (hw.at HX.out).1; omega
        refine ⟨_, _, rfl, hE, ?_⟩
        rw [han.out, if_neg hw]
        exact ⟨rfl, rfl⟩
      · by_cases h2 : 16777216 < x
        · go_wp2
          go_ret2
          have hw : ¬ within 1 16777216 zs := fun hw => by have := (hw.at HX.out).2; omega
          refine ⟨_, _, rfl, hE, ?_⟩
          rw [han.out, if_neg hw]
          exact ⟨rfl, rfl⟩
        · go_wp2
          go_round
          case rel => exact ⟨k + 1, S + x, by omega, by go_num, rfl, by omega, (by show _ = _; rw [take_of_get HX.out, List.sum_append, ← HS.out]; simp), fun j y hj hy => by
            by_cases hjk : j = k
            · subst hjk
              have : x = y := Option.some.inj (HX.out.symm.trans hy)
              omega
            · exact HJ.out j y (by omega) hy⟩
          case measure => simp [intOf]; omega
    · have hkn : n = k := by omega
      subst hkn
      have hw : within 1 16777216 zs := within_of_gets fun j x hj hx => HJ.out j x (by rw [← HN.out] at hj; omega) hx
      have hS1 : S = zs.sum := by rw [HS.out, List.take_of_length_le (by rw [← HN.out]; exact Nat.le_refl _)]
      have hS0 : 1 ≤ S := by have := sum_pos (by rw [← HN.out]; omega) hw; omega
      have hS9 : (S == 0) = false := by simp; omega
      have HS1 := Lib.hid hS1
      have HW := Lib.hid hw
      clear hS1 hw HJ HS
      obtain ⟨T, hT⟩ : ∃ T, T = c.fill + ((n : Int) - 1) * c.rate := ⟨_, rfl⟩
      have hT0 : 0 ≤ T ∧ T ≤ 262144 := by omega
      have HT := Lib.hid hT
      go_wp2_with (at_make; refine wpList_make_own _ rfl _ _ 22 rfl (w.heap.size + 1) 3 i0 (.int .i64 0) 1 Tryd.underlying22 hi hz0 hz1 .i64 .i64 _ n rfl rfl (by omega) (by rw [hz2]; omega) (by unfold maxLen; omega) (by simp at hsz; omega) ?_; intro w2 hown hgrow; have m5 := hgrow.cell k5 (by simp); have m6 := hgrow.cell k6 (by simp); have m7 := hgrow.cell k7 (by simp))
      rw [← HT.out]
      have hE2 : Ext w w2 := Below.grown hE hgrow hE.size (fun k hk => by cases hk)
      have HY : Hid (ys = capsL c.rate c.room T S c.fill zs) := by
        show _ = _
        rw [hys.out, capsOf, totalOf, ← HN.out, ← HT.out, HS1.out]
      clear k5 k6 k7 hE hgrow m7 hT hS ha1 hm0 hm1
      go_loopw [10, 11, 61] (fun cv lv iv wr => ∃ (k : Nat) (ct : Int), k ≤ n ∧ iv = .int .i64 k ∧ cv = .int .i64 ct ∧ (8 ≤ ct ∧ ct ≤ c.room) ∧ Hid (ct = capF c.rate c.room T S c.fill (zs.take k)) ∧ wr.ownsRow (w.heap.size + 1) 3 1 lv k ((capsL c.rate c.room T S c.fill (zs.take k)).map (Value.int .i64)) ∧ Ext w wr ∧ wr.cell? ⟨w.heap.size, 5, none⟩ = some (.int .i64 c.rate) ∧ wr.cell? ⟨w.heap.size, 6, none⟩ = some (.int .i64 c.room)) (fun _ _ iv _ => n - (intOf iv).toNat)
      case atStart => exact ⟨0, c.fill, Nat.zero_le _, rfl, rfl, by omega, rfl, hown, hE2, m5, m6⟩
      case round =>
        obtain ⟨k, ct, hk, rfl, rfl, hct, HC, hown, hE, m5, m6⟩ := hrel
        by_cases hlt : k < n
        · obtain ⟨x, hx⟩ : ∃ x, zs[k]? = some x := ⟨_, List.getElem?_eq_getElem (by rw [← HN.out]; exact hlt)⟩
          obtain ⟨x0, x1⟩ := HW.out.at hx
          have cx := hE.cell (HA0.out.at hx)
          have hp0 : 0 ≤ T * x := Int.mul_nonneg (by omega) (by omega)
          have hp1 : T * x ≤ 262144 * 16777216 := Int.mul_le_mul (by omega) (by omega) (by omega) (by omega)
          have hd0 : 0 ≤ T * x / S := Int.ediv_nonneg hp0 (by omega)
          have hd1 : T * x / S ≤ T * x := Int.ediv_le_self _ hp0
          have hsz : w.heap.size < wr.heap.size := Ext.lt m5
          have HNX := Lib.hid (show ∀ kv v' (w3 : World), kv = capk T S ct x → w3.ownsRow (w.heap.size + 1) 3 1 v' (k + 1) ((capsL c.rate c.room T S c.fill (zs.take k)).map (Value.int .i64) ++ [.int .i64 kv]) →
              w3.ownsRow (w.heap.size + 1) 3 1 v' (k + 1) ((capsL c.rate c.room T S c.fill (zs.take (k + 1))).map (Value.int .i64)) from fun kv v' w3 hkv h3 => by
            rw [take_of_get hx, capsL_snoc, List.map_append, ← HC.out, ← hkv]
            exact h3)
          have HNC : Hid (capn c.rate c.room ct (capk T S ct x) = capF c.rate c.room T S c.fill (zs.take (k + 1))) := by
            show _ = _
            rw [take_of_get hx, capF_snoc, ← HC.out]
          have hkb := capk_bounds (total := T) (sum := S) (w := x) hct.1
          have hnb := capn_bounds (rate := c.rate) (room := c.room) g1 g2 hkb.2
          obtain ⟨Q, hQ⟩ : ∃ Q, T * x / S = Q := ⟨_, rfl⟩
          have HCK : Hid (capk T S ct x = max 8 (min Q ct)) := by show _ = _; unfold capk; rw [hQ]
          rw [hQ] at hd0 hd1
          have HNB := Lib.hid hnb
          clear hx hkb hnb
          have ways : (ct < Q ∧ 8 < ct ∨ ct < Q ∧ ¬ 8 < ct ∧ ct = 8) ∨ (¬ ct < Q ∧ 8 < Q ∨ ¬ ct < Q ∧ ¬ 8 < Q) := by omega
          have fin : ∀ kv, kv = max 8 (min Q ct) → ∀ v' (w3 : World), w3.ownsRow (w.heap.size + 1) 3 1 v' (k + 1) ((capsL c.rate c.room T S c.fill (zs.take k)).map (Value.int .i64) ++ [.int .i64 kv]) → Below (w.heap.size + 1) wr w3 →
              w3.ownsRow (w.heap.size + 1) 3 1 v' (k + 1) ((capsL c.rate c.room T S c.fill (zs.take (k + 1))).map (Value.int .i64)) ∧ Ext w w3 ∧ w3.cell? ⟨w.heap.size, 5, none⟩ = some (.int .i64 c.rate) ∧ w3.cell? ⟨w.heap.size, 6, none⟩ = some (.int .i64 c.room) := fun kv hkv v' w3 h1 h2 =>
            ⟨HNX.out kv v' w3 (by rw [HCK.out, hkv]) h1, hE.of_below h2 (by omega), Below.cellv h2 m5 (Nat.lt_succ_self _), Below.cellv h2 m6 (Nat.lt_succ_self _)⟩
          have FIN := Lib.hid fin
          have HC' := HC
          clear fin
          rcases ways with (⟨q1, q2⟩ | ⟨q1, q2, q3⟩) | (⟨q1, q2⟩ | ⟨q1, q2⟩)
          · have hkv : ct = max 8 (min Q ct) := by omega
            have HKV : Hid (capk T S ct x = ct) := by show _ = _; rw [HCK.out, ← hkv]
            have HK2 := Lib.hid hkv
            clear hkv
            by_cases hr : ct - ct + c.rate < c.room
            all_goals
              go_wp2_with (at_builtin; refine push_int rfl _ _ 22 rfl Tryd.underlying22 _ k _ _ rfl hown rfl hsz (by omega) ?_; intro v' w3 h1 h2; obtain ⟨h3, hE3, n5, n6⟩ := FIN.out _ HK2.out _ _ h1 h2; clear h1 h2)
              go_roundw
              case rel => exact ⟨k + 1, _, by omega, by go_num, rfl, by omega, (by show _ = _; rw [← HNC.out, HKV.out]; unfold capn; omega), h3, hE3, n5, n6⟩
              case measure => simp [intOf]; omega
          · have hkv : 8 = max 8 (min Q ct) := by omega
            have HKV : Hid (capk T S ct x = 8) := by show _ = _; rw [HCK.out, ← hkv]
            have HK2 := Lib.hid hkv
            clear hkv
            by_cases hr : ct - 8 + c.rate < c.room
            all_goals
              go_wp2_with (at_builtin; refine push_int rfl _ _ 22 rfl Tryd.underlying22 _ k _ _ rfl hown rfl hsz (by omega) ?_; intro v' w3 h1 h2; obtain ⟨h3, hE3, n5, n6⟩ := FIN.out _ HK2.out _ _ h1 h2; clear h1 h2)
              go_roundw
              case rel => exact ⟨k + 1, _, by omega, by go_num, rfl, by omega, (by show _ = _; rw [← HNC.out, HKV.out]; unfold capn; omega), h3, hE3, n5, n6⟩
              case measure => simp [intOf]; omega
          · have hkv : Q = max 8 (min Q ct) := by omega
            have HKV : Hid (capk T S ct x = Q) := by show _ = _; rw [HCK.out, ← hkv]
            have HK2 := Lib.hid hkv
            clear hkv
            by_cases hr : ct - Q + c.rate < c.room
            all_goals
              go_wp2_with (at_builtin; refine push_int rfl _ _ 22 rfl Tryd.underlying22 _ k _ _ rfl hown rfl hsz (by omega) ?_; intro v' w3 h1 h2; obtain ⟨h3, hE3, n5, n6⟩ := FIN.out _ HK2.out _ _ h1 h2; clear h1 h2)
              go_roundw
              case rel => exact ⟨k + 1, _, by omega, by go_num, rfl, by omega, (by show _ = _; rw [← HNC.out, HKV.out]; unfold capn; omega), h3, hE3, n5, n6⟩
              case measure => simp [intOf]; omega
          · have hkv : 8 = max 8 (min Q ct) := by omega
            have HKV : Hid (capk T S ct x = 8) := by show _ = _; rw [HCK.out, ← hkv]
            have HK2 := Lib.hid hkv
            clear hkv
            by_cases hr : ct - 8 + c.rate < c.room
            all_goals
              go_wp2_with (at_builtin; refine push_int rfl _ _ 22 rfl Tryd.underlying22 _ k _ _ rfl hown rfl hsz (by omega) ?_; intro v' w3 h1 h2; obtain ⟨h3, hE3, n5, n6⟩ := FIN.out _ HK2.out _ _ h1 h2; clear h1 h2)
              go_roundw
              case rel => exact ⟨k + 1, _, by omega, by go_num, rfl, by omega, (by show _ = _; rw [← HNC.out, HKV.out]; unfold capn; omega), h3, hE3, n5, n6⟩
              case measure => simp [intOf]; omega
        · go_wp2
          go_ret2
          have hkn : n = k := by omega
          refine ⟨_, _, rfl, hE, ?_⟩
          rw [han.out, if_pos HW.out, HY.out]
          rw [List.take_of_length_le (by rw [← HN.out]; omega)] at hown
          exact ⟨Ints.of_owns hown (by rw [capsL_length, ← HN.out]; omega), rfl⟩
end Go.Proofs.YtbmknmenaaanaaaDoor
