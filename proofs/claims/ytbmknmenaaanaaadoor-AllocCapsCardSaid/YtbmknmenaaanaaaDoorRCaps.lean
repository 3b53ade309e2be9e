/- kinref18.Caps: its contract over this seat's translation. -/
import Derived.Test.YtbmknmenaaanaaaDoorVAll
import Derived.Test.YtbmknmenaaanaaaDoorAMath
import Derived.Test.YtbmknmenaaanaaaDoorRefMayNo
import Derived.Test.YtbmknmenaaanaaaDoorRes
namespace Go.Proofs.YtbmknmenaaanaaaDoor
set_option linter.unusedVariables false
set_option linter.unusedSimpArgs false
open Go.RowKit Go.Extern.Stop Go.Stop Go.Extern

theorem rmin2 (x y : Int) : ∃ m, (∀ ts ty W, (Builtin.min_ ts ty #[.int .i64 x, .int .i64 y]).run Tryd.prog W = .ok (.int .i64 m) W) ∧ m = min x y := by
  refine ⟨if y < x then y else x, fun ts ty W => by simp [Builtin.min_, Builtin.min2], ?_⟩
  split <;> omega
theorem own_ext' {w w' : World} {base : Nat} {e : TypeId} {size n : Nat} {v : Value} {xs : List Value} (h : w.ownsRow base e size v n xs) (k : Ext w w') : w'.ownsRow base e size v n xs := by
  obtain ⟨hl, h⟩ := h
  refine ⟨hl, ?_⟩
  rcases h with h | ⟨g, cap, cur, rfl, hb, hg, h⟩
  · exact Or.inl h
  · have hlt : g < w.heap.size := by
      rcases Nat.lt_or_ge g w.heap.size with h' | h'
      · exact h'
      · rw [Array.getElem?_eq_none h'] at hg; cases hg
    exact Or.inr ⟨g, cap, cur, rfl, hb, (k.block hlt).trans hg, h⟩

set_option maxRecDepth 20000 in
set_option maxHeartbeats 1000000 in
theorem rcaps_noC (c : Cfg) (n : Nat) (v : Value) (w : World) (h : ¬ Good c) (hv : ∃ a cap, v = .slice a n cap) :
    Calls Tryd.prog 29 #[.agg #[.int .i64 c.qmin, .int .i64 c.qmax, .int .i64 c.reach, .int .i64 c.cut, .int .i64 c.gop, .int .i64 c.rate, .int .i64 c.room, .int .i64 c.fill], v] w fun e w' => e = .returned (.tuple #[.slice none 0 0, .agg #[.int .i64 11, .slice none 0 0]]) ∧ Ext w w' := by
  have E1 : Ext w (w.alloc (.cells #[.int .i64 c.qmin, .int .i64 c.qmax, .int .i64 c.reach, .int .i64 c.cut, .int .i64 c.gop, .int .i64 c.rate, .int .i64 c.room, .int .i64 c.fill] 44)) := (Ext.refl w).alloc _
  have R1 := ResAt.new (w.alloc (.cells #[.int .i64 c.qmin, .int .i64 c.qmax, .int .i64 c.reach, .int .i64 c.cut, .int .i64 c.gop, .int .i64 c.rate, .int .i64 c.room, .int .i64 c.fill] 44))
  have hs1 : (w.alloc (.cells #[.int .i64 c.qmin, .int .i64 c.qmax, .int .i64 c.reach, .int .i64 c.cut, .int .i64 c.gop, .int .i64 c.rate, .int .i64 c.room, .int .i64 c.fill] 44)).heap.size = w.heap.size + 1 := by simp
  rw [hs1] at R1
  have H := Lib.hid h
  clear h
  obtain ⟨a, cap, rfl⟩ := hv
  go_enter Tryd.func29, Tryd.ntmps29
  go_wp2_with fail
  refine (rmay_no c _ H.out).mono ?_; rintro e w1 ⟨rfl, hx1⟩
  have EA : Ext w w1 := (E1.alloc _).trans hx1
  have RA := R1.ext hx1
  clear hx1 E1 R1 hs1
  go_wp2_with fail
  refine (fail_any 11 _).mono ?_; rintro e w9 ⟨rfl, hx9⟩
  have EE : Ext w w9 := EA.trans hx9
  obtain ⟨r0, r1, f0, f1⟩ := RA.ext hx9
  clear RA
  go_wp2
  obtain ⟨e0, e1⟩ := res_cells (c := 11) r0 r1 (.slice none 0 0)
  exact bodyPost_ret (v := .tuple #[.slice none 0 0, .agg #[.int .i64 11, .slice none 0 0]]) (by simp [results, Tryd.results29, go_sem, e0, e1]) rfl ⟨rfl, (EE.setCell (by simp) _).setCell (by simp) _⟩

set_option maxRecDepth 20000 in
set_option maxHeartbeats 1000000 in
theorem rcaps_noL (c : Cfg) (n : Nat) (v : Value) (w : World) (h : Good c) (hv : ∃ a cap, v = .slice a n cap) (hl : n < 1 ∨ ¬ n < 1 ∧ 16 < n) :
    Calls Tryd.prog 29 #[.agg #[.int .i64 c.qmin, .int .i64 c.qmax, .int .i64 c.reach, .int .i64 c.cut, .int .i64 c.gop, .int .i64 c.rate, .int .i64 c.room, .int .i64 c.fill], v] w fun e w' => e = .returned (.tuple #[.slice none 0 0, .agg #[.int .i64 3, .slice none 0 0]]) ∧ Ext w w' := by
  have E1 : Ext w (w.alloc (.cells #[.int .i64 c.qmin, .int .i64 c.qmax, .int .i64 c.reach, .int .i64 c.cut, .int .i64 c.gop, .int .i64 c.rate, .int .i64 c.room, .int .i64 c.fill] 44)) := (Ext.refl w).alloc _
  have R1 := ResAt.new (w.alloc (.cells #[.int .i64 c.qmin, .int .i64 c.qmax, .int .i64 c.reach, .int .i64 c.cut, .int .i64 c.gop, .int .i64 c.rate, .int .i64 c.room, .int .i64 c.fill] 44))
  have hs1 : (w.alloc (.cells #[.int .i64 c.qmin, .int .i64 c.qmax, .int .i64 c.reach, .int .i64 c.cut, .int .i64 c.gop, .int .i64 c.rate, .int .i64 c.room, .int .i64 c.fill] 44)).heap.size = w.heap.size + 1 := by simp
  rw [hs1] at R1
  have H := Lib.hid h
  clear h
  obtain ⟨a, cap, rfl⟩ := hv
  rcases hl with hl | ⟨hl, hl2⟩
  all_goals
    go_enter Tryd.func29, Tryd.ntmps29
    go_wp2_with fail
    refine (rmay_yes c _ H.out).mono ?_; rintro e w1 ⟨rfl, hx1⟩
    have EA : Ext w w1 := (E1.alloc _).trans hx1
    have RA := R1.ext hx1
    clear hx1 E1 R1 hs1
    go_wp2_with fail
    refine (fail_any 3 _).mono ?_; rintro e w9 ⟨rfl, hx9⟩
    have EE : Ext w w9 := EA.trans hx9
    obtain ⟨r0, r1, f0, f1⟩ := RA.ext hx9
    clear RA
    go_wp2
    obtain ⟨e0, e1⟩ := res_cells (c := 3) r0 r1 (.slice none 0 0)
    exact bodyPost_ret (v := .tuple #[.slice none 0 0, .agg #[.int .i64 3, .slice none 0 0]]) (by simp [results, Tryd.results29, go_sem, e0, e1]) rfl ⟨rfl, (EE.setCell (by simp) _).setCell (by simp) _⟩

set_option maxRecDepth 20000 in
set_option maxHeartbeats 1000000 in
theorem rcaps_noW (c : Cfg) (zs : List Int) (n : Nat) (v : Value) (w : World) (h : Good c) (ha : Ints w v zs) (hn : n = zs.length) (hl : 1 ≤ n ∧ n ≤ 16) (hw : ¬ within 1 16777216 zs) :
    Calls Tryd.prog 29 #[.agg #[.int .i64 c.qmin, .int .i64 c.qmax, .int .i64 c.reach, .int .i64 c.cut, .int .i64 c.gop, .int .i64 c.rate, .int .i64 c.room, .int .i64 c.fill], v] w fun e w' => e = .returned (.tuple #[.slice none 0 0, .agg #[.int .i64 3, .slice none 0 0]]) ∧ Ext w w' := by
  have E1 : Ext w (w.alloc (.cells #[.int .i64 c.qmin, .int .i64 c.qmax, .int .i64 c.reach, .int .i64 c.cut, .int .i64 c.gop, .int .i64 c.rate, .int .i64 c.room, .int .i64 c.fill] 44)) := (Ext.refl w).alloc _
  have R1 := ResAt.new (w.alloc (.cells #[.int .i64 c.qmin, .int .i64 c.qmax, .int .i64 c.reach, .int .i64 c.cut, .int .i64 c.gop, .int .i64 c.rate, .int .i64 c.room, .int .i64 c.fill] 44))
  have hs1 : (w.alloc (.cells #[.int .i64 c.qmin, .int .i64 c.qmax, .int .i64 c.reach, .int .i64 c.cut, .int .i64 c.gop, .int .i64 c.rate, .int .i64 c.room, .int .i64 c.fill] 44)).heap.size = w.heap.size + 1 := by simp
  rw [hs1] at R1
  have H := Lib.hid h
  have HW := Lib.hid hw
  clear h hw
  obtain ⟨a, cap, rfl⟩ := ha.form
  rw [← hn] at ha ⊢
  clear hn
  go_enter Tryd.func29, Tryd.ntmps29
  go_wp2_with fail
  refine (rmay_yes c _ H.out).mono ?_; rintro e w1 ⟨rfl, hx1⟩
  have EB : Ext w w1 := (E1.alloc _).trans hx1
  have RB := R1.ext hx1
  clear hx1 E1 R1 hs1
  go_wp2_with fail
  refine (within_any zs _ _ _ _ (ha.ext EB)).mono ?_; rintro e w2 ⟨rfl, hx2⟩
  rw [decide_eq_false HW.out]
  have EA := EB.trans hx2
  have RA := RB.ext hx2
  clear hx2 EB RB
  go_wp2_with fail
  refine (fail_any 3 _).mono ?_; rintro e w9 ⟨rfl, hx9⟩
  have EE : Ext w w9 := EA.trans hx9
  obtain ⟨r0, r1, f0, f1⟩ := RA.ext hx9
  clear RA
  go_wp2
  obtain ⟨e0, e1⟩ := res_cells (c := 3) r0 r1 (.slice none 0 0)
  exact bodyPost_ret (v := .tuple #[.slice none 0 0, .agg #[.int .i64 3, .slice none 0 0]]) (by simp [results, Tryd.results29, go_sem, e0, e1]) rfl ⟨rfl, (EE.setCell (by simp) _).setCell (by simp) _⟩

set_option maxHeartbeats 2000000 in
set_option maxRecDepth 20000 in
theorem rcaps_ok (c : Cfg) (zs : List Int) (n : Nat) (v : Value) (w : World) (h : Good c) (ha : Ints w v zs) (hn : n = zs.length) (hl : 1 ≤ n ∧ n ≤ 16) (hw : within 1 16777216 zs) (T : Int) (hT : T = c.fill + ((n : Int) - 1) * c.rate) (ys : List Int) (hys : Hid (ys = capsL c.rate c.room T zs.sum c.fill zs)) :
    Calls Tryd.prog 29 #[.agg #[.int .i64 c.qmin, .int .i64 c.qmax, .int .i64 c.reach, .int .i64 c.cut, .int .i64 c.gop, .int .i64 c.rate, .int .i64 c.room, .int .i64 c.fill], v] w fun e w' => ∃ u, e = .returned (.tuple #[u, .agg #[.int .i64 0, .slice none 0 0]]) ∧ Ext w w' ∧ Ints w' u ys := by
  have E1 : Ext w (w.alloc (.cells #[.int .i64 c.qmin, .int .i64 c.qmax, .int .i64 c.reach, .int .i64 c.cut, .int .i64 c.gop, .int .i64 c.rate, .int .i64 c.room, .int .i64 c.fill] 44)) := (Ext.refl w).alloc _
  have R1 := ResAt.new (w.alloc (.cells #[.int .i64 c.qmin, .int .i64 c.qmax, .int .i64 c.reach, .int .i64 c.cut, .int .i64 c.gop, .int .i64 c.rate, .int .i64 c.room, .int .i64 c.fill] 44))
  have hs1 : (w.alloc (.cells #[.int .i64 c.qmin, .int .i64 c.qmax, .int .i64 c.reach, .int .i64 c.cut, .int .i64 c.gop, .int .i64 c.rate, .int .i64 c.room, .int .i64 c.fill] 44)).heap.size = w.heap.size + 1 := by simp
  rw [hs1] at R1
  have H := Lib.hid h
  obtain ⟨_, _, _, _, _, _, _, _, _, g1, g2, g3, g4, g5⟩ := h
  obtain ⟨i0, hi, hz0, hz1, hz2⟩ := info_parts infoInt
  obtain ⟨g, off, cap, rfl, c1, c2⟩ := ha.addr (by omega)
  rw [← hn] at ha c1 ⊢
  have HN := Lib.hid hn
  have HW := Lib.hid hw
  unfold maxLen at c2
  clear hn hw
  have hm0 : 0 ≤ ((n : Int) - 1) * c.rate := Int.mul_nonneg (by omega) (by omega)
  have hm1 : ((n : Int) - 1) * c.rate ≤ 15 * 16384 := Int.mul_le_mul (by omega) (by omega) (by omega) (by omega)
  have hT0 : 0 ≤ T ∧ T ≤ 262144 := by omega
  go_enter Tryd.func29, Tryd.ntmps29
  go_wp2_with fail
  refine (rmay_yes c _ H.out).mono ?_; rintro e w1 ⟨rfl, hx1⟩
  have EB : Ext w w1 := (E1.alloc _).trans hx1
  have RB := R1.ext hx1
  have EC := ((Ext.refl _).alloc (.cells #[.int .i64 0, .slice none 0 0] 32)).trans hx1
  have k5 := EC.cell (p := ⟨w.heap.size, 5, none⟩) (v := .int .i64 c.rate) (by simp)
  have k6 := EC.cell (p := ⟨w.heap.size, 6, none⟩) (v := .int .i64 c.room) (by simp)
  have k7 := EC.cell (p := ⟨w.heap.size, 7, none⟩) (v := .int .i64 c.fill) (by simp)
  clear hx1 E1 R1 hs1 EC
  go_wp2_with fail
  refine (within_any zs _ _ _ _ (ha.ext EB)).mono ?_; rintro e w2 ⟨rfl, hx2⟩
  rw [decide_eq_true HW.out]
  have EA := EB.trans hx2
  have RA := RB.ext hx2
  have j5 := hx2.cell k5
  have j6 := hx2.cell k6
  have j7 := hx2.cell k7
  have ha2 := ha.ext EA
  clear hx2 EB RB k5 k6 k7
  go_wp2
  go_loop [7, 8] (fun sv iv => ∃ (k : Nat) (S : Int), k ≤ n ∧ iv = .int .i64 k ∧ sv = .int .i64 S ∧ (0 ≤ S ∧ S ≤ 16777216 * k) ∧ Hid (S = (zs.take k).sum)) (fun _ iv => n - (intOf iv).toNat)
  case atStart => exact ⟨0, 0, Nat.zero_le _, rfl, rfl, by decide, rfl⟩
  case round =>
    obtain ⟨k, S, hk, rfl, rfl, hS, HS⟩ := hrel
    by_cases hlt : k < n
    · obtain ⟨x, hx⟩ : ∃ x, zs[k]? = some x := ⟨_, List.getElem?_eq_getElem (by rw [← HN.out]; exact hlt)⟩
      obtain ⟨x0, x1⟩ := HW.out.at hx
      have cx := ha2.at hx
      have HX := Lib.hid hx
      clear hx
      go_wp2
      go_round
      case rel => exact ⟨k + 1, S + x, by omega, by go_num, rfl, by omega, by show _ = _; rw [take_of_get HX.out, List.sum_append, ← HS.out]; simp⟩
      case measure => simp [intOf]; omega
    · have hkn : n = k := by omega
      subst hkn
      have hS1 : S = zs.sum := by rw [HS.out, List.take_of_length_le (by rw [← HN.out]; exact Nat.le_refl _)]
      have hS0 : 1 ≤ S := by have := sum_pos (by rw [← HN.out]; omega) HW.out; omega
      have hS9 : (S == 0) = false := by simp; omega
      have hS8 : S ≠ 0 := by omega
      have HS1 := Lib.hid hS1
      have HY : Hid (ys = capsL c.rate c.room T S c.fill zs) := by show _ = _; rw [hys.out, HS1.out]
      clear hS1 HS
      go_wp2
      go_loopw [9, 10, 11] (fun lv fv iv wr => ∃ (k : Nat) (ct : Int), k ≤ n ∧ iv = .int .i64 k ∧ fv = .int .i64 ct ∧ (8 ≤ ct ∧ ct ≤ c.room) ∧ Hid (ct = capF c.rate c.room T S c.fill (zs.take k)) ∧ wr.ownsRow w2.heap.size 3 1 lv k ((capsL c.rate c.room T S c.fill (zs.take k)).map (Value.int .i64)) ∧ Ext w2 wr) (fun _ _ iv _ => n - (intOf iv).toNat)
      case atStart => exact ⟨0, c.fill, Nat.zero_le _, rfl, rfl, by omega, rfl, ⟨rfl, Or.inl ⟨rfl, rfl⟩⟩, Ext.refl _⟩
      case round =>
        obtain ⟨k, ct, hk, rfl, rfl, hct, HC, hown, hE⟩ := hrel
        have hsz := hE.size
        by_cases hlt : k < n
        · obtain ⟨x, hx⟩ : ∃ x, zs[k]? = some x := ⟨_, List.getElem?_eq_getElem (by rw [← HN.out]; exact hlt)⟩
          obtain ⟨x0, x1⟩ := HW.out.at hx
          have cx := hE.cell (ha2.at hx)
          have m5 := hE.cell j5
          have m6 := hE.cell j6
          have m7 := hE.cell j7
          have hp0 : 0 ≤ T * x := Int.mul_nonneg (by omega) (by omega)
          have hp1 : T * x ≤ 262144 * 16777216 := Int.mul_le_mul (by omega) (by omega) (by omega) (by omega)
          have hd0 : 0 ≤ T * x / S := Int.ediv_nonneg hp0 (by omega)
          have hd1 : T * x / S ≤ T * x := Int.ediv_le_self _ hp0
          have HNX := Lib.hid (show ∀ kv v' (w3 : World), kv = capk T S ct x → w3.ownsRow w2.heap.size 3 1 v' (k + 1) ((capsL c.rate c.room T S c.fill (zs.take k)).map (Value.int .i64) ++ [.int .i64 kv]) →
              w3.ownsRow w2.heap.size 3 1 v' (k + 1) ((capsL c.rate c.room T S c.fill (zs.take (k + 1))).map (Value.int .i64)) from fun kv v' w3 hkv h3 => by
            rw [take_of_get hx, capsL_snoc, List.map_append, ← HC.out, ← hkv]
            exact h3)
          have HNC : Hid (capn c.rate c.room ct (capk T S ct x) = capF c.rate c.room T S c.fill (zs.take (k + 1))) := by
            show _ = _
            rw [take_of_get hx, capF_snoc, ← HC.out]
          have hkb := capk_bounds (total := T) (sum := S) (w := x) hct.1
          have hnb := capn_bounds (rate := c.rate) (room := c.room) g1 g2 hkb.2
          have htd : Int.tdiv (T * x) S = T * x / S := Int.tdiv_eq_ediv_of_nonneg hp0
          obtain ⟨Q, hQ⟩ : ∃ Q, T * x / S = Q := ⟨_, rfl⟩
          have HCK : Hid (capk T S ct x = max 8 (min Q ct)) := by show _ = _; unfold capk; rw [hQ]
          rw [hQ] at hd0 hd1 htd
          have t1 : IntKind.i64.wrap ((n : Int) - 1) = (n : Int) - 1 := by rw [IntKind.wrap_i64]; omega
          have t2 : IntKind.i64.wrap (((n : Int) - 1) * c.rate) = ((n : Int) - 1) * c.rate := by rw [IntKind.wrap_i64]; omega
          have t3 : IntKind.i64.wrap (c.fill + ((n : Int) - 1) * c.rate) = T := by rw [IntKind.wrap_i64]; omega
          have t4 : IntKind.i64.wrap (T * x) = T * x := by rw [IntKind.wrap_i64]; omega
          have t5 : IntKind.i64.wrap Q = Q := by rw [IntKind.wrap_i64]; omega
          have HNB := Lib.hid hnb
          have HT := Lib.hid hT
          clear hx hkb hnb hT
          have ways : (ct < Q ∧ 8 < ct ∨ ct < Q ∧ ¬ 8 < ct ∧ ct = 8) ∨ (¬ ct < Q ∧ 8 < Q ∨ ¬ ct < Q ∧ ¬ 8 < Q) := by omega
          go_wp2
          go_quiet (fail)
          rcases ways with (⟨q1, q2⟩ | ⟨q1, q2, q3⟩) | (⟨q1, q2⟩ | ⟨q1, q2⟩)
          · have hkv : ct = max 8 (min Q ct) := by omega
            have HKV : Hid (capk T S ct x = ct) := by show _ = _; rw [HCK.out, ← hkv]
            clear hkv
            by_cases hr : ct - ct + c.rate < c.room
            all_goals
              go_wp2_with (at_builtin; refine push_int rfl _ _ 22 rfl Tryd.underlying22 _ k _ _ rfl (own_ext' hown ((Ext.refl _).drewN _)) rfl (by simpa using hsz) (by omega) ?_; intro v' w3 h1 h2; have h3 := HNX.out _ _ _ HKV.out.symm h1; have hE3 : Ext w2 w3 := (hE.drewN _).of_below h2 (Nat.le_refl _); have n5 := hE3.cell j5; have n6 := hE3.cell j6; clear h1 h2)
              go_roundw
              case rel => exact ⟨k + 1, _, by omega, by go_num, rfl, by omega, (by show _ = _; rw [← HNC.out, HKV.out]; unfold capn; omega), h3, hE3⟩
              case measure => simp [intOf]; omega
          · have hkv : 8 = max 8 (min Q ct) := by omega
            have HKV : Hid (capk T S ct x = 8) := by show _ = _; rw [HCK.out, ← hkv]
            clear hkv
            by_cases hr : ct - 8 + c.rate < c.room
            all_goals
              go_wp2_with (at_builtin; refine push_int rfl _ _ 22 rfl Tryd.underlying22 _ k _ _ rfl (own_ext' hown ((Ext.refl _).drewN _)) rfl (by simpa using hsz) (by omega) ?_; intro v' w3 h1 h2; have h3 := HNX.out _ _ _ HKV.out.symm h1; have hE3 : Ext w2 w3 := (hE.drewN _).of_below h2 (Nat.le_refl _); have n5 := hE3.cell j5; have n6 := hE3.cell j6; clear h1 h2)
              go_roundw
              case rel => exact ⟨k + 1, _, by omega, by go_num, rfl, by omega, (by show _ = _; rw [← HNC.out, HKV.out]; unfold capn; omega), h3, hE3⟩
              case measure => simp [intOf]; omega
          · have hkv : Q = max 8 (min Q ct) := by omega
            have HKV : Hid (capk T S ct x = Q) := by show _ = _; rw [HCK.out, ← hkv]
            clear hkv
            by_cases hr : ct - Q + c.rate < c.room
            all_goals
              go_wp2_with (at_builtin; refine push_int rfl _ _ 22 rfl Tryd.underlying22 _ k _ _ rfl (own_ext' hown ((Ext.refl _).drewN _)) rfl (by simpa using hsz) (by omega) ?_; intro v' w3 h1 h2; have h3 := HNX.out _ _ _ HKV.out.symm h1; have hE3 : Ext w2 w3 := (hE.drewN _).of_below h2 (Nat.le_refl _); have n5 := hE3.cell j5; have n6 := hE3.cell j6; clear h1 h2)
              go_roundw
              case rel => exact ⟨k + 1, _, by omega, by go_num, rfl, by omega, (by show _ = _; rw [← HNC.out, HKV.out]; unfold capn; omega), h3, hE3⟩
              case measure => simp [intOf]; omega
          · have hkv : 8 = max 8 (min Q ct) := by omega
            have HKV : Hid (capk T S ct x = 8) := by show _ = _; rw [HCK.out, ← hkv]
            clear hkv
            by_cases hr : ct - 8 + c.rate < c.room
            all_goals
              go_wp2_with (at_builtin; refine push_int rfl _ _ 22 rfl Tryd.underlying22 _ k _ _ rfl (own_ext' hown ((Ext.refl _).drewN _)) rfl (by simpa using hsz) (by omega) ?_; intro v' w3 h1 h2; have h3 := HNX.out _ _ _ HKV.out.symm h1; have hE3 : Ext w2 w3 := (hE.drewN _).of_below h2 (Nat.le_refl _); have n5 := hE3.cell j5; have n6 := hE3.cell j6; clear h1 h2)
              go_roundw
              case rel => exact ⟨k + 1, _, by omega, by go_num, rfl, by omega, (by show _ = _; rw [← HNC.out, HKV.out]; unfold capn; omega), h3, hE3⟩
              case measure => simp [intOf]; omega
        · have hkn : n = k := by omega
          subst hkn
          have hlt2 : w.heap.size + 1 < w2.heap.size := Ext.lt RA.1
          obtain ⟨r0, r1, f0, f1⟩ := RA.ext hE
          rw [List.take_of_length_le (by rw [← HN.out]; exact Nat.le_refl _), ← HY.out] at hown
          have hly : ys.length = n := by rw [HY.out, capsL_length, ← HN.out]
          have ho2 := ownsRow_setCell_below (ownsRow_setCell_below hown (a := ⟨w.heap.size + 1, 0, none⟩) hlt2 (.int .i64 0)) (a := ⟨w.heap.size + 1, 1, none⟩) hlt2 (.slice none 0 0)
          have EF := ((EA.trans hE).setCell (p := ⟨w.heap.size + 1, 0, none⟩) (by simp) (.int .i64 0)).setCell (p := ⟨w.heap.size + 1, 1, none⟩) (by simp) (.slice none 0 0)
          go_wp2
          obtain ⟨e0, e1⟩ := res_cells (c := 0) r0 r1 (.slice none 0 0)
          exact bodyPost_ret (v := .tuple #[u9, .agg #[.int .i64 0, .slice none 0 0]]) (by simp [results, Tryd.results29, go_sem, e0, e1]) rfl ⟨u9, rfl, EF, Ints.of_owns ho2 (by omega)⟩
end Go.Proofs.YtbmknmenaaanaaaDoor
