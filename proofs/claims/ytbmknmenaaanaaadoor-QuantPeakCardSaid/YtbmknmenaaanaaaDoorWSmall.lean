/- kinlaw8.WhtSmall: the walk. -/
import Derived.Test.YtbmknmenaaanaaaDoorWSums
namespace Go.Proofs.YtbmknmenaaanaaaDoor
set_option linter.unusedVariables false
set_option linter.unusedSimpArgs false
open Go.RowKit Go.Extern.Stop Go.Stop Go.Extern

theorem max3 (x y z : Int) : ∃ m, (∀ ts ty W, (Builtin.max_ ts ty #[.int .i64 x, .int .i64 y, .int .i64 z]).run Tryd.prog W = .ok (.int .i64 m) W) ∧ x ≤ m ∧ y ≤ m ∧ z ≤ m ∧ (m = x ∨ m = y ∨ m = z) := by
  refine ⟨if z > (if y > x then y else x) then z else (if y > x then y else x), fun ts ty W => by simp [Builtin.max_, Builtin.max2], ?_, ?_, ?_, ?_⟩
  all_goals
    split <;> split <;> omega
theorem inv16 {x y t : Int} (h1 : -(16 * t) ≤ y) (h2 : y ≤ 16 * t) : (x + 16 / 2) / 16 - (x + y + 16 / 2) / 16 ≤ t ∧ (x + y + 16 / 2) / 16 - (x + 16 / 2) / 16 ≤ t := by omega
theorem inv64 {x y t : Int} (h1 : -(64 * t) ≤ y) (h2 : y ≤ 64 * t) : (x + 64 / 2) / 64 - (x + y + 64 / 2) / 64 ≤ t ∧ (x + y + 64 / 2) / 64 - (x + 64 / 2) / 64 ≤ t := by omega
/-- what comes back of a list -/
def bakF (zs : List Int) : Nat → Int := invF (lgN zs.length) (fun i => zs.getD i 0)
theorem small_close {zs ys : List Int} {t : Int} (h : zs.length = 16 ∨ zs.length = 64) (ht : 0 ≤ t) (hy : within (-t) t ys) : ∀ i, i < zs.length → bakF zs i - bakF (addL zs ys) i ≤ t ∧ bakF (addL zs ys) i - bakF zs i ≤ t := by
  intro i hi
  obtain ⟨e, h3⟩ := lg_of h
  have la : (addL zs ys).length = zs.length := rowL_length _ _
  have e1 : wht (lgN zs.length) (fun i => (addL zs ys).getD i 0) i = wht (lgN zs.length) (fun i => zs.getD i 0) i + wht (lgN zs.length) (fun i => ys.getD i 0) i := by
    rw [wht_congr (g := fun i => zs.getD i 0 + ys.getD i 0) (Nat.le_refl _) (fun j hj => by unfold addL; rw [getD_rowL, if_pos (by omega)]) i (by omega), wht_add]
  have hb := wht_bound (m := lgN zs.length) (B := t) (fun i => getD_bound hy ht i) i
  unfold bakF invF
  rw [la, e1]
  rcases h3 with ⟨_, e4⟩ | ⟨_, e4⟩ <;> rw [e4] at hb ⊢
  · exact inv16 hb.1 hb.2
  · exact inv64 hb.1 hb.2
theorem bak_bound {zs : List Int} (h : blkAns zs 16777216 = none) (i : Nat) : -2147483648 ≤ bakF zs i ∧ bakF zs i ≤ 2147483648 := by
  obtain ⟨h1, h2⟩ := blkAns_none h
  obtain ⟨e, h3⟩ := lg_of h1
  have hb := wht_bound (m := lgN zs.length) (B := 16777216) (fun i => getD_bound h2 (by decide) i) i
  unfold bakF invF
  rcases h3 with ⟨_, e4⟩ | ⟨_, e4⟩ <;> rw [e4] at hb ⊢ <;> omega

set_option maxHeartbeats 2000000 in
set_option maxRecDepth 20000 in
theorem small_skip1 (v u : Value) (n m : Nat) (w : World) (hg : EtIs w) (hv : ∃ a cap, v = .slice a n cap) (hu : ∃ a cap, u = .slice a m cap) (hl : 5000 < n ∨ ¬ 5000 < n ∧ m ≠ n) :
    Calls Tryd.prog 6 #[v, u] w fun e w' => e = .returned (.bool true) ∧ Ext w w' := by
  obtain ⟨a, cap, rfl⟩ := hv
  obtain ⟨b, cap', rfl⟩ := hu
  rcases hl with h1 | ⟨h1, h2⟩
  · go_enter Tryd.func6, Tryd.ntmps6
    go_wp2_with fail
    refine (first8 _ hg).mono ?_; rintro e w1 ⟨rfl, hx1⟩
    go_wp2_with fail
    refine (first8 _ (hg.ext hx1)).mono ?_; rintro e w2 ⟨rfl, hx2⟩
    go_wp2
    go_ret
    exact ⟨rfl, hx1.trans hx2⟩
  · have b1 : ((m : Int) != (n : Int)) = true := by simp; omega
    go_enter Tryd.func6, Tryd.ntmps6
    go_wp2_with fail
    refine (first8 _ hg).mono ?_; rintro e w1 ⟨rfl, hx1⟩
    go_wp2_with fail
    refine (first8 _ (hg.ext hx1)).mono ?_; rintro e w2 ⟨rfl, hx2⟩
    go_wp2
    go_ret
    exact ⟨rfl, hx1.trans hx2⟩

set_option maxHeartbeats 2000000 in
set_option maxRecDepth 20000 in
theorem small_skip2 (zs ys : List Int) (a b : Option Addr) (n cap cap' : Nat) (w : World) (hg : EtIs w) (ha : Ints w (.slice a n cap) zs) (hb : Ints w (.slice b n cap') ys) (hl : ¬ 5000 < n) (hw : ¬ within (-16777216) 16777216 ys ∨ within (-16777216) 16777216 ys ∧ ¬ within (-16777216) 16777216 zs) :
    Calls Tryd.prog 6 #[.slice a n cap, .slice b n cap'] w fun e w' => e = .returned (.bool true) ∧ Ext w w' := by
  have b1 : ((n : Int) != (n : Int)) = false := by simp
  rcases hw with h1 | ⟨h1, h2⟩
  · have H1 := Lib.hid h1
    clear h1
    go_enter Tryd.func6, Tryd.ntmps6
    go_wp2_with fail
    refine (first8 _ hg).mono ?_; rintro e w1 ⟨rfl, hx1⟩
    go_wp2_with fail
    refine (within_any ys _ _ _ _ (hb.ext hx1)).mono ?_; rintro e w2 ⟨rfl, hx2⟩
    rw [decide_eq_false H1.out]
    have E2 := hx1.trans hx2
    go_wp2_with fail
    refine (first8 _ (hg.ext E2)).mono ?_; rintro e w3 ⟨rfl, hx3⟩
    go_wp2
    go_ret
    exact ⟨rfl, E2.trans hx3⟩
  · have H1 := Lib.hid h1
    have H2 := Lib.hid h2
    clear h1 h2
    go_enter Tryd.func6, Tryd.ntmps6
    go_wp2_with fail
    refine (first8 _ hg).mono ?_; rintro e w1 ⟨rfl, hx1⟩
    go_wp2_with fail
    refine (within_any ys _ _ _ _ (hb.ext hx1)).mono ?_; rintro e w2 ⟨rfl, hx2⟩
    rw [decide_eq_true H1.out]
    have E2 := hx1.trans hx2
    go_wp2_with fail
    refine (within_any zs _ _ _ _ (ha.ext E2)).mono ?_; rintro e w3 ⟨rfl, hx3⟩
    rw [decide_eq_false H2.out]
    have E3 := E2.trans hx3
    go_wp2_with fail
    refine (first8 _ (hg.ext E3)).mono ?_; rintro e w4 ⟨rfl, hx4⟩
    go_wp2
    go_ret
    exact ⟨rfl, E3.trans hx4⟩

set_option maxHeartbeats 2000000 in
set_option maxRecDepth 20000 in
theorem small_err (zs ys : List Int) (a b : Option Addr) (n cap cap' : Nat) (w : World) (hg : EtIs w) (ha : Ints w (.slice a n cap) zs) (hb : Ints w (.slice b n cap') ys) (hl : ¬ 5000 < n) (hn : n = zs.length) (hm : n = ys.length) (HW1 : Hid (within (-16777216) 16777216 zs)) (HW2 : Hid (within (-16777216) 16777216 ys)) (k1 : Int) (af : Option Int) (o1 o2 : List Int)
    (f1 : Hid (∀ W, Ints W (.slice a n cap) zs → Calls Tryd.prog 19 #[.slice a n cap] W (WPost W (some k1) o1)))
    (f2 : Hid (∀ W v, Ints W v (addL zs ys) → Calls Tryd.prog 19 #[v] W (WPost W af o2))) :
    Calls Tryd.prog 6 #[.slice a n cap, .slice b n cap'] w fun e w' => e = .returned (.bool true) ∧ Ext w w' := by
  obtain ⟨i0, hi, hz0, hz1, hz2⟩ := info_parts infoInt
  have b1 : ((n : Int) != (n : Int)) = false := by simp
  have AG := Lib.hid ha.had'
  have BG := Lib.hid hb.had'
  have HN := Lib.hid hn
  have HM := Lib.hid hm
  clear hn hm
  go_enter Tryd.func6, Tryd.ntmps6
  go_wp2_with fail
  refine (first8 _ hg).mono ?_; rintro e w1 ⟨rfl, hx1⟩
  go_wp2_with fail
  refine (within_any ys _ _ _ _ (hb.ext hx1)).mono ?_; rintro e w2 ⟨rfl, hx2⟩
  rw [decide_eq_true HW2.out]
  have E2 := hx1.trans hx2
  go_wp2_with fail
  refine (within_any zs _ _ _ _ (ha.ext E2)).mono ?_; rintro e w3 ⟨rfl, hx3⟩
  rw [decide_eq_true HW1.out]
  have E3 := E2.trans hx3
  have haw := ha.ext E3
  have hbw := hb.ext E3
  clear ha hb hx1 hx2 hx3 E2
  go_wp2
  go_loopw [5, 6, 7] (fun tv sv iv wr => ∃ (k : Nat) (t : Int), k ≤ n ∧ iv = .int .i64 k ∧ tv = .int .i64 t ∧ (0 ≤ t ∧ t ≤ 16777216) ∧ Hid (∀ j x, j < k → ys[j]? = some x → -t ≤ x ∧ x ≤ t) ∧ wr.ownsRow w3.heap.size 3 1 sv k (((addL zs ys).take k).map (Value.int .i64)) ∧ Ext w3 wr) (fun _ _ iv _ => n - (intOf iv).toNat)
  case atStart => exact ⟨0, 0, Nat.zero_le _, rfl, rfl, by decide, fun j _ hj => absurd hj (Nat.not_lt_zero _), ⟨rfl, Or.inl ⟨rfl, rfl⟩⟩, Ext.refl _⟩
  case round =>
    obtain ⟨k, t, hk, rfl, rfl, ht, HT, hown, hE⟩ := hrel
    have hsz := hE.size
    by_cases hlt : k < n
    · obtain ⟨s, hs⟩ : ∃ s, zs[k]? = some s := ⟨_, List.getElem?_eq_getElem (by rw [← HN.out]; exact hlt)⟩
      obtain ⟨p, hp⟩ : ∃ p, ys[k]? = some p := ⟨_, List.getElem?_eq_getElem (by rw [← HM.out]; exact hlt)⟩
      have bs := HW1.out.at hs
      have bp := HW2.out.at hp
      have hv := addL_at hs hp
      have HP := Lib.hid hp
      obtain ⟨g, off, rfl⟩ := AG.out (by omega)
      obtain ⟨g', off', rfl⟩ := BG.out (by omega)
      have cs0 := haw.at hs
      have cp0 := hbw.at hp
      have cs := hE.cell (haw.at hs)
      have cp := hE.cell (hbw.at hp)
      have HV := Lib.hid hv
      clear hv hs hp
      have KEEP := Lib.hid (show ∀ (v' : Value) (w5 : World), wr.ownsRow w3.heap.size 3 1 v' k (((addL zs ys).take k).map (Value.int .i64)) → ((wr.alloc (.cells #[.int .i64 (s + p)] 3)).drew).grownBy w5 v'.ownBlock → w5.cell? ⟨g, off + k, none⟩ = some (.int .i64 s) ∧ w5.cell? ⟨g', off' + k, none⟩ = some (.int .i64 p) from fun v' w5 ho hgr =>
        have E' : Ext w3 w5 := Below.grown ((hE.alloc _).drew) hgr (by simp; omega) (fun j hj => (ho.lt j hj).1)
        ⟨E'.cell cs0, E'.cell cp0⟩)
      have hsum : IntKind.i64.wrap (s + p) = s + p := by rw [IntKind.wrap_i64]; omega
      go_wp2
      go_region_held3 (fun w' => w'.cell? ⟨g, off + k, none⟩ = some (.int .i64 s) ∧ w'.cell? ⟨g', off' + k, none⟩ = some (.int .i64 p))
        (first | go_keep | (exact ⟨hE.drew.cell cs0, hE.drew.cell cp0⟩) | (exact ⟨((hE.alloc _).drew).cell cs0, ((hE.alloc _).drew).cell cp0⟩) | (exact KEEP.out _ _ hown hgrow))
        ((refine step_append_lies _ (by rfl) _ _ _ (by rfl) w3.heap.size 3 i0 _ 1 8 Tryd.underlying22 hi hz0 hz1 hz2 rfl (by omega) _ k _ (by rfl) ((hown.alloc _).drew)
            ⟨wr.heap.size, 0, none⟩ 1 1 [.int .i64 (s + p)] (by rfl) (by rfl) (World.news_of_block (cs := #[.int .i64 (s + p)]) (t := 3) (fr := (0, 0)) (heap_alloc_new wr _)) (one_int _)
            (by omega) (by unfold maxLen; omega) (by omega) (by simp; omega) (wr.heap.size + 1) (by simp) ?_; intro gg cap4 w4 hown4 hgrow hat hlt4))
      have h3 : w4.ownsRow w3.heap.size 3 1 (.slice (some ⟨gg, 0, none⟩) (k + 1) cap4) (k + 1) (((addL zs ys).take (k + 1)).map (Value.int .i64)) := by rw [take_of_get HV.out, List.map_append]; exact hown4
      have hE4 : Ext w3 w4 := Below.grown ((hE.alloc _).drew) hgrow (by simp; omega) (fun j hj => (hown.lt j hj).1)
      have cs4 := hE4.cell cs0
      clear hown hown4 hgrow hat KEEP cs cp hE
      have cp4 := hE4.cell cp0
      have bn : IntKind.i64.wrap (-p) = -p := by rw [IntKind.wrap_i64]; omega
      obtain ⟨mx, hmx, m1, m2, m3, m4⟩ := max3 t p (-p)
      go_wp2
      go_quiet (fail)
      go_wp2
      go_roundw
      case rel => exact ⟨k + 1, _, by omega, by go_num, rfl, by omega, fun j x hj hx => (by
        by_cases hjk : j = k
        · subst hjk
          have e := Option.some.inj (HP.out.symm.trans hx)
          omega
        · have e := HT.out j x (by omega) hx
          omega), own_ext h3 ((Ext.refl _).drewN _), hE4.drewN _⟩
      case measure => simp [intOf]; omega
    · have hkn : n = k := by omega
      subst hkn
      have ladd : (addL zs ys).length = n := by unfold addL; rw [rowL_length, ← HN.out]
      rw [List.take_of_length_le (by rw [ladd]; exact Nat.le_refl _)] at hown
      have hsm := Ints.of_owns hown (by rw [ladd]; omega)
      have E5 := E3.trans hE
      have haw5 := haw.ext hE
      have hbw5 := hbw.ext hE
      have HT5 : Hid (within (-t) t ys) := within_of_gets fun j x hj hx => HT.out j x (by rw [← HM.out] at hj; omega) hx
      clear hown haw hbw hsz hE HT E3
      go_wp2_with fail
      refine (f1.out _ haw5).mono ?_; rintro e w6 ⟨u6, x6, rfl, hx6, rfl, rfl⟩
      go_wp2_with fail
      refine (f2.out _ _ (hsm.ext hx6)).mono ?_; rintro e w7 ⟨u7, x7, rfl, hx7, hm7⟩
      have E7 := E5.trans (hx6.trans hx7)
      cases af with
      | none =>
        obtain ⟨-, rfl⟩ := hm7
        go_wp2_with fail
        refine (first8 _ (hg.ext E7)).mono ?_; rintro e w8 ⟨rfl, hx8⟩
        go_wp2
        go_ret
        exact ⟨rfl, E7.trans hx8⟩
      | some kf =>
        obtain ⟨rfl, rfl⟩ := hm7
        go_wp2_with fail
        refine (first8 _ (hg.ext E7)).mono ?_; rintro e w8 ⟨rfl, hx8⟩
        go_wp2
        go_ret
        exact ⟨rfl, E7.trans hx8⟩

set_option maxHeartbeats 2000000 in
set_option maxRecDepth 20000 in
theorem small_main (zs ys : List Int) (a b : Option Addr) (n cap cap' : Nat) (w : World) (hg : EtIs w) (ha : Ints w (.slice a n cap) zs) (hb : Ints w (.slice b n cap') ys) (hl : ¬ 5000 < n) (hn : n = zs.length) (hm : n = ys.length) (HW1 : Hid (within (-16777216) 16777216 zs)) (HW2 : Hid (within (-16777216) 16777216 ys)) (A B : Nat → Int) (af : Option Int) (hn0 : 1 ≤ n) (BA : Hid (∀ i, -2147483648 ≤ A i ∧ A i ≤ 2147483648)) (BB : Hid (af = none → ∀ i, -2147483648 ≤ B i ∧ B i ≤ 2147483648)) (HC : Hid (∀ t, 0 ≤ t → within (-t) t ys → ∀ i, i < n → A i - B i ≤ t ∧ B i - A i ≤ t))
    (f1 : Hid (∀ W, Ints W (.slice a n cap) zs → Calls Tryd.prog 19 #[.slice a n cap] W (WPost W none (rowL n A))))
    (f2 : Hid (∀ W v, Ints W v (addL zs ys) → Calls Tryd.prog 19 #[v] W (WPost W af (rowL n B)))) :
    Calls Tryd.prog 6 #[.slice a n cap, .slice b n cap'] w fun e w' => e = .returned (.bool true) ∧ Ext w w' := by
  obtain ⟨i0, hi, hz0, hz1, hz2⟩ := info_parts infoInt
  have b1 : ((n : Int) != (n : Int)) = false := by simp
  have AG := Lib.hid ha.had'
  have BG := Lib.hid hb.had'
  have HN := Lib.hid hn
  have HM := Lib.hid hm
  clear hn hm
  go_enter Tryd.func6, Tryd.ntmps6
  go_wp2_with fail
  refine (first8 _ hg).mono ?_; rintro e w1 ⟨rfl, hx1⟩
  go_wp2_with fail
  refine (within_any ys _ _ _ _ (hb.ext hx1)).mono ?_; rintro e w2 ⟨rfl, hx2⟩
  rw [decide_eq_true HW2.out]
  have E2 := hx1.trans hx2
  go_wp2_with fail
  refine (within_any zs _ _ _ _ (ha.ext E2)).mono ?_; rintro e w3 ⟨rfl, hx3⟩
  rw [decide_eq_true HW1.out]
  have E3 := E2.trans hx3
  have haw := ha.ext E3
  have hbw := hb.ext E3
  clear ha hb hx1 hx2 hx3 E2
  go_wp2
  go_loopw [5, 6, 7] (fun tv sv iv wr => ∃ (k : Nat) (t : Int), k ≤ n ∧ iv = .int .i64 k ∧ tv = .int .i64 t ∧ (0 ≤ t ∧ t ≤ 16777216) ∧ Hid (∀ j x, j < k → ys[j]? = some x → -t ≤ x ∧ x ≤ t) ∧ wr.ownsRow w3.heap.size 3 1 sv k (((addL zs ys).take k).map (Value.int .i64)) ∧ Ext w3 wr) (fun _ _ iv _ => n - (intOf iv).toNat)
  case atStart => exact ⟨0, 0, Nat.zero_le _, rfl, rfl, by decide, fun j _ hj => absurd hj (Nat.not_lt_zero _), ⟨rfl, Or.inl ⟨rfl, rfl⟩⟩, Ext.refl _⟩
  case round =>
    obtain ⟨k, t, hk, rfl, rfl, ht, HT, hown, hE⟩ := hrel
    have hsz := hE.size
    by_cases hlt : k < n
    · obtain ⟨s, hs⟩ : ∃ s, zs[k]? = some s := ⟨_, List.getElem?_eq_getElem (by rw [← HN.out]; exact hlt)⟩
      obtain ⟨p, hp⟩ : ∃ p, ys[k]? = some p := ⟨_, List.getElem?_eq_getElem (by rw [← HM.out]; exact hlt)⟩
      have bs := HW1.out.at hs
      have bp := HW2.out.at hp
      have hv := addL_at hs hp
      have HP := Lib.hid hp
      obtain ⟨g, off, rfl⟩ := AG.out (by omega)
      obtain ⟨g', off', rfl⟩ := BG.out (by omega)
      have cs0 := haw.at hs
      have cp0 := hbw.at hp
      have cs := hE.cell (haw.at hs)
      have cp := hE.cell (hbw.at hp)
      have HV := Lib.hid hv
      clear hv hs hp
      have KEEP := Lib.hid (show ∀ (v' : Value) (w5 : World), wr.ownsRow w3.heap.size 3 1 v' k (((addL zs ys).take k).map (Value.int .i64)) → ((wr.alloc (.cells #[.int .i64 (s + p)] 3)).drew).grownBy w5 v'.ownBlock → w5.cell? ⟨g, off + k, none⟩ = some (.int .i64 s) ∧ w5.cell? ⟨g', off' + k, none⟩ = some (.int .i64 p) from fun v' w5 ho hgr =>
        have E' : Ext w3 w5 := Below.grown ((hE.alloc _).drew) hgr (by simp; omega) (fun j hj => (ho.lt j hj).1)
        ⟨E'.cell cs0, E'.cell cp0⟩)
      have hsum : IntKind.i64.wrap (s + p) = s + p := by rw [IntKind.wrap_i64]; omega
      go_wp2
      go_region_held3 (fun w' => w'.cell? ⟨g, off + k, none⟩ = some (.int .i64 s) ∧ w'.cell? ⟨g', off' + k, none⟩ = some (.int .i64 p))
        (first | go_keep | (exact ⟨hE.drew.cell cs0, hE.drew.cell cp0⟩) | (exact ⟨((hE.alloc _).drew).cell cs0, ((hE.alloc _).drew).cell cp0⟩) | (exact KEEP.out _ _ hown hgrow))
        ((refine step_append_lies _ (by rfl) _ _ _ (by rfl) w3.heap.size 3 i0 _ 1 8 Tryd.underlying22 hi hz0 hz1 hz2 rfl (by omega) _ k _ (by rfl) ((hown.alloc _).drew)
            ⟨wr.heap.size, 0, none⟩ 1 1 [.int .i64 (s + p)] (by rfl) (by rfl) (World.news_of_block (cs := #[.int .i64 (s + p)]) (t := 3) (fr := (0, 0)) (heap_alloc_new wr _)) (one_int _)
            (by omega) (by unfold maxLen; omega) (by omega) (by simp; omega) (wr.heap.size + 1) (by simp) ?_; intro gg cap4 w4 hown4 hgrow hat hlt4))
      have h3 : w4.ownsRow w3.heap.size 3 1 (.slice (some ⟨gg, 0, none⟩) (k + 1) cap4) (k + 1) (((addL zs ys).take (k + 1)).map (Value.int .i64)) := by rw [take_of_get HV.out, List.map_append]; exact hown4
      have hE4 : Ext w3 w4 := Below.grown ((hE.alloc _).drew) hgrow (by simp; omega) (fun j hj => (hown.lt j hj).1)
      have cs4 := hE4.cell cs0
      clear hown hown4 hgrow hat KEEP cs cp hE
      have cp4 := hE4.cell cp0
      have bn : IntKind.i64.wrap (-p) = -p := by rw [IntKind.wrap_i64]; omega
      obtain ⟨mx, hmx, m1, m2, m3, m4⟩ := max3 t p (-p)
      go_wp2
      go_quiet (fail)
      go_wp2
      go_roundw
      case rel => exact ⟨k + 1, _, by omega, by go_num, rfl, by omega, fun j x hj hx => (by
        by_cases hjk : j = k
        · subst hjk
          have e := Option.some.inj (HP.out.symm.trans hx)
          omega
        · have e := HT.out j x (by omega) hx
          omega), own_ext h3 ((Ext.refl _).drewN _), hE4.drewN _⟩
      case measure => simp [intOf]; omega
    · have hkn : n = k := by omega
      subst hkn
      have ladd : (addL zs ys).length = n := by unfold addL; rw [rowL_length, ← HN.out]
      rw [List.take_of_length_le (by rw [ladd]; exact Nat.le_refl _)] at hown
      have hsm := Ints.of_owns hown (by rw [ladd]; omega)
      have E5 := E3.trans hE
      have haw5 := haw.ext hE
      have hbw5 := hbw.ext hE
      have HT5 : Hid (within (-t) t ys) := within_of_gets fun j x hj hx => HT.out j x (by rw [← HM.out] at hj; omega) hx
      clear hown haw hbw hsz hE HT E3
      go_wp2_with fail
      refine (f1.out _ haw5).mono ?_; rintro e w6 ⟨u6, x6, rfl, hx6, hm6, rfl⟩
      rw [rowL_length] at hm6
      obtain ⟨gx, capx, rfl, -, -, cx1, cx2⟩ := own_form hm6 hn0
      go_wp2_with fail
      refine (f2.out _ _ (hsm.ext hx6)).mono ?_; rintro e w7 ⟨u7, x7, rfl, hx7, hm7⟩
      have E7 := E5.trans (hx6.trans hx7)
      have CA := Lib.hid (fun k (hk : k < n) => hx7.cell (own_cell hm6 hk).1)
      clear hm6 hx6 hx7 E5
      cases af with
      | some kf =>
        obtain ⟨rfl, rfl⟩ := hm7
        go_wp2_with fail
        refine (first8 _ (hg.ext E7)).mono ?_; rintro e w8 ⟨rfl, hx8⟩
        go_wp2
        go_ret
        exact ⟨rfl, E7.trans hx8⟩
      | none =>
        obtain ⟨hm7, rfl⟩ := hm7
        rw [rowL_length] at hm7
        obtain ⟨gy, capy, rfl, -, -, cy1, cy2⟩ := own_form hm7 hn0
        have CB := Lib.hid (fun k (hk : k < n) => (own_cell hm7 hk).1)
        have hc := HC.out t ht.1 HT5.out
        have HC' := Lib.hid hc
        clear hm7 hc
        go_wp2
        go_loopw [12] (fun iv wr => ∃ k : Nat, k ≤ n ∧ iv = .int .i64 k ∧ Ext w7 wr) (fun iv _ => n - (intOf iv).toNat)
        case atStart => exact ⟨0, Nat.zero_le _, rfl, Ext.refl _⟩
        case round =>
          obtain ⟨k, hk, rfl, hE⟩ := hrel
          by_cases hlt : k < n
          · have ca := hE.cell (CA.out k hlt)
            have cb := hE.cell (CB.out k hlt)
            have ba := BA.out k
            have bb := BB.out (by trivial) k
            obtain ⟨d1, d2⟩ := HC'.out k hlt
            obtain ⟨xx, hxx⟩ : ∃ q, q = A k := ⟨_, rfl⟩
            obtain ⟨yy, hyy⟩ : ∃ q, q = B k := ⟨_, rfl⟩
            rw [← hxx] at ca ba d1 d2
            rw [← hyy] at cb bb d1 d2
            have t1 : decide (t < xx - yy) = false := decide_eq_false (by omega)
            have t2 : decide (t < yy - xx) = false := decide_eq_false (by omega)
            clear hxx hyy
            go_wp2
            go_quiet (fail)
            go_wp2
            go_roundw
            case rel => exact ⟨k + 1, by omega, by go_num, hE.drewN _⟩
            case measure => simp [intOf]; omega
          · have E7 := E7.trans hE
            go_wp2_with fail
            refine (first8 _ (hg.ext E7)).mono ?_; rintro e w8 ⟨rfl, hx8⟩
            go_wp2
            go_ret
            exact ⟨rfl, E7.trans hx8⟩
theorem small_law (zs ys : List Int) (v u : Value) (w : World) (hg : EtIs w) (hr : Row w v zs.length (zs.map (Value.int .i64))) (hlen : zs.length ≤ 9223372036854775807) (hr' : Row w u ys.length (ys.map (Value.int .i64))) (hlen' : ys.length ≤ 9223372036854775807) :
    Calls Tryd.prog 6 #[v, u] w fun e w' => e = .returned (.bool true) ∧ Ext w w' := by
  by_cases h1 : 5000 < zs.length ∨ ¬ 5000 < zs.length ∧ ys.length ≠ zs.length
  · exact small_skip1 v u zs.length ys.length w hg hr.form hr'.form h1
  · have hl : ¬ 5000 < zs.length := by omega
    have hll : ys.length = zs.length := by omega
    have ha : Ints w v zs := ⟨hr, by omega⟩
    have hb : Ints w u ys := ⟨hr', by omega⟩
    obtain ⟨a, cap, rfl⟩ := ha.form
    obtain ⟨b, cap', rfl⟩ := hb.form
    rw [hll] at hb ⊢
    by_cases hw : ¬ within (-16777216) 16777216 ys ∨ within (-16777216) 16777216 ys ∧ ¬ within (-16777216) 16777216 zs
    · exact small_skip2 zs ys a b zs.length cap cap' w hg ha hb hl hw
    · have w2 : within (-16777216) 16777216 ys := Decidable.byContradiction fun h => hw (Or.inl h)
      have w1 : within (-16777216) 16777216 zs := Decidable.byContradiction fun h => hw (Or.inr ⟨w2, h⟩)
      have p3 : (addL zs ys).length = zs.length := rowL_length _ _
      have f2 : Hid (∀ W v, Ints W v (addL zs ys) → Calls Tryd.prog 19 #[v] W (WPost W (blkAns (addL zs ys) 16777216) (rowL zs.length (bakF (addL zs ys))))) := fun W v h => by
        have := inverse_all _ v W h
        unfold invL at this
        rw [p3] at this
        unfold bakF
        rw [p3]
        exact this
      by_cases hnn : zs.length = 16 ∨ zs.length = 64
      · have p1 := blkAns_ok hnn w1
        refine small_main zs ys a b zs.length cap cap' w hg ha hb hl rfl hll.symm w1 w2 (bakF zs) (bakF (addL zs ys)) (blkAns (addL zs ys) 16777216) (by omega) (bak_bound p1) (fun h => bak_bound h) (fun t ht hy => small_close hnn ht hy) (fun W h => ?_) f2
        have := inverse_all zs _ W h
        rw [p1] at this
        exact this
      · have e1 : blkAns zs 16777216 = some 14 := if_neg hnn
        refine small_err zs ys a b zs.length cap cap' w hg ha hb hl rfl hll.symm w1 w2 14 _ (invL zs) _ (fun W h => ?_) f2
        have := inverse_all zs _ W h
        rw [e1] at this
        exact this
end Go.Proofs.YtbmknmenaaanaaaDoor
