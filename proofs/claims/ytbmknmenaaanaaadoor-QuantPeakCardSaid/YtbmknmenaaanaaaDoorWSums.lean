/- kinlaw8.WhtSums: the walk. -/
import Derived.Test.YtbmknmenaaanaaaDoorWFlat
import Derived.Test.YtbmknmenaaanaaaDoorPush
import Derived.Deep.AppendLies
namespace Go.Proofs.YtbmknmenaaanaaaDoor
set_option linter.unusedVariables false
set_option linter.unusedSimpArgs false
open Go.RowKit Go.Extern.Stop Go.Stop Go.Extern

theorem flip_add : ∀ m < 6, ∀ j < 2 ^ m, flip m j = 2 ^ m + j := by decide +kernel
theorem wht_shift {m k : Nat} (h : m ≤ k) (f : Nat → Int) (i : Nat) : wht m f (flip k i) = wht m (fun j => f (flip k j)) i := by
  induction m generalizing i with
  | zero => rfl
  | succ m ih =>
    rw [wht, wht, wpass, wpass, flip_other (by omega), flip_comm, ih (by omega), ih (by omega)]
theorem wht_zero {m : Nat} (hm : m ≤ 6) (f : Nat → Int) : wht m f 0 = (rowL (2 ^ m) f).sum := by
  induction m generalizing f with
  | zero => simp [wht, rowL]
  | succ m ih =>
    have hb : (0 : Nat).testBit m = false := Nat.zero_testBit m
    rw [wht, wpass, hb]
    simp only [Bool.false_eq_true, if_false]
    rw [wht_shift (Nat.le_refl m), ih (by omega), ih (by omega)]
    have hp : 2 ^ (m + 1) = 2 ^ m + 2 ^ m := by rw [Nat.pow_succ]; omega
    have e : rowL (2 ^ (m + 1)) f = rowL (2 ^ m) f ++ rowL (2 ^ m) (fun j => f (flip m j)) := by
      unfold rowL
      rw [hp, List.range_add, List.map_append, List.map_map]
      congr 1
      apply List.map_congr_left
      intro j hj
      rw [flip_add m (by omega) j (List.mem_range.1 hj)]
      rfl
    rw [e, List.sum_append]
theorem sums_zero {zs : List Int} (h : zs.length = 16 ∨ zs.length = 64) : fwdF zs 0 = zs.sum := by
  obtain ⟨e, h3⟩ := lg_of h
  unfold fwdF
  rw [wht_zero (by rcases h3 with ⟨_, e4⟩ | ⟨_, e4⟩ <;> rw [e4] <;> decide), ← e, rowL_getD]
/-- the sums of two lists -/
def addL (zs ys : List Int) : List Int := rowL zs.length (fun i => zs.getD i 0 + ys.getD i 0)
theorem addL_at {zs ys : List Int} {k : Nat} {x y : Int} (hx : zs[k]? = some x) (hy : ys[k]? = some y) : (addL zs ys)[k]? = some (x + y) := by
  have hk := (List.getElem?_eq_some_iff.1 hx).1
  unfold addL
  rw [rowL_get hk]
  simp [List.getD, hx, hy]
theorem sums_add {zs ys : List Int} (hl : ys.length = zs.length) (h : zs.length = 16 ∨ zs.length = 64) : ∀ i, i < zs.length → fwdF (addL zs ys) i = fwdF zs i + fwdF ys i := by
  intro i hi
  obtain ⟨e, h3⟩ := lg_of h
  have la : (addL zs ys).length = zs.length := rowL_length _ _
  unfold fwdF
  rw [la, hl, wht_congr (g := fun i => zs.getD i 0 + ys.getD i 0) (Nat.le_refl _) (fun j hj => by unfold addL; rw [getD_rowL, if_pos (by omega)]) i (by omega), wht_add]
theorem sums_twice {zs : List Int} (h : zs.length = 16 ∨ zs.length = 64) : ∀ i, i < zs.length → fwdF (fwdL zs) i = zs.length * zs.getD i 0 := by
  intro i hi
  obtain ⟨e, h3⟩ := lg_of h
  have la : (fwdL zs).length = zs.length := rowL_length _ _
  rw [fwdF, la, wht_congr (g := fwdF zs) (Nat.le_refl _) (fun j hj => by unfold fwdL; rw [getD_rowL, if_pos (by omega)]) i (by omega)]
  unfold fwdF
  rw [wht_wht]
  simp only []
  rcases h3 with ⟨e5, e4⟩ | ⟨e5, e4⟩ <;> rw [e4, e5] <;> rfl
theorem sum_take {zs : List Int} {k : Nat} {x : Int} (h : zs[k]? = some x) : (zs.take (k + 1)).sum = (zs.take k).sum + x := by
  rw [take_of_get h, List.sum_append]
  simp
theorem sum_bound {F : Int} {zs : List Int} (h : within (-F) F zs) (k : Nat) (hF : 0 ≤ F) : -(F * k) ≤ (zs.take k).sum ∧ (zs.take k).sum ≤ F * k := by
  induction k with
  | zero => simp
  | succ k ih =>
    by_cases hk : k < zs.length
    · have hx : zs[k]? = some zs[k] := by simp [hk]
      have := h.at hx
      rw [sum_take hx]
      push_cast
      rw [Int.mul_add]
      omega
    · have e1 : zs.take (k + 1) = zs := List.take_of_length_le (by omega)
      have e2 : zs.take k = zs := List.take_of_length_le (by omega)
      rw [e1, ← e2]
      push_cast
      rw [Int.mul_add]
      omega

set_option maxHeartbeats 2000000 in
set_option maxRecDepth 20000 in
theorem sums_skip1 (v u : Value) (n m : Nat) (w : World) (hg : EtIs w) (hv : ∃ a cap, v = .slice a n cap) (hu : ∃ a cap, u = .slice a m cap) (hl : 5000 < n ∨ ¬ 5000 < n ∧ n ≠ m) :
    Calls Tryd.prog 7 #[v, u] w fun e w' => e = .returned (.bool true) ∧ Ext w w' := by
  obtain ⟨a, cap, rfl⟩ := hv
  obtain ⟨b, cap', rfl⟩ := hu
  rcases hl with h1 | ⟨h1, h2⟩
  · go_enter Tryd.func7, Tryd.ntmps7
    go_wp2_with fail
    refine (first8 _ hg).mono ?_; rintro e w1 ⟨rfl, hx1⟩
    go_wp2_with fail
    refine (first8 _ (hg.ext hx1)).mono ?_; rintro e w2 ⟨rfl, hx2⟩
    go_wp2
    go_ret
    exact ⟨rfl, hx1.trans hx2⟩
  · have b1 : ((n : Int) != (m : Int)) = true := by simp; omega
    go_enter Tryd.func7, Tryd.ntmps7
    go_wp2_with fail
    refine (first8 _ hg).mono ?_; rintro e w1 ⟨rfl, hx1⟩
    go_wp2_with fail
    refine (first8 _ (hg.ext hx1)).mono ?_; rintro e w2 ⟨rfl, hx2⟩
    go_wp2
    go_ret
    exact ⟨rfl, hx1.trans hx2⟩

set_option maxHeartbeats 2000000 in
set_option maxRecDepth 20000 in
theorem sums_skip2 (zs ys : List Int) (a b : Option Addr) (n cap cap' : Nat) (w : World) (hg : EtIs w) (ha : Ints w (.slice a n cap) zs) (hb : Ints w (.slice b n cap') ys) (hl : ¬ 5000 < n) (hw : ¬ within (-65536) 65536 zs ∨ within (-65536) 65536 zs ∧ ¬ within (-65536) 65536 ys) :
    Calls Tryd.prog 7 #[.slice a n cap, .slice b n cap'] w fun e w' => e = .returned (.bool true) ∧ Ext w w' := by
  have b1 : ((n : Int) != (n : Int)) = false := by simp
  rcases hw with h1 | ⟨h1, h2⟩
  · have H1 := Lib.hid h1
    clear h1
    go_enter Tryd.func7, Tryd.ntmps7
    go_wp2_with fail
    refine (first8 _ hg).mono ?_; rintro e w1 ⟨rfl, hx1⟩
    go_wp2_with fail
    refine (within_any zs _ _ _ _ (ha.ext hx1)).mono ?_; rintro e w2 ⟨rfl, hx2⟩
    rw [decide_eq_false H1.out]
    have E2 := hx1.trans hx2
    go_wp2_with fail
    refine (first8 _ (hg.ext E2)).mono ?_; rintro e w3 ⟨rfl, hx3⟩
    go_wp2
    go_ret
    exact ⟨rfl, E2.trans hx3⟩
  · have H1 := Lib.hid h1
    have H2 := Lib.hid h2
    clear h1 h2
    go_enter Tryd.func7, Tryd.ntmps7
    go_wp2_with fail
    refine (first8 _ hg).mono ?_; rintro e w1 ⟨rfl, hx1⟩
    go_wp2_with fail
    refine (within_any zs _ _ _ _ (ha.ext hx1)).mono ?_; rintro e w2 ⟨rfl, hx2⟩
    rw [decide_eq_true H1.out]
    have E2 := hx1.trans hx2
    go_wp2_with fail
    refine (within_any ys _ _ _ _ (hb.ext E2)).mono ?_; rintro e w3 ⟨rfl, hx3⟩
    rw [decide_eq_false H2.out]
    have E3 := E2.trans hx3
    go_wp2_with fail
    refine (first8 _ (hg.ext E3)).mono ?_; rintro e w4 ⟨rfl, hx4⟩
    go_wp2
    go_ret
    exact ⟨rfl, E3.trans hx4⟩

set_option maxHeartbeats 2000000 in
set_option maxRecDepth 20000 in
theorem sums_err (zs ys : List Int) (a b : Option Addr) (n cap cap' : Nat) (w : World) (hg : EtIs w) (ha : Ints w (.slice a n cap) zs) (hb : Ints w (.slice b n cap') ys) (hl : ¬ 5000 < n) (hn : n = zs.length) (hm : n = ys.length) (HW1 : Hid (within (-65536) 65536 zs)) (HW2 : Hid (within (-65536) 65536 ys)) (k1 k2 : Int) (o1 o2 : List Int) (hn1 : n ≠ 16) (hn2 : n ≠ 64)
    (f1 : Hid (∀ W, Ints W (.slice a n cap) zs → Calls Tryd.prog 17 #[.slice a n cap] W (WPost W (some k1) o1)))
    (f2 : Hid (∀ W, Ints W (.slice b n cap') ys → Calls Tryd.prog 17 #[.slice b n cap'] W (WPost W (some k2) o2))) :
    Calls Tryd.prog 7 #[.slice a n cap, .slice b n cap'] w fun e w' => e = .returned (.bool true) ∧ Ext w w' := by
  obtain ⟨i0, hi, hz0, hz1, hz2⟩ := info_parts infoInt
  have b1 : ((n : Int) != (n : Int)) = false := by simp
  have AG := Lib.hid ha.had'
  have BG := Lib.hid hb.had'
  have HN := Lib.hid hn
  have HM := Lib.hid hm
  clear hn hm
  have b2 : ((n : Int) != 16) = true := by simp; omega
  have b3 : ((n : Int) != 64) = true := by simp; omega
  go_enter Tryd.func7, Tryd.ntmps7
  go_wp2_with fail
  refine (first8 _ hg).mono ?_; rintro e w1 ⟨rfl, hx1⟩
  go_wp2_with fail
  refine (within_any zs _ _ _ _ (ha.ext hx1)).mono ?_; rintro e w2 ⟨rfl, hx2⟩
  rw [decide_eq_true HW1.out]
  have E2 := hx1.trans hx2
  go_wp2_with fail
  refine (within_any ys _ _ _ _ (hb.ext E2)).mono ?_; rintro e w3 ⟨rfl, hx3⟩
  rw [decide_eq_true HW2.out]
  have E3 := E2.trans hx3
  have haw := ha.ext E3
  have hbw := hb.ext E3
  clear ha hb hx1 hx2 hx3 E2
  go_wp2
  go_loopw [5, 6, 7] (fun sv tv iv wr => ∃ (k : Nat) (t : Int), k ≤ n ∧ iv = .int .i64 k ∧ tv = .int .i64 t ∧ (-327680000 ≤ t ∧ t ≤ 327680000) ∧ Hid (t = (zs.take k).sum) ∧ wr.ownsRow w3.heap.size 3 1 sv k (((addL zs ys).take k).map (Value.int .i64)) ∧ Ext w3 wr) (fun _ _ iv _ => n - (intOf iv).toNat)
  case atStart => exact ⟨0, 0, Nat.zero_le _, rfl, rfl, by decide, rfl, ⟨rfl, Or.inl ⟨rfl, rfl⟩⟩, Ext.refl _⟩
  case round =>
    obtain ⟨k, t, hk, rfl, rfl, ht, HT, hown, hE⟩ := hrel
    have hsz := hE.size
    by_cases hlt : k < n
    · obtain ⟨s, hs⟩ : ∃ s, zs[k]? = some s := ⟨_, List.getElem?_eq_getElem (by rw [← HN.out]; exact hlt)⟩
      obtain ⟨p, hp⟩ : ∃ p, ys[k]? = some p := ⟨_, List.getElem?_eq_getElem (by rw [← HM.out]; exact hlt)⟩
      have bs := HW1.out.at hs
      have bp := HW2.out.at hp
      have hv := addL_at hs hp
      have bt : -327680000 ≤ t + s ∧ t + s ≤ 327680000 := by
        have e := sum_bound HW1.out (k + 1) (by decide)
        rw [sum_take hs, ← HT.out] at e
        push_cast at e
        omega
      have HT2 : Hid (t + s = (zs.take (k + 1)).sum) := by show _ = _; rw [sum_take hs, HT.out]
      obtain ⟨g, off, rfl⟩ := AG.out (by omega)
      obtain ⟨g', off', rfl⟩ := BG.out (by omega)
      have cs0 := haw.at hs
      have cp0 := hbw.at hp
      have cs := hE.cell (haw.at hs)
      have cp := hE.cell (hbw.at hp)
      have HV := Lib.hid hv
      clear hv hs hp
      have KEEP := Lib.hid (show ∀ (v' : Value) (w5 : World), wr.ownsRow w3.heap.size 3 1 v' k (((addL zs ys).take k).map (Value.int .i64)) → ((wr.alloc (.cells #[.int .i64 (s + p)] 3)).drew).grownBy w5 v'.ownBlock → w5.cell? ⟨g, off + k, none⟩ = some (.int .i64 s) ∧ w5.cell? ⟨g', off' + k, none⟩ = some (.int .i64 p) from fun v' w5 ho hgr =>
        have E' : Ext w3 w5 := Below.grown ((hE.alloc _).drew) hgr (by simp; omega) (fun j hj => (ho.lt j hj).1)
        ⟨E'.cell cs0, E'.cell cp0⟩)
      have hsum : IntKind.i64.wrap (s + p) = s + p := by rw [IntKind.wrap_i64]; omega
      go_wp2
      go_region_held3 (fun w' => w'.cell? ⟨g, off + k, none⟩ = some (.int .i64 s) ∧ w'.cell? ⟨g', off' + k, none⟩ = some (.int .i64 p))
        (first | go_keep | (exact ⟨hE.drew.cell cs0, hE.drew.cell cp0⟩) | (exact ⟨((hE.alloc _).drew).cell cs0, ((hE.alloc _).drew).cell cp0⟩) | (exact KEEP.out _ _ hown hgrow))
        ((refine step_append_lies _ (by rfl) _ _ _ (by rfl) w3.heap.size 3 i0 _ 1 8 Tryd.underlying22 hi hz0 hz1 hz2 rfl (by omega) _ k _ (by rfl) ((hown.alloc _).drew)
            ⟨wr.heap.size, 0, none⟩ 1 1 [.int .i64 (s + p)] (by rfl) (by rfl) (World.news_of_block (cs := #[.int .i64 (s + p)]) (t := 3) (fr := (0, 0)) (heap_alloc_new wr _)) (one_int _)
            (by omega) (by unfold maxLen; omega) (by omega) (by simp; omega) (wr.heap.size + 1) (by simp) ?_; intro gg cap4 w4 hown4 hgrow hat hlt4))
      have h3 : w4.ownsRow w3.heap.size 3 1 (.slice (some ⟨gg, 0, none⟩) (k + 1) cap4) (k + 1) (((addL zs ys).take (k + 1)).map (Value.int .i64)) := by rw [take_of_get HV.out, List.map_append]; exact hown4
      have hE4 : Ext w3 w4 := Below.grown ((hE.alloc _).drew) hgrow (by simp; omega) (fun j hj => (hown.lt j hj).1)
      have cs4 := hE4.cell cs0
      clear hown hown4 hgrow hat KEEP cs cp hE
      go_wp2
      go_roundw
      case rel => exact ⟨k + 1, _, by omega, by go_num, rfl, bt, HT2, h3, hE4⟩
      case measure => simp [intOf]; omega
    · have hkn : n = k := by omega
      subst hkn
      have ladd : (addL zs ys).length = n := by unfold addL; rw [rowL_length, ← HN.out]
      rw [List.take_of_length_le (by rw [ladd]; exact Nat.le_refl _)] at hown
      have hsm := Ints.of_owns hown (by rw [ladd]; omega)
      have E5 := E3.trans hE
      have haw5 := haw.ext hE
      have hbw5 := hbw.ext hE
      have HT5 : Hid (t = zs.sum) := by
        show _ = _
        rw [HT.out, List.take_of_length_le (by rw [← HN.out]; exact Nat.le_refl _)]
      clear hown haw hbw hsz hE HT E3
      go_wp2_with fail
      refine (f1.out _ haw5).mono ?_; rintro e w6 ⟨u6, x6, rfl, hx6, rfl, rfl⟩
      go_wp2_with fail
      refine (f2.out _ (hbw5.ext hx6)).mono ?_; rintro e w7 ⟨u7, x7, rfl, hx7, rfl, rfl⟩
      have E7 := E5.trans (hx6.trans hx7)
      go_wp2_with fail
      refine (first8 _ (hg.ext E7)).mono ?_; rintro e w8 ⟨rfl, hx8⟩
      go_wp2
      go_ret
      exact ⟨rfl, E7.trans hx8⟩

set_option maxHeartbeats 2000000 in
set_option maxRecDepth 20000 in
theorem sums_main (zs ys : List Int) (a b : Option Addr) (n cap cap' : Nat) (w : World) (hg : EtIs w) (ha : Ints w (.slice a n cap) zs) (hb : Ints w (.slice b n cap') ys) (hl : ¬ 5000 < n) (hn : n = zs.length) (hm : n = ys.length) (HW1 : Hid (within (-65536) 65536 zs)) (HW2 : Hid (within (-65536) 65536 ys)) (X Y Z V : Nat → Int) (az aw : Option Int) (hnn : n = 16 ∨ n = 64) (HX0 : Hid (X 0 = zs.sum)) (BX : Hid (∀ i, -4194304 ≤ X i ∧ X i ≤ 4194304)) (BY : Hid (∀ i, -4194304 ≤ Y i ∧ Y i ≤ 4194304)) (HZ3 : Hid (∀ i, i < n → Z i = X i + Y i)) (HV4 : Hid (∀ (i : Nat) (s : Int), zs[i]? = some s → V i = n * s))
    (f1 : Hid (∀ W, Ints W (.slice a n cap) zs → Calls Tryd.prog 17 #[.slice a n cap] W (WPost W none (rowL n X))))
    (f2 : Hid (∀ W, Ints W (.slice b n cap') ys → Calls Tryd.prog 17 #[.slice b n cap'] W (WPost W none (rowL n Y))))
    (f3 : Hid (∀ W v, Ints W v (addL zs ys) → Calls Tryd.prog 17 #[v] W (WPost W az (rowL n Z))))
    (f4 : Hid (∀ W v, Ints W v (rowL n X) → Calls Tryd.prog 17 #[v] W (WPost W aw (rowL n V)))) :
    Calls Tryd.prog 7 #[.slice a n cap, .slice b n cap'] w fun e w' => e = .returned (.bool true) ∧ Ext w w' := by
  obtain ⟨i0, hi, hz0, hz1, hz2⟩ := info_parts infoInt
  have b1 : ((n : Int) != (n : Int)) = false := by simp
  have AG := Lib.hid ha.had'
  have BG := Lib.hid hb.had'
  have HN := Lib.hid hn
  have HM := Lib.hid hm
  clear hn hm
  have hn0 : 1 ≤ n := by omega
  have hnz : ((n : Int) == 0) = false := by simp; omega
  go_enter Tryd.func7, Tryd.ntmps7
  go_wp2_with fail
  refine (first8 _ hg).mono ?_; rintro e w1 ⟨rfl, hx1⟩
  go_wp2_with fail
  refine (within_any zs _ _ _ _ (ha.ext hx1)).mono ?_; rintro e w2 ⟨rfl, hx2⟩
  rw [decide_eq_true HW1.out]
  have E2 := hx1.trans hx2
  go_wp2_with fail
  refine (within_any ys _ _ _ _ (hb.ext E2)).mono ?_; rintro e w3 ⟨rfl, hx3⟩
  rw [decide_eq_true HW2.out]
  have E3 := E2.trans hx3
  have haw := ha.ext E3
  have hbw := hb.ext E3
  clear ha hb hx1 hx2 hx3 E2
  go_wp2
  go_loopw [5, 6, 7] (fun sv tv iv wr => ∃ (k : Nat) (t : Int), k ≤ n ∧ iv = .int .i64 k ∧ tv = .int .i64 t ∧ (-327680000 ≤ t ∧ t ≤ 327680000) ∧ Hid (t = (zs.take k).sum) ∧ wr.ownsRow w3.heap.size 3 1 sv k (((addL zs ys).take k).map (Value.int .i64)) ∧ Ext w3 wr) (fun _ _ iv _ => n - (intOf iv).toNat)
  case atStart => exact ⟨0, 0, Nat.zero_le _, rfl, rfl, by decide, rfl, ⟨rfl, Or.inl ⟨rfl, rfl⟩⟩, Ext.refl _⟩
  case round =>
    obtain ⟨k, t, hk, rfl, rfl, ht, HT, hown, hE⟩ := hrel
    have hsz := hE.size
    by_cases hlt : k < n
    · obtain ⟨s, hs⟩ : ∃ s, zs[k]? = some s := ⟨_, List.getElem?_eq_getElem (by rw [← HN.out]; exact hlt)⟩
      obtain ⟨p, hp⟩ : ∃ p, ys[k]? = some p := ⟨_, List.getElem?_eq_getElem (by rw [← HM.out]; exact hlt)⟩
      have bs := HW1.out.at hs
      have bp := HW2.out.at hp
      have hv := addL_at hs hp
      have bt : -327680000 ≤ t + s ∧ t + s ≤ 327680000 := by
        have e := sum_bound HW1.out (k + 1) (by decide)
        rw [sum_take hs, ← HT.out] at e
        push_cast at e
        omega
      have HT2 : Hid (t + s = (zs.take (k + 1)).sum) := by show _ = _; rw [sum_take hs, HT.out]
      obtain ⟨g, off, rfl⟩ := AG.out (by omega)
      obtain ⟨g', off', rfl⟩ := BG.out (by omega)
      have cs0 := haw.at hs
      have cp0 := hbw.at hp
      have cs := hE.cell (haw.at hs)
      have cp := hE.cell (hbw.at hp)
      have HV := Lib.hid hv
      clear hv hs hp
      have KEEP := Lib.hid (show ∀ (v' : Value) (w5 : World), wr.ownsRow w3.heap.size 3 1 v' k (((addL zs ys).take k).map (Value.int .i64)) → ((wr.alloc (.cells #[.int .i64 (s + p)] 3)).drew).grownBy w5 v'.ownBlock → w5.cell? ⟨g, off + k, none⟩ = some (.int .i64 s) ∧ w5.cell? ⟨g', off' + k, none⟩ = some (.int .i64 p) from fun v' w5 ho hgr =>
        have E' : Ext w3 w5 := Below.grown ((hE.alloc _).drew) hgr (by simp; omega) (fun j hj => (ho.lt j hj).1)
        ⟨E'.cell cs0, E'.cell cp0⟩)
      have hsum : IntKind.i64.wrap (s + p) = s + p := by rw [IntKind.wrap_i64]; omega
      go_wp2
      go_region_held3 (fun w' => w'.cell? ⟨g, off + k, none⟩ = some (.int .i64 s) ∧ w'.cell? ⟨g', off' + k, none⟩ = some (.int .i64 p))
        (first | go_keep | (exact ⟨hE.drew.cell cs0, hE.drew.cell cp0⟩) | (exact ⟨((hE.alloc _).drew).cell cs0, ((hE.alloc _).drew).cell cp0⟩) | (exact KEEP.out _ _ hown hgrow))
        ((refine step_append_lies _ (by rfl) _ _ _ (by rfl) w3.heap.size 3 i0 _ 1 8 Tryd.underlying22 hi hz0 hz1 hz2 rfl (by omega) _ k _ (by rfl) ((hown.alloc _).drew)
            ⟨wr.heap.size, 0, none⟩ 1 1 [.int .i64 (s + p)] (by rfl) (by rfl) (World.news_of_block (cs := #[.int .i64 (s + p)]) (t := 3) (fr := (0, 0)) (heap_alloc_new wr _)) (one_int _)
            (by omega) (by unfold maxLen; omega) (by omega) (by simp; omega) (wr.heap.size + 1) (by simp) ?_; intro gg cap4 w4 hown4 hgrow hat hlt4))
      have h3 : w4.ownsRow w3.heap.size 3 1 (.slice (some ⟨gg, 0, none⟩) (k + 1) cap4) (k + 1) (((addL zs ys).take (k + 1)).map (Value.int .i64)) := by rw [take_of_get HV.out, List.map_append]; exact hown4
      have hE4 : Ext w3 w4 := Below.grown ((hE.alloc _).drew) hgrow (by simp; omega) (fun j hj => (hown.lt j hj).1)
      have cs4 := hE4.cell cs0
      clear hown hown4 hgrow hat KEEP cs cp hE
      go_wp2
      go_roundw
      case rel => exact ⟨k + 1, _, by omega, by go_num, rfl, bt, HT2, h3, hE4⟩
      case measure => simp [intOf]; omega
    · have hkn : n = k := by omega
      subst hkn
      have ladd : (addL zs ys).length = n := by unfold addL; rw [rowL_length, ← HN.out]
      rw [List.take_of_length_le (by rw [ladd]; exact Nat.le_refl _)] at hown
      have hsm := Ints.of_owns hown (by rw [ladd]; omega)
      have E5 := E3.trans hE
      have haw5 := haw.ext hE
      have hbw5 := hbw.ext hE
      have HT5 : Hid (t = zs.sum) := by
        show _ = _
        rw [HT.out, List.take_of_length_le (by rw [← HN.out]; exact Nat.le_refl _)]
      clear hown haw hbw hsz hE HT E3
      go_wp2_with fail
      refine (f1.out _ haw5).mono ?_; rintro e w6 ⟨u6, x6, rfl, hx6, hm6, rfl⟩
      rw [rowL_length] at hm6
      obtain ⟨gx, capx, rfl, -, -, cx1, cx2⟩ := own_form hm6 hn0
      have q6 := Ints.of_row hm6 (by omega)
      have o6 := (own_cell hm6 (show 0 < n by omega)).1
      rw [HX0.out, ← HT5.out] at o6
      go_wp2_with fail
      refine (f2.out _ (hbw5.ext hx6)).mono ?_; rintro e w7 ⟨u7, x7, rfl, hx7, hm7, rfl⟩
      rw [rowL_length] at hm7
      obtain ⟨gy, capy, rfl, -, -, cy1, cy2⟩ := own_form hm7 hn0
      have hy7y := Ints.of_row hm7 (by omega)
      have hx7x := q6.ext hx7
      have o7 := hx7.cell o6
      have E7 := E5.trans (hx6.trans hx7)
      have hax7 := haw5.ext (hx6.trans hx7)
      have hsm7 := hsm.ext (hx6.trans hx7)
      clear hm6 hm7 q6 o6 hx6 hx7 E5 haw5 hbw5 hsm
      go_wp2_with fail
      refine (f3.out _ _ hsm7).mono ?_; rintro e w8 ⟨u8, x8, rfl, hx8, hm8⟩
      have E8 := E7.trans hx8
      have hax8 := hax7.ext hx8
      have hx8x := hx7x.ext hx8
      have hy8y := hy7y.ext hx8
      clear hax7 hx7x hsm7 hy7y
      cases az with
      | some kz =>
        obtain ⟨rfl, rfl⟩ := hm8
        have E9 := E8
        have hax9 := hax8
        have hx9x := hx8x
        clear E8 hax8 hx8x hy8y hx8 E7
        go_wp2
        refine wp_loop_rounds 1 ?_
        rw [rounds_succ]
        go_wp2_with fail
        refine (f4.out _ _ hx9x).mono ?_; rintro e w10 ⟨u10, x10, rfl, hx10, hm10⟩
        have E10 := E9.trans hx10
        have hax10 := hax9.ext hx10
        clear hax9 hx9x
        cases aw with
        | some kw =>
          obtain ⟨rfl, rfl⟩ := hm10
          clear hx10 E9
          go_wp2
          refine wp_loop_rounds 1 ?_
          rw [rounds_succ]
          go_wp2_with fail
          refine (first8 _ (hg.ext E10)).mono ?_; rintro e w20 ⟨rfl, hx20⟩
          go_wp2
          go_ret
          exact ⟨rfl, E10.trans hx20⟩
        | none =>
          obtain ⟨hm10, rfl⟩ := hm10
          rw [rowL_length] at hm10
          obtain ⟨gw, capw, rfl, -, -, cw1, cw2⟩ := own_form hm10 hn0
          have CW := Lib.hid (fun k (hk : k < n) => (own_cell hm10 hk).1)
          clear hm10 hx10 E9
          go_wp2
          go_loopw [17] (fun iv wr => ∃ k : Nat, k ≤ n ∧ iv = .int .i64 k ∧ Ext w10 wr) (fun iv _ => n - (intOf iv).toNat)
          case atStart => exact ⟨0, Nat.zero_le _, rfl, Ext.refl _⟩
          case round =>
            obtain ⟨k, hk, rfl, hE⟩ := hrel
            by_cases hlt : k < n
            · obtain ⟨s, hs⟩ : ∃ s, zs[k]? = some s := ⟨_, List.getElem?_eq_getElem (by rw [← HN.out]; exact hlt)⟩
              have bs := HW1.out.at hs
              obtain ⟨g, off, rfl⟩ := AG.out (by omega)
              have cs := hE.cell (hax10.at hs)
              have cw := hE.cell (CW.out k hlt)
              rw [HV4.out k s hs] at cw
              have hm1 : -4194304 ≤ (n : Int) * s ∧ (n : Int) * s ≤ 4194304 := by
                rcases hnn with rfl | rfl <;> push_cast <;> omega
              have bq : ((n : Int) * s != (n : Int) * s) = false := by simp
              clear hs
              go_wp2
              go_quiet (fail)
              go_wp2
              go_roundw
              case rel => exact ⟨k + 1, by omega, by go_num, hE.drewN _⟩
              case measure => simp [intOf]; omega
            · have E10 := E10.trans hE
              go_wp2_with fail
              refine (first8 _ (hg.ext E10)).mono ?_; rintro e w20 ⟨rfl, hx20⟩
              go_wp2
              go_ret
              exact ⟨rfl, E10.trans hx20⟩
      | none =>
        obtain ⟨hm8, rfl⟩ := hm8
        rw [rowL_length] at hm8
        obtain ⟨gz, capz, rfl, -, -, cz1, cz2⟩ := own_form hm8 hn0
        have CZ := Lib.hid (fun k (hk : k < n) => (own_cell hm8 hk).1)
        clear hm8 hx8 E7
        go_wp2
        go_loopw [14] (fun iv wr => ∃ k : Nat, k ≤ n ∧ iv = .int .i64 k ∧ Ext w8 wr) (fun iv _ => n - (intOf iv).toNat)
        case atStart => exact ⟨0, Nat.zero_le _, rfl, Ext.refl _⟩
        case round =>
          obtain ⟨k, hk, rfl, hE⟩ := hrel
          by_cases hlt : k < n
          · have cz := hE.cell (CZ.out k hlt)
            rw [HZ3.out k hlt] at cz
            have cx := hE.cell (hx8x.at (rowL_get hlt))
            have cy := hE.cell (hy8y.at (rowL_get hlt))
            have bx := BX.out k
            have by' := BY.out k
            obtain ⟨xx, hxx⟩ : ∃ q, q = X k := ⟨_, rfl⟩
            obtain ⟨yy, hyy⟩ : ∃ q, q = Y k := ⟨_, rfl⟩
            simp only [Nat.zero_add] at cx cy
            rw [← hxx] at cz cx bx
            rw [← hyy] at cz cy by'
            have bq : (xx + yy != xx + yy) = false := by simp
            clear hxx hyy
            go_wp2
            go_quiet (fail)
            go_wp2
            go_roundw
            case rel => exact ⟨k + 1, by omega, by go_num, hE.drewN _⟩
            case measure => simp [intOf]; omega
          · have E9 := E8.trans hE
            have hax9 := hax8.ext hE
            have hx9x := hx8x.ext hE
            clear E8 hax8 hx8x hy8y hE CZ
            go_wp2_with fail
            refine (f4.out _ _ hx9x).mono ?_; rintro e w10 ⟨u10, x10, rfl, hx10, hm10⟩
            have E10 := E9.trans hx10
            have hax10 := hax9.ext hx10
            clear hax9 hx9x
            cases aw with
            | some kw =>
              obtain ⟨rfl, rfl⟩ := hm10
              clear hx10 E9
              go_wp2
              refine wp_loop_rounds 1 ?_
              rw [rounds_succ]
              go_wp2_with fail
              refine (first8 _ (hg.ext E10)).mono ?_; rintro e w20 ⟨rfl, hx20⟩
              go_wp2
              go_ret
              exact ⟨rfl, E10.trans hx20⟩
            | none =>
              obtain ⟨hm10, rfl⟩ := hm10
              rw [rowL_length] at hm10
              obtain ⟨gw, capw, rfl, -, -, cw1, cw2⟩ := own_form hm10 hn0
              have CW := Lib.hid (fun k (hk : k < n) => (own_cell hm10 hk).1)
              clear hm10 hx10 E9
              go_wp2
              go_loopw [17] (fun iv wr => ∃ k : Nat, k ≤ n ∧ iv = .int .i64 k ∧ Ext w10 wr) (fun iv _ => n - (intOf iv).toNat)
              case atStart => exact ⟨0, Nat.zero_le _, rfl, Ext.refl _⟩
              case round =>
                obtain ⟨k, hk, rfl, hE⟩ := hrel
                by_cases hlt : k < n
                · obtain ⟨s, hs⟩ : ∃ s, zs[k]? = some s := ⟨_, List.getElem?_eq_getElem (by rw [← HN.out]; exact hlt)⟩
                  have bs := HW1.out.at hs
                  obtain ⟨g, off, rfl⟩ := AG.out (by omega)
                  have cs := hE.cell (hax10.at hs)
                  have cw := hE.cell (CW.out k hlt)
                  rw [HV4.out k s hs] at cw
                  have hm1 : -4194304 ≤ (n : Int) * s ∧ (n : Int) * s ≤ 4194304 := by
                    rcases hnn with rfl | rfl <;> push_cast <;> omega
                  have bq : ((n : Int) * s != (n : Int) * s) = false := by simp
                  clear hs
                  go_wp2
                  go_quiet (fail)
                  go_wp2
                  go_roundw
                  case rel => exact ⟨k + 1, by omega, by go_num, hE.drewN _⟩
                  case measure => simp [intOf]; omega
                · have E10 := E10.trans hE
                  go_wp2_with fail
                  refine (first8 _ (hg.ext E10)).mono ?_; rintro e w20 ⟨rfl, hx20⟩
                  go_wp2
                  go_ret
                  exact ⟨rfl, E10.trans hx20⟩
theorem sums_law (zs ys : List Int) (v u : Value) (w : World) (hg : EtIs w) (hr : Row w v zs.length (zs.map (Value.int .i64))) (hlen : zs.length ≤ 9223372036854775807) (hr' : Row w u ys.length (ys.map (Value.int .i64))) (hlen' : ys.length ≤ 9223372036854775807) :
    Calls Tryd.prog 7 #[v, u] w fun e w' => e = .returned (.bool true) ∧ Ext w w' := by
  by_cases h1 : 5000 < zs.length ∨ ¬ 5000 < zs.length ∧ zs.length ≠ ys.length
  · exact sums_skip1 v u zs.length ys.length w hg hr.form hr'.form h1
  · have hl : ¬ 5000 < zs.length := by omega
    have hll : ys.length = zs.length := by omega
    have ha : Ints w v zs := ⟨hr, by omega⟩
    have hb : Ints w u ys := ⟨hr', by omega⟩
    obtain ⟨a, cap, rfl⟩ := ha.form
    obtain ⟨b, cap', rfl⟩ := hb.form
    rw [hll] at hb ⊢
    by_cases hw : ¬ within (-65536) 65536 zs ∨ within (-65536) 65536 zs ∧ ¬ within (-65536) 65536 ys
    · exact sums_skip2 zs ys a b zs.length cap cap' w hg ha hb hl hw
    · have w1 : within (-65536) 65536 zs := Decidable.byContradiction fun h => hw (Or.inl h)
      have w2 : within (-65536) 65536 ys := Decidable.byContradiction fun h => hw (Or.inr ⟨w1, h⟩)
      by_cases hnn : zs.length = 16 ∨ zs.length = 64
      · have p1 := blkAns_ok hnn w1
        have p2 := blkAns_ok (by rw [hll]; exact hnn) w2
        have p3 : (addL zs ys).length = zs.length := rowL_length _ _
        have p4 : (rowL zs.length (fwdF zs)).length = zs.length := rowL_length _ _
        refine sums_main zs ys a b zs.length cap cap' w hg ha hb hl rfl hll.symm w1 w2 (fwdF zs) (fwdF ys) (fwdF (addL zs ys)) (fwdF (fwdL zs)) (blkAns (addL zs ys) 65536) (blkAns (rowL zs.length (fwdF zs)) 65536) hnn (sums_zero hnn) (fwd_bound p1) (fwd_bound p2) (sums_add hll hnn) (fun i s hs => ?_) (fun W h => ?_) (fun W h => ?_) (fun W v h => ?_) (fun W v h => ?_)
        · have hi := (List.getElem?_eq_some_iff.1 hs).1
          rw [sums_twice hnn i hi]
          simp [List.getD, hs]
        · have := forward_all zs _ W h
          rw [p1] at this
          exact this
        · have := forward_all ys _ W h
          rw [p2] at this
          unfold fwdL at this
          rw [hll] at this
          exact this
        · have := forward_all _ v W h
          unfold fwdL at this
          rw [p3] at this
          exact this
        · have := forward_all _ v W h
          unfold fwdL at this
          rw [p4] at this
          exact this
      · have e1 : blkAns zs 65536 = some 14 := if_neg hnn
        have e2 : blkAns ys 65536 = some 14 := if_neg (by rw [hll]; exact hnn)
        refine sums_err zs ys a b zs.length cap cap' w hg ha hb hl rfl hll.symm w1 w2 14 14 (fwdL zs) (fwdL ys) (fun h => hnn (Or.inl h)) (fun h => hnn (Or.inr h)) (fun W h => ?_) (fun W h => ?_)
        · have := forward_all zs _ W h
          rw [e1] at this
          exact this
        · have := forward_all ys _ W h
          rw [e2] at this
          exact this
end Go.Proofs.YtbmknmenaaanaaaDoor
