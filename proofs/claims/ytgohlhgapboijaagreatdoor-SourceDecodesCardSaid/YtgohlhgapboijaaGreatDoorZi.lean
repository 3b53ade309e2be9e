/- Contracts of this seat: Su1, Su2. -/
import Derived.Test.YtgohlhgapboijaaGreatDoorZc
import Derived.StillTailTactics
import Derived.Test.YtgohlhgapboijaaGreatDoorZf
import Derived.Test.YtgohlhgapboijaaGreatDoorZb
import Derived.Deep.RegionHeld3
/- source.guess, kinref15.guess: what the neighbours of a sample say. -/
namespace Go.Proofs.YtgohlhgapboijaaGreatDoor
set_option linter.unusedVariables false
set_option linter.unusedSimpArgs false
open Go.RowKit Go.Extern.Stop Go.Stop Go.Extern

/-- the guess at x, y; A is the place of the row's first sample -/
def gsV (W : Int) (zs : List Int) (x y A : Nat) : Int :=
  if y = 0 then (if x = 0 then 128 else zs.getD (A + x - 1) 0) else if x = 0 then zs.getD (A + x - W.toNat) 0 else clipI (zs.getD (A + x - 1) 0 + zs.getD (A + x - W.toNat) 0 - zs.getD (A + x - W.toNat - 1) 0)
def Byt (zs : List Int) : Prop := ∀ j, 0 ≤ zs.getD j 0 ∧ zs.getD j 0 ≤ 255
theorem clipI_bound (n : Int) : 0 ≤ clipI n ∧ clipI n ≤ 255 := by unfold clipI; omega
theorem gsV_bound {W : Int} {zs : List Int} (h : Byt zs) (x y A : Nat) : 0 ≤ gsV W zs x y A ∧ gsV W zs x y A ≤ 255 := by
  unfold gsV
  split
  · split
    · omega
    · exact h _
  · split
    · exact h _
    · exact clipI_bound _
theorem iget_of_lt {zs : List Int} {j : Nat} (h : j < zs.length) : zs[j]? = some (zs.getD j 0) := by simp [List.getD, h]
set_option maxHeartbeats 4000000 in
set_option maxRecDepth 100000 in
theorem guess_any (W H : Int) (x y A n : Nat) (zs : List Int) (a : Option Addr) (cap : Nat) (w : World) (h : Ints w (.slice a n cap) zs) (hb : Byt zs) (hW : 8 ≤ W ∧ W ≤ 32) (hA : (y : Int) * W = (A : Int)) (hx : (x : Int) < W) (hy : y ≤ 32) (hl : A + x ≤ n) (hn : n ≤ 1000000) :
    Calls Tryz.prog 64 #[.agg #[.int .i64 W, .int .i64 H, .slice a n cap], .int .i64 (x : Int), .int .i64 (y : Int)] w fun e w' => e = .returned (.int .i64 (gsV W zs x y A)) ∧ Ext w w' := by
  have hnl := h.len
  have HI := Lib.hid h
  have HNL := Lib.hid hnl
  have E1 := Lib.hid ((Ext.refl w).alloc (.cells #[.int .i64 W, .int .i64 H, .slice a n cap] 48))
  have HW : (W.toNat : Int) = W := by omega
  have m1 : IntKind.i64.wrap (A : Int) = (A : Int) := by rw [IntKind.wrap_i64]; omega
  have m2 : IntKind.i64.wrap ((A : Int) + (x : Int)) = ((A + x : Nat) : Int) := by rw [IntKind.wrap_i64]; omega
  by_cases hy0 : y = 0
  · subst hy0
    obtain rfl : A = 0 := by simp at hA; omega
    by_cases hx0 : x = 0
    · subst hx0
      have HR : Hid (gsV W zs 0 0 0 = 128) := rfl
      clear h hnl
      go_enter Tryz.func64, Tryz.ntmps64
      go_wp2
      go_ret
      exact ⟨by rw [HR.out]; rfl, E1.out⟩
    · have hp : x - 1 < zs.length := by omega
      obtain ⟨g, off, rfl⟩ := h.had (by omega)
      have q := E1.out.cell (h.at (iget_of_lt hp))
      have HR : Hid (gsV W zs x 0 0 = zs.getD (x - 1) 0) := by show _ = _; unfold gsV; rw [if_pos rfl, if_neg hx0, Nat.zero_add]
      have e0 : ((x : Int) == 0) = false := by simp; omega
      have m3 : IntKind.i64.wrap ((x : Int) - 1) = ((x - 1 : Nat) : Int) := by rw [IntKind.wrap_i64]; omega
      have m4 : IntKind.i64.wrap (x : Int) = (x : Int) := by rw [IntKind.wrap_i64]; omega
      have t1 : (0 : Int) ≤ ((x - 1 : Nat) : Int) := by omega
      have t2 : ((x - 1 : Nat) : Int) < (n : Int) := by omega
      generalize x - 1 = j at *
      generalize zs.getD j 0 = v at *
      clear h hnl hp hx0
      go_enter Tryz.func64, Tryz.ntmps64
      go_wp2
      go_ret
      exact ⟨by rw [HR.out]; rfl, E1.out⟩
  · have hWA : W ≤ (A : Int) := by
      have : (1 : Int) * W ≤ (y : Int) * W := Int.mul_le_mul_of_nonneg_right (by omega) (by omega)
      omega
    have ey : ((y : Int) == 0) = false := by simp; omega
    obtain ⟨B, hB⟩ : ∃ B, A + x = B := ⟨_, rfl⟩
    rw [hB] at m2
    have m5 : IntKind.i64.wrap ((B : Int) - W) = ((B - W.toNat : Nat) : Int) := by rw [IntKind.wrap_i64]; omega
    have hp5 : B - W.toNat < zs.length := by omega
    obtain ⟨g, off, rfl⟩ := h.had (by omega)
    have q5 := E1.out.cell (h.at (iget_of_lt hp5))
    have t1 : (0 : Int) ≤ ((B - W.toNat : Nat) : Int) := by omega
    have t2 : ((B - W.toNat : Nat) : Int) < (n : Int) := by omega
    by_cases hx0 : x = 0
    · subst hx0
      have HR : Hid (gsV W zs 0 y A = zs.getD (B - W.toNat) 0) := by show _ = _; unfold gsV; rw [if_neg hy0, if_pos rfl, hB]
      obtain rfl : A = B := by omega
      generalize A - W.toNat = j at *
      generalize zs.getD j 0 = v at *
      clear h hnl hp5 hy0 hB
      go_enter Tryz.func64, Tryz.ntmps64
      go_wp2
      go_ret
      exact ⟨by rw [HR.out]; rfl, E1.out⟩
    · have hp1 : B - 1 < zs.length := by omega
      have hp6 : B - W.toNat - 1 < zs.length := by omega
      have HQ1 := Lib.hid (E1.out.cell (h.at (iget_of_lt hp1)))
      have HQ6 := Lib.hid (E1.out.cell (h.at (iget_of_lt hp6)))
      have HQ5 := Lib.hid q5
      have ex : ((x : Int) == 0) = false := by simp; omega
      have m1' : IntKind.i64.wrap ((B : Int) - 1) = ((B - 1 : Nat) : Int) := by rw [IntKind.wrap_i64]; omega
      have m6 : IntKind.i64.wrap (((B - W.toNat : Nat) : Int) - 1) = ((B - W.toNat - 1 : Nat) : Int) := by rw [IntKind.wrap_i64]; omega
      have t3 : (0 : Int) ≤ ((B - 1 : Nat) : Int) := by omega
      have t4 : ((B - 1 : Nat) : Int) < (n : Int) := by omega
      have t5 : (0 : Int) ≤ ((B - W.toNat - 1 : Nat) : Int) := by omega
      have t6 : ((B - W.toNat - 1 : Nat) : Int) < (n : Int) := by omega
      have HR : Hid (gsV W zs x y A = clipI (zs.getD (B - 1) 0 + zs.getD (B - W.toNat) 0 - zs.getD (B - W.toNat - 1) 0)) := by show _ = _; unfold gsV; rw [if_neg hy0, if_neg hx0, hB]
      have b1 := hb (B - 1)
      have b5 := hb (B - W.toNat)
      have b6 := hb (B - W.toNat - 1)
      generalize B - W.toNat - 1 = j6 at *
      generalize B - W.toNat = j5 at *
      generalize B - 1 = j1 at *
      generalize zs.getD j6 0 = v6 at *
      generalize zs.getD j5 0 = v5 at *
      generalize zs.getD j1 0 = v1 at *
      have s1 : IntKind.i64.wrap (v1 + v5) = v1 + v5 := by rw [IntKind.wrap_i64]; omega
      have s2 : IntKind.i64.wrap (v1 + v5 - v6) = v1 + v5 - v6 := by rw [IntKind.wrap_i64]; omega
      have q1 := HQ1.out
      have q6 := HQ6.out
      clear h hnl hp1 hp5 hp6 hx0 hy0 hb hB
      go_enter Tryz.func64, Tryz.ntmps64
      go_wp2_with fail
      have c0 : (w.alloc (.cells #[.int .i64 W, .int .i64 H, .slice (some ⟨g, off, none⟩) n cap] 48)).cell? ⟨w.heap.size, 0, none⟩ = some (.int .i64 W) := by simp
      have c2 : (w.alloc (.cells #[.int .i64 W, .int .i64 H, .slice (some ⟨g, off, none⟩) n cap] 48)).cell? ⟨w.heap.size, 2, none⟩ = some (.slice (some ⟨g, off, none⟩) n cap) := by simp
      have q5' := HQ5.out
      clear q5 HQ1 HQ5 HQ6 HI
      revert c0 c2 q1 q5' q6 E1
      generalize w.alloc _ = w1
      generalize w.heap.size = b
      intro E1 q1 q6 c0 c2 q5'
      go_still_tail 25, (by kernel_rfl)
      change wpList _ _ _ _ _ w1.drew
      go_wp2_with fail
      refine (clip_any _ _).mono ?_; rintro e w2 ⟨rfl, rfl⟩
      go_wp2
      go_ret
      exact ⟨by rw [HR.out]; rfl, E1.out.drew⟩
set_option maxHeartbeats 4000000 in
set_option maxRecDepth 100000 in
theorem rguess_any (W : Int) (x y A n : Nat) (zs : List Int) (a : Option Addr) (cap : Nat) (w : World) (h : Ints w (.slice a n cap) zs) (hb : Byt zs) (hW : 8 ≤ W ∧ W ≤ 32) (hA : (y : Int) * W = (A : Int)) (hx : (x : Int) < W) (hy : y ≤ 32) (hl : A + x ≤ n) (hn : n ≤ 1000000) :
    Calls Tryz.prog 57 #[.slice a n cap, .int .i64 W, .int .i64 (x : Int), .int .i64 (y : Int)] w fun e w' => e = .returned (.int .i64 (gsV W zs x y A)) ∧ Ext w w' := by
  have hnl := h.len
  have HNL := Lib.hid hnl
  have HW : (W.toNat : Int) = W := by omega
  have m1 : IntKind.i64.wrap (A : Int) = (A : Int) := by rw [IntKind.wrap_i64]; omega
  by_cases hy0 : y = 0
  · subst hy0
    obtain rfl : A = 0 := by simp at hA; omega
    by_cases hx0 : x = 0
    · subst hx0
      have HR : Hid (gsV W zs 0 0 0 = 128) := rfl
      clear h hnl
      go_enter Tryz.func57, Tryz.ntmps57
      go_wp2
      go_ret
      exact ⟨by rw [HR.out]; rfl, Ext.refl w⟩
    · have hp : x - 1 < zs.length := by omega
      obtain ⟨g, off, rfl⟩ := h.had (by omega)
      have q := h.at (iget_of_lt hp)
      have HR : Hid (gsV W zs x 0 0 = zs.getD (x - 1) 0) := by show _ = _; unfold gsV; rw [if_pos rfl, if_neg hx0, Nat.zero_add]
      have e0 : ((x : Int) == 0) = false := by simp; omega
      have m3 : IntKind.i64.wrap ((x : Int) - 1) = ((x - 1 : Nat) : Int) := by rw [IntKind.wrap_i64]; omega
      have t1 : (0 : Int) ≤ ((x - 1 : Nat) : Int) := by omega
      have t2 : ((x - 1 : Nat) : Int) < (n : Int) := by omega
      generalize x - 1 = j at *
      generalize zs.getD j 0 = v at *
      clear h hnl hp hx0
      go_enter Tryz.func57, Tryz.ntmps57
      go_wp2
      go_ret
      exact ⟨by rw [HR.out]; rfl, Ext.refl w⟩
  · have hWA : W ≤ (A : Int) := by
      have : (1 : Int) * W ≤ (y : Int) * W := Int.mul_le_mul_of_nonneg_right (by omega) (by omega)
      omega
    have ey : ((y : Int) == 0) = false := by simp; omega
    obtain ⟨B, hB⟩ : ∃ B, A + x = B := ⟨_, rfl⟩
    have m2 : IntKind.i64.wrap ((A : Int) + (x : Int)) = (B : Int) := by rw [IntKind.wrap_i64]; omega
    have m5 : IntKind.i64.wrap ((B : Int) - W) = ((B - W.toNat : Nat) : Int) := by rw [IntKind.wrap_i64]; omega
    obtain ⟨g, off, rfl⟩ := h.had (by omega)
    by_cases hx0 : x = 0
    · subst hx0
      obtain rfl : A = B := by omega
      have hp5 : A - W.toNat < zs.length := by omega
      have q5 := h.at (iget_of_lt hp5)
      have t1 : (0 : Int) ≤ ((A - W.toNat : Nat) : Int) := by omega
      have t2 : ((A - W.toNat : Nat) : Int) < (n : Int) := by omega
      have HR : Hid (gsV W zs 0 y A = zs.getD (A - W.toNat) 0) := by show _ = _; unfold gsV; rw [if_neg hy0, if_pos rfl, hB]
      have y1 : IntKind.i64.wrap ((y : Int) - 1) = (y : Int) - 1 := by rw [IntKind.wrap_i64]; omega
      have y3 : ((y : Int) - 1) * W = ((A - W.toNat : Nat) : Int) := by rw [Int.sub_mul, hA]; omega
      have y4 : IntKind.i64.wrap ((A - W.toNat : Nat) : Int) = ((A - W.toNat : Nat) : Int) := by rw [IntKind.wrap_i64]; omega
      generalize A - W.toNat = j at *
      generalize zs.getD j 0 = v at *
      clear h hnl hp5 hy0 hB
      go_enter Tryz.func57, Tryz.ntmps57
      go_wp2
      go_ret
      exact ⟨by rw [HR.out]; rfl, Ext.refl w⟩
    · have hp5 : B - W.toNat < zs.length := by omega
      have hp1 : B - 1 < zs.length := by omega
      have hp6 : B - W.toNat - 1 < zs.length := by omega
      have q5 := h.at (iget_of_lt hp5)
      have q1 := h.at (iget_of_lt hp1)
      have q6 := h.at (iget_of_lt hp6)
      have t1 : (0 : Int) ≤ ((B - W.toNat : Nat) : Int) := by omega
      have t2 : ((B - W.toNat : Nat) : Int) < (n : Int) := by omega
      have ex : ((x : Int) == 0) = false := by simp; omega
      have m1' : IntKind.i64.wrap ((B : Int) - 1) = ((B - 1 : Nat) : Int) := by rw [IntKind.wrap_i64]; omega
      have m6 : IntKind.i64.wrap (((B - W.toNat : Nat) : Int) - 1) = ((B - W.toNat - 1 : Nat) : Int) := by rw [IntKind.wrap_i64]; omega
      have t3 : (0 : Int) ≤ ((B - 1 : Nat) : Int) := by omega
      have t4 : ((B - 1 : Nat) : Int) < (n : Int) := by omega
      have t5 : (0 : Int) ≤ ((B - W.toNat - 1 : Nat) : Int) := by omega
      have t6 : ((B - W.toNat - 1 : Nat) : Int) < (n : Int) := by omega
      have HR : Hid (gsV W zs x y A = clipI (zs.getD (B - 1) 0 + zs.getD (B - W.toNat) 0 - zs.getD (B - W.toNat - 1) 0)) := by show _ = _; unfold gsV; rw [if_neg hy0, if_neg hx0, hB]
      have b1 := hb (B - 1)
      have b5 := hb (B - W.toNat)
      have b6 := hb (B - W.toNat - 1)
      generalize B - W.toNat - 1 = j6 at *
      generalize B - W.toNat = j5 at *
      generalize B - 1 = j1 at *
      generalize zs.getD j6 0 = v6 at *
      generalize zs.getD j5 0 = v5 at *
      generalize zs.getD j1 0 = v1 at *
      have s1 : IntKind.i64.wrap (v1 + v5) = v1 + v5 := by rw [IntKind.wrap_i64]; omega
      have s2 : IntKind.i64.wrap (v1 + v5 - v6) = v1 + v5 - v6 := by rw [IntKind.wrap_i64]; omega
      clear h hnl hp1 hp5 hp6 hx0 hy0 hb hB
      go_enter Tryz.func57, Tryz.ntmps57
      go_wp2_with fail
      go_still_tail 20, (by kernel_rfl)
      change wpList _ _ _ _ _ w.drew
      go_wp2_with fail
      refine (rclip_any _ _).mono ?_; rintro e w2 ⟨rfl, rfl⟩
      go_wp2
      go_ret
      exact ⟨by rw [HR.out]; rfl, (Ext.refl w).drew⟩
end Go.Proofs.YtgohlhgapboijaaGreatDoor

/- source.foldsOf: by how much each sample differs from its guess, folded. -/
namespace Go.Proofs.YtgohlhgapboijaaGreatDoor
set_option linter.unusedVariables false
set_option linter.unusedSimpArgs false
open Go.RowKit Go.Extern.Stop Go.Stop Go.Extern

/-- what is written for the sample at place p -/
def fldV (W : Nat) (zs : List Int) (p : Nat) : Int := foldI (zs.getD p 0 - gsV (W : Int) zs (p % W) (p / W) (p / W * W))
def folds (W : Nat) (zs : List Int) (k : Nat) : List Int := (List.range k).map (fldV W zs)
theorem folds_len (W : Nat) (zs : List Int) (k : Nat) : (folds W zs k).length = k := by simp [folds]
theorem folds_succ (W : Nat) (zs : List Int) (k : Nat) : folds W zs (k + 1) = folds W zs k ++ [fldV W zs k] := by simp [folds, List.range_succ]
theorem fldV_at {W : Nat} {zs : List Int} {x y : Nat} (hx : x < W) : fldV W zs (y * W + x) = foldI (zs.getD (y * W + x) 0 - gsV (W : Int) zs x y (y * W)) := by
  have e1 : (y * W + x) % W = x := by rw [Nat.add_comm, Nat.add_mul_mod_self_right, Nat.mod_eq_of_lt hx]
  have e2 : (y * W + x) / W = y := by rw [Nat.add_comm, Nat.add_mul_div_right _ _ (by omega), Nat.div_eq_of_lt hx, Nat.zero_add]
  unfold fldV
  rw [e1, e2]
theorem fold_bound {v : Int} (h : -255 ≤ v ∧ v ≤ 255) : 0 ≤ foldI v ∧ foldI v ≤ 510 := by
  unfold foldI
  rw [if_neg (by omega)]
  split <;> omega
set_option maxHeartbeats 8000000 in
set_option maxRecDepth 100000 in
theorem foldsOf_any (W H n : Nat) (zs : List Int) (a : Option Addr) (cap : Nat) (w : World) (h : Ints w (.slice a n cap) zs) (hb : Byt zs) (hW : 8 ≤ W ∧ W ≤ 32) (hH : 8 ≤ H ∧ H ≤ 32) (hn : n = W * H) :
    Calls Tryz.prog 49 #[.agg #[.int .i64 (W : Int), .int .i64 (H : Int), .slice a n cap]] w fun e w' => ∃ v, e = .returned v ∧ Ext w w' ∧ w'.ownsRow (w.heap.size + 1) 3 1 v n ((folds W zs n).map (Value.int .i64)) := by
  obtain ⟨i0, hi, hz0, hz1, hz2⟩ := info_parts infoInt
  have hnl := h.len
  have hWH : W * H ≤ 32 * 32 := Nat.mul_le_mul hW.2 hH.2
  have hn1 : n ≤ 1024 := by omega
  have hn64 : 64 ≤ n := by have : 8 * 8 ≤ W * H := Nat.mul_le_mul hW.1 hH.1; omega
  have UG := Lib.hid (fun (x y A : Nat) (W' : World) (hE : Ext w W') (hA : (y : Int) * (W : Int) = (A : Int)) (hx : (x : Int) < (W : Int)) (hy : y ≤ 32) (hl : A + x ≤ n) => guess_any (W : Int) (H : Int) x y A n zs a cap W' (h.ext hE) hb (by omega) hA hx hy hl (by omega))
  have HI := Lib.hid h
  have HNL := Lib.hid hnl
  have HN := Lib.hid hn
  have HB := Lib.hid hb
  have E1 := Lib.hid ((Ext.refl w).alloc (.cells #[.int .i64 (W : Int), .int .i64 (H : Int), .slice a n cap] 48))
  have c0 : (w.alloc (.cells #[.int .i64 (W : Int), .int .i64 (H : Int), .slice a n cap] 48)).cell? ⟨w.heap.size, 0, none⟩ = some (.int .i64 (W : Int)) := by simp
  have c1 : (w.alloc (.cells #[.int .i64 (W : Int), .int .i64 (H : Int), .slice a n cap] 48)).cell? ⟨w.heap.size, 1, none⟩ = some (.int .i64 (H : Int)) := by simp
  have c2 : (w.alloc (.cells #[.int .i64 (W : Int), .int .i64 (H : Int), .slice a n cap] 48)).cell? ⟨w.heap.size, 2, none⟩ = some (.slice a n cap) := by simp
  have hs1 : (w.alloc (.cells #[.int .i64 (W : Int), .int .i64 (H : Int), .slice a n cap] 48)).heap.size = w.heap.size + 1 := by simp
  have HS1 := Lib.hid hs1
  obtain ⟨g0, off0, ha0⟩ := h.had (by omega)
  subst ha0
  have hg0 : g0 < w.heap.size := by
    have hp : 0 < zs.length := by omega
    exact Ext.lt (h.at (iget_of_lt hp))
  clear h hb hnl hs1 hWH hn
  go_enter Tryz.func49, Tryz.ntmps49
  revert E1 c0 c1 c2 HS1
  generalize hw1 : w.alloc _ = w1
  intro E1 c0 c1 c2 HS1
  have hs1 := HS1.out
  go_wp2_with (at_make; refine wpList_make_own _ rfl _ _ 46 rfl (w.heap.size + 1) 3 i0 (.int .i64 0) 1 Tryz.underlying46 hi hz0 hz1 .i64 .i64 _ n rfl rfl (by omega) (by rw [hz2]; omega) (by unfold maxLen; omega) (by omega) ?_)
  intro w2 hown hgrow
  have HBW : Hid (Below (w.heap.size + 1) w1 w2) := Below.grown (Below.refl _ _) hgrow (by omega) (fun k hk => by cases hk)
  have HOW : Hid (w2.ownsRow (w.heap.size + 1) 3 1 (.slice (some ⟨w.heap.size + 1, 0, none⟩) 0 n) 0 ((folds W zs 0).map (Value.int .i64))) := hown
  have C0 := Lib.hid c0
  have C1 := Lib.hid c1
  have C2 := Lib.hid c2
  have c1' := Below.cellv HBW.out c1 (Nat.lt_succ_self _)
  clear hown hgrow c0 c1 c2
  go_wp2_with fail
  clear c1'
  go_loopw [3, 12] (fun rv iv wr => ∃ (y A : Nat), y ≤ H ∧ iv = .int .i64 (y : Int) ∧ Hid (y * W = A) ∧ Hid (wr.ownsRow (w.heap.size + 1) 3 1 rv A ((folds W zs A).map (Value.int .i64))) ∧ Hid (Below (w.heap.size + 1) w1 wr)) (fun _ iv _ => H - (intOf iv).toNat)
  case atStart => exact ⟨0, 0, Nat.zero_le _, rfl, by show _ = _; omega, HOW, HBW⟩
  case round =>
    obtain ⟨y, A, hy, rfl, HA, HO, HL⟩ := hrel
    by_cases hlt : y < H
    · have t1 : (y : Int) < (H : Int) := by omega
      have d0 := Below.cellv HL.out C0.out (Nat.lt_succ_self _)
      go_wp2_with fail
      clear d0
      go_loopw [3, 17] (fun rv jv wr => ∃ x : Nat, x ≤ W ∧ jv = .int .i64 (x : Int) ∧ Hid (wr.ownsRow (w.heap.size + 1) 3 1 rv (A + x) ((folds W zs (A + x)).map (Value.int .i64))) ∧ Hid (Below (w.heap.size + 1) w1 wr)) (fun _ jv _ => W - (intOf jv).toNat)
      case atStart => exact ⟨0, Nat.zero_le _, rfl, HO, HL⟩
      case round =>
        obtain ⟨x, hx, rfl, HP, HM⟩ := hrel
        by_cases hxt : x < W
        · have t2 : (x : Int) < (W : Int) := by omega
          have hle : A + x < n := by
            have h1 : (y + 1) * W ≤ H * W := Nat.mul_le_mul_right W hlt
            have h2 : (y + 1) * W = A + W := by rw [Nat.add_mul, HA.out]; omega
            have h3 : n = H * W := by rw [HN.out, Nat.mul_comm]
            omega
          have hA : (y : Int) * (W : Int) = (A : Int) := by rw [← HA.out]; simp
          have mA : IntKind.i64.wrap (A : Int) = (A : Int) := by rw [IntKind.wrap_i64]; omega
          obtain ⟨P, hP⟩ : ∃ P, A + x = P := ⟨_, rfl⟩
          have mP : IntKind.i64.wrap ((A : Int) + (x : Int)) = (P : Int) := by rw [IntKind.wrap_i64]; omega
          have HFV : Hid (fldV W zs P = foldI (zs.getD P 0 - gsV (W : Int) zs x y A)) := by
            show _ = _
            have h1 := fldV_at (y := y) (zs := zs) hxt
            rw [HA.out, hP] at h1
            exact h1
          have b1 := HB.out P
          have b2 := gsV_bound (W := (W : Int)) HB.out x y A
          have hpz : P < zs.length := by rw [← HNL.out]; omega
          have hE : Ext w wr := Below.trans E1.out (Below.mono HM.out (Nat.le_succ _))
          have d0 := Below.cellv HM.out C0.out (Nat.lt_succ_self _)
          have d1 := Below.cellv HM.out C1.out (Nat.lt_succ_self _)
          have d2 := Below.cellv HM.out C2.out (Nat.lt_succ_self _)
          have dp := hE.cell (HI.out.at (iget_of_lt hpz))
          have HEI := Lib.hid hE
          have t3 : (0 : Int) ≤ (P : Int) := by omega
          have t4 : (P : Int) < (n : Int) := by omega
          have hsi := HM.out.size
          rw [hP] at HP
          have UF := Lib.hid (fun W' (hE' : Ext w W') => UG.out x y A W' hE' hA t2 (by omega) (by omega))
          obtain ⟨G, hG⟩ : ∃ G, gsV (W : Int) zs x y A = G := ⟨_, rfl⟩
          obtain ⟨Z, hZ⟩ : ∃ Z, zs.getD P 0 = Z := ⟨_, rfl⟩
          rw [hG, hZ] at HFV
          rw [hG] at UF b2
          rw [hZ] at b1 dp
          have mZ : IntKind.i64.wrap (Z - G) = Z - G := by rw [IntKind.wrap_i64]; omega
          clear hE hpz hG hZ
          go_wp2_with fail
          have hb9 : w.heap.size < w.heap.size + 1 := Nat.lt_succ_self _
          have hg9 : g0 < w.heap.size + 1 := Nat.lt_succ_of_lt hg0
          go_region_held3 (fun w' => (w'.cell? ⟨w.heap.size, 0, none⟩ = some (.int .i64 (W : Int)) ∧ w'.cell? ⟨w.heap.size, 1, none⟩ = some (.int .i64 (H : Int)) ∧ w'.cell? ⟨w.heap.size, 2, none⟩ = some (.slice (some ⟨g0, off0, none⟩) n cap)) ∧ w'.cell? ⟨g0, off0 + P, none⟩ = some (.int .i64 Z))
            (first
              | go_keep
              | (go_split_ands; exact ⟨⟨hx5.cell (by assumption), hx5.cell (by assumption), hx5.cell (by assumption)⟩, hx5.cell (by assumption)⟩)
              | (go_split_ands; exact ⟨⟨Below.cellv hb7 (by assumption) hb9, Below.cellv hb7 (by assumption) hb9, Below.cellv hb7 (by assumption) hb9⟩, Below.cellv hb7 (by assumption) hg9⟩))
            (first
              | (go_at_call 64; refine (UF.out _ HEI.out.drew).mono ?_; rintro e w5 ⟨rfl, hx5⟩; have ho5 := own_ext (own_ext HP.out (Ext.refl wr).drew) hx5; have hz5 : w.heap.size + 1 ≤ w5.heap.size := Nat.le_trans (by omega) (show wr.heap.size ≤ w5.heap.size from hx5.size))
              | (go_at_call 77; refine (fold_any _ _).mono ?_; rintro e w6 ⟨rfl, rfl⟩)
              | (refine step_append_lies _ (by rfl) _ _ _ (by rfl) (w.heap.size + 1) 3 i0 (.int .i64 0) 1 8 Tryz.underlying46 hi hz0 hz1 hz2 rfl (by decide) _ P _ (by rfl) (ho5.alloc _) ⟨w5.heap.size, 0, none⟩ 1 1 [.int .i64 (foldI (Z - G))] (by rfl) (by rfl) (World.news_of_block (cs := #[.int .i64 (foldI (Z - G))]) (t := 3) (fr := (0, 0)) (heap_alloc_new w5 _)) (one_int _) (by decide) (by unfold maxLen; omega) (by omega) (by simp; omega) (w5.heap.size + 1) (by simp) ?_; intro gg gc w7 ho7 hg7 _ _; have hb7 := Below.grown (Below.refl (w.heap.size + 1) _) hg7 (by simp; omega) (fun k hk => (ho5.lt k hk).1)))
          have HP7 : Hid (w7.ownsRow (w.heap.size + 1) 3 1 (.slice (some ⟨gg, 0, none⟩) (P + 1) gc) (A + (x + 1)) ((folds W zs (A + (x + 1))).map (Value.int .i64))) := by
            show World.ownsRow _ _ _ _ _ _ _
            have e : A + (x + 1) = P + 1 := by omega
            rw [e, folds_succ, List.map_append, HFV.out]
            exact ho7
          have HM7 : Hid (Below (w.heap.size + 1) w1 w7) := HM.out.trans (Below.trans ((Below.mono ((Ext.refl wr).drew.trans hx5) (by omega)).alloc hz5 _) hb7)
          clear ho7 hg7 hb7 ho5 hx5 HP HM HEI
          go_wp2_with fail
          exact ⟨⟨x + 1, by omega, by go_num, HP7, HM7⟩, by simp [intOf]; omega⟩
        · obtain rfl : x = W := by omega
          have t2 : ¬ (x : Int) < (x : Int) := by omega
          have HA1 : Hid ((y + 1) * x = A + x) := by show _ = _; rw [Nat.add_mul, HA.out]; omega
          go_wp2_with fail
          exact ⟨⟨y + 1, A + x, by omega, by go_num, HA1, HP, HM⟩, by simp [intOf]; omega⟩
    · obtain rfl : y = H := by omega
      have t2 : ¬ (y : Int) < (y : Int) := by omega
      have hAn : A = n := by rw [← HA.out, HN.out, Nat.mul_comm]
      have HX : Hid (Ext w wr) := Below.trans E1.out (Below.mono HL.out (Nat.le_succ _))
      have HO' : Hid (wr.ownsRow (w.heap.size + 1) 3 1 u3 n ((folds W zs n).map (Value.int .i64))) := by show World.ownsRow _ _ _ _ _ _ _; rw [← hAn]; exact HO.out
      clear hAn
      go_wp2_with fail
      go_ret
      exact ⟨_, rfl, HX.out, HO'.out⟩
end Go.Proofs.YtgohlhgapboijaaGreatDoor
