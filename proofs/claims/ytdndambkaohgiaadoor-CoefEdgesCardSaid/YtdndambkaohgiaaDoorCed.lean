/- kinlaw14.CoefEdges: the walk. -/
import Derived.Test.YtdndambkaohgiaaDoorCbk
namespace Go.Proofs.YtdndambkaohgiaaDoor
set_option linter.unusedVariables false
set_option linter.unusedSimpArgs false
open Go.RowKit Go.Extern.Stop Go.Stop Go.Extern

theorem tmod_lt (a : Int) (n : Nat) (hn : 0 < n) : -(n : Int) < Int.tmod a n ∧ Int.tmod a n < n := by
  refine ⟨?_, Int.tmod_lt_of_pos a (by omega)⟩
  have := Int.tmod_lt_of_pos (-a) (show (0 : Int) < (n : Int) by omega)
  rw [Int.neg_tmod] at this
  omega
theorem mat4 {W : World} {g : Nat} {a1 a2 : Option Addr} {n1 c1 n2 c2 : Nat} {ys zs : List Int} (h0 : W.cell? ⟨g, 0, none⟩ = some (.slice a1 n1 c1)) (h1 : W.cell? ⟨g, 1, none⟩ = some (.slice a1 n1 c1)) (h2 : W.cell? ⟨g, 2, none⟩ = some (.slice a2 n2 c2)) (h3 : W.cell? ⟨g, 3, none⟩ = some (.slice a1 n1 c1)) (hy : Ints W (.slice a1 n1 c1) ys) (hz : Ints W (.slice a2 n2 c2) zs) : Mat W (.slice (some ⟨g, 0, none⟩) 4 4) [ys, ys, zs, ys] := by
  refine ⟨some ⟨g, 0, none⟩, 4, rfl, Nat.le_refl _, by decide, fun _ => ⟨g, 0, rfl, fun q row hq => ?_⟩⟩
  rw [Nat.zero_add]
  match q, hq with
  | 0, hq => obtain rfl := Option.some.inj hq; exact ⟨a1, n1, c1, h0, hy.1⟩
  | 1, hq => obtain rfl := Option.some.inj hq; exact ⟨a1, n1, c1, h1, hy.1⟩
  | 2, hq => obtain rfl := Option.some.inj hq; exact ⟨a2, n2, c2, h2, hz.1⟩
  | 3, hq => obtain rfl := Option.some.inj hq; exact ⟨a1, n1, c1, h3, hy.1⟩
  | q + 4, hq => simp at hq
set_option maxHeartbeats 8000000 in
set_option maxRecDepth 20000 in
theorem cedges_law (x p : Int) (large all : Bool) (w : World) (hg : EtIs w) (hp : -9223372036854775808 ≤ p ∧ p ≤ 9223372036854775807) : Calls Tryd.prog 4 #[.int .i64 x, .int .i64 p, .bool large, .bool all] w fun e w' => e = .returned (.bool true) ∧ Ext w w' := by
  have HET := Lib.hid hg
  clear hg
  obtain ⟨i0, hi, hz0, hz1, hz2⟩ := info_parts infoInt
  have HI := Lib.hid (And.intro hi (And.intro hz0 (And.intro hz1 hz2)))
  clear hi hz0 hz1 hz2
  by_cases hr : x < -16320 ∨ 16320 < x
  · have hr2 : x < -16320 ∨ (¬ x < -16320 ∧ 16320 < x) := by omega
    clear hr
    rcases hr2 with h1 | ⟨h1, h2⟩
    all_goals (
      go_enter Tryd.func4, Tryd.ntmps4
      go_wp2_with fail
      refine (first14_any _ HET.out).mono ?_; rintro e w1 ⟨rfl, hx1⟩
      go_wp2_with fail
      refine (first14_any _ (HET.out.ext hx1)).mono ?_; rintro e w2 ⟨rfl, hx2⟩
      go_wp2
      go_ret
      exact ⟨rfl, hx1.trans hx2⟩)
  · have h1 : ¬ x < -16320 := by omega
    have h2 : ¬ 16320 < x := by omega
    clear hr
    go_enter Tryd.func4, Tryd.ntmps4
    go_wp2_with fail
    refine (first14_any _ HET.out).mono ?_; rintro e w1 ⟨rfl, hx1⟩
    have HE1 := Lib.hid hx1
    clear hx1
    cases large
    · obtain ⟨T, hT⟩ : ∃ T, Int.tmod p 16 = T := ⟨_, rfl⟩
      have hT1 := tmod_lt p 16 (by decide)
      rw [show ((16 : Nat) : Int) = 16 from rfl, hT] at hT1
      obtain ⟨U, hU⟩ : ∃ U, Int.tmod (T + 16) 16 = U := ⟨_, rfl⟩
      have hU1 := tmod_lt (T + 16) 16 (by decide)
      rw [show ((16 : Nat) : Int) = 16 from rfl, hU] at hU1
      have q1 : IntKind.i64.wrap T = T := by rw [IntKind.wrap_i64]; omega
      have q2 : IntKind.i64.wrap (T + 16) = T + 16 := by rw [IntKind.wrap_i64]; omega
      have q3 : IntKind.i64.wrap U = U := by rw [IntKind.wrap_i64]; omega
      obtain ⟨hi, hz0, hz1, hz2⟩ := HI.out
      go_wp2_with (at_make; refine wpList_make_full _ rfl _ _ 27 rfl w1.heap.size 3 i0 (.int .i64 0) 1 Tryd.underlying27 hi hz0 hz1 .i64 .i64 _ _ 16 rfl rfl rfl rfl (by rw [hz2]; decide) (by decide) (Nat.le_refl _) ?_; intro w5 hown hgrow)
      have hE := HE1.out.trans (Below.grown (Ext.refl w1) hgrow (Nat.le_refl _) (fun k hk => by cases hk))
      rw [zsL_made] at hown
      have HT5 := Lib.hid (TlF.new (n := 16) (by decide) hown).1
      have HE5 := Lib.hid hE
      have HB := Lib.hid HE1.out.size
      clear hE hown hgrow HE1
      go_wp2_with fail
      go_loopw [11] (fun kv wq => ∃ (k : Nat) (ys : List Int), k ≤ 16 ∧ kv = .int .i64 (k : Int) ∧ Hid (ys.length = 16) ∧ Hid (TlF wq (fun k => (Value.slice (some ⟨w1.heap.size, 0, none⟩) 16 16).ownBlock = some k) (.slice (some ⟨w1.heap.size, 0, none⟩) 16 16, ys)) ∧ Hid (Ext w wq)) (fun kv _ => 16 - (intOf kv).toNat)
      case atStart => exact ⟨0, _, Nat.zero_le _, rfl, (zs_facts 16).1, HT5.out, HE5.out⟩
      case round =>
        clear HT5 HE5
        obtain ⟨k, ys, hk, rfl, HY, HT, HE⟩ := hrel
        by_cases hkl : k < 16
        · have z1 : (0 : Int) ≤ (k : Int) := by omega
          have z2 : (k : Int) < 16 := by omega
          obtain ⟨y, hy⟩ : ∃ y, ys[k]? = some y := ⟨_, List.getElem?_eq_getElem (by rw [HY.out]; exact hkl)⟩
          obtain ⟨c0, c1⟩ := HT.out.at hy
          have HT2 := Lib.hid (HT.out.set (k := k) (x := x) (by rw [HY.out]; exact hkl))
          have HY2 : Hid ((ys.set k x).length = 16) := by show _ = _; rw [List.length_set]; exact HY.out
          have HE2 := Lib.hid (HE.out.setCell (p := ⟨w1.heap.size, k, none⟩) HB.out (.int .i64 x))
          clear hy
          obtain ⟨bt, hbt⟩ : ∃ b, ((k : Int) == U) = b := ⟨_, rfl⟩
          cases all
          · cases bt
            · go_wp2
              go_roundw
              case rel => exact ⟨k + 1, ys, by omega, by go_num, HY.out, HT.out, HE.out⟩
              case measure => simp [intOf] <;> omega
            · go_wp2
              go_roundw
              case rel => exact ⟨k + 1, ys.set k x, by omega, by go_num, HY2.out, HT2.out, HE2.out⟩
              case measure => simp [intOf] <;> omega
          · go_wp2
            go_roundw
            case rel => exact ⟨k + 1, ys.set k x, by omega, by go_num, HY2.out, HT2.out, HE2.out⟩
            case measure => simp [intOf] <;> omega
        · have z2 : ¬ (k : Int) < 16 := by omega
          have hI5 := HT.out.ho (by rw [HY.out]; decide)
          have HI5 := Lib.hid hI5.get
          clear hI5 HT
          go_wp2_with (at_make; refine wpList_make_full _ rfl _ _ 27 rfl wr.heap.size 3 i0 (.int .i64 0) 1 Tryd.underlying27 hi hz0 hz1 .i64 .i64 _ _ 16 rfl rfl rfl rfl (by rw [hz2]; decide) (by decide) (Nat.le_refl _) ?_; intro w6 hown hgrow)
          have hE := Below.grown (Ext.refl wr) hgrow (Nat.le_refl _) (fun k hk => by cases hk)
          have HJ6 := Lib.hid (ho_made (by decide) hown).1.get
          have HI6 := Lib.hid (HI5.out.ext hE)
          have HE6 := Lib.hid (HE.out.trans hE)
          clear hE hown hgrow HE HI5
          have A7 := (Ext.refl w6).alloc (.cells #[.slice (some ⟨w1.heap.size, 0, none⟩) 16 16, .slice (some ⟨w1.heap.size, 0, none⟩) 16 16, .slice (some ⟨wr.heap.size, 0, none⟩) 16 16, .slice (some ⟨w1.heap.size, 0, none⟩) 16 16] 27)
          have HM := Lib.hid (mat4 (g := w6.heap.size) (W := w6.alloc (.cells #[.slice (some ⟨w1.heap.size, 0, none⟩) 16 16, .slice (some ⟨w1.heap.size, 0, none⟩) 16 16, .slice (some ⟨wr.heap.size, 0, none⟩) 16 16, .slice (some ⟨w1.heap.size, 0, none⟩) 16 16] 27)) (by simp) (by simp) (by simp) (by simp) (HI6.out.ext A7) (HJ6.out.ext A7))
          have HE7 := Lib.hid (HE6.out.trans A7)
          have UB := Lib.hid (cback_law _ 0 _ _ (HET.out.ext HE7.out) HM.out)
          clear A7 HM
          refine (UB.out).mono ?_; rintro e w8 ⟨rfl, hx8⟩
          go_wp2
          go_ret
          exact ⟨rfl, HE7.out.trans hx8⟩
    · obtain ⟨T, hT⟩ : ∃ T, Int.tmod p 64 = T := ⟨_, rfl⟩
      have hT1 := tmod_lt p 64 (by decide)
      rw [show ((64 : Nat) : Int) = 64 from rfl, hT] at hT1
      obtain ⟨U, hU⟩ : ∃ U, Int.tmod (T + 64) 64 = U := ⟨_, rfl⟩
      have hU1 := tmod_lt (T + 64) 64 (by decide)
      rw [show ((64 : Nat) : Int) = 64 from rfl, hU] at hU1
      have q1 : IntKind.i64.wrap T = T := by rw [IntKind.wrap_i64]; omega
      have q2 : IntKind.i64.wrap (T + 64) = T + 64 := by rw [IntKind.wrap_i64]; omega
      have q3 : IntKind.i64.wrap U = U := by rw [IntKind.wrap_i64]; omega
      obtain ⟨hi, hz0, hz1, hz2⟩ := HI.out
      go_wp2_with (at_make; refine wpList_make_full _ rfl _ _ 27 rfl w1.heap.size 3 i0 (.int .i64 0) 1 Tryd.underlying27 hi hz0 hz1 .i64 .i64 _ _ 64 rfl rfl rfl rfl (by rw [hz2]; decide) (by decide) (Nat.le_refl _) ?_; intro w5 hown hgrow)
      have hE := HE1.out.trans (Below.grown (Ext.refl w1) hgrow (Nat.le_refl _) (fun k hk => by cases hk))
      rw [zsL_made] at hown
      have HT5 := Lib.hid (TlF.new (n := 64) (by decide) hown).1
      have HE5 := Lib.hid hE
      have HB := Lib.hid HE1.out.size
      clear hE hown hgrow HE1
      go_wp2_with fail
      go_loopw [11] (fun kv wq => ∃ (k : Nat) (ys : List Int), k ≤ 64 ∧ kv = .int .i64 (k : Int) ∧ Hid (ys.length = 64) ∧ Hid (TlF wq (fun k => (Value.slice (some ⟨w1.heap.size, 0, none⟩) 64 64).ownBlock = some k) (.slice (some ⟨w1.heap.size, 0, none⟩) 64 64, ys)) ∧ Hid (Ext w wq)) (fun kv _ => 64 - (intOf kv).toNat)
      case atStart => exact ⟨0, _, Nat.zero_le _, rfl, (zs_facts 64).1, HT5.out, HE5.out⟩
      case round =>
        clear HT5 HE5
        obtain ⟨k, ys, hk, rfl, HY, HT, HE⟩ := hrel
        by_cases hkl : k < 64
        · have z1 : (0 : Int) ≤ (k : Int) := by omega
          have z2 : (k : Int) < 64 := by omega
          obtain ⟨y, hy⟩ : ∃ y, ys[k]? = some y := ⟨_, List.getElem?_eq_getElem (by rw [HY.out]; exact hkl)⟩
          obtain ⟨c0, c1⟩ := HT.out.at hy
          have HT2 := Lib.hid (HT.out.set (k := k) (x := x) (by rw [HY.out]; exact hkl))
          have HY2 : Hid ((ys.set k x).length = 64) := by show _ = _; rw [List.length_set]; exact HY.out
          have HE2 := Lib.hid (HE.out.setCell (p := ⟨w1.heap.size, k, none⟩) HB.out (.int .i64 x))
          clear hy
          obtain ⟨bt, hbt⟩ : ∃ b, ((k : Int) == U) = b := ⟨_, rfl⟩
          cases all
          · cases bt
            · go_wp2
              go_roundw
              case rel => exact ⟨k + 1, ys, by omega, by go_num, HY.out, HT.out, HE.out⟩
              case measure => simp [intOf] <;> omega
            · go_wp2
              go_roundw
              case rel => exact ⟨k + 1, ys.set k x, by omega, by go_num, HY2.out, HT2.out, HE2.out⟩
              case measure => simp [intOf] <;> omega
          · go_wp2
            go_roundw
            case rel => exact ⟨k + 1, ys.set k x, by omega, by go_num, HY2.out, HT2.out, HE2.out⟩
            case measure => simp [intOf] <;> omega
        · have z2 : ¬ (k : Int) < 64 := by omega
          have hI5 := HT.out.ho (by rw [HY.out]; decide)
          have HI5 := Lib.hid hI5.get
          clear hI5 HT
          go_wp2_with (at_make; refine wpList_make_full _ rfl _ _ 27 rfl wr.heap.size 3 i0 (.int .i64 0) 1 Tryd.underlying27 hi hz0 hz1 .i64 .i64 _ _ 16 rfl rfl rfl rfl (by rw [hz2]; decide) (by decide) (Nat.le_refl _) ?_; intro w6 hown hgrow)
          have hE := Below.grown (Ext.refl wr) hgrow (Nat.le_refl _) (fun k hk => by cases hk)
          have HJ6 := Lib.hid (ho_made (by decide) hown).1.get
          have HI6 := Lib.hid (HI5.out.ext hE)
          have HE6 := Lib.hid (HE.out.trans hE)
          clear hE hown hgrow HE HI5
          have A7 := (Ext.refl w6).alloc (.cells #[.slice (some ⟨w1.heap.size, 0, none⟩) 64 64, .slice (some ⟨w1.heap.size, 0, none⟩) 64 64, .slice (some ⟨wr.heap.size, 0, none⟩) 16 16, .slice (some ⟨w1.heap.size, 0, none⟩) 64 64] 27)
          have HM := Lib.hid (mat4 (g := w6.heap.size) (W := w6.alloc (.cells #[.slice (some ⟨w1.heap.size, 0, none⟩) 64 64, .slice (some ⟨w1.heap.size, 0, none⟩) 64 64, .slice (some ⟨wr.heap.size, 0, none⟩) 16 16, .slice (some ⟨w1.heap.size, 0, none⟩) 64 64] 27)) (by simp) (by simp) (by simp) (by simp) (HI6.out.ext A7) (HJ6.out.ext A7))
          have HE7 := Lib.hid (HE6.out.trans A7)
          have UB := Lib.hid (cback_law _ 0 _ _ (HET.out.ext HE7.out) HM.out)
          clear A7 HM
          refine (UB.out).mono ?_; rintro e w8 ⟨rfl, hx8⟩
          go_wp2
          go_ret
          exact ⟨rfl, HE7.out.trans hx8⟩
end Go.Proofs.YtdndambkaohgiaaDoor
