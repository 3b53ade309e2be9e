/- kinlaw9.QuantPeak: the walk. -/
import Derived.Test.YtbmknmenaaanaaaDoorEach
import Derived.Test.YtbmknmenaaanaaaDoorQNear
import Derived.Test.YtbmknmenaaanaaaDoorWSmall
namespace Go.Proofs.YtbmknmenaaanaaaDoor
set_option linter.unusedVariables false
set_option linter.unusedSimpArgs false
open Go.RowKit Go.Extern.Stop Go.Stop Go.Extern

theorem level_le {c qp : Int} (h : okQ qp) : -(max c (-c)) ≤ levelOf c qp ∧ levelOf c qp ≤ max c (-c) := by
  obtain ⟨s0, s1⟩ := stepOf_ok h
  have key : ∀ x : Int, 0 ≤ x → 0 ≤ (x + stepOf qp / 2) / stepOf qp ∧ (x + stepOf qp / 2) / stepOf qp ≤ x := by
    intro x hx
    refine ⟨Int.ediv_nonneg (by omega) (by omega), ?_⟩
    have hd := Int.mul_ediv_self_le (x := x + stepOf qp / 2) (k := stepOf qp) (by omega)
    by_cases h1 : stepOf qp = 1
    · rw [h1]; simp
    · refine Int.le_of_lt_add_one (Int.ediv_lt_of_lt_mul (by omega) ?_)
      have hm : x * 1 ≤ x * stepOf qp := Int.mul_le_mul_of_nonneg_left s0 hx
      rw [Int.add_mul]
      by_cases hx0 : x = 0
      · subst hx0; omega
      · have hm2 : 1 * stepOf qp ≤ x * stepOf qp := Int.mul_le_mul_of_nonneg_right (by omega) (by omega)
        have hm3 : x * 2 ≤ x * stepOf qp := Int.mul_le_mul_of_nonneg_left (by omega) hx
        omega
  unfold levelOf
  split
  · have := key (-c) (by omega)
    omega
  · have := key c (by omega)
    omega
theorem pmax2 (x y : Int) : ∃ m, (∀ ts ty W, (Builtin.max_ ts ty #[.int .i64 x, .int .i64 y]).run Tryd.prog W = .ok (.int .i64 m) W) ∧ m = max x y := by
  refine ⟨if y > x then y else x, fun ts ty W => by simp [Builtin.max_, Builtin.max2], ?_⟩
  split <;> omega
theorem pmin2 (x y : Int) : ∃ m, (∀ ts ty W, (Builtin.min_ ts ty #[.int .i64 x, .int .i64 y]).run Tryd.prog W = .ok (.int .i64 m) W) ∧ m = min x y := by
  refine ⟨if y < x then y else x, fun ts ty W => by simp [Builtin.min_, Builtin.min2], ?_⟩
  split <;> omega
theorem row_at' {w : World} {g off n cap : Nat} {zs : List Int} (h : Row w (.slice (some ⟨g, off, none⟩) n cap) n (zs.map (Value.int .i64))) {j : Nat} {x : Int} (hj : zs[j]? = some x) : w.cell? ⟨g, off + j, none⟩ = some (.int .i64 x) := by
  obtain ⟨a, cap', h0, _, _, _, h4⟩ := h
  simp only [Value.slice.injEq] at h0
  exact h4 g off h0.1.symm j _ (by simp [hj])
theorem row_had' {w : World} {a : Option Addr} {n cap : Nat} {cs : List Value} (h : Row w (.slice a n cap) n cs) : 0 < n → ∃ g off, a = some ⟨g, off, none⟩ := fun h0 => by
  obtain ⟨a', cap', e, _, _, h3, _⟩ := h
  simp only [Value.slice.injEq] at e
  obtain ⟨rfl, _, rfl⟩ := e
  exact h3 h0
/-- what comes back of a list is no further than its numbers were turned -/
theorem peak_close {N M : Nat} {c v : Nat → Int} {b : Nat → Int} {t : Int} (hN : N = 16 ∧ M = 4 ∨ N = 64 ∧ M = 6) (ht : 0 ≤ t) (hc : ∀ i, i < N → c i = wht M b i) (hv : ∀ i, i < N → v i - c i ≤ t ∧ c i - v i ≤ t) : ∀ i, i < N → invF M (fun i => (rowL N v).getD i 0) i - b i ≤ t ∧ b i - invF M (fun i => (rowL N v).getD i 0) i ≤ t := by
  intro i hi
  have hp : N = 2 ^ M := by rcases hN with ⟨rfl, rfl⟩ | ⟨rfl, rfl⟩ <;> decide
  have e1 : wht M (fun i => (rowL N v).getD i 0) i = 2 ^ M * b i + wht M (fun i => if i < N then v i - wht M b i else 0) i := by
    rw [wht_congr (g := fun i => wht M b i + (if i < N then v i - wht M b i else 0)) (Nat.le_refl _) (fun j hj => by rw [getD_rowL, if_pos (by omega), if_pos (by omega)]; omega) i (by omega), wht_add, wht_wht]
  have hb := wht_bound (m := M) (B := t) (f := fun i => if i < N then v i - wht M b i else 0) (fun j => by
    show -t ≤ (if j < N then v j - wht M b j else 0) ∧ (if j < N then v j - wht M b j else 0) ≤ t
    split
    · rename_i hj
      have h1 := hv j hj
      rw [hc j hj] at h1
      omega
    · omega) i
  unfold invF
  rw [e1]
  rcases hN with ⟨_, rfl⟩ | ⟨_, rfl⟩ <;> omega

set_option maxHeartbeats 2000000 in
set_option maxRecDepth 20000 in
theorem peak_skip1 (v u : Value) (qp : Int) (n : Nat) (w : World) (hg : EtIs w) (hv : ∃ a cap, v = .slice a n cap) (h1 : n ≠ 16) (h2 : n ≠ 64) :
    Calls Tryd.prog 14 #[v, u, .int .i64 qp] w fun e w' => e = .returned (.bool true) ∧ Ext w w' := by
  obtain ⟨a, cap, rfl⟩ := hv
  have b1 : ((n : Int) != 16) = true := by simp; omega
  have b2 : ((n : Int) != 64) = true := by simp; omega
  go_enter Tryd.func14, Tryd.ntmps14
  go_wp2_with fail
  refine (first_any _ hg).mono ?_; rintro e w1 ⟨rfl, hx1⟩
  go_wp2_with fail
  refine (first_any _ (hg.ext hx1)).mono ?_; rintro e w9 ⟨rfl, hx9⟩
  go_wp2
  go_ret
  exact ⟨rfl, Ext.trans hx1 hx9⟩

set_option maxHeartbeats 2000000 in
set_option maxRecDepth 20000 in
theorem peak_skip2 (zs : List Int) (u : Value) (qp : Int) (n cap : Nat) (a : Option Addr) (w : World) (hg : EtIs w) (ha : Ints w (.slice a n cap) zs) (hn : n = 16 ∨ n = 64) (h : ¬ within (-255) 255 zs ∨ within (-255) 255 zs ∧ (qp < 0 ∨ ¬ qp < 0 ∧ 15 < qp)) :
    Calls Tryd.prog 14 #[.slice a n cap, u, .int .i64 qp] w fun e w' => e = .returned (.bool true) ∧ Ext w w' := by
  have hb : ((n : Int) != 16) = false ∨ ((n : Int) != 16) = true ∧ ((n : Int) != 64) = false := by
    rcases hn with rfl | rfl
    · exact Or.inl rfl
    · exact Or.inr ⟨rfl, rfl⟩
  clear hn
  rcases hb with b1 | ⟨b1, b2⟩
  all_goals
    rcases h with h1 | ⟨h1, h2 | ⟨h2, h3⟩⟩
    · have H1 := Lib.hid h1
      clear h1
      go_enter Tryd.func14, Tryd.ntmps14
      go_wp2_with fail
      refine (first_any _ hg).mono ?_; rintro e w1 ⟨rfl, hx1⟩
      go_wp2_with fail
      refine (within_any zs _ _ _ _ (ha.ext hx1)).mono ?_; rintro e w2 ⟨rfl, hx2⟩
      rw [decide_eq_false H1.out]
      have E2 := hx1.trans hx2
      go_wp2_with fail
      refine (first_any _ (hg.ext E2)).mono ?_; rintro e w9 ⟨rfl, hx9⟩
      go_wp2
      go_ret
      exact ⟨rfl, Ext.trans E2 hx9⟩
    · have H1 := Lib.hid h1
      clear h1
      go_enter Tryd.func14, Tryd.ntmps14
      go_wp2_with fail
      refine (first_any _ hg).mono ?_; rintro e w1 ⟨rfl, hx1⟩
      go_wp2_with fail
      refine (within_any zs _ _ _ _ (ha.ext hx1)).mono ?_; rintro e w2 ⟨rfl, hx2⟩
      rw [decide_eq_true H1.out]
      have E2 := hx1.trans hx2
      go_wp2_with fail
      refine (first_any _ (hg.ext E2)).mono ?_; rintro e w9 ⟨rfl, hx9⟩
      go_wp2
      go_ret
      exact ⟨rfl, Ext.trans E2 hx9⟩
    · have H1 := Lib.hid h1
      clear h1
      go_enter Tryd.func14, Tryd.ntmps14
      go_wp2_with fail
      refine (first_any _ hg).mono ?_; rintro e w1 ⟨rfl, hx1⟩
      go_wp2_with fail
      refine (within_any zs _ _ _ _ (ha.ext hx1)).mono ?_; rintro e w2 ⟨rfl, hx2⟩
      rw [decide_eq_true H1.out]
      have E2 := hx1.trans hx2
      go_wp2_with fail
      refine (first_any _ (hg.ext E2)).mono ?_; rintro e w9 ⟨rfl, hx9⟩
      go_wp2
      go_ret
      exact ⟨rfl, Ext.trans E2 hx9⟩

set_option maxHeartbeats 2000000 in
set_option maxRecDepth 20000 in
theorem peak_main (zs ps : List Int) (qp K : Int) (n m cap cap' : Nat) (a b : Option Addr) (C L V D : Nat → Int) (w : World) (hg : EtIs w) (ha : Ints w (.slice a n cap) zs) (hb : Row w (.slice b m cap') m (ps.map (Value.int .i64))) (hm : m = ps.length) (hz : n = zs.length)
    (hn : n = 16 ∨ n = 64) (HW : Hid (within (-255) 255 zs)) (hq : okQ qp) (hK : 0 ≤ K ∧ K ≤ 192)
    (f1 : Hid (∀ W, Ints W (.slice a n cap) zs → Calls Tryd.prog 17 #[.slice a n cap] W (WPost W none (rowL n C))))
    (f2 : Hid (∀ W v, Ints W v (rowL n C) → Calls Tryd.prog 41 #[v, .int .i64 qp] W fun e w' => ∃ u, e = .returned (.tuple #[u, .nilIface]) ∧ Ext W w' ∧ w'.ownsRow W.heap.size 3 1 u n ((rowL n L).map (Value.int .i64))))
    (f3 : Hid (∀ W v, Ints W v (rowL n L) → Calls Tryd.prog 42 #[v, .int .i64 qp] W fun e w' => ∃ u, e = .returned (.tuple #[u, .nilIface]) ∧ Ext W w' ∧ w'.ownsRow W.heap.size 3 1 u n ((rowL n V).map (Value.int .i64))))
    (f4 : Hid (∀ W v, Ints W v (rowL n V) → Calls Tryd.prog 19 #[v] W (WPost W none (rowL n D))))
    (f5 : Hid (∀ W, Calls Tryd.prog 35 #[.int .i64 qp] W fun e w' => e = .returned (.tuple #[.int .i64 K, .nilIface]) ∧ W = w'))
    (f6 : Hid (∀ W v, Ints W v (rowL n L) → Calls Tryd.prog 25 #[v, .int .i64 (-16320), .int .i64 16320] W fun e w' => e = .returned (.bool true) ∧ Ext W w'))
    (HD : Hid (∀ (i : Nat) (x : Int), zs[i]? = some x → D i - x ≤ K ∧ x - D i ≤ K)) :
    Calls Tryd.prog 14 #[.slice a n cap, .slice b m cap', .int .i64 qp] w fun e w' => e = .returned (.bool true) ∧ Ext w w' := by
  obtain ⟨q0, q1⟩ := hq
  have BG := Lib.hid (row_had' hb)
  have AG := Lib.hid (Ints.had' ha)
  have HM := Lib.hid hm
  have HZ := Lib.hid hz
  have hn0 : 1 ≤ n := by omega
  have hn6 : n ≤ 64 := by omega
  have bnn : ((n : Int) != (n : Int)) = false := by simp
  clear hm hz
  have hbb : ((n : Int) != 16) = false ∨ ((n : Int) != 16) = true ∧ ((n : Int) != 64) = false := by
    rcases hn with rfl | rfl
    · exact Or.inl rfl
    · exact Or.inr ⟨rfl, rfl⟩
  clear hn
  rcases hbb with b1 | ⟨b1, b2⟩
  all_goals
    go_enter Tryd.func14, Tryd.ntmps14
    go_wp2_with fail
    refine (first_any _ hg).mono ?_; rintro e w1 ⟨rfl, hx1⟩
    go_wp2_with fail
    refine (within_any zs _ _ _ _ (ha.ext hx1)).mono ?_; rintro e w2 ⟨rfl, hx2⟩
    rw [decide_eq_true HW.out]
    have E2 := hx1.trans hx2
    clear hx1 hx2
    go_wp2_with fail
    refine (f1.out _ (ha.ext E2)).mono ?_; rintro e w3 ⟨u3, x3, rfl, hx3, ho3, rfl⟩
    rw [rowL_length] at ho3
    have E3 := E2.trans hx3
    go_wp2_with fail
    refine (f2.out _ _ (Ints.of_row ho3 (by omega))).mono ?_; rintro e w4 ⟨u4, rfl, hx4, ho4⟩
    have E4 := E3.trans hx4
    have i4 := Ints.of_row ho4 (by omega)
    go_wp2_with fail
    refine (f3.out _ _ i4).mono ?_; rintro e w5 ⟨u5, rfl, hx5, ho5⟩
    have E5 := E4.trans hx5
    go_wp2_with fail
    refine (f4.out _ _ (Ints.of_row ho5 (by omega))).mono ?_; rintro e w6 ⟨u6, x6, rfl, hx6, ho6, rfl⟩
    rw [rowL_length] at ho6
    obtain ⟨gd, cd, rfl, -, -, -, -⟩ := own_form ho6 hn0
    have E6 := E5.trans hx6
    have i6 := (i4.ext hx5).ext hx6
    go_wp2_with fail
    refine (f5.out _).mono ?_; rintro e w7 ⟨rfl, rfl⟩
    clear ho3 ho4 ho5 i4 E2 E3 E4 E5 hx3 hx4 hx5 hx6
    go_wp2_with fail
    refine (f6.out _ _ i6).mono ?_; rintro e w8 ⟨rfl, hx8⟩
    have ho8 := own_ext ho6 hx8
    have E8 := E6.trans hx8
    have ha8 := ha.ext E8
    have hb8 := hb.ext E8
    clear ho6 i6 E6 hx8
    go_wp2
    go_loopw [17] (fun iv wr => ∃ k : Nat, k ≤ n ∧ iv = .int .i64 k ∧ Ext w8 wr) (fun iv _ => n - (intOf iv).toNat)
    case atStart => exact ⟨0, Nat.zero_le _, rfl, Ext.refl _⟩
    case round =>
      obtain ⟨k, hk, rfl, hE⟩ := hrel
      by_cases hlt : k < n
      · obtain ⟨x, hx⟩ : ∃ x, zs[k]? = some x := ⟨_, List.getElem?_eq_getElem (by rw [← HZ.out]; exact hlt)⟩
        obtain ⟨x0, x1⟩ := HW.out.at hx
        obtain ⟨d0, d1⟩ := HD.out k x hx
        obtain ⟨d, hd⟩ : ∃ d, D k = d := ⟨_, rfl⟩
        rw [hd] at d0 d1
        obtain ⟨g, off, rfl⟩ := AG.out (by omega)
        have cx := hE.cell (ha8.at hx)
        have cd' := hE.cell (own_cell ho8 hlt).1
        rw [hd] at cd'
        have t1 : decide (K < d - x) = false := decide_eq_false (by omega)
        have t2 : decide (K < x - d) = false := decide_eq_false (by omega)
        have u1 : IntKind.i64.wrap (d - x) = d - x := by rw [IntKind.wrap_i64]; omega
        have u2 : IntKind.i64.wrap (x - d) = x - d := by rw [IntKind.wrap_i64]; omega
        clear hx hd
        by_cases hkm : k < m
        · obtain ⟨p, hp⟩ : ∃ p, ps[k]? = some p := ⟨_, List.getElem?_eq_getElem (by rw [← HM.out]; exact hkm)⟩
          obtain ⟨g', off', rfl⟩ := BG.out (by omega)
          have cp := hE.cell (row_at' hb8 hp)
          have km : (k : Int) < (m : Int) := by omega
          clear hp
          by_cases p0 : 0 ≤ p
          · by_cases p1 : p ≤ 255
            · have u3 : IntKind.i64.wrap (p + x) = p + x := by rw [IntKind.wrap_i64]; omega
              by_cases p2 : 0 ≤ p + x
              · by_cases p3 : p + x ≤ 255
                · have u4 : IntKind.i64.wrap (p + d) = p + d := by rw [IntKind.wrap_i64]; omega
                  obtain ⟨mx, hmx, hmv⟩ := pmax2 (p + d) 0
                  obtain ⟨sv, hsv, hsw⟩ := pmin2 mx 255
                  have s0 : sv - p - x ≤ K := by omega
                  have s1 : p + x - sv ≤ K := by omega
                  have s2 : 0 ≤ sv ∧ sv ≤ 255 := by omega
                  clear hmv hsw
                  have t3 : decide (K < sv - p - x) = false := decide_eq_false (by omega)
                  have t4 : decide (K < p + x - sv) = false := decide_eq_false (by omega)
                  have u5 : IntKind.i64.wrap (sv - p) = sv - p := by rw [IntKind.wrap_i64]; omega
                  have u6 : IntKind.i64.wrap (sv - p - x) = sv - p - x := by rw [IntKind.wrap_i64]; omega
                  have u7 : IntKind.i64.wrap (p + x - sv) = p + x - sv := by rw [IntKind.wrap_i64]; omega
                  go_wp2
                  go_quiet (fail)
                  go_wp2
                  go_quiet (fail)
                  go_wp2
                  go_quiet (fail)
                  go_wp2
                  go_quiet (fail)
                  go_wp2
                  go_roundw
                  case rel => exact ⟨k + 1, by omega, by go_num, hE.drewN _⟩
                  case measure => simp [intOf]; omega
                · have q3 : decide (p + x ≤ 255) = false := decide_eq_false p3
                  go_wp2
                  go_quiet (fail)
                  go_wp2
                  go_quiet (fail)
                  go_wp2
                  go_roundw
                  case rel => exact ⟨k + 1, by omega, by go_num, hE.drewN _⟩
                  case measure => simp [intOf]; omega
              · have q2 : decide (0 ≤ p + x) = false := decide_eq_false p2
                go_wp2
                go_quiet (fail)
                go_wp2
                go_quiet (fail)
                go_wp2
                go_roundw
                case rel => exact ⟨k + 1, by omega, by go_num, hE.drewN _⟩
                case measure => simp [intOf]; omega
            · have q1 : decide (p ≤ 255) = false := decide_eq_false p1
              go_wp2
              go_quiet (fail)
              go_wp2
              go_quiet (fail)
              go_wp2
              go_roundw
              case rel => exact ⟨k + 1, by omega, by go_num, hE.drewN _⟩
              case measure => simp [intOf]; omega
          · have q0 : decide (0 ≤ p) = false := decide_eq_false p0
            go_wp2
            go_quiet (fail)
            go_wp2
            go_quiet (fail)
            go_wp2
            go_roundw
            case rel => exact ⟨k + 1, by omega, by go_num, hE.drewN _⟩
            case measure => simp [intOf]; omega
        · have km : decide ((k : Int) < (m : Int)) = false := decide_eq_false (by omega)
          go_wp2
          go_quiet (fail)
          go_wp2
          go_quiet (fail)
          go_wp2
          go_roundw
          case rel => exact ⟨k + 1, by omega, by go_num, hE.drewN _⟩
          case measure => simp [intOf]; omega
      · have E9 := E8.trans hE
        go_wp2_with fail
        refine (first_any _ (hg.ext E9)).mono ?_; rintro e w9 ⟨rfl, hx9⟩
        go_wp2
        go_ret
        exact ⟨rfl, E9.trans hx9⟩
theorem peak_law (zs ps : List Int) (qp : Int) (v u : Value) (w : World) (hg : EtIs w) (hr : Row w v zs.length (zs.map (Value.int .i64))) (hr' : Row w u ps.length (ps.map (Value.int .i64))) :
    Calls Tryd.prog 14 #[v, u, .int .i64 qp] w fun e w' => e = .returned (.bool true) ∧ Ext w w' := by
  by_cases hn : zs.length = 16 ∨ zs.length = 64
  · have ha : Ints w v zs := ⟨hr, by omega⟩
    obtain ⟨a, cap, rfl⟩ := ha.form
    obtain ⟨b, cap', rfl⟩ := hr'.form
    by_cases hw : within (-255) 255 zs
    · by_cases hq : okQ qp
      · obtain ⟨e, h3⟩ := lg_of hn
        have hs := stepOf_ok hq
        have hw6 : within (-65536) 65536 zs := fun x hx => by have := hw x hx; omega
        have p1 := blkAns_ok hn hw6
        have hC : ∀ i, -16320 ≤ fwdF zs i ∧ fwdF zs i ≤ 16320 := by
          intro i
          have hb := wht_bound (m := lgN zs.length) (B := 255) (fun i => getD_bound hw (by decide) i) i
          unfold fwdF
          rcases h3 with ⟨_, e4⟩ | ⟨_, e4⟩ <;> rw [e4] at hb ⊢ <;> omega
        have hL : ∀ i, -16320 ≤ levelOf (fwdF zs i) qp ∧ levelOf (fwdF zs i) qp ≤ 16320 := fun i => by
          have h1 := level_le (c := fwdF zs i) hq
          have h2 := hC i
          omega
        have hnr : ∀ i, levelOf (fwdF zs i) qp * stepOf qp - fwdF zs i ≤ stepOf qp / 2 ∧ fwdF zs i - levelOf (fwdF zs i) qp * stepOf qp ≤ stepOf qp / 2 := fun i => near _ _ hq
        have hV : blkAns (rowL zs.length fun i => levelOf (fwdF zs i) qp * stepOf qp) 16777216 = none := blkAns_ok (by rw [rowL_length]; exact hn) (rowL_within fun i _ => by have h1 := hnr i; have h2 := hC i; omega)
        refine peak_main zs ps qp (stepOf qp / 2) _ _ cap cap' a b (fwdF zs) (fun i => levelOf (fwdF zs i) qp) (fun i => levelOf (fwdF zs i) qp * stepOf qp) (invF (lgN zs.length) (fun i => (rowL zs.length fun i => levelOf (fwdF zs i) qp * stepOf qp).getD i 0)) w hg ha hr' rfl rfl hn hw hq (by omega)
          (fun W h => ?_) (fun W v h => levels_ok _ _ qp v W (by omega) (by omega) h hq (fun i _ => by have := hC i; unfold okC; omega)) (fun W v h => values_ok _ _ qp v W (by omega) (by omega) h hq (fun i _ => by have := hL i; unfold okL; omega))
          (fun W v h => ?_) (fun W => bound_ok qp W hq) (fun W v h => ?_) (fun i x hx => ?_)
        · have := forward_all zs _ W h
          rw [p1] at this
          exact this
        · have := inverse_all _ v W h
          rw [hV] at this
          unfold invL at this
          rw [rowL_length] at this
          exact this
        · have := within_any _ (-16320) 16320 v W h
          rw [decide_eq_true (show within (-16320) 16320 _ from rowL_within fun i _ => hL i)] at this
          exact this
        · have hi := (List.getElem?_eq_some_iff.1 hx).1
          have := peak_close (N := zs.length) (M := lgN zs.length) (b := fun i => zs.getD i 0) h3 (show 0 ≤ stepOf qp / 2 by omega) (fun i _ => rfl) (fun i _ => hnr i) i hi
          have hx' : zs.getD i 0 = x := by simp [List.getD, hx]
          rw [hx'] at this
          exact this
      · exact peak_skip2 zs _ qp _ cap a w hg ha hn (Or.inr ⟨hw, by unfold okQ at hq; omega⟩)
    · exact peak_skip2 zs _ qp _ cap a w hg ha hn (Or.inl hw)
  · exact peak_skip1 v u qp zs.length w hg hr.form (fun h => hn (Or.inl h)) (fun h => hn (Or.inr h))
end Go.Proofs.YtbmknmenaaanaaaDoor
