/- kinlaw18.VbvLess: the walk. -/
import Derived.Test.YtoifpgeabfeelaaDoorVAll
import Derived.Test.YtoifpgeabfeelaaDoorVMath
namespace Go.Proofs.YtoifpgeabfeelaaDoor
set_option linter.unusedVariables false
set_option linter.unusedSimpArgs false
open Go.RowKit Go.Extern.Stop Go.Stop Go.Extern

set_option maxHeartbeats 2000000 in
set_option maxRecDepth 20000 in
theorem less_long (c : Cfg) (v u : Value) (n m : Nat) (w : World) (hg : EtIs w) (hv : ∃ a cap, v = .slice a n cap) (hu : ∃ a cap, u = .slice a m cap) (hl : 5000 < n ∨ ¬ 5000 < n ∧ 5000 < m) :
    Calls Tryd.prog 5 #[.agg #[.int .i64 c.qmin, .int .i64 c.qmax, .int .i64 c.reach, .int .i64 c.cut, .int .i64 c.gop, .int .i64 c.rate, .int .i64 c.room, .int .i64 c.fill], v, u] w fun e w' => e = .returned (.bool true) ∧ Ext w w' := by
  have E1 : Ext w (w.alloc (.cells #[.int .i64 c.qmin, .int .i64 c.qmax, .int .i64 c.reach, .int .i64 c.cut, .int .i64 c.gop, .int .i64 c.rate, .int .i64 c.room, .int .i64 c.fill] 23)) := (Ext.refl w).alloc _
  obtain ⟨a, cap, rfl⟩ := hv
  obtain ⟨b, cap', rfl⟩ := hu
  rcases hl with h1 | ⟨h1, h2⟩
  all_goals
    go_enter Tryd.func5, Tryd.ntmps5
    go_wp2_with fail
    refine (first18 _ (hg.ext E1)).mono ?_; rintro e w1 ⟨rfl, hx1⟩
    go_wp2_with fail
    refine (first18 _ (hg.ext (E1.trans hx1))).mono ?_; rintro e w2 ⟨rfl, hx2⟩
    go_wp2
    go_ret
    exact ⟨rfl, E1.trans (hx1.trans hx2)⟩

theorem Ints.had {w : World} {a : Option Addr} {n cap : Nat} {zs : List Int} (h : Ints w (.slice a n cap) zs) : 0 < n → ∃ g off, a = some ⟨g, off, none⟩ := fun h0 => by
  obtain ⟨⟨a', cap', e, _, _, h3, _⟩, _⟩ := h
  simp only [Value.slice.injEq] at e
  obtain ⟨rfl, rfl, rfl⟩ := e
  exact h3 h0

set_option maxHeartbeats 2000000 in
set_option maxRecDepth 20000 in
theorem less_some (c : Cfg) (zs ls gs ys : List Int) (a b : Option Addr) (n m cap cap' : Nat) (w : World) (hg : EtIs w) (ha : Ints w (.slice a n cap) zs) (hb : Ints w (.slice b m cap') ls) (hn : n = zs.length) (hm : m = ls.length) (hl : ¬ 5000 < n) (hl' : ¬ 5000 < m)
    (pk : List (ByteArray × Int) × Int) (an : Option (List (ByteArray × Int) × Int)) (f1 : Hid (∀ W, Ints W (.slice a n cap) zs → Calls Tryd.prog 18 #[.agg #[.int .i64 c.qmin, .int .i64 c.qmax, .int .i64 c.reach, .int .i64 c.cut, .int .i64 c.gop, .int .i64 c.rate, .int .i64 c.room, .int .i64 c.fill], .slice a n cap] W (AnsPost W (some pk) gs))) (f2 : Hid (∀ W q q', Ints W (.slice q n q') (lessen zs ls) → Calls Tryd.prog 18 #[.agg #[.int .i64 c.qmin, .int .i64 c.qmax, .int .i64 c.reach, .int .i64 c.cut, .int .i64 c.gop, .int .i64 c.rate, .int .i64 c.room, .int .i64 c.fill], .slice q n q'] W (AnsPost W an ys))) :
    Calls Tryd.prog 5 #[.agg #[.int .i64 c.qmin, .int .i64 c.qmax, .int .i64 c.reach, .int .i64 c.cut, .int .i64 c.gop, .int .i64 c.rate, .int .i64 c.room, .int .i64 c.fill], .slice a n cap, .slice b m cap'] w fun e w' => e = .returned (.bool true) ∧ Ext w w' := by
  have E1 : Ext w (w.alloc (.cells #[.int .i64 c.qmin, .int .i64 c.qmax, .int .i64 c.reach, .int .i64 c.cut, .int .i64 c.gop, .int .i64 c.rate, .int .i64 c.room, .int .i64 c.fill] 23)) := (Ext.refl w).alloc _
  obtain ⟨i0, hi, hz0, hz1, hz2⟩ := info_parts infoInt
  have AG := Lib.hid ha.had
  have BG := Lib.hid hb.had
  have HN := Lib.hid hn
  have HM := Lib.hid hm
  clear hn hm
  go_enter Tryd.func5, Tryd.ntmps5
  go_wp2_with fail
  refine (first18 _ (hg.ext E1)).mono ?_; rintro e w1 ⟨rfl, hx1⟩
  obtain ⟨c0, c1, c2, c3, c4, c5, c6, c7⟩ := (CfgAt.mk' w c).ext hx1
  have E2 := E1.trans hx1
  have ha1 := ha.ext E2
  have hb1 := hb.ext E2
  clear E1 hx1 ha hb
  go_wp2
  go_loopw [7, 8] (fun sv iv wr => ∃ k : Nat, k ≤ n ∧ iv = .int .i64 k ∧ wr.ownsRow w1.heap.size 3 1 sv k (((lessen zs ls).take k).map (Value.int .i64)) ∧ Ext w1 wr) (fun _ iv _ => n - (intOf iv).toNat)
  case atStart => exact ⟨0, Nat.zero_le _, rfl, ⟨rfl, Or.inl ⟨rfl, rfl⟩⟩, Ext.refl _⟩
  case round =>
    obtain ⟨k, hk, rfl, hown, hE⟩ := hrel
    have hsz := hE.size
    by_cases hlt : k < n
    · obtain ⟨s, hs⟩ : ∃ s, zs[k]? = some s := ⟨_, List.getElem?_eq_getElem (by rw [← HN.out]; exact hlt)⟩
      obtain ⟨g, off, rfl⟩ := AG.out (by omega)
      have cs := hE.cell (ha1.at hs)
      by_cases hkm : k < m
      · obtain ⟨x, hx⟩ : ∃ x, ls[k]? = some x := ⟨_, List.getElem?_eq_getElem (by rw [← HM.out]; exact hkm)⟩
        obtain ⟨g', off', rfl⟩ := BG.out (by omega)
        have cx := hE.cell (hb1.at hx)
        have hles := lessen_some hs hx
        by_cases hx0 : x < 0
        · rw [if_neg (by omega)] at hles
          have HV := Lib.hid hles
          clear hles hs hx
          go_wp2_with (at_builtin; refine push_int rfl _ _ 24 rfl Tryd.underlying24 _ k _ _ rfl hown rfl hsz (by omega) ?_; intro v' w3 h1 h2)
          have h3 : w3.ownsRow w1.heap.size 3 1 v' (k + 1) (((lessen zs ls).take (k + 1)).map (Value.int .i64)) := by rw [take_of_get HV.out, List.map_append]; exact h1
          have hE3 : Ext w1 w3 := hE.of_below h2 (Nat.le_refl _)
          go_wp2
          go_roundw
          case rel => exact ⟨k + 1, by omega, by go_num, h3, hE3⟩
          case measure => simp [intOf]; omega
        · by_cases hxs : x < s
          · rw [if_pos ⟨by omega, hxs⟩] at hles
            have HV := Lib.hid hles
            clear hles hs hx
            go_wp2_with (at_builtin; refine push_int rfl _ _ 24 rfl Tryd.underlying24 _ k _ _ rfl hown rfl hsz (by omega) ?_; intro v' w3 h1 h2)
            have h3 : w3.ownsRow w1.heap.size 3 1 v' (k + 1) (((lessen zs ls).take (k + 1)).map (Value.int .i64)) := by rw [take_of_get HV.out, List.map_append]; exact h1
            have hE3 : Ext w1 w3 := hE.of_below h2 (Nat.le_refl _)
            go_wp2
            go_roundw
            case rel => exact ⟨k + 1, by omega, by go_num, h3, hE3⟩
            case measure => simp [intOf]; omega
          · rw [if_neg (by omega)] at hles
            have HV := Lib.hid hles
            clear hles hs hx
            go_wp2_with (at_builtin; refine push_int rfl _ _ 24 rfl Tryd.underlying24 _ k _ _ rfl hown rfl hsz (by omega) ?_; intro v' w3 h1 h2)
            have h3 : w3.ownsRow w1.heap.size 3 1 v' (k + 1) (((lessen zs ls).take (k + 1)).map (Value.int .i64)) := by rw [take_of_get HV.out, List.map_append]; exact h1
            have hE3 : Ext w1 w3 := hE.of_below h2 (Nat.le_refl _)
            go_wp2
            go_roundw
            case rel => exact ⟨k + 1, by omega, by go_num, h3, hE3⟩
            case measure => simp [intOf]; omega
      · have hles := lessen_none (ls := ls) hs (List.getElem?_eq_none (by rw [← HM.out]; omega))
        have HV := Lib.hid hles
        clear hles hs
        go_wp2_with (at_builtin; refine push_int rfl _ _ 24 rfl Tryd.underlying24 _ k _ _ rfl hown rfl hsz (by omega) ?_; intro v' w3 h1 h2)
        have h3 : w3.ownsRow w1.heap.size 3 1 v' (k + 1) (((lessen zs ls).take (k + 1)).map (Value.int .i64)) := by rw [take_of_get HV.out, List.map_append]; exact h1
        have hE3 : Ext w1 w3 := hE.of_below h2 (Nat.le_refl _)
        go_wp2
        go_roundw
        case rel => exact ⟨k + 1, by omega, by go_num, h3, hE3⟩
        case measure => simp [intOf]; omega
    · have hkn : k = n := by omega
      subst hkn
      have hln := lessen_length zs ls
      rw [List.take_of_length_le (by rw [hln, ← HN.out]; exact Nat.le_refl _)] at hown
      have hsm := Ints.of_owns hown (by rw [hln, ← HN.out]; omega)
      have E3 := E2.trans hE
      have haw := ha1.ext hE
      obtain ⟨sa, scap, rfl⟩ := hsm.form
      rw [hln, ← HN.out] at hsm ⊢
      have k0 := hE.cell c0
      have k1 := hE.cell c1
      have k2 := hE.cell c2
      have k3 := hE.cell c3
      have k4 := hE.cell c4
      have k5 := hE.cell c5
      have k6 := hE.cell c6
      have k7 := hE.cell c7
      clear c0 c1 c2 c3 c4 c5 c6 c7 hown ha1 hb1 hln hsz E2 hE
      go_wp2_with fail
      refine (f1.out _ haw).mono ?_; rintro e w3 ⟨u, x, rfl, hx3, hm1⟩
      have E4 := E3.trans hx3
      have hs4 := hsm.ext hx3
      have haw4 := haw.ext hx3
      have j0 := hx3.cell k0
      have j1 := hx3.cell k1
      have j2 := hx3.cell k2
      have j3 := hx3.cell k3
      have j4 := hx3.cell k4
      have j5 := hx3.cell k5
      have j6 := hx3.cell k6
      have j7 := hx3.cell k7
      clear k0 k1 k2 k3 k4 k5 k6 k7 haw hsm
      obtain ⟨tx, vx, hne⟩ := hm1.2.ne_nil
      subst hne
      clear hm1 hx3 E3
      go_wp2_with fail
      refine (f2.out _ _ _ hs4).mono ?_; rintro e w4 ⟨u', x', rfl, hx4, hm2⟩
      clear hm2
      go_wp2_with fail
      refine (first18 _ (hg.ext (E4.trans hx4))).mono ?_; rintro e w5 ⟨rfl, hx5⟩
      go_wp2
      go_ret
      exact ⟨rfl, E4.trans (hx4.trans hx5)⟩
set_option maxHeartbeats 2000000 in
set_option maxRecDepth 20000 in
theorem less_none (c : Cfg) (zs ls gs ys : List Int) (a b : Option Addr) (n m cap cap' : Nat) (w : World) (hg : EtIs w) (ha : Ints w (.slice a n cap) zs) (hb : Ints w (.slice b m cap') ls) (hn : n = zs.length) (hm : m = ls.length) (hl : ¬ 5000 < n) (hl' : ¬ 5000 < m)
    (A B : Nat → Int) (f1 : Hid (∀ W, Ints W (.slice a n cap) zs → Calls Tryd.prog 18 #[.agg #[.int .i64 c.qmin, .int .i64 c.qmax, .int .i64 c.reach, .int .i64 c.cut, .int .i64 c.gop, .int .i64 c.rate, .int .i64 c.room, .int .i64 c.fill], .slice a n cap] W (AnsPost W none gs))) (f2 : Hid (∀ W q q', Ints W (.slice q n q') (lessen zs ls) → Calls Tryd.prog 18 #[.agg #[.int .i64 c.qmin, .int .i64 c.qmax, .int .i64 c.reach, .int .i64 c.cut, .int .i64 c.gop, .int .i64 c.rate, .int .i64 c.room, .int .i64 c.fill], .slice q n q'] W (AnsPost W none ys)))
    (lg : gs.length = n) (lh : ys.length = n) (hr0 : 0 ≤ c.rate ∧ c.rate ≤ 16384) (hA0 : A 0 = c.fill) (hB0 : B 0 = c.fill)
    (hst : Hid (∀ (k : Nat) (s s' p q : Int), zs[k]? = some s → (lessen zs ls)[k]? = some s' → gs[k]? = some p → ys[k]? = some q → A (k + 1) = A k - s - p + c.rate ∧ B (k + 1) = B k - s' - q + c.rate ∧ s' ≤ B k ∧ A k ≤ B k ∧ 0 ≤ s ∧ s ≤ 16384 ∧ 0 ≤ s' ∧ s' ≤ 16384 ∧ 0 ≤ p ∧ p ≤ 16384 ∧ 0 ≤ q ∧ q ≤ 16384 ∧ 0 ≤ A k ∧ A k ≤ 16384 ∧ 0 ≤ B k ∧ B k ≤ 16384)) :
    Calls Tryd.prog 5 #[.agg #[.int .i64 c.qmin, .int .i64 c.qmax, .int .i64 c.reach, .int .i64 c.cut, .int .i64 c.gop, .int .i64 c.rate, .int .i64 c.room, .int .i64 c.fill], .slice a n cap, .slice b m cap'] w fun e w' => e = .returned (.bool true) ∧ Ext w w' := by
  have E1 : Ext w (w.alloc (.cells #[.int .i64 c.qmin, .int .i64 c.qmax, .int .i64 c.reach, .int .i64 c.cut, .int .i64 c.gop, .int .i64 c.rate, .int .i64 c.room, .int .i64 c.fill] 23)) := (Ext.refl w).alloc _
  obtain ⟨i0, hi, hz0, hz1, hz2⟩ := info_parts infoInt
  have AG := Lib.hid ha.had
  have BG := Lib.hid hb.had
  have HN := Lib.hid hn
  have HM := Lib.hid hm
  clear hn hm
  go_enter Tryd.func5, Tryd.ntmps5
  go_wp2_with fail
  refine (first18 _ (hg.ext E1)).mono ?_; rintro e w1 ⟨rfl, hx1⟩
  obtain ⟨c0, c1, c2, c3, c4, c5, c6, c7⟩ := (CfgAt.mk' w c).ext hx1
  have E2 := E1.trans hx1
  have ha1 := ha.ext E2
  have hb1 := hb.ext E2
  clear E1 hx1 ha hb
  go_wp2
  go_loopw [7, 8] (fun sv iv wr => ∃ k : Nat, k ≤ n ∧ iv = .int .i64 k ∧ wr.ownsRow w1.heap.size 3 1 sv k (((lessen zs ls).take k).map (Value.int .i64)) ∧ Ext w1 wr) (fun _ iv _ => n - (intOf iv).toNat)
  case atStart => exact ⟨0, Nat.zero_le _, rfl, ⟨rfl, Or.inl ⟨rfl, rfl⟩⟩, Ext.refl _⟩
  case round =>
    obtain ⟨k, hk, rfl, hown, hE⟩ := hrel
    have hsz := hE.size
    by_cases hlt : k < n
    · obtain ⟨s, hs⟩ : ∃ s, zs[k]? = some s := ⟨_, List.getElem?_eq_getElem (by rw [← HN.out]; exact hlt)⟩
      obtain ⟨g, off, rfl⟩ := AG.out (by omega)
      have cs := hE.cell (ha1.at hs)
      by_cases hkm : k < m
      · obtain ⟨x, hx⟩ : ∃ x, ls[k]? = some x := ⟨_, List.getElem?_eq_getElem (by rw [← HM.out]; exact hkm)⟩
        obtain ⟨g', off', rfl⟩ := BG.out (by omega)
        have cx := hE.cell (hb1.at hx)
        have hles := lessen_some hs hx
        by_cases hx0 : x < 0
        · rw [if_neg (by omega)] at hles
          have HV := Lib.hid hles
          clear hles hs hx
          go_wp2_with (at_builtin; refine push_int rfl _ _ 24 rfl Tryd.underlying24 _ k _ _ rfl hown rfl hsz (by omega) ?_; intro v' w3 h1 h2)
          have h3 : w3.ownsRow w1.heap.size 3 1 v' (k + 1) (((lessen zs ls).take (k + 1)).map (Value.int .i64)) := by rw [take_of_get HV.out, List.map_append]; exact h1
          have hE3 : Ext w1 w3 := hE.of_below h2 (Nat.le_refl _)
          go_wp2
          go_roundw
          case rel => exact ⟨k + 1, by omega, by go_num, h3, hE3⟩
          case measure => simp [intOf]; omega
        · by_cases hxs : x < s
          · rw [if_pos ⟨by omega, hxs⟩] at hles
            have HV := Lib.hid hles
            clear hles hs hx
            go_wp2_with (at_builtin; refine push_int rfl _ _ 24 rfl Tryd.underlying24 _ k _ _ rfl hown rfl hsz (by omega) ?_; intro v' w3 h1 h2)
            have h3 : w3.ownsRow w1.heap.size 3 1 v' (k + 1) (((lessen zs ls).take (k + 1)).map (Value.int .i64)) := by rw [take_of_get HV.out, List.map_append]; exact h1
            have hE3 : Ext w1 w3 := hE.of_below h2 (Nat.le_refl _)
            go_wp2
            go_roundw
            case rel => exact ⟨k + 1, by omega, by go_num, h3, hE3⟩
            case measure => simp [intOf]; omega
          · rw [if_neg (by omega)] at hles
            have HV := Lib.hid hles
            clear hles hs hx
            go_wp2_with (at_builtin; refine push_int rfl _ _ 24 rfl Tryd.underlying24 _ k _ _ rfl hown rfl hsz (by omega) ?_; intro v' w3 h1 h2)
            have h3 : w3.ownsRow w1.heap.size 3 1 v' (k + 1) (((lessen zs ls).take (k + 1)).map (Value.int .i64)) := by rw [take_of_get HV.out, List.map_append]; exact h1
            have hE3 : Ext w1 w3 := hE.of_below h2 (Nat.le_refl _)
            go_wp2
            go_roundw
            case rel => exact ⟨k + 1, by omega, by go_num, h3, hE3⟩
            case measure => simp [intOf]; omega
      · have hles := lessen_none (ls := ls) hs (List.getElem?_eq_none (by rw [← HM.out]; omega))
        have HV := Lib.hid hles
        clear hles hs
        go_wp2_with (at_builtin; refine push_int rfl _ _ 24 rfl Tryd.underlying24 _ k _ _ rfl hown rfl hsz (by omega) ?_; intro v' w3 h1 h2)
        have h3 : w3.ownsRow w1.heap.size 3 1 v' (k + 1) (((lessen zs ls).take (k + 1)).map (Value.int .i64)) := by rw [take_of_get HV.out, List.map_append]; exact h1
        have hE3 : Ext w1 w3 := hE.of_below h2 (Nat.le_refl _)
        go_wp2
        go_roundw
        case rel => exact ⟨k + 1, by omega, by go_num, h3, hE3⟩
        case measure => simp [intOf]; omega
    · have hkn : k = n := by omega
      subst hkn
      have hln := lessen_length zs ls
      rw [List.take_of_length_le (by rw [hln, ← HN.out]; exact Nat.le_refl _)] at hown
      have hsm := Ints.of_owns hown (by rw [hln, ← HN.out]; omega)
      have E3 := E2.trans hE
      have haw := ha1.ext hE
      obtain ⟨sa, scap, rfl⟩ := hsm.form
      rw [hln, ← HN.out] at hsm ⊢
      have k0 := hE.cell c0
      have k1 := hE.cell c1
      have k2 := hE.cell c2
      have k3 := hE.cell c3
      have k4 := hE.cell c4
      have k5 := hE.cell c5
      have k6 := hE.cell c6
      have k7 := hE.cell c7
      clear c0 c1 c2 c3 c4 c5 c6 c7 hown ha1 hb1 hln hsz E2 hE
      go_wp2_with fail
      refine (f1.out _ haw).mono ?_; rintro e w3 ⟨u, x, rfl, hx3, hm1⟩
      have E4 := E3.trans hx3
      have hs4 := hsm.ext hx3
      have haw4 := haw.ext hx3
      have j0 := hx3.cell k0
      have j1 := hx3.cell k1
      have j2 := hx3.cell k2
      have j3 := hx3.cell k3
      have j4 := hx3.cell k4
      have j5 := hx3.cell k5
      have j6 := hx3.cell k6
      have j7 := hx3.cell k7
      clear k0 k1 k2 k3 k4 k5 k6 k7 haw hsm
      obtain ⟨hig, rfl⟩ := hm1
      have hig3 := hig
      clear hx3 E3
      go_wp2_with fail
      refine (f2.out _ _ _ hs4).mono ?_; rintro e w4 ⟨u', x', rfl, hx4, hih, rfl⟩
      have hig4 := hig.ext hx4
      have haw5 := haw4.ext hx4
      have hs5 := hs4.ext hx4
      have E5 := E4.trans hx4
      have k5 := hx4.cell j5
      have k7 := hx4.cell j7
      clear hig hig3 haw4 hs4 E4 hx4 j0 j1 j2 j3 j4 j5 j6 j7
      obtain ⟨ga, gcap, rfl⟩ := hig4.form
      obtain ⟨ha', hcap, rfl⟩ := hih.form
      rw [lg] at hig4 ⊢
      rw [lh] at hih ⊢
      have GG := Lib.hid hig4.had
      have HH := Lib.hid hih.had
      have SG := Lib.hid hs5.had
      have LG := Lib.hid lg
      have LH := Lib.hid lh
      clear lg lh
      go_wp2
      go_quiet (fail)
      go_wp2
      go_loopw [14, 15, 16] (fun av bv iv wq => ∃ i : Nat, i ≤ k ∧ iv = .int .i64 i ∧ av = .int .i64 (A i) ∧ bv = .int .i64 (B i) ∧ Ext w4 wq) (fun _ _ iv _ => k - (intOf iv).toNat)
      case atStart => exact ⟨0, Nat.zero_le _, rfl, by rw [hA0], by rw [hB0], (Ext.refl _).drewN _⟩
      case round =>
        obtain ⟨i, hi', rfl, rfl, rfl, hF⟩ := hrel
        by_cases hlt : i < k
        · obtain ⟨s, hs⟩ : ∃ s, zs[i]? = some s := ⟨_, List.getElem?_eq_getElem (by rw [← HN.out]; exact hlt)⟩
          obtain ⟨s', hs'⟩ : ∃ s', (lessen zs ls)[i]? = some s' := ⟨_, List.getElem?_eq_getElem (by rw [lessen_length, ← HN.out]; exact hlt)⟩
          obtain ⟨p, hp⟩ : ∃ p, gs[i]? = some p := ⟨_, List.getElem?_eq_getElem (by rw [LG.out]; exact hlt)⟩
          obtain ⟨q, hq⟩ : ∃ q, ys[i]? = some q := ⟨_, List.getElem?_eq_getElem (by rw [LH.out]; exact hlt)⟩
          obtain ⟨nA, nB, b1, b2, b3, b4, b5, b6, b7, b8, b9, b10, b11, b12, b13, b14⟩ := hst.out i s s' p q hs hs' hp hq
          obtain ⟨g1, o1, rfl⟩ := AG.out (by omega)
          obtain ⟨g2, o2, rfl⟩ := SG.out (by omega)
          obtain ⟨g3, o3, rfl⟩ := GG.out (by omega)
          obtain ⟨g4, o4, rfl⟩ := HH.out (by omega)
          have l1 := hF.cell (haw5.at hs)
          have l2 := hF.cell (hs5.at hs')
          have l3 := hF.cell (hig4.at hp)
          have l4 := hF.cell (hih.at hq)
          have l5 := hF.cell k5
          have NA := Lib.hid nA
          have NB := Lib.hid nB
          clear hs hs' hp hq nA nB
          go_wp2
          go_quiet (fail)
          go_wp2
          go_quiet (fail)
          go_wp2
          go_roundw
          case rel => exact ⟨i + 1, by omega, by go_num, by rw [NA.out], by rw [NB.out], hF.drewN _⟩
          case measure => simp [intOf]; omega
        · go_wp2_with fail
          refine (first18 _ (hg.ext (E5.trans hF))).mono ?_; rintro e w5 ⟨rfl, hx5⟩
          go_wp2
          go_ret
          exact ⟨rfl, E5.trans (hF.trans hx5)⟩

theorem less_facts {c : Cfg} {zs ls : List Int} (hA : ansOf c zs (fillErr c.rate c.room c.fill zs 0) = none) :
    ansOf c (lessen zs ls) (fillErr c.rate c.room c.fill (lessen zs ls) 0) = none ∧ (0 ≤ c.rate ∧ c.rate ≤ 16384) ∧
    ∀ (k : Nat) (s s' p q : Int), zs[k]? = some s → (lessen zs ls)[k]? = some s' → (fillOut c.rate c.room c.fill zs)[k]? = some p → (fillOut c.rate c.room c.fill (lessen zs ls))[k]? = some q →
      fc c.rate c.room c.fill (zs.take (k + 1)) = fc c.rate c.room c.fill (zs.take k) - s - p + c.rate ∧ fc c.rate c.room c.fill ((lessen zs ls).take (k + 1)) = fc c.rate c.room c.fill ((lessen zs ls).take k) - s' - q + c.rate ∧ s' ≤ fc c.rate c.room c.fill ((lessen zs ls).take k) ∧ fc c.rate c.room c.fill (zs.take k) ≤ fc c.rate c.room c.fill ((lessen zs ls).take k) ∧
      0 ≤ s ∧ s ≤ 16384 ∧ 0 ≤ s' ∧ s' ≤ 16384 ∧ 0 ≤ p ∧ p ≤ 16384 ∧ 0 ≤ q ∧ q ≤ 16384 ∧ 0 ≤ fc c.rate c.room c.fill (zs.take k) ∧ fc c.rate c.room c.fill (zs.take k) ≤ 16384 ∧ 0 ≤ fc c.rate c.room c.fill ((lessen zs ls).take k) ∧ fc c.rate c.room c.fill ((lessen zs ls).take k) ≤ 16384 := by
  obtain ⟨hG, hS, hE⟩ := ansOf_none hA
  have hG' := hG
  obtain ⟨_, _, _, _, _, _, _, _, _, g1, g2, g3, g4, g5⟩ := hG'
  have hE' := lessen_fill (ls := ls) (Int.le_refl c.fill) hE
  have hw' := lessen_within (ls := ls) (Int.le_refl 0) hS.2
  have hS' : Sizes (lessen zs ls) := ⟨by rw [lessen_length]; exact hS.1, hw'⟩
  refine ⟨by unfold ansOf; rw [if_pos hG, if_pos hS', hE']; rfl, ⟨by omega, by omega⟩, fun k s s' p q h1 h2 h3 h4 => ?_⟩
  have e1 := fillOut_at (rate := c.rate) (room := c.room) (f := c.fill) h1
  rw [h3] at e1
  have e2 := fillOut_at (rate := c.rate) (room := c.room) (f := c.fill) h2
  rw [h4] at e2
  have e1 := Option.some.inj e1
  have e2 := Option.some.inj e2
  have n1 := fc_snoc c.rate c.room c.fill (zs.take k) s
  rw [← take_of_get h1] at n1
  have n2 := fc_snoc c.rate c.room c.fill ((lessen zs ls).take k) s'
  rw [← take_of_get h2] at n2
  have f1 := fit_at hE h1
  have f2 := fit_at hE' h2
  have b1 := fc_bounds k (by omega) g2 (by omega) g5 (fun x hx => (hS.2 x hx).1) hE
  have b2 := fc_bounds k (by omega) g2 (by omega) g5 (fun x hx => (hw' x hx).1) hE'
  have s0 := (hS.2 s (List.mem_of_getElem? h1)).1
  have s1 := (hw' s' (List.mem_of_getElem? h2)).1
  have m1 := lessen_fc (rate := c.rate) (room := c.room) (zs := zs) (ls := ls) k (Int.le_refl c.fill)
  rw [n1, n2]
  generalize fc c.rate c.room c.fill (zs.take k) = x at *
  generalize fc c.rate c.room c.fill ((lessen zs ls).take k) = y at *
  unfold nf
  clear n1 n2 hE hE' hS hS' hw' h1 h2 h3 h4 hA hG
  refine ⟨?_, ?_, ?_, ?_, ?_, ?_, ?_, ?_, ?_, ?_, ?_, ?_, ?_, ?_, ?_, ?_⟩ <;> omega

theorem less_law (c : Cfg) (zs ls : List Int) (v u : Value) (w : World) (hg : EtIs w) (hr : Row w v zs.length (zs.map (Value.int .i64))) (hr' : Row w u ls.length (ls.map (Value.int .i64))) :
    Calls Tryd.prog 5 #[.agg #[.int .i64 c.qmin, .int .i64 c.qmax, .int .i64 c.reach, .int .i64 c.cut, .int .i64 c.gop, .int .i64 c.rate, .int .i64 c.room, .int .i64 c.fill], v, u] w fun e w' => e = .returned (.bool true) ∧ Ext w w' := by
  by_cases h1 : 5000 < zs.length
  · exact less_long c v u _ _ w hg hr.form hr'.form (Or.inl h1)
  · by_cases h2 : 5000 < ls.length
    · exact less_long c v u _ _ w hg hr.form hr'.form (Or.inr ⟨h1, h2⟩)
    · have ha : Ints w v zs := ⟨hr, by omega⟩
      have hb : Ints w u ls := ⟨hr', by omega⟩
      clear hr hr'
      obtain ⟨a, cap, rfl⟩ := ha.form
      obtain ⟨b, cap', rfl⟩ := hb.form
      have f1 := fun W => fills_all c zs (.slice a zs.length cap) W
      have f2 := fun W q q' => fills_all c (lessen zs ls) (.slice q zs.length q') W
      cases hA : ansOf c zs (fillErr c.rate c.room c.fill zs 0) with
      | some pk =>
        rw [hA] at f1
        exact less_some c zs ls _ _ a b _ _ cap cap' w hg ha hb rfl rfl h1 h2 pk _ (Lib.hid f1) (Lib.hid f2)
      | none =>
        obtain ⟨hB, hq, hst⟩ := less_facts (ls := ls) hA
        rw [hA] at f1
        rw [hB] at f2
        exact less_none c zs ls _ _ a b _ _ cap cap' w hg ha hb rfl rfl h1 h2 (fun k => fc c.rate c.room c.fill (zs.take k)) (fun k => fc c.rate c.room c.fill ((lessen zs ls).take k)) (Lib.hid f1) (Lib.hid f2) (fillOut_length _ _ _ _) ((fillOut_length _ _ _ _).trans (lessen_length _ _)) hq rfl rfl (Lib.hid hst)
end Go.Proofs.YtoifpgeabfeelaaDoor
