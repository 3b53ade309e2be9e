/- kinlaw19.AllocSums: the walk. -/
import Derived.Test.YtbmknmenaaanaaaDoorABnds
import Derived.Test.YtbmknmenaaanaaaDoorPush
import Derived.Deep.AppendLies
import Derived.Deep.RegionWith
import Derived.BigRegion
namespace Go.Proofs.YtbmknmenaaanaaaDoor
set_option linter.unusedVariables false
set_option linter.unusedSimpArgs false
open Go.RowKit Go.Extern.Stop Go.Stop Go.Extern

theorem asum_take {zs : List Int} {k : Nat} {x : Int} (h : zs[k]? = some x) : (zs.take (k + 1)).sum = (zs.take k).sum + x := by
  rw [take_of_get h, List.sum_append]
  simp

set_option maxHeartbeats 2000000 in
set_option maxRecDepth 20000 in
theorem asum_long (c : Cfg) (v : Value) (n : Nat) (w : World) (hg : EtIs w) (hv : ∃ a cap, v = .slice a n cap) (hl : 5000 < n) :
    Calls Tryd.prog 11 #[.agg #[.int .i64 c.qmin, .int .i64 c.qmax, .int .i64 c.reach, .int .i64 c.cut, .int .i64 c.gop, .int .i64 c.rate, .int .i64 c.room, .int .i64 c.fill], v] w fun e w' => e = .returned (.bool true) ∧ Ext w w' := by
  have E1 : Ext w (w.alloc (.cells #[.int .i64 c.qmin, .int .i64 c.qmax, .int .i64 c.reach, .int .i64 c.cut, .int .i64 c.gop, .int .i64 c.rate, .int .i64 c.room, .int .i64 c.fill] 44)) := (Ext.refl w).alloc _
  obtain ⟨a, cap, rfl⟩ := hv
  go_enter Tryd.func11, Tryd.ntmps11
  go_wp2_with fail
  refine (first19 _ (hg.ext E1)).mono ?_; rintro e w1 ⟨rfl, hx1⟩
  go_wp2_with fail
  refine (first19 _ (hg.ext (E1.trans hx1))).mono ?_; rintro e w2 ⟨rfl, hx2⟩
  go_wp2
  go_ret
  exact ⟨rfl, E1.trans (hx1.trans hx2)⟩

set_option maxHeartbeats 2000000 in
set_option maxRecDepth 20000 in
theorem asum_some (c : Cfg) (zs gs : List Int) (a : Option Addr) (n cap : Nat) (w : World) (hg : EtIs w) (ha : Ints w (.slice a n cap) zs) (hl : ¬ 5000 < n) (pk : List (ByteArray × Int) × Int)
    (f1 : Hid (∀ W, Ints W (.slice a n cap) zs → Calls Tryd.prog 28 #[.agg #[.int .i64 c.qmin, .int .i64 c.qmax, .int .i64 c.reach, .int .i64 c.cut, .int .i64 c.gop, .int .i64 c.rate, .int .i64 c.room, .int .i64 c.fill], .slice a n cap] W (AnsPost W (some pk) gs))) :
    Calls Tryd.prog 11 #[.agg #[.int .i64 c.qmin, .int .i64 c.qmax, .int .i64 c.reach, .int .i64 c.cut, .int .i64 c.gop, .int .i64 c.rate, .int .i64 c.room, .int .i64 c.fill], .slice a n cap] w fun e w' => e = .returned (.bool true) ∧ Ext w w' := by
  have E1 : Ext w (w.alloc (.cells #[.int .i64 c.qmin, .int .i64 c.qmax, .int .i64 c.reach, .int .i64 c.cut, .int .i64 c.gop, .int .i64 c.rate, .int .i64 c.room, .int .i64 c.fill] 44)) := (Ext.refl w).alloc _
  go_enter Tryd.func11, Tryd.ntmps11
  go_wp2_with fail
  refine (first19 _ (hg.ext E1)).mono ?_; rintro e w1 ⟨rfl, hx1⟩
  obtain ⟨c0, c1, c2, c3, c4, c5, c6, c7⟩ := (CfgAt.mk' w c).ext hx1
  have E2 := E1.trans hx1
  clear E1 hx1
  go_wp2_with fail
  refine (f1.out _ (ha.ext E2)).mono ?_; rintro e w2 ⟨u, x, rfl, hx2, rfl, hi⟩
  obtain ⟨tx, vx, hne⟩ := hi.ne_nil
  subst hne
  have E3 := E2.trans hx2
  clear hx2 hi E2 c0 c1 c2 c3 c4 c5 c6 c7
  go_wp2_with fail
  refine (first19 _ (hg.ext E3)).mono ?_; rintro e w3 ⟨rfl, hx3⟩
  go_wp2
  go_ret
  exact ⟨rfl, E3.trans hx3⟩

set_option maxHeartbeats 2000000 in
set_option maxRecDepth 20000 in
theorem asum_none (c : Cfg) (zs gs : List Int) (a : Option Addr) (n cap : Nat) (w : World) (hg : EtIs w) (ha : Ints w (.slice a n cap) zs) (hn0 : 1 ≤ n) (hl : n ≤ 16) (hn : n = zs.length) (lg : gs.length = n) (af : Option (List (ByteArray × Int) × Int)) (gs' : List Int) (hgs : Hid (af = none → gs' = gs))
    (f1 : Hid (∀ W, Ints W (.slice a n cap) zs → Calls Tryd.prog 28 #[.agg #[.int .i64 c.qmin, .int .i64 c.qmax, .int .i64 c.reach, .int .i64 c.cut, .int .i64 c.gop, .int .i64 c.rate, .int .i64 c.room, .int .i64 c.fill], .slice a n cap] W (AnsPost W none gs)))
    (f2 : Hid (∀ W v, Ints W v (zs.map (2 * ·)) → Calls Tryd.prog 28 #[.agg #[.int .i64 c.qmin, .int .i64 c.qmax, .int .i64 c.reach, .int .i64 c.cut, .int .i64 c.gop, .int .i64 c.rate, .int .i64 c.room, .int .i64 c.fill], v] W (AnsPost W af gs')))
    (HWn : Hid (af = none → within 1 8388608 zs)) (HWs : Hid (af ≠ none → ¬ within 1 8388608 zs))
    (hr : 0 ≤ c.rate ∧ c.rate ≤ 16384 ∧ 0 ≤ c.fill ∧ c.fill ≤ 16384) (HZ : Hid (within 1 16777216 zs)) (HG : Hid (within 0 16384 gs)) (hsum : gs.sum ≤ c.fill + ((n : Int) - 1) * c.rate + 8 * n) :
    Calls Tryd.prog 11 #[.agg #[.int .i64 c.qmin, .int .i64 c.qmax, .int .i64 c.reach, .int .i64 c.cut, .int .i64 c.gop, .int .i64 c.rate, .int .i64 c.room, .int .i64 c.fill], .slice a n cap] w fun e w' => e = .returned (.bool true) ∧ Ext w w' := by
  have hm0 : 0 ≤ ((n : Int) - 1) * c.rate := Int.mul_nonneg (by omega) (by omega)
  have hm1 : ((n : Int) - 1) * c.rate ≤ 15 * 16384 := Int.mul_le_mul (by omega) (by omega) (by omega) (by omega)
  obtain ⟨i0, hi, hz0, hz1, hz2⟩ := info_parts infoInt
  have b1 : ((n : Int) != (n : Int)) = false := by simp
  have AG := Lib.hid (Ints.had' ha)
  have HN := Lib.hid hn
  obtain ⟨T, hT⟩ : ∃ T, T = ((n : Int) - 1) * c.rate := ⟨_, rfl⟩
  clear hn
  have E1 : Ext w (w.alloc (.cells #[.int .i64 c.qmin, .int .i64 c.qmax, .int .i64 c.reach, .int .i64 c.cut, .int .i64 c.gop, .int .i64 c.rate, .int .i64 c.room, .int .i64 c.fill] 44)) := (Ext.refl w).alloc _
  go_enter Tryd.func11, Tryd.ntmps11
  go_wp2_with fail
  refine (first19 _ (hg.ext E1)).mono ?_; rintro e w1 ⟨rfl, hx1⟩
  obtain ⟨c0, c1, c2, c3, c4, c5, c6, c7⟩ := (CfgAt.mk' w c).ext hx1
  have E2 := E1.trans hx1
  clear E1 hx1
  go_wp2_with fail
  refine (f1.out _ (ha.ext E2)).mono ?_; rintro e w2 ⟨u, x, rfl, hx2, hig, rfl⟩
  have E3 := E2.trans hx2
  have j0 := hx2.cell c0
  have j1 := hx2.cell c1
  have j2 := hx2.cell c2
  have j3 := hx2.cell c3
  have j4 := hx2.cell c4
  have j5 := hx2.cell c5
  have j6 := hx2.cell c6
  have j7 := hx2.cell c7
  obtain ⟨ga, gcap, rfl⟩ := hig.form
  rw [lg] at hig ⊢
  have GG := Lib.hid (Ints.had' hig)
  have LG := Lib.hid lg
  have haw := ha.ext E3
  clear hx2 E2 lg c0 c1 c2 c3 c4 c5 c6 c7
  go_wp2
  go_loopw [8, 9, 10] (fun tv sv iv wr => ∃ (k : Nat) (t : Int), k ≤ n ∧ iv = .int .i64 k ∧ tv = .int .i64 t ∧ (0 ≤ t ∧ t ≤ 16384 * k) ∧ Hid (t = (gs.take k).sum) ∧ wr.ownsRow w2.heap.size 3 1 sv k (((zs.map (2 * ·)).take k).map (Value.int .i64)) ∧ Ext w2 wr) (fun _ _ iv _ => n - (intOf iv).toNat)
  case atStart => exact ⟨0, 0, Nat.zero_le _, rfl, rfl, by decide, rfl, ⟨rfl, Or.inl ⟨rfl, rfl⟩⟩, Ext.refl _⟩
  case round =>
    obtain ⟨k, t, hk, rfl, rfl, ht, HT, hown, hE⟩ := hrel
    have hsz := hE.size
    by_cases hlt : k < n
    · obtain ⟨s, hs⟩ : ∃ s, zs[k]? = some s := ⟨_, List.getElem?_eq_getElem (by rw [← HN.out]; exact hlt)⟩
      obtain ⟨p, hp⟩ : ∃ p, gs[k]? = some p := ⟨_, List.getElem?_eq_getElem (by rw [LG.out]; exact hlt)⟩
      have bs := HZ.out.at hs
      have bp := HG.out.at hp
      have hv : (zs.map (2 * ·))[k]? = some (2 * s) := by rw [List.getElem?_map, hs]; rfl
      have HT2 : Hid (t + p = (gs.take (k + 1)).sum) := by show _ = _; rw [asum_take hp, HT.out]
      obtain ⟨g, off, rfl⟩ := AG.out (by omega)
      obtain ⟨g', off', rfl⟩ := GG.out (by omega)
      have cs0 := haw.at hs
      have cs := hE.cell (haw.at hs)
      have cp := hE.cell (hig.at hp)
      have HV := Lib.hid hv
      clear hv hs hp
      have hsum' : IntKind.i64.wrap (2 * s) = 2 * s := by rw [IntKind.wrap_i64]; omega
      go_wp2_with (at_builtin; refine push_int rfl _ _ 22 rfl Tryd.underlying22 _ k _ _ rfl hown rfl hsz (by omega) ?_; intro v' w3 h1 h2)
      have h3 : w3.ownsRow w2.heap.size 3 1 v' (k + 1) (((zs.map (2 * ·)).take (k + 1)).map (Value.int .i64)) := by rw [take_of_get HV.out, List.map_append]; exact h1
      have hE4 : Ext w2 w3 := hE.of_below h2 (Nat.le_refl _)
      clear hown h1 h2 hE
      go_wp2
      go_roundw
      case rel => exact ⟨k + 1, _, by omega, by go_num, rfl, by omega, HT2, h3, hE4⟩
      case measure => simp [intOf]; omega
    · have hkn : n = k := by omega
      subst hkn
      have ltw : (zs.map (2 * ·)).length = n := by rw [List.length_map]; exact HN.out.symm
      rw [List.take_of_length_le (by rw [ltw]; exact Nat.le_refl _)] at hown
      have hsm := Ints.of_owns hown (by rw [ltw]; omega)
      have hts : t ≤ c.fill + ((n : Int) - 1) * c.rate + 8 * n := by
        rw [HT.out, List.take_of_length_le (by rw [LG.out]; exact Nat.le_refl _)]
        exact hsum
      have E5 := E3.trans hE
      have hig5 := hig.ext hE
      have k0 := hE.cell j0
      have k1 := hE.cell j1
      have k2 := hE.cell j2
      have k3 := hE.cell j3
      have k4 := hE.cell j4
      have k5 := hE.cell j5
      have k6 := hE.cell j6
      have k7 := hE.cell j7
      clear hown haw hig hsz hE HT E3 hsum j0 j1 j2 j3 j4 j5 j6 j7
      go_wp2_with fail
      have hTb : 0 ≤ c.fill + ((n : Int) - 1) * c.rate ∧ c.fill + ((n : Int) - 1) * c.rate ≤ 262144 := by omega
      generalize c.fill + ((n : Int) - 1) * c.rate = TT at hts hTb ⊢
      have hdd : decide (t ≤ TT + 8 * (n : Int)) = true := decide_eq_true hts
      have hw1 : IntKind.i64.wrap (8 * (n : Int)) = 8 * (n : Int) := by rw [IntKind.wrap_i64]; omega
      have hw2 : IntKind.i64.wrap (TT + 8 * (n : Int)) = TT + 8 * (n : Int) := by rw [IntKind.wrap_i64]; omega
      clear hm0 hm1 hT T
      refine (f2.out _ _ hsm).mono ?_; rintro e w5 ⟨u5, x5, rfl, hx5, hm⟩
      have E6 := E5.trans hx5
      clear k0 k1 k2 k3 k4 k5 k6 k7 hsm E5
      cases af with
      | none =>
        obtain ⟨hib, rfl⟩ := hm
        rw [hgs.out rfl] at hib
        have HI := Lib.hid (fun (W : World) (v v' : Value) (h : Ints W v gs) (h' : Ints W v' gs) => by
          have := ints_same gs gs v v' W h h'
          rw [decide_eq_true rfl] at this
          exact this)
        have HWI := Lib.hid (fun (W : World) (h : Ints W (.slice a n cap) zs) => by
          have := within_any zs 1 8388608 _ W h
          rw [decide_eq_true (HWn.out rfl)] at this
          exact this)
        go_wp2
        go_region_held3 (fun w' => Ext w5 w' ∧ Ext w5 w')
          (first | assumption | (exact ⟨Ext.refl _, Ext.refl _⟩) | (exact ⟨(Ext.refl _).drew, (Ext.refl _).drew⟩) | (exact ⟨Ext.trans hE1 hx, Ext.trans hE1 hx⟩) | (go_split_ands; exact ⟨Ext.trans (by assumption) hx, Ext.trans (by assumption) hx⟩))
          ((first | (go_at_call 27; obtain ⟨hE1, _⟩ : Ext w5 _ ∧ Ext w5 _ := (by assumption); refine (first19 _ (hg.ext (E6.trans hE1))).mono ?_; rintro e w' ⟨rfl, hx⟩) | (go_at_call 21; obtain ⟨hE1, _⟩ : Ext w5 _ ∧ Ext w5 _ := (by assumption); refine (HI.out _ _ _ (hib.ext hE1) (hig5.ext (hx5.trans hE1))).mono ?_; rintro e w' ⟨rfl, hx⟩) | (go_at_call 25; obtain ⟨hE1, _⟩ : Ext w5 _ ∧ Ext w5 _ := (by assumption); refine (HWI.out _ (ha.ext (E6.trans hE1))).mono ?_; rintro e w' ⟨rfl, hx⟩)))
        obtain ⟨hE1, _⟩ : Ext w5 _ ∧ Ext w5 _ := by assumption
        go_wp2
        go_ret
        exact ⟨rfl, E6.trans hE1⟩
      | some pk =>
        obtain ⟨rfl, hi5⟩ := hm
        obtain ⟨tx, vx, hne⟩ := hi5.ne_nil
        subst hne
        clear hi5
        have HWI := Lib.hid (fun (W : World) (h : Ints W (.slice a n cap) zs) => by
          have := within_any zs 1 8388608 _ W h
          rw [decide_eq_false (HWs.out (by simp))] at this
          exact this)
        go_wp2
        first
          | go_region_held (fun w' => Ext w5 w' ∧ Ext w5 w')
              (first | assumption | (exact ⟨Ext.refl _, Ext.refl _⟩) | (exact ⟨(Ext.refl _).drew, (Ext.refl _).drew⟩) | (exact ⟨Ext.trans hE1 hx, Ext.trans hE1 hx⟩) | (go_split_ands; exact ⟨Ext.trans (by assumption) hx, Ext.trans (by assumption) hx⟩))
              ((first | (go_at_call 27; obtain ⟨hE1, _⟩ : Ext w5 _ ∧ Ext w5 _ := (by assumption); refine (first19 _ (hg.ext (E6.trans hE1))).mono ?_; rintro e w' ⟨rfl, hx⟩) | (go_at_call 25; obtain ⟨hE1, _⟩ : Ext w5 _ ∧ Ext w5 _ := (by assumption); refine (HWI.out _ (ha.ext (E6.trans hE1))).mono ?_; rintro e w' ⟨rfl, hx⟩)))
          | fail
        all_goals
          obtain ⟨hE1, _⟩ : Ext w5 _ ∧ Ext w5 _ := by assumption
          go_wp2
          go_ret
          exact ⟨rfl, E6.trans hE1⟩
theorem asum_law (c : Cfg) (zs : List Int) (v : Value) (w : World) (hg : EtIs w) (hr : Row w v zs.length (zs.map (Value.int .i64))) :
    Calls Tryd.prog 11 #[.agg #[.int .i64 c.qmin, .int .i64 c.qmax, .int .i64 c.reach, .int .i64 c.cut, .int .i64 c.gop, .int .i64 c.rate, .int .i64 c.room, .int .i64 c.fill], v] w fun e w' => e = .returned (.bool true) ∧ Ext w w' := by
  by_cases hl : 5000 < zs.length
  · exact asum_long c v zs.length w hg hr.form hl
  · have ha : Ints w v zs := ⟨hr, by omega⟩
    obtain ⟨a, cap, rfl⟩ := ha.form
    cases hq : capAns c zs with
    | some pk => exact asum_some c zs (capsOf c zs) a _ cap w hg ha hl pk (fun W h => by rw [← hq]; exact caps_all c zs _ W h)
    | none =>
      obtain ⟨g, s⟩ := capAns_none hq
      have G := g
      obtain ⟨_, _, _, _, _, _, _, _, _, g1, g2, g3, g4, g5⟩ := g
      obtain ⟨⟨s1, s2⟩, s3⟩ := s
      have lg : (capsOf c zs).length = zs.length := capsL_length _ _ _ _ _ _
      have hm0 : 0 ≤ ((zs.length : Int) - 1) * c.rate := Int.mul_nonneg (by omega) (by omega)
      have hcs := caps_sum (rate := c.rate) (room := c.room) (total := totalOf c zs.length) (f := c.fill) (l := zs) (by unfold totalOf; omega) (sum_pos s1 s3) (fun x hx => by have := s3 x hx; omega)
      have ltw : (zs.map (2 * ·)).length = zs.length := List.length_map _
      have e2 : capsOf c (zs.map (2 * ·)) = capsOf c zs := by
        unfold capsOf
        rw [ltw, sum_twice, caps_twice]
      have hwt : capAns c (zs.map (2 * ·)) = none ↔ within 1 8388608 zs := by
        constructor
        · intro h
          have := (capAns_none h).2.2
          intro x hx
          have h1 := this (2 * x) (List.mem_map.2 ⟨x, hx, rfl⟩)
          have h2 := s3 x hx
          omega
        · intro h
          unfold capAns
          rw [if_pos G, if_pos]
          refine ⟨by rw [ltw]; exact ⟨s1, s2⟩, fun y hy => ?_⟩
          obtain ⟨x, hx, rfl⟩ := List.mem_map.1 hy
          have := h x hx
          omega
      exact asum_none c zs (capsOf c zs) a _ cap w hg ha s1 s2 rfl lg (capAns c (zs.map (2 * ·))) (capsOf c (zs.map (2 * ·))) (fun _ => e2) (fun W h => by rw [← hq]; exact caps_all c zs _ W h) (fun W v h => caps_all c _ v W h)
        (fun h => hwt.1 h) (fun h hw => h (hwt.2 hw)) (by omega) s3 (fun x hx => by have := capsL_within g1 g2 g4 g5 x hx; omega) (by unfold capsOf totalOf at *; omega)
end Go.Proofs.YtbmknmenaaanaaaDoor
