/- kinlaw18.VbvFits: the walk (so far: lists that are too long, and those whose filling fails). -/
import Derived.Test.YtoifpgeabfeelaaDoorVAll
import Derived.Test.YtoifpgeabfeelaaDoorVLess
namespace Go.Proofs.YtoifpgeabfeelaaDoor
set_option linter.unusedVariables false
set_option linter.unusedSimpArgs false
open Go.RowKit Go.Extern.Stop Go.Stop Go.Extern

theorem fill_play_some {c : Cfg} {zs : List Int} (h : ansOf c zs (fillErr c.rate c.room c.fill zs 0) ≠ none) : ∃ pk, ansOf c zs (playErr c.rate c.room c.fill zs 0) = some pk := by
  cases hq : ansOf c zs (playErr c.rate c.room c.fill zs 0) with
  | some pk => exact ⟨pk, rfl⟩
  | none =>
    obtain ⟨g, s, e⟩ := ansOf_none hq
    refine absurd ?_ h
    unfold ansOf
    rw [if_pos g, if_pos s, (play_fill e).1]
    rfl

set_option maxHeartbeats 2000000 in
set_option maxRecDepth 20000 in
theorem fits_long (c : Cfg) (v : Value) (n : Nat) (w : World) (hg : EtIs w) (hv : ∃ a cap, v = .slice a n cap) (hl : 5000 < n) :
    Calls Tryd.prog 4 #[.agg #[.int .i64 c.qmin, .int .i64 c.qmax, .int .i64 c.reach, .int .i64 c.cut, .int .i64 c.gop, .int .i64 c.rate, .int .i64 c.room, .int .i64 c.fill], v] w fun e w' => e = .returned (.bool true) ∧ Ext w w' := by
  have E1 : Ext w (w.alloc (.cells #[.int .i64 c.qmin, .int .i64 c.qmax, .int .i64 c.reach, .int .i64 c.cut, .int .i64 c.gop, .int .i64 c.rate, .int .i64 c.room, .int .i64 c.fill] 23)) := (Ext.refl w).alloc _
  obtain ⟨a, cap, rfl⟩ := hv
  go_enter Tryd.func4, Tryd.ntmps4
  go_wp2_with fail
  refine (first18 _ (hg.ext E1)).mono ?_; rintro e w1 ⟨rfl, hx1⟩
  go_wp2_with fail
  refine (first18 _ (hg.ext (E1.trans hx1))).mono ?_; rintro e w2 ⟨rfl, hx2⟩
  go_wp2
  go_ret
  exact ⟨rfl, E1.trans (hx1.trans hx2)⟩

set_option maxHeartbeats 2000000 in
set_option maxRecDepth 20000 in
theorem fits_some (c : Cfg) (zs gs ps : List Int) (a : Option Addr) (n cap : Nat) (w : World) (hg : EtIs w) (ha : Ints w (.slice a n cap) zs) (hl : ¬ 5000 < n) (pk pl : List (ByteArray × Int) × Int)
    (f1 : Hid (∀ W, Ints W (.slice a n cap) zs → Calls Tryd.prog 18 #[.agg #[.int .i64 c.qmin, .int .i64 c.qmax, .int .i64 c.reach, .int .i64 c.cut, .int .i64 c.gop, .int .i64 c.rate, .int .i64 c.room, .int .i64 c.fill], .slice a n cap] W (AnsPost W (some pk) gs)))
    (f2 : Hid (∀ W, Ints W (.slice a n cap) zs → Calls Tryd.prog 16 #[.agg #[.int .i64 c.qmin, .int .i64 c.qmax, .int .i64 c.reach, .int .i64 c.cut, .int .i64 c.gop, .int .i64 c.rate, .int .i64 c.room, .int .i64 c.fill], .slice a n cap] W (AnsPost W (some pl) ps))) :
    Calls Tryd.prog 4 #[.agg #[.int .i64 c.qmin, .int .i64 c.qmax, .int .i64 c.reach, .int .i64 c.cut, .int .i64 c.gop, .int .i64 c.rate, .int .i64 c.room, .int .i64 c.fill], .slice a n cap] w fun e w' => e = .returned (.bool true) ∧ Ext w w' := by
  have E1 : Ext w (w.alloc (.cells #[.int .i64 c.qmin, .int .i64 c.qmax, .int .i64 c.reach, .int .i64 c.cut, .int .i64 c.gop, .int .i64 c.rate, .int .i64 c.room, .int .i64 c.fill] 23)) := (Ext.refl w).alloc _
  go_enter Tryd.func4, Tryd.ntmps4
  go_wp2_with fail
  refine (first18 _ (hg.ext E1)).mono ?_; rintro e w1 ⟨rfl, hx1⟩
  obtain ⟨c0, c1, c2, c3, c4, c5, c6, c7⟩ := (CfgAt.mk' w c).ext hx1
  have E2 := E1.trans hx1
  clear E1 hx1
  go_wp2_with fail
  refine (f1.out _ (ha.ext E2)).mono ?_; rintro e w2 ⟨u, x, rfl, hx2, rfl, hi⟩
  obtain ⟨tx, vx, hne⟩ := hi.ne_nil
  subst hne
  have E3 := E2.trans hx2
  have j0 := hx2.cell c0
  have j1 := hx2.cell c1
  have j2 := hx2.cell c2
  have j3 := hx2.cell c3
  have j4 := hx2.cell c4
  have j5 := hx2.cell c5
  have j6 := hx2.cell c6
  have j7 := hx2.cell c7
  clear c0 c1 c2 c3 c4 c5 c6 c7 hx2 hi E2
  go_wp2_with fail
  refine (f2.out _ (ha.ext E3)).mono ?_; rintro e w3 ⟨u', x', rfl, hx3, rfl, hi'⟩
  obtain ⟨tx', vx', hne'⟩ := hi'.ne_nil
  subst hne'
  have E4 := E3.trans hx3
  clear hx3 hi' E3 j0 j1 j2 j3 j4 j5 j6 j7
  go_wp2_with fail
  refine (first18 _ (hg.ext E4)).mono ?_; rintro e w4 ⟨rfl, hx4⟩
  go_wp2
  go_ret
  exact ⟨rfl, E4.trans hx4⟩

set_option maxHeartbeats 2000000 in
set_option maxRecDepth 20000 in
theorem fits_noneS (c : Cfg) (zs gs ps al qs : List Int) (a : Option Addr) (n cap : Nat) (w : World) (hg : EtIs w) (ha : Ints w (.slice a n cap) zs) (hl : ¬ 5000 < n) (pl : List (ByteArray × Int) × Int)
    (f1 : Hid (∀ W, Ints W (.slice a n cap) zs → Calls Tryd.prog 18 #[.agg #[.int .i64 c.qmin, .int .i64 c.qmax, .int .i64 c.reach, .int .i64 c.cut, .int .i64 c.gop, .int .i64 c.rate, .int .i64 c.room, .int .i64 c.fill], .slice a n cap] W (AnsPost W none gs)))
    (f2 : Hid (∀ W, Ints W (.slice a n cap) zs → Calls Tryd.prog 16 #[.agg #[.int .i64 c.qmin, .int .i64 c.qmax, .int .i64 c.reach, .int .i64 c.cut, .int .i64 c.gop, .int .i64 c.rate, .int .i64 c.room, .int .i64 c.fill], .slice a n cap] W (AnsPost W (some pl) ps)))
    (f3 : Hid (∀ W q q', Ints W (.slice q n q') al → Calls Tryd.prog 16 #[.agg #[.int .i64 c.qmin, .int .i64 c.qmax, .int .i64 c.reach, .int .i64 c.cut, .int .i64 c.gop, .int .i64 c.rate, .int .i64 c.room, .int .i64 c.fill], .slice q n q'] W (AnsPost W none qs)))
    (wq : Hid (∀ W v, Ints W v qs → Calls Tryd.prog 24 #[v, .int .i64 c.rate, .int .i64 c.room] W fun e w' => e = .returned (.bool true) ∧ Ext W w'))
    (hn : n = zs.length) (lg : gs.length = n) (la : al.length = n) (lq : qs.length = n) (hst : Hid (∀ (k : Nat) (s p : Int), zs[k]? = some s → gs[k]? = some p → al[k]? = some (s + p) ∧ 0 ≤ s ∧ s ≤ 16384 ∧ 0 ≤ p ∧ p ≤ 16384)) :
    Calls Tryd.prog 4 #[.agg #[.int .i64 c.qmin, .int .i64 c.qmax, .int .i64 c.reach, .int .i64 c.cut, .int .i64 c.gop, .int .i64 c.rate, .int .i64 c.room, .int .i64 c.fill], .slice a n cap] w fun e w' => e = .returned (.bool true) ∧ Ext w w' := by
  have E1 : Ext w (w.alloc (.cells #[.int .i64 c.qmin, .int .i64 c.qmax, .int .i64 c.reach, .int .i64 c.cut, .int .i64 c.gop, .int .i64 c.rate, .int .i64 c.room, .int .i64 c.fill] 23)) := (Ext.refl w).alloc _
  obtain ⟨i0, hi, hz0, hz1, hz2⟩ := info_parts infoInt
  have AG := Lib.hid ha.had
  have HN := Lib.hid hn
  have LG := Lib.hid lg
  have LA := Lib.hid la
  have LQ := Lib.hid lq
  clear hn la
  go_enter Tryd.func4, Tryd.ntmps4
  go_wp2_with fail
  refine (first18 _ (hg.ext E1)).mono ?_; rintro e w1 ⟨rfl, hx1⟩
  obtain ⟨c0, c1, c2, c3, c4, c5, c6, c7⟩ := (CfgAt.mk' w c).ext hx1
  have E2 := E1.trans hx1
  clear E1 hx1
  go_wp2_with fail
  refine (f1.out _ (ha.ext E2)).mono ?_; rintro e w2 ⟨u, x, rfl, hx2, hig, rfl⟩
  have E3 := E2.trans hx2
  have j0 := hx2.cell c0
  have j1 := hx2.cell c1
  have j2 := hx2.cell c2
  have j3 := hx2.cell c3
  have j4 := hx2.cell c4
  have j5 := hx2.cell c5
  have j6 := hx2.cell c6
  have j7 := hx2.cell c7
  clear c0 c1 c2 c3 c4 c5 c6 c7 hx2 E2
  go_wp2_with fail
  refine (f2.out _ (ha.ext E3)).mono ?_; rintro e w3 ⟨u', x', rfl, hx3, rfl, hi'⟩
  obtain ⟨tx', vx', hne'⟩ := hi'.ne_nil
  subst hne'
  clear hi'
  have E4 := E3.trans hx3
  have hig4 := hig.ext hx3
  have k0 := hx3.cell j0
  have k1 := hx3.cell j1
  have k2 := hx3.cell j2
  have k3 := hx3.cell j3
  have k4 := hx3.cell j4
  have k5 := hx3.cell j5
  have k6 := hx3.cell j6
  have k7 := hx3.cell j7
  clear hx3 hig E3 j0 j1 j2 j3 j4 j5 j6 j7
  obtain ⟨ga, gcap, rfl⟩ := hig4.form
  rw [lg] at hig4 ⊢
  have GG := Lib.hid hig4.had
  have haw := ha.ext E4
  clear ha
  go_wp2
  go_loopw [9, 10] (fun sv iv wr => ∃ k : Nat, k ≤ n ∧ iv = .int .i64 k ∧ wr.ownsRow w3.heap.size 3 1 sv k ((al.take k).map (Value.int .i64)) ∧ Ext w3 wr) (fun _ iv _ => n - (intOf iv).toNat)
  case atStart => exact ⟨0, Nat.zero_le _, rfl, ⟨rfl, Or.inl ⟨rfl, rfl⟩⟩, Ext.refl _⟩
  case round =>
    obtain ⟨k, hk, rfl, hown, hE⟩ := hrel
    have hsz := hE.size
    by_cases hlt : k < n
    · obtain ⟨s, hs⟩ : ∃ s, zs[k]? = some s := ⟨_, List.getElem?_eq_getElem (by rw [← HN.out]; exact hlt)⟩
      obtain ⟨p, hp⟩ : ∃ p, gs[k]? = some p := ⟨_, List.getElem?_eq_getElem (by rw [LG.out]; exact hlt)⟩
      obtain ⟨hv, s0, s1, p0, p1⟩ := hst.out k s p hs hp
      obtain ⟨g, off, rfl⟩ := AG.out (by omega)
      obtain ⟨g', off', rfl⟩ := GG.out (by omega)
      have cs0 := haw.at hs
      have cp0 := hig4.at hp
      have cs := hE.cell (haw.at hs)
      have cp := hE.cell (hig4.at hp)
      have HV := Lib.hid hv
      clear hv hs hp
      have KEEP := Lib.hid (show ∀ (v' : Value) (w5 : World), wr.ownsRow w3.heap.size 3 1 v' k ((al.take k).map (Value.int .i64)) → ((wr.alloc (.cells #[.int .i64 (s + p)] 3)).drew).grownBy w5 v'.ownBlock → w5.cell? ⟨g, off + k, none⟩ = some (.int .i64 s) ∧ w5.cell? ⟨g', off' + k, none⟩ = some (.int .i64 p) from fun v' w5 ho hgr =>
        have E' : Ext w3 w5 := Below.grown ((hE.alloc _).drew) hgr (by simp; omega) (fun j hj => (ho.lt j hj).1)
        ⟨E'.cell cs0, E'.cell cp0⟩)
      have hsum : IntKind.i64.wrap (s + p) = s + p := by rw [IntKind.wrap_i64]; omega
      go_wp2
      go_region_held3 (fun w' => w'.cell? ⟨g, off + k, none⟩ = some (.int .i64 s) ∧ w'.cell? ⟨g', off' + k, none⟩ = some (.int .i64 p))
        (first | go_keep | (exact ⟨hE.drew.cell cs0, hE.drew.cell cp0⟩) | (exact ⟨((hE.alloc _).drew).cell cs0, ((hE.alloc _).drew).cell cp0⟩) | (exact KEEP.out _ _ hown hgrow))
        ((refine step_append_lies _ (by rfl) _ _ _ (by rfl) w3.heap.size 3 i0 _ 1 8 Tryd.underlying24 hi hz0 hz1 hz2 rfl (by omega) _ k _ (by rfl) ((hown.alloc _).drew)
            ⟨wr.heap.size, 0, none⟩ 1 1 [.int .i64 (s + p)] (by rfl) (by rfl) (World.news_of_block (cs := #[.int .i64 (s + p)]) (t := 3) (fr := (0, 0)) (heap_alloc_new wr _)) (one_int _)
            (by omega) (by unfold maxLen; omega) (by omega) (by simp; omega) (wr.heap.size + 1) (by simp) ?_; intro gg cap4 w4 hown4 hgrow hat hlt4))
      have h3 : w4.ownsRow w3.heap.size 3 1 (.slice (some ⟨gg, 0, none⟩) (k + 1) cap4) (k + 1) ((al.take (k + 1)).map (Value.int .i64)) := by rw [take_of_get HV.out, List.map_append]; exact hown4
      have hE4 : Ext w3 w4 := Below.grown ((hE.alloc _).drew) hgrow (by simp; omega) (fun j hj => (hown.lt j hj).1)
      go_wp2
      go_roundw
      case rel => exact ⟨k + 1, by omega, by go_num, h3, hE4⟩
      case measure => simp [intOf]; omega
    · have hkn : k = n := by omega
      subst hkn
      rw [List.take_of_length_le (by rw [LA.out]; exact Nat.le_refl _)] at hown
      have hsm := Ints.of_owns hown (by rw [LA.out]; omega)
      have E5 := E4.trans hE
      obtain ⟨sa, scap, rfl⟩ := hsm.form
      rw [LA.out] at hsm ⊢
      have j0 := hE.cell k0
      have j1 := hE.cell k1
      have j2 := hE.cell k2
      have j3 := hE.cell k3
      have j4 := hE.cell k4
      have j5 := hE.cell k5
      have j6 := hE.cell k6
      have j7 := hE.cell k7
      clear k0 k1 k2 k3 k4 k5 k6 k7 hown haw hsz E4 hE hig4
      go_wp2_with fail
      refine (f3.out _ _ _ hsm).mono ?_; rintro e w5 ⟨u2, x2, rfl, hx5, hiq, rfl⟩
      obtain ⟨qa, qcap, rfl⟩ := hiq.form
      rw [LQ.out] at hiq ⊢
      have k5 := hx5.cell j5
      have k6 := hx5.cell j6
      have E6 := E5.trans hx5
      clear hx5 E5 hsm j0 j1 j2 j3 j4 j5 j6 j7
      go_wp2_with fail
      refine (first18 _ (hg.ext E6)).mono ?_; rintro e w6 ⟨rfl, hx6⟩
      have l5 := hx6.cell k5
      have l6 := hx6.cell k6
      have hiq6 := hiq.ext hx6
      have E7 := E6.trans hx6
      clear hx6 E6 hiq k5 k6
      go_wp2_with fail
      refine (wq.out _ _ hiq6).mono ?_; rintro e w7 ⟨rfl, hx7⟩
      go_wp2
      go_ret
      exact ⟨rfl, E7.trans hx7⟩

set_option maxHeartbeats 2000000 in
set_option maxRecDepth 20000 in
theorem fits_noneN (c : Cfg) (zs gs ps al qs : List Int) (a : Option Addr) (n cap : Nat) (w : World) (hg : EtIs w) (ha : Ints w (.slice a n cap) zs) (hl : ¬ 5000 < n) (lp : ps.length = n) (wz : Hid (∀ W v, Ints W v gs → Calls Tryd.prog 24 #[v, .int .i64 0, .int .i64 0] W fun e w' => e = .returned (.bool true) ∧ Ext W w'))
    (f1 : Hid (∀ W, Ints W (.slice a n cap) zs → Calls Tryd.prog 18 #[.agg #[.int .i64 c.qmin, .int .i64 c.qmax, .int .i64 c.reach, .int .i64 c.cut, .int .i64 c.gop, .int .i64 c.rate, .int .i64 c.room, .int .i64 c.fill], .slice a n cap] W (AnsPost W none gs)))
    (f2 : Hid (∀ W, Ints W (.slice a n cap) zs → Calls Tryd.prog 16 #[.agg #[.int .i64 c.qmin, .int .i64 c.qmax, .int .i64 c.reach, .int .i64 c.cut, .int .i64 c.gop, .int .i64 c.rate, .int .i64 c.room, .int .i64 c.fill], .slice a n cap] W (AnsPost W none ps)))
    (f3 : Hid (∀ W q q', Ints W (.slice q n q') al → Calls Tryd.prog 16 #[.agg #[.int .i64 c.qmin, .int .i64 c.qmax, .int .i64 c.reach, .int .i64 c.cut, .int .i64 c.gop, .int .i64 c.rate, .int .i64 c.room, .int .i64 c.fill], .slice q n q'] W (AnsPost W none qs)))
    (wq : Hid (∀ W v, Ints W v qs → Calls Tryd.prog 24 #[v, .int .i64 c.rate, .int .i64 c.room] W fun e w' => e = .returned (.bool true) ∧ Ext W w'))
    (hn : n = zs.length) (lg : gs.length = n) (la : al.length = n) (lq : qs.length = n) (hst : Hid (∀ (k : Nat) (s p : Int), zs[k]? = some s → gs[k]? = some p → al[k]? = some (s + p) ∧ 0 ≤ s ∧ s ≤ 16384 ∧ 0 ≤ p ∧ p ≤ 16384)) :
    Calls Tryd.prog 4 #[.agg #[.int .i64 c.qmin, .int .i64 c.qmax, .int .i64 c.reach, .int .i64 c.cut, .int .i64 c.gop, .int .i64 c.rate, .int .i64 c.room, .int .i64 c.fill], .slice a n cap] w fun e w' => e = .returned (.bool true) ∧ Ext w w' := by
  have E1 : Ext w (w.alloc (.cells #[.int .i64 c.qmin, .int .i64 c.qmax, .int .i64 c.reach, .int .i64 c.cut, .int .i64 c.gop, .int .i64 c.rate, .int .i64 c.room, .int .i64 c.fill] 23)) := (Ext.refl w).alloc _
  obtain ⟨i0, hi, hz0, hz1, hz2⟩ := info_parts infoInt
  have AG := Lib.hid ha.had
  have HN := Lib.hid hn
  have LG := Lib.hid lg
  have LA := Lib.hid la
  have LQ := Lib.hid lq
  clear hn la
  go_enter Tryd.func4, Tryd.ntmps4
  go_wp2_with fail
  refine (first18 _ (hg.ext E1)).mono ?_; rintro e w1 ⟨rfl, hx1⟩
  obtain ⟨c0, c1, c2, c3, c4, c5, c6, c7⟩ := (CfgAt.mk' w c).ext hx1
  have E2 := E1.trans hx1
  clear E1 hx1
  go_wp2_with fail
  refine (f1.out _ (ha.ext E2)).mono ?_; rintro e w2 ⟨u, x, rfl, hx2, hig, rfl⟩
  have E3 := E2.trans hx2
  have j0 := hx2.cell c0
  have j1 := hx2.cell c1
  have j2 := hx2.cell c2
  have j3 := hx2.cell c3
  have j4 := hx2.cell c4
  have j5 := hx2.cell c5
  have j6 := hx2.cell c6
  have j7 := hx2.cell c7
  clear c0 c1 c2 c3 c4 c5 c6 c7 hx2 E2
  go_wp2_with fail
  refine (f2.out _ (ha.ext E3)).mono ?_; rintro e w3 ⟨u', x', rfl, hx3, hip, rfl⟩
  obtain ⟨pa, pcap, rfl⟩ := hip.form
  rw [lp] at hip ⊢
  have E4 := E3.trans hx3
  have hig4 := hig.ext hx3
  have k0 := hx3.cell j0
  have k1 := hx3.cell j1
  have k2 := hx3.cell j2
  have k3 := hx3.cell j3
  have k4 := hx3.cell j4
  have k5 := hx3.cell j5
  have k6 := hx3.cell j6
  have k7 := hx3.cell j7
  clear hx3 hig E3 j0 j1 j2 j3 j4 j5 j6 j7
  obtain ⟨ga, gcap, rfl⟩ := hig4.form
  rw [lg] at hig4 ⊢
  go_wp2_with fail
  refine (wz.out _ _ hig4).mono ?_; rintro e w3b ⟨rfl, hx3b⟩
  have hig4 := hig4.ext hx3b
  have E4 := E4.trans hx3b
  have k0 := hx3b.cell k0
  have k1 := hx3b.cell k1
  have k2 := hx3b.cell k2
  have k3 := hx3b.cell k3
  have k4 := hx3b.cell k4
  have k5 := hx3b.cell k5
  have k6 := hx3b.cell k6
  have k7 := hx3b.cell k7
  have GG := Lib.hid hig4.had
  have haw := ha.ext E4
  clear ha
  go_wp2
  go_loopw [9, 10] (fun sv iv wr => ∃ k : Nat, k ≤ n ∧ iv = .int .i64 k ∧ wr.ownsRow w3b.heap.size 3 1 sv k ((al.take k).map (Value.int .i64)) ∧ Ext w3b wr) (fun _ iv _ => n - (intOf iv).toNat)
  case atStart => exact ⟨0, Nat.zero_le _, rfl, ⟨rfl, Or.inl ⟨rfl, rfl⟩⟩, Ext.refl _⟩
  case round =>
    obtain ⟨k, hk, rfl, hown, hE⟩ := hrel
    have hsz := hE.size
    by_cases hlt : k < n
    · obtain ⟨s, hs⟩ : ∃ s, zs[k]? = some s := ⟨_, List.getElem?_eq_getElem (by rw [← HN.out]; exact hlt)⟩
      obtain ⟨p, hp⟩ : ∃ p, gs[k]? = some p := ⟨_, List.getElem?_eq_getElem (by rw [LG.out]; exact hlt)⟩
      obtain ⟨hv, s0, s1, p0, p1⟩ := hst.out k s p hs hp
      obtain ⟨g, off, rfl⟩ := AG.out (by omega)
      obtain ⟨g', off', rfl⟩ := GG.out (by omega)
      have cs0 := haw.at hs
      have cp0 := hig4.at hp
      have cs := hE.cell (haw.at hs)
      have cp := hE.cell (hig4.at hp)
      have HV := Lib.hid hv
      clear hv hs hp
      have KEEP := Lib.hid (show ∀ (v' : Value) (w5 : World), wr.ownsRow w3b.heap.size 3 1 v' k ((al.take k).map (Value.int .i64)) → ((wr.alloc (.cells #[.int .i64 (s + p)] 3)).drew).grownBy w5 v'.ownBlock → w5.cell? ⟨g, off + k, none⟩ = some (.int .i64 s) ∧ w5.cell? ⟨g', off' + k, none⟩ = some (.int .i64 p) from fun v' w5 ho hgr =>
        have E' : Ext w3b w5 := Below.grown ((hE.alloc _).drew) hgr (by simp; omega) (fun j hj => (ho.lt j hj).1)
        ⟨E'.cell cs0, E'.cell cp0⟩)
      have hsum : IntKind.i64.wrap (s + p) = s + p := by rw [IntKind.wrap_i64]; omega
      go_wp2
      go_region_held3 (fun w' => w'.cell? ⟨g, off + k, none⟩ = some (.int .i64 s) ∧ w'.cell? ⟨g', off' + k, none⟩ = some (.int .i64 p))
        (first | go_keep | (exact ⟨hE.drew.cell cs0, hE.drew.cell cp0⟩) | (exact ⟨((hE.alloc _).drew).cell cs0, ((hE.alloc _).drew).cell cp0⟩) | (exact KEEP.out _ _ hown hgrow))
        ((refine step_append_lies _ (by rfl) _ _ _ (by rfl) w3b.heap.size 3 i0 _ 1 8 Tryd.underlying24 hi hz0 hz1 hz2 rfl (by omega) _ k _ (by rfl) ((hown.alloc _).drew)
            ⟨wr.heap.size, 0, none⟩ 1 1 [.int .i64 (s + p)] (by rfl) (by rfl) (World.news_of_block (cs := #[.int .i64 (s + p)]) (t := 3) (fr := (0, 0)) (heap_alloc_new wr _)) (one_int _)
            (by omega) (by unfold maxLen; omega) (by omega) (by simp; omega) (wr.heap.size + 1) (by simp) ?_; intro gg cap4 w4 hown4 hgrow hat hlt4))
      have h3 : w4.ownsRow w3b.heap.size 3 1 (.slice (some ⟨gg, 0, none⟩) (k + 1) cap4) (k + 1) ((al.take (k + 1)).map (Value.int .i64)) := by rw [take_of_get HV.out, List.map_append]; exact hown4
      have hE4 : Ext w3b w4 := Below.grown ((hE.alloc _).drew) hgrow (by simp; omega) (fun j hj => (hown.lt j hj).1)
      go_wp2
      go_roundw
      case rel => exact ⟨k + 1, by omega, by go_num, h3, hE4⟩
      case measure => simp [intOf]; omega
    · have hkn : k = n := by omega
      subst hkn
      rw [List.take_of_length_le (by rw [LA.out]; exact Nat.le_refl _)] at hown
      have hsm := Ints.of_owns hown (by rw [LA.out]; omega)
      have E5 := E4.trans hE
      obtain ⟨sa, scap, rfl⟩ := hsm.form
      rw [LA.out] at hsm ⊢
      have j0 := hE.cell k0
      have j1 := hE.cell k1
      have j2 := hE.cell k2
      have j3 := hE.cell k3
      have j4 := hE.cell k4
      have j5 := hE.cell k5
      have j6 := hE.cell k6
      have j7 := hE.cell k7
      clear k0 k1 k2 k3 k4 k5 k6 k7 hown haw hsz E4 hE hig4
      go_wp2_with fail
      refine (f3.out _ _ _ hsm).mono ?_; rintro e w5 ⟨u2, x2, rfl, hx5, hiq, rfl⟩
      obtain ⟨qa, qcap, rfl⟩ := hiq.form
      rw [LQ.out] at hiq ⊢
      have k5 := hx5.cell j5
      have k6 := hx5.cell j6
      have E6 := E5.trans hx5
      clear hx5 E5 hsm j0 j1 j2 j3 j4 j5 j6 j7
      go_wp2_with fail
      refine (first18 _ (hg.ext E6)).mono ?_; rintro e w6 ⟨rfl, hx6⟩
      have l5 := hx6.cell k5
      have l6 := hx6.cell k6
      have hiq6 := hiq.ext hx6
      have E7 := E6.trans hx6
      clear hx6 E6 hiq k5 k6
      go_wp2_with fail
      refine (wq.out _ _ hiq6).mono ?_; rintro e w7 ⟨rfl, hx7⟩
      go_wp2
      go_ret
      exact ⟨rfl, E7.trans hx7⟩

theorem within_yes (xs : List Int) (lo hi : Int) (hw : within lo hi xs) (W : World) (v : Value) (h : Ints W v xs) : Calls Tryd.prog 24 #[v, .int .i64 lo, .int .i64 hi] W fun e w' => e = .returned (.bool true) ∧ Ext W w' :=
  (within_any xs lo hi v W h).mono fun e w' h => ⟨by rw [h.1, decide_eq_true hw], h.2⟩
theorem fits_facts {c : Cfg} {zs : List Int} (hA : ansOf c zs (fillErr c.rate c.room c.fill zs 0) = none) :
    ansOf c (filled c.rate c.room c.fill zs) (playErr c.rate c.room c.fill (filled c.rate c.room c.fill zs) 0) = none ∧ within c.rate c.room (playOut c.rate c.fill (filled c.rate c.room c.fill zs)) ∧
    ∀ (k : Nat) (s p : Int), zs[k]? = some s → (fillOut c.rate c.room c.fill zs)[k]? = some p → (filled c.rate c.room c.fill zs)[k]? = some (s + p) ∧ 0 ≤ s ∧ s ≤ 16384 ∧ 0 ≤ p ∧ p ≤ 16384 := by
  obtain ⟨hG, hS, hE⟩ := ansOf_none hA
  have hG' := hG
  obtain ⟨_, _, _, _, _, _, _, _, _, g1, g2, g3, g4, g5⟩ := hG'
  have hz : ∀ x ∈ zs, 0 ≤ x := fun x hx => (hS.2 x hx).1
  have hS' : Sizes (filled c.rate c.room c.fill zs) := ⟨by rw [filled_length]; exact hS.1, fun x hx => by have := filled_sizes (by omega) g2 g5 hz hE x hx; omega⟩
  refine ⟨by unfold ansOf; rw [if_pos hG, if_pos hS', filled_play g2 g5 hE]; rfl, filled_out g2 g5 hE, fun k s p h1 h2 => ?_⟩
  have e1 := fillOut_at (rate := c.rate) (room := c.room) (f := c.fill) h1
  rw [h2] at e1
  have e1 := Option.some.inj e1
  have f1 := fit_at hE h1
  have b1 := fc_bounds k (by omega) g2 (by omega) g5 hz hE
  have s0 := hz s (List.mem_of_getElem? h1)
  refine ⟨by rw [filled_at h1, ← e1], ?_, ?_, ?_, ?_⟩ <;> omega

theorem fits_law (c : Cfg) (zs : List Int) (v : Value) (w : World) (hg : EtIs w) (hr : Row w v zs.length (zs.map (Value.int .i64))) :
    Calls Tryd.prog 4 #[.agg #[.int .i64 c.qmin, .int .i64 c.qmax, .int .i64 c.reach, .int .i64 c.cut, .int .i64 c.gop, .int .i64 c.rate, .int .i64 c.room, .int .i64 c.fill], v] w fun e w' => e = .returned (.bool true) ∧ Ext w w' := by
  by_cases h1 : 5000 < zs.length
  · exact fits_long c v _ w hg hr.form h1
  · have ha : Ints w v zs := ⟨hr, by omega⟩
    clear hr
    obtain ⟨a, cap, rfl⟩ := ha.form
    have f1 := fun W => fills_all c zs (.slice a zs.length cap) W
    have f2 := fun W => play_all c zs (.slice a zs.length cap) W
    cases hA : ansOf c zs (fillErr c.rate c.room c.fill zs 0) with
    | some pk =>
      obtain ⟨pl, hP⟩ := fill_play_some (c := c) (zs := zs) (by rw [hA]; simp)
      rw [hA] at f1
      rw [hP] at f2
      exact fits_some c zs _ _ a _ cap w hg ha h1 pk pl (Lib.hid f1) (Lib.hid f2)
    | none =>
      obtain ⟨hB, hw, hst⟩ := fits_facts hA
      have f3 := fun W q q' => play_all c (filled c.rate c.room c.fill zs) (.slice q zs.length q') W
      rw [hB] at f3
      rw [hA] at f1
      have la := filled_length c.rate c.room c.fill zs
      have lq := (playOut_length c.rate c.fill (filled c.rate c.room c.fill zs)).trans la
      cases hP : ansOf c zs (playErr c.rate c.room c.fill zs 0) with
      | some pl =>
        rw [hP] at f2
        exact fits_noneS c zs _ _ _ _ a _ cap w hg ha h1 pl (Lib.hid f1) (Lib.hid f2) (Lib.hid f3) (Lib.hid (within_yes _ _ _ hw)) rfl (fillOut_length _ _ _ _) la lq (Lib.hid hst)
      | none =>
        rw [hP] at f2
        obtain ⟨_, _, hp⟩ := ansOf_none hP
        have hz : within 0 0 (fillOut c.rate c.room c.fill zs) := fun x hx => by have := (play_fill hp).2 x hx; omega
        exact fits_noneN c zs _ _ _ _ a _ cap w hg ha h1 (playOut_length _ _ _) (Lib.hid (within_yes _ _ _ hz)) (Lib.hid f1) (Lib.hid f2) (Lib.hid f3) (Lib.hid (within_yes _ _ _ hw)) rfl (fillOut_length _ _ _ _) la lq (Lib.hid hst)
end Go.Proofs.YtoifpgeabfeelaaDoor
