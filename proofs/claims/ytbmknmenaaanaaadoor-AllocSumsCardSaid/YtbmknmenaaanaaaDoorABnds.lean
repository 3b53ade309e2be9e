/- kinlaw19.AllocBounds: the walk. -/
import Derived.Test.YtbmknmenaaanaaaDoorA19
namespace Go.Proofs.YtbmknmenaaanaaaDoor
set_option linter.unusedVariables false
set_option linter.unusedSimpArgs false
open Go.RowKit Go.Extern.Stop Go.Stop Go.Extern

theorem min2 (x y : Int) : ∃ m, (∀ ts ty W, (Builtin.min_ ts ty #[.int .i64 x, .int .i64 y]).run Tryd.prog W = .ok (.int .i64 m) W) ∧ m = min x y := by
  refine ⟨if y < x then y else x, fun ts ty W => by simp [Builtin.min_, Builtin.min2], ?_⟩
  split <;> omega
theorem Ints.had' {w : World} {a : Option Addr} {n cap : Nat} {zs : List Int} (h : Ints w (.slice a n cap) zs) : 0 < n → ∃ g off, a = some ⟨g, off, none⟩ := fun h0 => by
  obtain ⟨⟨a', cap', e, _, _, h3, _⟩, _⟩ := h
  simp only [Value.slice.injEq] at e
  obtain ⟨rfl, rfl, rfl⟩ := e
  exact h3 h0

set_option maxHeartbeats 2000000 in
set_option maxRecDepth 20000 in
theorem bnds_long (c : Cfg) (v : Value) (n : Nat) (w : World) (hg : EtIs w) (hv : ∃ a cap, v = .slice a n cap) (hl : 16 < n) :
    Calls Tryd.prog 12 #[.agg #[.int .i64 c.qmin, .int .i64 c.qmax, .int .i64 c.reach, .int .i64 c.cut, .int .i64 c.gop, .int .i64 c.rate, .int .i64 c.room, .int .i64 c.fill], v] w fun e w' => e = .returned (.bool true) ∧ Ext w w' := by
  have E1 : Ext w (w.alloc (.cells #[.int .i64 c.qmin, .int .i64 c.qmax, .int .i64 c.reach, .int .i64 c.cut, .int .i64 c.gop, .int .i64 c.rate, .int .i64 c.room, .int .i64 c.fill] 44)) := (Ext.refl w).alloc _
  obtain ⟨a, cap, rfl⟩ := hv
  go_enter Tryd.func12, Tryd.ntmps12
  go_wp2_with fail
  refine (first19 _ (hg.ext E1)).mono ?_; rintro e w1 ⟨rfl, hx1⟩
  go_wp2_with fail
  refine (first19 _ (hg.ext (E1.trans hx1))).mono ?_; rintro e w2 ⟨rfl, hx2⟩
  go_wp2
  go_ret
  exact ⟨rfl, E1.trans (hx1.trans hx2)⟩

set_option maxHeartbeats 2000000 in
set_option maxRecDepth 20000 in
theorem bnds_some (c : Cfg) (zs gs : List Int) (a : Option Addr) (n cap : Nat) (w : World) (hg : EtIs w) (ha : Ints w (.slice a n cap) zs) (hl : ¬ 16 < n) (pk : List (ByteArray × Int) × Int)
    (f1 : Hid (∀ W, Ints W (.slice a n cap) zs → Calls Tryd.prog 28 #[.agg #[.int .i64 c.qmin, .int .i64 c.qmax, .int .i64 c.reach, .int .i64 c.cut, .int .i64 c.gop, .int .i64 c.rate, .int .i64 c.room, .int .i64 c.fill], .slice a n cap] W (AnsPost W (some pk) gs))) :
    Calls Tryd.prog 12 #[.agg #[.int .i64 c.qmin, .int .i64 c.qmax, .int .i64 c.reach, .int .i64 c.cut, .int .i64 c.gop, .int .i64 c.rate, .int .i64 c.room, .int .i64 c.fill], .slice a n cap] w fun e w' => e = .returned (.bool true) ∧ Ext w w' := by
  have E1 : Ext w (w.alloc (.cells #[.int .i64 c.qmin, .int .i64 c.qmax, .int .i64 c.reach, .int .i64 c.cut, .int .i64 c.gop, .int .i64 c.rate, .int .i64 c.room, .int .i64 c.fill] 44)) := (Ext.refl w).alloc _
  go_enter Tryd.func12, Tryd.ntmps12
  go_wp2_with fail
  refine (first19 _ (hg.ext E1)).mono ?_; rintro e w1 ⟨rfl, hx1⟩
  obtain ⟨c0, c1, c2, c3, c4, c5, c6, c7⟩ := (CfgAt.mk' w c).ext hx1
  have E2 := E1.trans hx1
  clear E1 hx1
  go_wp2_with fail
  refine (f1.out _ (ha.ext E2)).mono ?_; rintro e w2 ⟨u, x, rfl, hx2, rfl, hi⟩
  obtain ⟨tx, vx, hne⟩ := hi.ne_nil
  subst hne
  have E3 := E2.trans hx2
  clear hx2 hi E2 c0 c1 c2 c3 c4 c5 c6 c7
  go_wp2_with fail
  refine (first19 _ (hg.ext E3)).mono ?_; rintro e w3 ⟨rfl, hx3⟩
  go_wp2
  go_ret
  exact ⟨rfl, E3.trans hx3⟩

set_option maxHeartbeats 2000000 in
set_option maxRecDepth 20000 in
theorem bnds_none (c : Cfg) (zs gs fs : List Int) (F : Nat → Int) (a : Option Addr) (n cap : Nat) (w : World) (hg : EtIs w) (ha : Ints w (.slice a n cap) zs) (hl : ¬ 16 < n) (lg : gs.length = n) (lf : fs.length = n)
    (f1 : Hid (∀ W, Ints W (.slice a n cap) zs → Calls Tryd.prog 28 #[.agg #[.int .i64 c.qmin, .int .i64 c.qmax, .int .i64 c.reach, .int .i64 c.cut, .int .i64 c.gop, .int .i64 c.rate, .int .i64 c.room, .int .i64 c.fill], .slice a n cap] W (AnsPost W none gs)))
    (f2 : Hid (∀ W v, Ints W v gs → Calls Tryd.prog 30 #[.agg #[.int .i64 c.qmin, .int .i64 c.qmax, .int .i64 c.reach, .int .i64 c.cut, .int .i64 c.gop, .int .i64 c.rate, .int .i64 c.room, .int .i64 c.fill], v] W (AnsPost W none fs)))
    (h0 : Hid (F 0 = c.fill)) (hr : 8 ≤ c.rate ∧ c.rate ≤ c.room ∧ c.room ≤ 16384) (hst : Hid (∀ (k : Nat) (x : Int), gs[k]? = some x → 8 ≤ x ∧ x ≤ F k ∧ F k ≤ c.room ∧ F (k + 1) = min c.room (F k - x + c.rate))) :
    Calls Tryd.prog 12 #[.agg #[.int .i64 c.qmin, .int .i64 c.qmax, .int .i64 c.reach, .int .i64 c.cut, .int .i64 c.gop, .int .i64 c.rate, .int .i64 c.room, .int .i64 c.fill], .slice a n cap] w fun e w' => e = .returned (.bool true) ∧ Ext w w' := by
  have E1 : Ext w (w.alloc (.cells #[.int .i64 c.qmin, .int .i64 c.qmax, .int .i64 c.reach, .int .i64 c.cut, .int .i64 c.gop, .int .i64 c.rate, .int .i64 c.room, .int .i64 c.fill] 44)) := (Ext.refl w).alloc _
  go_enter Tryd.func12, Tryd.ntmps12
  go_wp2_with fail
  refine (first19 _ (hg.ext E1)).mono ?_; rintro e w1 ⟨rfl, hx1⟩
  obtain ⟨c0, c1, c2, c3, c4, c5, c6, c7⟩ := (CfgAt.mk' w c).ext hx1
  have E2 := E1.trans hx1
  clear E1 hx1
  go_wp2_with fail
  refine (f1.out _ (ha.ext E2)).mono ?_; rintro e w2 ⟨u, x, rfl, hx2, hig, rfl⟩
  have E3 := E2.trans hx2
  have j0 := hx2.cell c0
  have j1 := hx2.cell c1
  have j2 := hx2.cell c2
  have j3 := hx2.cell c3
  have j4 := hx2.cell c4
  have j5 := hx2.cell c5
  have j6 := hx2.cell c6
  have j7 := hx2.cell c7
  obtain ⟨ga, gcap, rfl⟩ := hig.form
  rw [lg] at hig ⊢
  have GG := Lib.hid (Ints.had' hig)
  have LG := Lib.hid lg
  clear hx2 E2 lg c0 c1 c2 c3 c4 c5 c6 c7
  go_wp2
  go_loopw [7, 8] (fun fv iv wr => ∃ (k : Nat) (f : Int), k ≤ n ∧ iv = .int .i64 k ∧ fv = .int .i64 f ∧ Hid (f = F k) ∧ Ext w2 wr) (fun _ iv _ => n - (intOf iv).toNat)
  case atStart => exact ⟨0, c.fill, Nat.zero_le _, rfl, rfl, h0.out.symm, Ext.refl _⟩
  case round =>
    obtain ⟨k, f, hk, rfl, rfl, HF, hE⟩ := hrel
    by_cases hlt : k < n
    · obtain ⟨s, hs⟩ : ∃ s, gs[k]? = some s := ⟨_, List.getElem?_eq_getElem (by rw [LG.out]; exact hlt)⟩
      obtain ⟨s0, s1, s2, s3⟩ := hst.out k s hs
      rw [← HF.out] at s1 s2 s3
      obtain ⟨g, off, rfl⟩ := GG.out (by omega)
      have cs := hE.cell (hig.at hs)
      have k5 := hE.cell j5
      have k6 := hE.cell j6
      have t1 : decide (f < s) = false := decide_eq_false (by omega)
      have t2 : decide (s < 8) = false := decide_eq_false (by omega)
      have t3 : decide (c.room < f) = false := decide_eq_false (by omega)
      have H3 := Lib.hid s3
      clear hs s3
      obtain ⟨mn, hmn, hmv⟩ := min2 c.room (f - s + c.rate)
      have H3' : Hid (mn = F (k + 1)) := by show _ = _; rw [H3.out]; exact hmv
      clear hmv
      go_wp2
      go_quiet (fail)
      go_wp2
      go_roundw
      case rel => exact ⟨k + 1, _, by omega, by go_num, rfl, H3', hE.drewN _⟩
      case measure => simp [intOf]; omega
    · have E4 := E3.trans hE
      have k0 := hE.cell j0
      have k1 := hE.cell j1
      have k2 := hE.cell j2
      have k3 := hE.cell j3
      have k4 := hE.cell j4
      have k5 := hE.cell j5
      have k6 := hE.cell j6
      have k7 := hE.cell j7
      have hig4 := hig.ext hE
      clear hig hE E3 j0 j1 j2 j3 j4 j5 j6 j7
      go_wp2_with fail
      refine (f2.out _ _ hig4).mono ?_; rintro e w4 ⟨u4, x4, rfl, hx4, hif, rfl⟩
      obtain ⟨fa, fcap, rfl⟩ := hif.form
      rw [lf] at hif ⊢
      have E5 := E4.trans hx4
      clear hx4 E4 hig4 k0 k1 k2 k3 k4 k5 k6 k7
      go_wp2_with fail
      refine (first19 _ (hg.ext E5)).mono ?_; rintro e w5 ⟨rfl, hx5⟩
      go_wp2
      go_ret
      exact ⟨rfl, E5.trans hx5⟩
theorem bnds_law (c : Cfg) (zs : List Int) (v : Value) (w : World) (hg : EtIs w) (hr : Row w v zs.length (zs.map (Value.int .i64))) :
    Calls Tryd.prog 12 #[.agg #[.int .i64 c.qmin, .int .i64 c.qmax, .int .i64 c.reach, .int .i64 c.cut, .int .i64 c.gop, .int .i64 c.rate, .int .i64 c.room, .int .i64 c.fill], v] w fun e w' => e = .returned (.bool true) ∧ Ext w w' := by
  by_cases hl : 16 < zs.length
  · exact bnds_long c v zs.length w hg hr.form hl
  · have ha : Ints w v zs := ⟨hr, by omega⟩
    obtain ⟨a, cap, rfl⟩ := ha.form
    cases hq : capAns c zs with
    | some pk => exact bnds_some c zs _ a _ cap w hg ha hl pk (fun W h => by rw [← hq]; exact caps_all c zs _ W h)
    | none =>
      obtain ⟨g, s⟩ := capAns_none hq
      have G := g
      obtain ⟨_, _, _, _, _, _, _, _, _, g1, g2, g3, g4, g5⟩ := g
      have lg : (capsOf c zs).length = zs.length := capsL_length _ _ _ _ _ _
      have hfe : fillErr c.rate c.room c.fill (capsOf c zs) 0 = none := caps_fill g1 g2 g4
      have hsz : Sizes (capsOf c zs) := ⟨by rw [lg]; omega, fun x hx => by have := capsL_within g1 g2 g4 g5 x hx; omega⟩
      have hqf : ansOf c (capsOf c zs) (fillErr c.rate c.room c.fill (capsOf c zs) 0) = none := by
        unfold ansOf
        rw [if_pos G, if_pos hsz, hfe]
        rfl
      refine bnds_none c zs (capsOf c zs) (fillOut c.rate c.room c.fill (capsOf c zs)) (fun k => capF c.rate c.room (totalOf c zs.length) zs.sum c.fill (zs.take k)) a _ cap w hg ha hl lg (by rw [fillOut_length, lg]) (fun W h => by rw [← hq]; exact caps_all c zs _ W h)
        (fun W v h => by rw [← hqf]; exact fills_all c _ v W h) rfl ⟨g1, g2, g3⟩ ?_
      intro k x hx
      have hk : k < zs.length := by have := (List.getElem?_eq_some_iff.1 hx).1; rwa [lg] at this
      have hz : zs[k]? = some zs[k] := by simp [hk]
      have e := capsL_at (rate := c.rate) (room := c.room) (total := totalOf c zs.length) (sum := zs.sum) (f := c.fill) hz
      obtain rfl := Option.some.inj (hx.symm.trans e)
      have hb := capF_bounds (rate := c.rate) (room := c.room) (total := totalOf c zs.length) (sum := zs.sum) (f := c.fill) (l := zs.take k) g1 g2 g4 g5
      have hkk := capk_bounds (total := totalOf c zs.length) (sum := zs.sum) (w := zs[k]) hb.1
      exact ⟨hkk.1, hkk.2, hb.2, by rw [capsL_take hz]; rfl⟩
end Go.Proofs.YtbmknmenaaanaaaDoor
