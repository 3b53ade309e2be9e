/- kinlaw18.VbvRoom: the walk. -/
import Derived.Test.YtoifpgeabfeelaaDoorVAll
namespace Go.Proofs.YtoifpgeabfeelaaDoor
set_option linter.unusedVariables false
set_option linter.unusedSimpArgs false
open Go.RowKit Go.Extern.Stop Go.Stop Go.Extern

theorem room_facts {c : Cfg} {zs : List Int} {r : Int} (hA : ansOf c zs (fillErr c.rate c.room c.fill zs 0) = none) (hr : c.room ≤ r) (hD : Good ⟨c.qmin, c.qmax, c.reach, c.cut, c.gop, c.rate, r, c.fill⟩) :
    ansOf ⟨c.qmin, c.qmax, c.reach, c.cut, c.gop, c.rate, r, c.fill⟩ zs (fillErr c.rate r c.fill zs 0) = none ∧ (fillOut c.rate r c.fill zs).length = zs.length ∧ (∀ y ∈ fillOut c.rate r c.fill zs, 0 ≤ y ∧ y ≤ c.rate) ∧ ∀ k, ((fillOut c.rate r c.fill zs).take k).sum ≤ ((fillOut c.rate c.room c.fill zs).take k).sum := by
  obtain ⟨hG, hS, hE0⟩ := ansOf_none hA
  obtain ⟨_, _, _, _, _, _, _, _, _, g1, g2, g3, g4, g5⟩ := hG
  refine ⟨?_, fillOut_length _ _ _ _, fillOut_within (by omega) (by omega) (by omega) (fun x hx => (hS.2 x hx).1), fun k => ?_⟩
  · unfold ansOf
    rw [if_pos hD, if_pos hS, fillErr_more hr (Int.le_refl _) hE0]
    rfl
  · have := fillSum_more (rate := c.rate) (f := c.fill) (f' := c.fill) (zs := zs) hr (Int.le_refl _) k
    omega

set_option maxHeartbeats 2000000 in
set_option maxRecDepth 20000 in
theorem room_law (c : Cfg) (zs : List Int) (v : Value) (m : Int) (w : World) (hg : EtIs w) (hr : Row w v zs.length (zs.map (Value.int .i64))) (hl : zs.length ≤ 9223372036854775807) (hc : -9223372036854775808 ≤ c.room ∧ c.room ≤ 9223372036854775807) (hm : -9223372036854775808 ≤ m ∧ m ≤ 9223372036854775807) :
    Calls Tryd.prog 7 #[.agg #[.int .i64 c.qmin, .int .i64 c.qmax, .int .i64 c.reach, .int .i64 c.cut, .int .i64 c.gop, .int .i64 c.rate, .int .i64 c.room, .int .i64 c.fill], v, .int .i64 m] w fun e w' => e = .returned (.bool true) ∧ Ext w w' := by
  have E1 : Ext w (w.alloc (.cells #[.int .i64 c.qmin, .int .i64 c.qmax, .int .i64 c.reach, .int .i64 c.cut, .int .i64 c.gop, .int .i64 c.rate, .int .i64 c.room, .int .i64 c.fill] 23)) := (Ext.refl w).alloc _
  by_cases hlong : 5000 < zs.length
  · obtain ⟨a, cap, rfl⟩ := hr.form
    clear hr
    go_enter Tryd.func7, Tryd.ntmps7
    go_wp2_with fail
    refine (first18 _ (hg.ext E1)).mono ?_; rintro e w1 ⟨rfl, hx1⟩
    go_wp2_with fail
    refine (first18 _ (hg.ext (E1.trans hx1))).mono ?_; rintro e w2 ⟨rfl, hx2⟩
    go_wp2
    go_ret
    exact ⟨rfl, E1.trans (hx1.trans hx2)⟩
  · by_cases hm0 : m < 0
    · obtain ⟨a, cap, rfl⟩ := hr.form
      clear hr
      go_enter Tryd.func7, Tryd.ntmps7
      go_wp2_with fail
      refine (first18 _ (hg.ext E1)).mono ?_; rintro e w1 ⟨rfl, hx1⟩
      go_wp2_with fail
      refine (first18 _ (hg.ext (E1.trans hx1))).mono ?_; rintro e w2 ⟨rfl, hx2⟩
      go_wp2
      go_ret
      exact ⟨rfl, E1.trans (hx1.trans hx2)⟩
    · by_cases hm1 : 16384 < m
      · obtain ⟨a, cap, rfl⟩ := hr.form
        clear hr
        go_enter Tryd.func7, Tryd.ntmps7
        go_wp2_with fail
        refine (first18 _ (hg.ext E1)).mono ?_; rintro e w1 ⟨rfl, hx1⟩
        go_wp2_with fail
        refine (first18 _ (hg.ext (E1.trans hx1))).mono ?_; rintro e w2 ⟨rfl, hx2⟩
        go_wp2
        go_ret
        exact ⟨rfl, E1.trans (hx1.trans hx2)⟩
      · have ha : Ints w v zs := ⟨hr, by omega⟩
        clear hr hl
        obtain ⟨a, cap, rfl⟩ := ha.form
        cases hA : ansOf c zs (fillErr c.rate c.room c.fill zs 0) with
        | some pk =>
          obtain ⟨p, k⟩ := pk
          have HA := Lib.hid hA
          clear hA
          have fa := fun W => fills_all c zs (.slice a zs.length cap) W
          rw [HA.out] at fa
          obtain ⟨n, hn⟩ : ∃ n, n = zs.length := ⟨_, rfl⟩
          have fb := fun (d : Cfg) W => fills_all d zs (.slice a zs.length cap) W
          rw [← hn] at ha fa fb hlong ⊢
          have FA := Lib.hid fa
          have FB := Lib.hid fb
          clear fa fb hn
          go_enter Tryd.func7, Tryd.ntmps7
          go_wp2_with fail
          refine (first18 _ (hg.ext E1)).mono ?_; rintro e w1 ⟨rfl, hx1⟩
          have C := (CfgAt.mk' w c).ext hx1
          obtain ⟨c0, c1, c2, c3, c4, c5, c6, c7⟩ := C
          have hsz : w.heap.size < w1.heap.size := Ext.lt c0
          have k6 := ((Ext.refl w1).alloc (.cells #[.int .i64 c.qmin, .int .i64 c.qmax, .int .i64 c.reach, .int .i64 c.cut, .int .i64 c.gop, .int .i64 c.rate, .int .i64 c.room, .int .i64 c.fill] 23)).cell c6
          go_wp2_with fail
          refine (FA.out _ ((ha.ext (E1.trans hx1)).ext ((Ext.refl w1).alloc _))).mono ?_; rintro e w2 ⟨u, x, rfl, hx2, rfl, hi⟩
          have C2 := (CfgAt.mk' w1 ⟨c.qmin, c.qmax, c.reach, c.cut, c.gop, c.rate, wrap64 (c.room + m), c.fill⟩).ext hx2
          have E2 := (E1.trans hx1).trans (((Ext.refl w1).alloc _).trans hx2)
          clear hx2 c0 c1 c2 c3 c4 c5 c6 c7 k6 hsz hx1
          obtain ⟨c0, c1, c2, c3, c4, c5, c6, c7⟩ := C2
          simp only at c0 c1 c2 c3 c4 c5 c6 c7
          go_wp2_with fail
          refine (FB.out ⟨c.qmin, c.qmax, c.reach, c.cut, c.gop, c.rate, wrap64 (c.room + m), c.fill⟩ _ (ha.ext E2)).mono ?_; rintro e w3 ⟨u', x', rfl, hx3, hm3⟩
          clear hm3
          obtain ⟨tx, vx, hne⟩ := hi.ne_nil
          subst hne
          go_wp2_with fail
          refine (first18 _ (hg.ext (E2.trans hx3))).mono ?_; rintro e w4 ⟨rfl, hx4⟩
          go_wp2
          go_ret
          exact ⟨rfl, E2.trans (hx3.trans hx4)⟩
        | none =>
          obtain ⟨hG, hS, hE0⟩ := ansOf_none hA
          have hG' := hG
          obtain ⟨q0, q1, q2, q3, q4, q5, q6, q7, q8, g1, g2, g3, g4, g5⟩ := hG'
          have fa := fun W => fills_all c zs (.slice a zs.length cap) W
          rw [hA] at fa
          have fb := fun W => fills_all ⟨c.qmin, c.qmax, c.reach, c.cut, c.gop, c.rate, c.room + m, c.fill⟩ zs (.slice a zs.length cap) W
          simp only at fb
          have hn5 := hS.1
          have hgw := fillOut_within (f := c.fill) (room := c.room) (zs := zs) (rate := c.rate) (by omega) g2 g5 (fun x hx => (hS.2 x hx).1)
          have hgl := fillOut_length c.rate c.room c.fill zs
          by_cases hD : Good ⟨c.qmin, c.qmax, c.reach, c.cut, c.gop, c.rate, c.room + m, c.fill⟩
          · obtain ⟨hdA, hgl', hgw', hsum'⟩ := room_facts hA (by omega) hD
            have md := fun W => may_yes _ W hD
            simp only at md
            rw [hdA] at fb
            clear hA
            generalize fillOut c.rate c.room c.fill zs = gs at *
            generalize fillOut c.rate (c.room + m) c.fill zs = hs at *
            obtain ⟨n, hn⟩ : ∃ n, n = zs.length := ⟨_, rfl⟩
            rw [← hn] at ha fa fb hlong hn5 hgl hgl' ⊢
            have FA := Lib.hid fa
            have FB := Lib.hid fb
            have MD := Lib.hid md
            have HG := Lib.hid hgw
            have HH := Lib.hid hgw'
            have HS := Lib.hid hsum'
            clear fa fb md hgw hgw' hsum' hdA hD hn hG hS hE0 hlong
            go_enter Tryd.func7, Tryd.ntmps7
            go_wp2_with fail
            refine (first18 _ (hg.ext E1)).mono ?_; rintro e w1 ⟨rfl, hx1⟩
            have C := (CfgAt.mk' w c).ext hx1
            obtain ⟨c0, c1, c2, c3, c4, c5, c6, c7⟩ := C
            have hsz : w.heap.size < w1.heap.size := Ext.lt c0
            have k6 := ((Ext.refl w1).alloc (.cells #[.int .i64 c.qmin, .int .i64 c.qmax, .int .i64 c.reach, .int .i64 c.cut, .int .i64 c.gop, .int .i64 c.rate, .int .i64 c.room, .int .i64 c.fill] 23)).cell c6
            go_wp2_with fail
            refine (FA.out _ ((ha.ext (E1.trans hx1)).ext ((Ext.refl w1).alloc _))).mono ?_; rintro e w2 ⟨u, x, rfl, hx2, hi, rfl⟩
            have C2 := (CfgAt.mk' w1 ⟨c.qmin, c.qmax, c.reach, c.cut, c.gop, c.rate, c.room + m, c.fill⟩).ext hx2
            have E2 := (E1.trans hx1).trans (((Ext.refl w1).alloc _).trans hx2)
            clear hx2 c0 c1 c2 c3 c4 c5 c6 c7 k6 hsz hx1
            obtain ⟨c0, c1, c2, c3, c4, c5, c6, c7⟩ := C2
            simp only at c0 c1 c2 c3 c4 c5 c6 c7
            go_wp2_with fail
            refine (FB.out _ (ha.ext E2)).mono ?_; rintro e w3 ⟨u', x', rfl, hx3, hi', rfl⟩
            have hi3 := hi.ext hx3
            have E3 := E2.trans hx3
            have k0 := hx3.cell c0
            have k1 := hx3.cell c1
            have k2 := hx3.cell c2
            have k3 := hx3.cell c3
            have k4 := hx3.cell c4
            have k5 := hx3.cell c5
            have k6 := hx3.cell c6
            have k7 := hx3.cell c7
            clear hx3 c0 c1 c2 c3 c4 c5 c6 c7 hi E2
            go_wp2_with fail
            refine (MD.out _).mono ?_; rintro e w4 ⟨rfl, hx4⟩
            have hiw := hi3.ext hx4
            have hih := hi'.ext hx4
            have E4 := E3.trans hx4
            clear hi3 hi' E3 hx4 k0 k1 k2 k3 k4 k5 k6 k7
            obtain ⟨ga, gcap, rfl⟩ := hiw.form
            obtain ⟨ha', hcap, rfl⟩ := hih.form
            rw [hgl] at hiw ⊢
            rw [hgl'] at hih ⊢
            have hadg : 0 < n → ∃ g off, ga = some ⟨g, off, none⟩ := fun h0 => by
              have hiw' := hiw
              rw [← hgl] at hiw'
              obtain ⟨g, off, cap', hag, _, _⟩ := hiw'.addr (by omega)
              simp only [Value.slice.injEq] at hag
              exact ⟨g, off, hag.1⟩
            have hadh : 0 < n → ∃ g off, ha' = some ⟨g, off, none⟩ := fun h0 => by
              have hih' := hih
              rw [← hgl'] at hih'
              obtain ⟨g, off, cap', hag, _, _⟩ := hih'.addr (by omega)
              simp only [Value.slice.injEq] at hag
              exact ⟨g, off, hag.1⟩
            have AG := Lib.hid hadg
            have AH := Lib.hid hadh
            have LG := Lib.hid hgl
            have LH := Lib.hid hgl'
            clear hadg hadh hgl hgl'
            go_wp2
            go_loopw [12, 13, 14] (fun av bv iv wr => ∃ (k : Nat) (x y : Int), k ≤ n ∧ iv = .int .i64 k ∧ av = .int .i64 x ∧ bv = .int .i64 y ∧ Hid (x = (gs.take k).sum) ∧ Hid (y = (hs.take k).sum) ∧ 0 ≤ x ∧ x ≤ k * 16384 ∧ 0 ≤ y ∧ y ≤ k * 16384 ∧ Ext w4 wr) (fun _ _ iv _ => n - (intOf iv).toNat)
            case atStart => exact ⟨0, 0, 0, Nat.zero_le _, rfl, rfl, rfl, rfl, rfl, by omega, by omega, by omega, by omega, Ext.refl _⟩
            case round =>
              obtain ⟨k, x, y, hk, rfl, rfl, rfl, HX, HY, x0, x1, y0, y1, hE⟩ := hrel
              by_cases hlt : k < n
              · obtain ⟨p, hp⟩ : ∃ p, gs[k]? = some p := ⟨_, List.getElem?_eq_getElem (by rw [LG.out]; exact hlt)⟩
                obtain ⟨q, hq⟩ : ∃ q, hs[k]? = some q := ⟨_, List.getElem?_eq_getElem (by rw [LH.out]; exact hlt)⟩
                obtain ⟨p0, p1⟩ := HG.out p (List.mem_of_getElem? hp)
                obtain ⟨r0, r1⟩ := HH.out q (List.mem_of_getElem? hq)
                have sx : x + p = (gs.take (k + 1)).sum := by rw [take_of_get hp, List.sum_append, HX.out]; simp
                have sy : y + q = (hs.take (k + 1)).sum := by rw [take_of_get hq, List.sum_append, HY.out]; simp
                have hba : y + q ≤ x + p := by rw [sx, sy]; exact HS.out (k + 1)
                have SX := Lib.hid sx
                have SY := Lib.hid sy
                obtain ⟨g, off, rfl⟩ := AG.out (by omega)
                obtain ⟨g', off', rfl⟩ := AH.out (by omega)
                have cp := hE.cell (hiw.at hp)
                have cq := hE.cell (hih.at hq)
                clear hp hq sx sy
                go_wp2
                go_quiet (fail)
                go_wp2
                go_roundw
                case rel => exact ⟨k + 1, x + p, y + q, by omega, by go_num, by go_num, by go_num, SX.out, SY.out, by omega, by omega, by omega, by omega, hE.drewN _⟩
                case measure => simp [intOf]; omega
              · go_wp2_with fail
                refine (first18 _ (hg.ext (E4.trans hE))).mono ?_; rintro e w5 ⟨rfl, hx5⟩
                go_wp2
                go_ret
                exact ⟨rfl, E4.trans (hE.trans hx5)⟩
          · clear hA
            have md := fun W => may_no _ W hD
            simp only at md
            obtain ⟨n, hn⟩ : ∃ n, n = zs.length := ⟨_, rfl⟩
            rw [← hn] at ha fa fb hlong hn5 hgl ⊢
            have FA := Lib.hid fa
            have FB := Lib.hid fb
            have MD := Lib.hid md
            clear fa fb md hgw hD hn hG hS hE0 hlong hgl
            go_enter Tryd.func7, Tryd.ntmps7
            go_wp2_with fail
            refine (first18 _ (hg.ext E1)).mono ?_; rintro e w1 ⟨rfl, hx1⟩
            have C := (CfgAt.mk' w c).ext hx1
            obtain ⟨c0, c1, c2, c3, c4, c5, c6, c7⟩ := C
            have hsz : w.heap.size < w1.heap.size := Ext.lt c0
            have k6 := ((Ext.refl w1).alloc (.cells #[.int .i64 c.qmin, .int .i64 c.qmax, .int .i64 c.reach, .int .i64 c.cut, .int .i64 c.gop, .int .i64 c.rate, .int .i64 c.room, .int .i64 c.fill] 23)).cell c6
            go_wp2_with fail
            refine (FA.out _ ((ha.ext (E1.trans hx1)).ext ((Ext.refl w1).alloc _))).mono ?_; rintro e w2 ⟨u, x, rfl, hx2, hi, rfl⟩
            have C2 := (CfgAt.mk' w1 ⟨c.qmin, c.qmax, c.reach, c.cut, c.gop, c.rate, c.room + m, c.fill⟩).ext hx2
            have E2 := (E1.trans hx1).trans (((Ext.refl w1).alloc _).trans hx2)
            clear hx2 c0 c1 c2 c3 c4 c5 c6 c7 k6 hsz hx1
            obtain ⟨c0, c1, c2, c3, c4, c5, c6, c7⟩ := C2
            simp only at c0 c1 c2 c3 c4 c5 c6 c7
            go_wp2_with fail
            refine (FB.out _ (ha.ext E2)).mono ?_; rintro e w3 ⟨u', x', rfl, hx3, hm3⟩
            clear hm3
            have E3 := E2.trans hx3
            have k0 := hx3.cell c0
            have k1 := hx3.cell c1
            have k2 := hx3.cell c2
            have k3 := hx3.cell c3
            have k4 := hx3.cell c4
            have k5 := hx3.cell c5
            have k6 := hx3.cell c6
            have k7 := hx3.cell c7
            clear hx3 c0 c1 c2 c3 c4 c5 c6 c7 hi E2
            go_wp2_with fail
            refine (MD.out _).mono ?_; rintro e w4 ⟨rfl, hx4⟩
            go_wp2_with fail
            refine (first18 _ (hg.ext (E3.trans hx4))).mono ?_; rintro e w5 ⟨rfl, hx5⟩
            go_wp2
            go_ret
            exact ⟨rfl, E3.trans (hx4.trans hx5)⟩
end Go.Proofs.YtoifpgeabfeelaaDoor
