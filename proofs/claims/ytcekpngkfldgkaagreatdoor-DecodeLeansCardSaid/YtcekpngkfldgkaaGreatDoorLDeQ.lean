/- kinlaw21.DecodeTotal: the walk. -/
import Derived.Test.YtcekpngkfldgkaaGreatDoorUmb
namespace Go.Proofs.YtcekpngkfldgkaaGreatDoor
set_option linter.unusedVariables false
set_option linter.unusedSimpArgs false
open Go.RowKit Go.Extern.Stop Go.Stop Go.Extern

theorem Cds.one {w : World} {b : Nat} {k : Int} {ca : Option Addr} {cn cc : Nat} {bs : List Nat} {T : TypeId} (h : BoxIs w b #[.int .i64 k, .slice ca cn cc] T) (hr : Row w (.slice ca cn cc) bs.length (byV bs)) (hb : ∀ x ∈ bs, x < 256) : Cds w (.slice (some ⟨b, 0, none⟩) 1 1) [(k, bs)] := by
  refine ⟨_, _, rfl, ⟨Nat.le_refl _, by unfold maxLen; simp⟩, fun _ => ⟨b, 0, rfl, fun q c hq => ?_⟩⟩
  have h0 : q = 0 := by have := (List.getElem?_eq_some_iff.1 hq).1; simp at this; omega
  subst h0
  simp only [List.getElem?_cons_zero, Option.some.injEq] at hq
  subst hq
  exact ⟨ca, cn, cc, h.cell rfl, h.cell rfl, hr, hb⟩
theorem Fms.one {w : World} {b : Nat} {W H : Int} {pa : Option Addr} {pn pc : Nat} {ps : List Int} {T : TypeId} (h : BoxIs w b #[.int .i64 W, .int .i64 H, .slice pa pn pc] T) (hi : Row w (.slice pa pn pc) ps.length (ps.map (Value.int .i64))) : Fms w (.slice (some ⟨b, 0, none⟩) 1 1) [(W, H, ps)] := by
  refine ⟨_, _, rfl, fun _ => ⟨b, 0, rfl, fun q c hq => ?_⟩⟩
  have h0 : q = 0 := by have := (List.getElem?_eq_some_iff.1 hq).1; simp at this; omega
  subst h0
  simp only [List.getElem?_cons_zero, Option.some.injEq] at hq
  subst hq
  exact ⟨pa, pn, pc, h.cell rfl, h.cell rfl, h.cell rfl, hi⟩
set_option maxRecDepth 20000 in
set_option maxHeartbeats 8000000 in
theorem total_law (k : Int) (bs : List Nat) (PW PH : Int) (ps : List Int) (W H : Int) (ca pa : Option Addr) (cn cc pn pc : Nat) (w : World) (hg : EtIs w) (hc : Row w (.slice ca cn cc) bs.length (byV bs)) (hb : ∀ x ∈ bs, x < 256) (hip : Row w (.slice pa pn pc) ps.length (ps.map (Value.int .i64))) :
    Calls Tryz.prog 5 #[.agg #[.int .i64 k, .slice ca cn cc], .agg #[.int .i64 PW, .int .i64 PH, .slice pa pn pc], .int .i64 W, .int .i64 H] w fun e w' => e = .returned (.bool true) ∧ Ext w w' := by
  have HET := Lib.hid hg
  have HC := Lib.hid hc
  have HB := Lib.hid hb
  have HI := Lib.hid hip
  have A0 := (BoxIs.new w #[.int .i64 k, .slice ca cn cc] 63).ext ((Ext.refl _).alloc (.cells #[.int .i64 PW, .int .i64 PH, .slice pa pn pc] 24))
  have A1 := BoxIs.new (w.alloc (.cells #[.int .i64 k, .slice ca cn cc] 63)) #[.int .i64 PW, .int .i64 PH, .slice pa pn pc] 24
  have E0 := ((Ext.refl w).alloc (.cells #[.int .i64 k, .slice ca cn cc] 63)).alloc (.cells #[.int .i64 PW, .int .i64 PH, .slice pa pn pc] 24)
  rw [show (w.alloc (.cells #[.int .i64 k, .slice ca cn cc] 63)).heap.size = w.heap.size + 1 by simp] at A1
  obtain ⟨u, hu⟩ : ∃ z, (w.alloc (.cells #[.int .i64 k, .slice ca cn cc] 63)).alloc (.cells #[.int .i64 PW, .int .i64 PH, .slice pa pn pc] 24) = z := ⟨_, rfl⟩
  rw [hu] at A0 A1 E0
  have HU := Lib.hid hu
  clear hg hc hb hip hu
  go_enter Tryz.func5, Tryz.ntmps5
  go_wp2_with fail
  rw [HU.out]
  refine (first21_any _ (HET.out.ext E0)).mono ?_; rintro e w1 ⟨rfl, hx1⟩
  have HA0 := Lib.hid (A0.ext hx1)
  have HA1 := Lib.hid (A1.ext hx1)
  have HE1 := Lib.hid (E0.trans hx1)
  clear A0 A1 E0 hx1 HU
  have c0 := HA0.out.cell (i := 0) (v := .int .i64 k) rfl
  have c1 := HA0.out.cell (i := 1) (v := .slice ca cn cc) rfl
  have X2 := (Ext.refl w1).alloc (.cells #[.int .i64 k, .slice ca cn cc] 63)
  have p0 := (HA1.out.ext X2).cell (i := 0) (v := .int .i64 PW) rfl
  have p1 := (HA1.out.ext X2).cell (i := 1) (v := .int .i64 PH) rfl
  have p2 := (HA1.out.ext X2).cell (i := 2) (v := .slice pa pn pc) rfl
  have B2 := (BoxIs.new w1 #[.int .i64 k, .slice ca cn cc] 63).ext ((Ext.refl _).alloc (.cells #[.int .i64 PW, .int .i64 PH, .slice pa pn pc] 24))
  have B3 := BoxIs.new (w1.alloc (.cells #[.int .i64 k, .slice ca cn cc] 63)) #[.int .i64 PW, .int .i64 PH, .slice pa pn pc] 24
  rw [show (w1.alloc (.cells #[.int .i64 k, .slice ca cn cc] 63)).heap.size = w1.heap.size + 1 by simp] at B3
  have X3 := X2.alloc (.cells #[.int .i64 PW, .int .i64 PH, .slice pa pn pc] 24)
  obtain ⟨w3, hw3⟩ : ∃ z, (w1.alloc (.cells #[.int .i64 k, .slice ca cn cc] 63)).alloc (.cells #[.int .i64 PW, .int .i64 PH, .slice pa pn pc] 24) = z := ⟨_, rfl⟩
  rw [hw3] at B2 B3 X3
  have HW3 := Lib.hid hw3
  have E3 := HE1.out.trans X3
  have HCD := Lib.hid (Cds.one B2 (HC.out.ext E3) HB.out)
  have HFM := Lib.hid (Fms.one B3 (HI.out.ext E3))
  have HE3 := Lib.hid E3
  have HX3 := Lib.hid X3
  clear hw3 B2 B3 X2 X3 E3
  go_wp2_with fail
  rw [HW3.out]
  refine (few21_any _ _ _ _ _ HCD.out HFM.out (by simp)).mono ?_; rintro e w4 ⟨rfl, hx4⟩
  clear HCD HFM HW3 c0 c1 p0 p1 p2
  obtain ⟨fb, hfb⟩ : ∃ b, fewF [(k, bs)] [(PW, PH, ps)] = b := ⟨_, rfl⟩
  rw [hfb]
  have HE4 := Lib.hid (HE3.out.trans hx4)
  have HA0' := Lib.hid (HA0.out.ext (HX3.out.trans hx4))
  have HA1' := Lib.hid (HA1.out.ext (HX3.out.trans hx4))
  clear hx4 HE3 HX3 HA0 HA1
  cases fb with
  | false =>
    go_wp2_with fail
    refine (first21_any _ (HET.out.ext HE4.out)).mono ?_; rintro e w5 ⟨rfl, hx5⟩
    have E5 := HE4.out.trans hx5
    clear hx5
    go_wp2
    go_ret
    exact ⟨rfl, E5⟩
  | true =>
    have hlen : bs.length ≤ 20000 := by
      unfold fewF at hfb
      rw [Bool.and_eq_true] at hfb
      exact (fewC_out hfb.1).2 0 (k, bs) rfl
    have hlen2 : ps.length ≤ 20000 := by
      unfold fewF at hfb
      rw [Bool.and_eq_true] at hfb
      exact (pixB_out hfb.2).2 0 (PW, PH, ps) rfl
    have HII : Hid (Ints w (.slice pa pn pc) ps) := ⟨HI.out, by omega⟩
    have HBY : Hid (Bys w (.slice ca cn cc) bs) := ⟨HC.out, HB.out, by omega⟩
    have UF := Lib.hid (fun W' (kx : Ext w W') => dframe_any k bs PW PH ps W H ca pa cn cc pn pc W' (HBY.out.ext kx) (by omega) (HII.out.ext kx))
    obtain ⟨⟨rf, f⟩, hr⟩ : ∃ r, dfrV k bs PW PH ps W H = r := ⟨_, rfl⟩
    rw [hr] at UF
    have HR := Lib.hid hr
    clear hfb hr hlen hlen2 HBY HII
    have c0 := HA0'.out.cell (i := 0) (v := .int .i64 k) rfl
    have c1 := HA0'.out.cell (i := 1) (v := .slice ca cn cc) rfl
    have p0 := HA1'.out.cell (i := 0) (v := .int .i64 PW) rfl
    have p1 := HA1'.out.cell (i := 1) (v := .int .i64 PH) rfl
    have p2 := HA1'.out.cell (i := 2) (v := .slice pa pn pc) rfl
    go_wp2_with fail
    refine (UF.out _ HE4.out).mono ?_; rintro e w5 ⟨fu, fx, X, rfl, hx5, -, ho⟩
    obtain ⟨hi5, he5⟩ := ho.get
    obtain ⟨f2, f2h, f2p⟩ := f
    have hi5' : Ints w5 fu f2p := hi5
    obtain ⟨ua, uc, huf⟩ := hi5'.form
    obtain ⟨un, hun⟩ : ∃ z : Nat, z = f2p.length := ⟨_, rfl⟩
    obtain rfl : fu = .slice ua un uc := by rw [hun]; exact huf
    have HN := Lib.hid hun
    have X6 := (Ext.refl w5).alloc (.cells #[.int .i64 f2, .int .i64 f2h, .slice ua un uc] 24)
    have B6 := BoxIs.new w5 #[.int .i64 f2, .int .i64 f2h, .slice ua un uc] 24
    have E6 := HE4.out.trans (hx5.trans X6)
    have I6 := hi5'.ext X6
    clear c0 c1 p0 p1 p2 HA0' HA1' UF hi5 hi5' huf hun hx5 ho
    cases rf with
    | none =>
      obtain rfl : fx = .nilIface := he5
      obtain ⟨-, g1, g2, g3⟩ := dfr_good HR.out
      obtain rfl : f2 = W := g1
      obtain rfl : f2h = H := g2
      have HM : Hid (may f2 f2h f2p) := g3
      obtain ⟨w6, hw6⟩ : ∃ z, w5.alloc (.cells #[.int .i64 f2, .int .i64 f2h, .slice ua un uc] 24) = z := ⟨_, rfl⟩
      rw [hw6] at B6 E6 I6
      have HW6 := Lib.hid hw6
      have HB6 := Lib.hid B6
      have HE6 := Lib.hid E6
      have HI6 := Lib.hid I6
      clear hw6 B6 E6 I6 X6 HR g3
      go_wp2_with fail
      rw [HW6.out]
      refine (first21_any _ (HET.out.ext HE6.out)).mono ?_; rintro e w7 ⟨rfl, hx7⟩
      have B7 := HB6.out.ext hx7
      have q0 := B7.cell (i := 0) (v := .int .i64 f2) rfl
      have q1 := B7.cell (i := 1) (v := .int .i64 f2h) rfl
      have q2 := B7.cell (i := 2) (v := .slice ua un uc) rfl
      have HI7 := Lib.hid (HI6.out.ext hx7)
      have HE7 := Lib.hid (HE6.out.trans hx7)
      clear hx7 HB6 HI6 HE6 HW6
      go_wp2_with fail
      refine (may_any f2 f2h f2p ua un uc _ HI7.out).mono ?_; rintro e w8 ⟨rfl, hx8⟩
      rw [decide_eq_true HM.out]
      have B8 := B7.ext hx8
      have E8 := HE7.out.trans hx8
      clear q0 q1 q2 B7 hx8 HI7 HE7
      have q0 := B8.cell (i := 0) (v := .int .i64 f2) rfl
      have q1 := B8.cell (i := 1) (v := .int .i64 f2h) rfl
      clear B8
      go_wp2
      go_ret
      exact ⟨rfl, E8⟩
    | some ee =>
      obtain ⟨xt, xv, rfl⟩ := ErrIs.ne he5
      obtain ⟨g1, g2⟩ := dfr_code HR.out
      have hz : un = 0 := by
        have e1 : f2p = [] := (Prod.mk.inj (Prod.mk.inj g1).2).2
        rw [HN.out, e1]
        rfl
      have HI5 : Hid (IsErr w5 ee.1 ee.2 (.iface xt xv)) := he5.1
      subst hz
      obtain ⟨w6, hw6⟩ : ∃ z, w5.alloc (.cells #[.int .i64 f2, .int .i64 f2h, .slice ua 0 uc] 24) = z := ⟨_, rfl⟩
      rw [hw6] at B6 E6 X6
      have HW6 := Lib.hid hw6
      have HB6 := Lib.hid B6
      have HE6 := Lib.hid E6
      have HX6 := Lib.hid X6
      obtain ⟨ep, ec⟩ := ee
      dsimp only at g2 HI5
      clear hw6 B6 E6 I6 X6 HR he5 g1 HN
      go_wp2_with fail
      rw [HW6.out]
      refine (of_err ep ec _ _ (HET.out.ext HE6.out) (HI5.out.ext HX6.out)).mono ?_; rintro e w7 ⟨rfl, hx7⟩
      have HB7 := Lib.hid (HB6.out.ext hx7)
      have HE7 := Lib.hid (HE6.out.trans hx7)
      clear hx7 HB6 HE6 HX6 HI5 HW6
      rcases g2 with rfl | rfl | rfl | rfl | rfl | rfl
      all_goals
        go_wp2_with fail
        refine (first21_any _ (HET.out.ext HE7.out)).mono ?_; rintro e w8 ⟨rfl, hx8⟩
        have q2 := (HB7.out.ext hx8).cell (i := 2) (v := .slice ua 0 uc) rfl
        have E8 := HE7.out.trans hx8
        clear hx8
        go_wp2
        go_ret
        exact ⟨rfl, E8⟩
theorem total_walk (k : Int) (bs : List Nat) (PW PH : Int) (ps : List Int) (W H : Int) (u v : Value) (w : World) (hg : EtIs w) (hc : Row w u bs.length (bs.map fun x : Nat => Value.int .u8 (x : Int))) (hb : ∀ x ∈ bs, x < 256) (hp : Row w v ps.length (ps.map (Value.int .i64))) :
    Calls Tryz.prog 5 #[.agg #[.int .i64 k, u], .agg #[.int .i64 PW, .int .i64 PH, v], .int .i64 W, .int .i64 H] w fun e w' => e = .returned (.bool true) ∧ Ext w w' := by
  obtain ⟨ca, cc, rfl⟩ := hc.form
  obtain ⟨pa, pc, rfl⟩ := hp.form
  exact total_law k bs PW PH ps W H ca pa _ cc _ pc w hg hc hb hp
end Go.Proofs.YtcekpngkfldgkaaGreatDoor
