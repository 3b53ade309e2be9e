/- kinlaw21.DecodeSquares: the walk, begun. -/
import Derived.Test.YtcekpngkfldgkaaGreatDoorLDsM
import Derived.Deep.RegionHeld3
import Derived.Test.YtcekpngkfldgkaaGreatDoorUmd
namespace Go.Proofs.YtcekpngkfldgkaaGreatDoor
set_option linter.unusedVariables false
set_option linter.unusedSimpArgs false
open Go.RowKit Go.Extern.Stop Go.Stop Go.Extern

theorem Fms.two {w : World} {b : Nat} {W H PW PH : Int} {fa pa : Option Addr} {fn fc pn pc : Nat} {zs ps : List Int} {T : TypeId} (h : BoxIs w b #[.int .i64 W, .int .i64 H, .slice fa fn fc, .int .i64 PW, .int .i64 PH, .slice pa pn pc] T) (hf : Row w (.slice fa fn fc) zs.length (zs.map (Value.int .i64))) (hp : Row w (.slice pa pn pc) ps.length (ps.map (Value.int .i64))) : Fms w (.slice (some ⟨b, 0, none⟩) 2 2) [(W, H, zs), (PW, PH, ps)] := by
  refine ⟨_, _, rfl, fun _ => ⟨b, 0, rfl, fun q c hq => ?_⟩⟩
  have h0 : q = 0 ∨ q = 1 := by have := (List.getElem?_eq_some_iff.1 hq).1; simp at this; omega
  rcases h0 with rfl | rfl
  · simp only [List.getElem?_cons_zero, Option.some.injEq] at hq
    subst hq
    exact ⟨fa, fn, fc, h.cell rfl, h.cell rfl, h.cell rfl, hf⟩
  · simp only [List.getElem?_cons_succ, List.getElem?_cons_zero, Option.some.injEq] at hq
    subst hq
    exact ⟨pa, pn, pc, h.cell rfl, h.cell rfl, h.cell rfl, hp⟩
theorem row_slf {w : World} {v : Value} {n : Nat} {xs : List Value} (h : Row w v n xs) : SlF v := by
  obtain ⟨a, c, e⟩ := h.form
  exact ⟨_, _, _, e⟩
set_option maxRecDepth 20000 in
set_option maxHeartbeats 8000000 in
theorem squares_law (W H PW PH x y qp : Int) (zs ps : List Int) (fa pa : Option Addr) (fn fc pn pc : Nat) (q : Sq) (vL v0 v1 v2 v3 : Value) (w : World) (hg : EtIs w) (hf : Row w (.slice fa fn fc) zs.length (zs.map (Value.int .i64))) (hp : Row w (.slice pa pn pc) ps.length (ps.map (Value.int .i64))) (hs : RawSq w q vL v0 v1 v2 v3) :
    Calls Tryz.prog 7 #[.agg #[.int .i64 W, .int .i64 H, .slice fa fn fc], .agg #[.int .i64 PW, .int .i64 PH, .slice pa pn pc], .int .i64 x, .int .i64 y, .int .i64 qp, sqQ q vL v0 v1 v2 v3] w fun e w' => e = .returned (.bool true) ∧ Ext w w' := by
  have HET := Lib.hid hg
  have HFR := Lib.hid hf
  have HPR := Lib.hid hp
  have HSR := Lib.hid hs
  have UW := Lib.hid (fun (W' : World) (kx : Ext w W') => weighs_any q vL v0 v1 v2 v3 W' (hs.ext kx))
  obtain ⟨hL, h0, h1, h2, h3⟩ := hs
  obtain ⟨aL, nL, cL, rfl⟩ := row_slf hL
  obtain ⟨a0, n0, c0, rfl⟩ := row_slf h0
  obtain ⟨a1, n1, c1, rfl⟩ := row_slf h1
  obtain ⟨a2, n2, c2, rfl⟩ := row_slf h2
  obtain ⟨a3, n3, c3, rfl⟩ := row_slf h3
  clear hf hp hL h0 h1 h2 h3 hg
  obtain ⟨wg, hwg⟩ : ∃ z, wgS q = z := ⟨_, rfl⟩
  rw [hwg] at UW
  have HWG := Lib.hid hwg
  obtain ⟨k, m, a, b, c, d, vx, vy, l, l0, l1, l2, l3⟩ := q
  unfold sqQ sqV at UW ⊢
  dsimp only at UW ⊢
  clear hwg
  have B0 := ((BoxIs.new w #[.int .i64 W, .int .i64 H, .slice fa fn fc] 24).ext ((Ext.refl _).alloc (.cells #[.int .i64 PW, .int .i64 PH, .slice pa pn pc] 24))).ext ((Ext.refl _).alloc (.cells #[.int .i64 k, .int .i64 m, .int .i64 a, .int .i64 b, .int .i64 c, .int .i64 d, .int .i64 vx, .int .i64 vy, .slice aL nL cL, .slice a0 n0 c0, .slice a1 n1 c1, .slice a2 n2 c2, .slice a3 n3 c3] 30))
  have B1 := (BoxIs.new (w.alloc (.cells #[.int .i64 W, .int .i64 H, .slice fa fn fc] 24)) #[.int .i64 PW, .int .i64 PH, .slice pa pn pc] 24).ext ((Ext.refl _).alloc (.cells #[.int .i64 k, .int .i64 m, .int .i64 a, .int .i64 b, .int .i64 c, .int .i64 d, .int .i64 vx, .int .i64 vy, .slice aL nL cL, .slice a0 n0 c0, .slice a1 n1 c1, .slice a2 n2 c2, .slice a3 n3 c3] 30))
  have B2 := BoxIs.new ((w.alloc (.cells #[.int .i64 W, .int .i64 H, .slice fa fn fc] 24)).alloc (.cells #[.int .i64 PW, .int .i64 PH, .slice pa pn pc] 24)) #[.int .i64 k, .int .i64 m, .int .i64 a, .int .i64 b, .int .i64 c, .int .i64 d, .int .i64 vx, .int .i64 vy, .slice aL nL cL, .slice a0 n0 c0, .slice a1 n1 c1, .slice a2 n2 c2, .slice a3 n3 c3] 30
  have E0 := (((Ext.refl w).alloc (.cells #[.int .i64 W, .int .i64 H, .slice fa fn fc] 24)).alloc (.cells #[.int .i64 PW, .int .i64 PH, .slice pa pn pc] 24)).alloc (.cells #[.int .i64 k, .int .i64 m, .int .i64 a, .int .i64 b, .int .i64 c, .int .i64 d, .int .i64 vx, .int .i64 vy, .slice aL nL cL, .slice a0 n0 c0, .slice a1 n1 c1, .slice a2 n2 c2, .slice a3 n3 c3] 30)
  obtain ⟨u, hu⟩ : ∃ z, (((w.alloc (.cells #[.int .i64 W, .int .i64 H, .slice fa fn fc] 24)).alloc (.cells #[.int .i64 PW, .int .i64 PH, .slice pa pn pc] 24)).alloc (.cells #[.int .i64 k, .int .i64 m, .int .i64 a, .int .i64 b, .int .i64 c, .int .i64 d, .int .i64 vx, .int .i64 vy, .slice aL nL cL, .slice a0 n0 c0, .slice a1 n1 c1, .slice a2 n2 c2, .slice a3 n3 c3] 30)) = z := ⟨_, rfl⟩
  rw [hu] at B0 B1 B2 E0
  rw [show (w.alloc (.cells #[.int .i64 W, .int .i64 H, .slice fa fn fc] 24)).heap.size = w.heap.size + 1 by simp] at B1
  rw [show ((w.alloc (.cells #[.int .i64 W, .int .i64 H, .slice fa fn fc] 24)).alloc (.cells #[.int .i64 PW, .int .i64 PH, .slice pa pn pc] 24)).heap.size = w.heap.size + 1 + 1 by simp] at B2
  have HB0 := Lib.hid B0
  have HB1 := Lib.hid B1
  have HB2 := Lib.hid B2
  have HE := Lib.hid E0
  have HU := Lib.hid hu
  clear B0 B1 B2 E0 hu
  go_enter Tryz.func7, Tryz.ntmps7
  go_wp2_with fail
  rw [HU.out]
  refine (first21_any _ (HET.out.ext HE.out)).mono ?_; rintro e w1 ⟨rfl, hx1⟩
  have f0 := (HB0.out.ext hx1).cell (i := 0) (v := .int .i64 W) rfl
  have f1 := (HB0.out.ext hx1).cell (i := 1) (v := .int .i64 H) rfl
  have f2 := (HB0.out.ext hx1).cell (i := 2) (v := .slice fa fn fc) rfl
  have p0 := (HB1.out.ext hx1).cell (i := 0) (v := .int .i64 PW) rfl
  have p1 := (HB1.out.ext hx1).cell (i := 1) (v := .int .i64 PH) rfl
  have p2 := (HB1.out.ext hx1).cell (i := 2) (v := .slice pa pn pc) rfl
  have B3 := BoxIs.new w1 #[.int .i64 W, .int .i64 H, .slice fa fn fc, .int .i64 PW, .int .i64 PH, .slice pa pn pc] 24
  have X3 := hx1.alloc (.cells #[.int .i64 W, .int .i64 H, .slice fa fn fc, .int .i64 PW, .int .i64 PH, .slice pa pn pc] 24)
  obtain ⟨w3, hw3⟩ : ∃ z, w1.alloc (.cells #[.int .i64 W, .int .i64 H, .slice fa fn fc, .int .i64 PW, .int .i64 PH, .slice pa pn pc] 24) = z := ⟨_, rfl⟩
  rw [hw3] at B3 X3
  have HW3 := Lib.hid hw3
  have HX3 := Lib.hid X3
  have HE3 := Lib.hid (HE.out.trans X3)
  have HFM := Lib.hid (Fms.two B3 (HFR.out.ext HE3.out) (HPR.out.ext HE3.out))
  clear hw3 B3 X3 hx1 HU
  go_wp2_with fail
  rw [HW3.out]
  refine (pix_any _ _ _ HFM.out (by simp)).mono ?_; rintro e w4 ⟨rfl, hx4⟩
  clear HFM HW3 f0 f1 f2 p0 p1 p2
  obtain ⟨pb, hpb⟩ : ∃ b, pixB [(W, H, zs), (PW, PH, ps)] = b := ⟨_, rfl⟩
  rw [hpb]
  have HX4 := Lib.hid (HX3.out.trans hx4)
  have HE4 := Lib.hid (HE3.out.trans hx4)
  obtain ⟨⟨g0, g1, g2, g3, g4, g5, g6, g7, g8, g9, g10, g11, g12⟩, -⟩ := sq_cells (HB2.out.ext HX4.out)
  clear hx4 HX3 HE3
  cases pb with
  | false =>
    clear UW
    go_wp2_with fail
    refine (first21_any _ (HET.out.ext HE4.out)).mono ?_; rintro e w5 ⟨rfl, hx5⟩
    have E5 := HE4.out.trans hx5
    clear hx5
    go_wp2
    go_ret
    exact ⟨rfl, E5⟩
  | true =>
    have HZL : Hid (zs.length ≤ 20000 ∧ ps.length ≤ 20000) := ⟨(pixB_out hpb).2 0 (W, H, zs) rfl, (pixB_out hpb).2 1 (PW, PH, ps) rfl⟩
    clear hpb
    go_wp2_with fail
    refine (UW.out _ HE4.out).mono ?_; rintro e w5 ⟨rfl, hx5⟩
    have HX5 := Lib.hid (HX4.out.trans hx5)
    have HE5 := Lib.hid (HE4.out.trans hx5)
    clear hx5 HX4 HE4 UW g0 g1 g2 g3 g4 g5 g6 g7 g8 g9 g10 g11 g12
    by_cases hbig : 20000 < wg
    · go_wp2_with fail
      refine (first21_any _ (HET.out.ext HE5.out)).mono ?_; rintro e w6 ⟨rfl, hx6⟩
      have E6 := HE5.out.trans hx6
      clear hx6
      go_wp2
      go_ret
      exact ⟨rfl, E6⟩
    · have HSI : Hid (SqIs w ⟨k, m, a, b, c, d, vx, vy, l, l0, l1, l2, l3⟩ (.slice aL nL cL) (.slice a0 n0 c0) (.slice a1 n1 c1) (.slice a2 n2 c2) (.slice a3 n3 c3)) := HSR.out.is (by have := HWG.out; omega)
      have HFI : Hid (Ints w (.slice fa fn fc) zs) := ⟨HFR.out, by have := HZL.out.1; omega⟩
      have HPI : Hid (Ints w (.slice pa pn pc) ps) := ⟨HPR.out, by have := HZL.out.2; omega⟩
      clear HFR HPR HSR HWG HZL
      have UB := Lib.hid (fun (W' : World) (kx : Ext w W') => dBuild_any W H PW PH x y qp zs ps fa pa fn fc pn pc _ _ _ _ _ _ W' (HFI.out.ext kx) (HPI.out.ext kx) (HSI.out.ext kx))
      obtain ⟨ck, hck⟩ : ∃ z, ckD W H zs PW PH ps x y qp ⟨k, m, a, b, c, d, vx, vy, l, l0, l1, l2, l3⟩ = z := ⟨_, rfl⟩
      unfold bdV at UB
      rw [hck] at UB
      unfold sqQ sqV at UB
      dsimp only at UB
      have HCK := Lib.hid hck
      clear hck
      have f0 := (HB0.out.ext HX5.out).cell (i := 0) (v := .int .i64 W) rfl
      have f1 := (HB0.out.ext HX5.out).cell (i := 1) (v := .int .i64 H) rfl
      have f2 := (HB0.out.ext HX5.out).cell (i := 2) (v := .slice fa fn fc) rfl
      have p0 := (HB1.out.ext HX5.out).cell (i := 0) (v := .int .i64 PW) rfl
      have p1 := (HB1.out.ext HX5.out).cell (i := 1) (v := .int .i64 PH) rfl
      have p2 := (HB1.out.ext HX5.out).cell (i := 2) (v := .slice pa pn pc) rfl
      obtain ⟨⟨g0, g1, g2, g3, g4, g5, g6, g7, g8, g9, g10, g11, g12⟩, -⟩ := sq_cells (HB2.out.ext HX5.out)
      go_wp2_with fail
      refine (UB.out _ HE5.out).mono ?_; rintro e w6 ⟨u6, x6, X, rfl, hx6, -, ho⟩
      have hi6 := ho.get.1
      have he6 := ho.get.2
      have HE6 := Lib.hid (HE5.out.trans hx6)
      have HX6 := Lib.hid (HX5.out.trans hx6)
      clear ho hx6 HE5 HX5 f0 f1 f2 p0 p1 p2 g0 g1 g2 g3 g4 g5 g6 g7 g8 g9 g10 g11 g12 UB hbig
      cases ck with
      | some ee =>
        obtain ⟨xt, xv, rfl⟩ := ErrIs.ne he6
        obtain ⟨ua, uc, hv⟩ := hi6.form
        obtain rfl : u6 = .slice ua 0 uc := hv
        have B7 := BoxIs.new w6 #[.int .i64 0, .int .i64 0, .slice ua 0 uc] 24
        have X7 := HE6.out.alloc (.cells #[.int .i64 0, .int .i64 0, .slice ua 0 uc] 24)
        obtain ⟨w7, hw7⟩ : ∃ z, w6.alloc (.cells #[.int .i64 0, .int .i64 0, .slice ua 0 uc] 24) = z := ⟨_, rfl⟩
        rw [hw7] at B7 X7
        have HW7 := Lib.hid hw7
        have HB7 := Lib.hid B7
        have HE7 := Lib.hid X7
        clear hw7 B7 X7 hi6 he6 HCK HFI HPI HSI HB0 HB1 HB2 HX6 HE6
        go_wp2_with fail
        rw [show (bdW (some ee) W H (bld W H zs ps x y qp ⟨k, m, a, b, c, d, vx, vy, l, l0, l1, l2, l3⟩)).2.1 = 0 from rfl, show (bdW (some ee) W H (bld W H zs ps x y qp ⟨k, m, a, b, c, d, vx, vy, l, l0, l1, l2, l3⟩)).2.2.1 = 0 from rfl, HW7.out]
        refine (first21_any _ (HET.out.ext HE7.out)).mono ?_; rintro e w8 ⟨rfl, hx8⟩
        have b2 := (HB7.out.ext hx8).cell (i := 2) (v := .slice ua 0 uc) rfl
        have E8 := HE7.out.trans hx8
        clear hx8
        go_wp2
        go_ret
        exact ⟨rfl, E8⟩
      | none =>
        obtain ⟨om, opl, ol, oq, ok, opt, oli, opv⟩ := ck_none HCK.out
        have hmM : may W H (bld W H zs ps x y qp ⟨k, m, a, b, c, d, vx, vy, l, l0, l1, l2, l3⟩) := bld_may om ol (fun h => (opv h).2.2)
        obtain rfl : x6 = .nilIface := he6
        have hi6' : Ints w6 u6 (bld W H zs ps x y qp ⟨k, m, a, b, c, d, vx, vy, l, l0, l1, l2, l3⟩) := hi6
        obtain ⟨M, hM⟩ : ∃ M, bld W H zs ps x y qp ⟨k, m, a, b, c, d, vx, vy, l, l0, l1, l2, l3⟩ = M := ⟨_, rfl⟩
        rw [hM] at hi6' hmM
        have HM := Lib.hid hM
        obtain ⟨ua, uc, hv⟩ := hi6'.form
        obtain ⟨un, hun⟩ : ∃ n, M.length = n := ⟨_, rfl⟩
        rw [hun] at hv
        subst hv
        have HUN := Lib.hid hun
        have HMY := Lib.hid hmM
        have HOM := Lib.hid om
        clear hi6 hM hun om opl ol oq ok opt oli opv hmM
        have B7 := BoxIs.new w6 #[.int .i64 W, .int .i64 H, .slice ua un uc] 24
        have X7 := (Ext.refl w6).alloc (.cells #[.int .i64 W, .int .i64 H, .slice ua un uc] 24)
        obtain ⟨w7, hw7⟩ : ∃ z, w6.alloc (.cells #[.int .i64 W, .int .i64 H, .slice ua un uc] 24) = z := ⟨_, rfl⟩
        rw [hw7] at B7 X7
        have HW7 := Lib.hid hw7
        have HB7 := Lib.hid B7
        have HX7 := Lib.hid (HX6.out.trans X7)
        have HE7 := Lib.hid (HE6.out.trans X7)
        have HIM := Lib.hid (hi6'.ext X7)
        clear hw7 B7 X7 hi6' HX6 HE6
        go_wp2_with fail
        rw [show (bdW none W H (bld W H zs ps x y qp ⟨k, m, a, b, c, d, vx, vy, l, l0, l1, l2, l3⟩)).2.1 = W from rfl, show (bdW none W H (bld W H zs ps x y qp ⟨k, m, a, b, c, d, vx, vy, l, l0, l1, l2, l3⟩)).2.2.1 = H from rfl, HW7.out]
        refine (may_any W H M ua un uc w7 HIM.out).mono ?_; rintro e w8 ⟨rfl, hx8⟩
        rw [decide_eq_true HMY.out]
        have f0 := (HB0.out.ext (HX7.out.trans hx8)).cell (i := 0) (v := .int .i64 W) rfl
        have f1 := (HB0.out.ext (HX7.out.trans hx8)).cell (i := 1) (v := .int .i64 H) rfl
        have f2 := (HB0.out.ext (HX7.out.trans hx8)).cell (i := 2) (v := .slice fa fn fc) rfl
        have HE8 := Lib.hid (HE7.out.trans hx8)
        have HX8 := Lib.hid hx8
        clear hx8 HW7
        go_wp2_with fail
        refine (rmay_any W H zs fa fn fc w8 (HFI.out.ext HE8.out)).mono ?_; rintro e w9 ⟨rfl, hx9⟩
        rw [decide_eq_true HOM.out]
        have HX9 := Lib.hid (HX8.out.trans hx9)
        have HE9 := Lib.hid (HE8.out.trans hx9)
        have HB9 := Lib.hid (HB0.out.ext (HX7.out.trans HX9.out))
        have HP9 := Lib.hid (HB1.out.ext (HX7.out.trans HX9.out))
        have HS9 := Lib.hid (HB2.out.ext (HX7.out.trans HX9.out))
        have HG9 := Lib.hid (HB7.out.ext HX9.out)
        have HIM9 := Lib.hid (HIM.out.ext HX9.out)
        clear hx9 f0 f1 f2 HX8 HE8 HE7 HB0 HB1 HB2 HB7 HIM HX7 HX9
        have f0 := HB9.out.cell (i := 0) (v := .int .i64 W) rfl
        have f1 := HB9.out.cell (i := 1) (v := .int .i64 H) rfl
        have f2 := HB9.out.cell (i := 2) (v := .slice fa fn fc) rfl
        have b0 := HG9.out.cell (i := 0) (v := .int .i64 W) rfl
        have b1 := HG9.out.cell (i := 1) (v := .int .i64 H) rfl
        have b2 := HG9.out.cell (i := 2) (v := .slice ua un uc) rfl
        have hO := ck_none HCK.out
        have HLI := Lib.hid hO.2.2.1
        have HSD := Lib.hid (sideB_true hO.1.1)
        have hfn : fn = zs.length := HFI.out.len
        have HFN := Lib.hid hfn
        have HUM : Hid (un = zs.length) := by
          have h1 := HMY.out.2.2.1
          have h2 := HOM.out.2.2.1
          have h3 := HUN.out
          show un = zs.length
          omega
        have hfl : zs.length ≤ 1024 := may_len HOM.out
        have HFL := Lib.hid hfl
        obtain ⟨N, hN⟩ : ∃ N : Nat, W = (N : Int) := ⟨W.toNat, by have := HSD.out; omega⟩
        obtain ⟨X8, hX8⟩ : ∃ N : Nat, x = (N : Int) := ⟨x.toNat, by have := HLI.out.2.2.1; omega⟩
        obtain ⟨Y8, hY8⟩ : ∃ N : Nat, y = (N : Int) := ⟨y.toNat, by have := HLI.out.2.2.2.2.1; omega⟩
        subst hN hX8 hY8
        clear hO hfn hfl
        have hn0 : ¬ (N : Int) = 0 := by have := HSD.out; omega
        go_wp2_with fail
        go_loopw [15] (fun iv wr => ∃ i : Nat, i ≤ fn ∧ iv = .int .i64 (i : Int) ∧ Ext w9 wr) (fun iv _ => fn - (intOf iv).toNat)
        case atStart => exact ⟨0, Nat.zero_le _, rfl, Ext.refl _⟩
        case round =>
          obtain ⟨i, hi, rfl, hE⟩ := hrel
          have e0 := hE.cell f0
          have e1 := hE.cell f1
          have e2 := hE.cell f2
          have q2 := hE.cell b2
          clear f0 f1 f2 b0 b1 b2
          by_cases hin : i < fn
          · have ti : (i : Int) < (fn : Int) := by omega
            have dw : IntKind.i64.wrap ((i : Int) + 1) = (i : Int) + 1 := by rw [IntKind.wrap_i64]; have := HFN.out; have := HFL.out; omega
            obtain ⟨r, hr⟩ : ∃ r, i % N = r := ⟨_, rfl⟩
            obtain ⟨dd, hd⟩ : ∃ r, i / N = r := ⟨_, rfl⟩
            have mr : Int.tmod (i : Int) (N : Int) = (r : Int) := by rw [← Int.ofNat_tmod, hr]
            have md : Int.tdiv (i : Int) (N : Int) = (dd : Int) := by rw [← Int.ofNat_tdiv, hd]
            have wr8 : IntKind.i64.wrap ((X8 : Int) + 8) = (X8 : Int) + 8 := by rw [IntKind.wrap_i64]; have := HLI.out.2.2.2.1; have := HSD.out; omega
            have wy8 : IntKind.i64.wrap ((Y8 : Int) + 8) = (Y8 : Int) + 8 := by rw [IntKind.wrap_i64]; have := HLI.out.2.2.2.2.2; have := sideB_true HOM.out.2.1; omega
            have hdi : dd ≤ 100000 := by rw [← hd]; have := HFN.out; have := HFL.out; exact Nat.le_trans (Nat.div_le_self i N) (by omega)
            have wdd : IntKind.i64.wrap (dd : Int) = (dd : Int) := by rw [IntKind.wrap_i64]; omega
            obtain ⟨vz, hvz⟩ : ∃ v, zs[i]? = some v := ⟨_, List.getElem?_eq_getElem (by rw [← HFN.out]; exact hin)⟩
            obtain ⟨vm, hvm⟩ : ∃ v, M[i]? = some v := ⟨_, List.getElem?_eq_getElem (by rw [HUN.out, HUM.out, ← HFN.out]; exact hin)⟩
            have hiu : (i : Int) < (un : Int) := by have := HUM.out; have := HFN.out; omega
            by_cases ho : inSq N X8 Y8 8 i
            · have hsq : inSq N X8 Y8 8 i := ho
              obtain ⟨c3, c4, c1, c2⟩ := ho
              rw [hd] at c3 c4
              rw [hr] at c1 c2
              have t1 : (X8 : Int) ≤ (r : Int) := by omega
              have t2 : (r : Int) < (X8 : Int) + 8 := by omega
              have t3 : (Y8 : Int) ≤ (dd : Int) := by omega
              have t4 : (dd : Int) < (Y8 : Int) + 8 := by omega
              have s0c := hE.cell (HS9.out.cell (i := 0) (v := .int .i64 k) rfl)
              by_cases hk0 : k = 0
              · subst hk0
                have hO := ck_none HCK.out
                obtain ⟨hPW, hPH, hpm⟩ := hO.2.2.2.2.2.2.2 (by show (0 : Int) < 2; decide)
                have hpl : ps.length = zs.length := by have h1 := hpm.2.2.1; have h2 := HOM.out.2.2.1; omega
                have hip : i < ps.length := by rw [hpl, ← HFN.out]; exact hin
                obtain ⟨vp, hvp⟩ : ∃ v, ps[i]? = some v := ⟨_, List.getElem?_eq_getElem hip⟩
                have heq : vm = vp := by
                  have h1 := bld_copied (W := (N : Int)) (H := H) (x := (X8 : Int)) (y := (Y8 : Int)) (qp := qp) (zs := zs) (ps := ps) (q := ⟨0, m, a, b, c, d, vx, vy, l, l0, l1, l2, l3⟩) (k := i) rfl HOM.out hpm hO.2.2.1 (by rw [← HFN.out]; exact hin) (by rw [Int.toNat_natCast, Int.toNat_natCast, Int.toNat_natCast]; exact hsq)
                  rw [HM.out, List.getD, hvm, List.getD, hvp] at h1
                  exact h1
                subst heq
                have hpn : pn = ps.length := HPI.out.len
                have hp0 : 0 < pn := by omega
                have hpu : (i : Int) < (pn : Int) := by omega
                have hu0 : 0 < un := Int.ofNat_lt.1 (Int.lt_of_le_of_lt (Int.natCast_nonneg i) hiu)
                obtain ⟨gp, op, rfl⟩ := (HPI.out.ext HE9.out).had hp0
                obtain ⟨gm, om, rfl⟩ := HIM9.out.had hu0
                have cp := hE.cell ((HPI.out.ext HE9.out).at hvp)
                have cm := hE.cell (HIM9.out.at hvm)
                have q3 := hE.cell (HP9.out.cell (i := 2) (v := .slice (some ⟨gp, op, none⟩) pn pc) rfl)
                clear hO hPW hPH hpm hpl hip hpn c1 c2 c3 c4 hvz hvm hvp hr hd hsq hp0 hu0
                go_wp2_with fail
                go_quiet (fail)
                have E9 := hE.drewN nq
                clear e0 e1 e2 q2 hE s0c cp cm q3
                go_wp2
                go_roundw
                case rel => exact ⟨i + 1, by omega, by go_num, E9⟩
                case measure => simp [intOf]; omega
              · have t0 : (k == 0) = false := by simp [hk0]
                clear c1 c2 c3 c4 hvz hvm hr hd
                go_wp2_with fail
                go_quiet (fail)
                have E9 := hE.drewN nq
                clear e0 e1 e2 q2 hE s0c
                go_wp2
                go_roundw
                case rel => exact ⟨i + 1, by omega, by go_num, E9⟩
                case measure => simp [intOf]; omega
            · have heq : vm = vz := by
                have h1 := bld_out (W := (N : Int)) (H := H) (x := (X8 : Int)) (y := (Y8 : Int)) (qp := qp) (zs := zs) (ps := ps) (q := ⟨k, m, a, b, c, d, vx, vy, l, l0, l1, l2, l3⟩) (k := i) (by omega) (by omega) (by rw [← HFN.out]; exact hin) (by rw [Int.toNat_natCast, Int.toNat_natCast, Int.toNat_natCast]; exact ho)
                rw [HM.out, List.getD, hvm, List.getD, hvz] at h1
                exact h1
              subst heq
              have hf0 : 0 < fn := Nat.lt_of_le_of_lt (Nat.zero_le _) hin
              have hu0 : 0 < un := Int.ofNat_lt.1 (Int.lt_of_le_of_lt (Int.natCast_nonneg i) hiu)
              obtain ⟨gz, oz, rfl⟩ := (HFI.out.ext HE9.out).had hf0
              obtain ⟨gm, om, rfl⟩ := HIM9.out.had hu0
              have cz := hE.cell ((HFI.out.ext HE9.out).at hvz)
              have cm := hE.cell (HIM9.out.at hvm)
              have no : ¬ (Y8 ≤ dd ∧ dd < Y8 + 8 ∧ X8 ≤ r ∧ r < X8 + 8) := by rw [← hd, ← hr]; exact ho
              clear hvz hvm ho hr hd
              by_cases c1 : X8 ≤ r
              · by_cases c2 : r < X8 + 8
                · by_cases c3 : Y8 ≤ dd
                  · have c4 : ¬ dd < Y8 + 8 := fun c4 => no ⟨c3, c4, c1, c2⟩
                    have t1 : (X8 : Int) ≤ (r : Int) := by omega
                    have t2 : (r : Int) < (X8 : Int) + 8 := by omega
                    have t3 : (Y8 : Int) ≤ (dd : Int) := by omega
                    have t4 : ¬ (dd : Int) < (Y8 : Int) + 8 := by omega
                    clear no c1 c2 c3 c4
                    go_wp2_with fail
                    go_quiet (fail)
                    have E9 := hE.drewN nq
                    clear e0 e1 e2 q2 cz cm hE
                    go_wp2
                    go_roundw
                    case rel => exact ⟨i + 1, by omega, by go_num, E9⟩
                    case measure => simp [intOf]; omega
                  · have t1 : (X8 : Int) ≤ (r : Int) := by omega
                    have t2 : (r : Int) < (X8 : Int) + 8 := by omega
                    have t3 : ¬ (Y8 : Int) ≤ (dd : Int) := by omega
                    clear no c1 c2 c3
                    go_wp2_with fail
                    go_quiet (fail)
                    have E9 := hE.drewN nq
                    clear e0 e1 e2 q2 cz cm hE
                    go_wp2
                    go_roundw
                    case rel => exact ⟨i + 1, by omega, by go_num, E9⟩
                    case measure => simp [intOf]; omega
                · have t1 : (X8 : Int) ≤ (r : Int) := by omega
                  have t2 : ¬ (r : Int) < (X8 : Int) + 8 := by omega
                  clear no c1 c2
                  go_wp2_with fail
                  go_quiet (fail)
                  have E9 := hE.drewN nq
                  clear e0 e1 e2 q2 cz cm hE
                  go_wp2
                  go_roundw
                  case rel => exact ⟨i + 1, by omega, by go_num, E9⟩
                  case measure => simp [intOf]; omega
              · have t1 : ¬ (X8 : Int) ≤ (r : Int) := by omega
                clear no c1
                go_wp2_with fail
                go_quiet (fail)
                have E9 := hE.drewN nq
                clear e0 e1 e2 q2 cz cm hE
                go_wp2
                go_roundw
                case rel => exact ⟨i + 1, by omega, by go_num, E9⟩
                case measure => simp [intOf]; omega
          · obtain rfl : i = fn := by omega
            have ti : ¬ (i : Int) < (i : Int) := by omega
            have HEr := Lib.hid (HE9.out.trans hE)
            have HBr := Lib.hid (HB9.out.ext hE)
            have HPr := Lib.hid (HP9.out.ext hE)
            have HSr := Lib.hid (HS9.out.ext hE)
            have hqp := (ck_none HCK.out).2.2.2.1
            have HQP := Lib.hid hqp
            clear hE HB9 HP9 HS9 HE9 HG9 HIM9 HMY HUM HUN HM HOM HSD HFL hqp
            obtain ⟨⟨g0, g1, g2, g3, g4, g5, g6, g7, g8, g9, g10, g11, g12⟩, -⟩ := sq_cells HSr.out
            have KS : Hid (∀ W', Ext wr W' → (W'.cell? ⟨w.heap.size + 1 + 1, 0, none⟩ = some (.int .i64 k) ∧ W'.cell? ⟨w.heap.size + 1 + 1, 1, none⟩ = some (.int .i64 m) ∧ W'.cell? ⟨w.heap.size + 1 + 1, 2, none⟩ = some (.int .i64 a) ∧ W'.cell? ⟨w.heap.size + 1 + 1, 3, none⟩ = some (.int .i64 b) ∧ W'.cell? ⟨w.heap.size + 1 + 1, 4, none⟩ = some (.int .i64 c) ∧ W'.cell? ⟨w.heap.size + 1 + 1, 5, none⟩ = some (.int .i64 d) ∧ W'.cell? ⟨w.heap.size + 1 + 1, 6, none⟩ = some (.int .i64 vx) ∧ W'.cell? ⟨w.heap.size + 1 + 1, 7, none⟩ = some (.int .i64 vy)) ∧ Ext wr W') := fun W' kx => ⟨⟨kx.cell g0, kx.cell g1, kx.cell g2, kx.cell g3, kx.cell g4, kx.cell g5, kx.cell g6, kx.cell g7⟩, kx⟩
            go_wp2_with fail
            refine wp_region_held_drew (S := fun w' => (w'.cell? ⟨w.heap.size + 1 + 1, 0, none⟩ = some (.int .i64 k) ∧ w'.cell? ⟨w.heap.size + 1 + 1, 1, none⟩ = some (.int .i64 m) ∧ w'.cell? ⟨w.heap.size + 1 + 1, 2, none⟩ = some (.int .i64 a) ∧ w'.cell? ⟨w.heap.size + 1 + 1, 3, none⟩ = some (.int .i64 b) ∧ w'.cell? ⟨w.heap.size + 1 + 1, 4, none⟩ = some (.int .i64 c) ∧ w'.cell? ⟨w.heap.size + 1 + 1, 5, none⟩ = some (.int .i64 d) ∧ w'.cell? ⟨w.heap.size + 1 + 1, 6, none⟩ = some (.int .i64 vx) ∧ w'.cell? ⟨w.heap.size + 1 + 1, 7, none⟩ = some (.int .i64 vy)) ∧ Ext wr w') (by kernel_rfl) (KS.out _ (Ext.refl _).drew) (fun hHeld => ?_)
            refine wpAnyH_take (i := 0) (oi := _) (v := ?_) rfl (by kernel_rfl) (by kernel_rfl) (by kernel_rfl) (fun _ _ _ h => h) (Or.inl ⟨by rfl, ?_⟩) (by assumption) ?_
            case refine_2 => (intro w hSw; (try dsimp only at hSw); go_simp; (try with_reducible rfl))
            try simp only [Act.put, List.setIfInBounds_toArray, List.set_cons_zero, List.set_cons_succ]
            refine wpAnyH_take (i := 1) (oi := _) (v := ?_) rfl (by kernel_rfl) (by kernel_rfl) (by kernel_rfl) (fun _ _ _ h => h) (Or.inl ⟨by rfl, ?_⟩) (by assumption) ?_
            case refine_2 => (intro w hSw; (try dsimp only at hSw); go_simp; (try with_reducible rfl))
            try simp only [Act.put, List.setIfInBounds_toArray, List.set_cons_zero, List.set_cons_succ]
            refine wpAnyH_take (i := 2) (oi := _) (v := ?_) rfl (by kernel_rfl) (by kernel_rfl) (by kernel_rfl) (fun _ _ _ h => h) (Or.inl ⟨by rfl, ?_⟩) (by assumption) ?_
            case refine_2 => (intro w hSw; (try dsimp only at hSw); go_simp; (try with_reducible rfl))
            try simp only [Act.put, List.setIfInBounds_toArray, List.set_cons_zero, List.set_cons_succ]
            refine wpAnyH_take (i := 3) (oi := _) (v := ?_) rfl (by kernel_rfl) (by kernel_rfl) (by kernel_rfl) (fun _ _ _ h => h) (Or.inl ⟨by rfl, ?_⟩) (by assumption) ?_
            case refine_2 => (intro w hSw; (try dsimp only at hSw); go_simp; (try with_reducible rfl))
            try simp only [Act.put, List.setIfInBounds_toArray, List.set_cons_zero, List.set_cons_succ]
            refine wpAnyH_take (i := 4) (oi := _) (v := ?_) rfl (by kernel_rfl) (by kernel_rfl) (by kernel_rfl) (fun _ _ _ h => h) (Or.inl ⟨by rfl, ?_⟩) (by assumption) ?_
            case refine_2 => (intro w hSw; (try dsimp only at hSw); go_simp; (try with_reducible rfl))
            try simp only [Act.put, List.setIfInBounds_toArray, List.set_cons_zero, List.set_cons_succ]
            refine wpAnyH_take (i := 5) (oi := _) (v := ?_) rfl (by kernel_rfl) (by kernel_rfl) (by kernel_rfl) (fun _ _ _ h => h) (Or.inl ⟨by rfl, ?_⟩) (by assumption) ?_
            case refine_2 => (intro w hSw; (try dsimp only at hSw); go_simp; (try with_reducible rfl))
            try simp only [Act.put, List.setIfInBounds_toArray, List.set_cons_zero, List.set_cons_succ]
            refine wpAnyH_take (i := 6) (oi := _) (v := ?_) rfl (by kernel_rfl) (by kernel_rfl) (by kernel_rfl) (fun _ _ _ h => h) (Or.inl ⟨by rfl, ?_⟩) (by assumption) ?_
            case refine_2 => (intro w hSw; (try dsimp only at hSw); go_simp; (try with_reducible rfl))
            try simp only [Act.put, List.setIfInBounds_toArray, List.set_cons_zero, List.set_cons_succ]
            refine wpAnyH_take (i := 7) (oi := _) (v := ?_) rfl (by kernel_rfl) (by kernel_rfl) (by kernel_rfl) (fun _ _ _ h => h) (Or.inl ⟨by rfl, ?_⟩) (by assumption) ?_
            case refine_2 => (intro w hSw; (try dsimp only at hSw); go_simp; (try with_reducible rfl))
            try simp only [Act.put, List.setIfInBounds_toArray, List.set_cons_zero, List.set_cons_succ]
            refine wpAnyH_ready (rs := [8, 10]) (by kernel_rfl) (by simp) ?_
            refine AllReadyH.cons (o := { dst := some 162, op := Op.makeSlice 22 (Operand.const (Value.int IntKind.i64 64)) (Operand.const (Value.int IntKind.i64 64)), type := 22, pos := "law.go:153", after := #[], guard := none }) rfl (fun K hK => ?_) (AllReadyH.cons (o := { dst := some 17, op := Op.alloc 30, type := 0, pos := "law.go:153", after := #[], guard := none }) rfl (fun K hK => ?_) AllReadyH.nil)
            · skip
              refine step_made (by rfl) 64 (by rfl) (by decide) ?_
              intro wm hEm hHm
              have hX : Ext wr wm := (Ext.refl wr).drew.trans hEm
              refine hK.out _ _ (KS.out _ hX) (fun hHeld => ?_)
              clear hK K
              try simp only [Act.put, List.setIfInBounds_toArray, List.set_cons_zero, List.set_cons_succ]
              refine wpAnyH_take (i := 9) (oi := { dst := some 163, op := Op.build 30 #[(0, Operand.tmp 155), (1, Operand.tmp 157), (2, Operand.tmp 159), (3, Operand.tmp 161), (4, Operand.tmp 162)], type := 30, pos := "law.go:153", after := #[{ on := 1, ground := Ground.data }, { on := 3, ground := Ground.data }, { on := 5, ground := Ground.data }, { on := 7, ground := Ground.data }, { on := 8, ground := Ground.data }], guard := none }) (v := ?_) rfl (by kernel_rfl) (by kernel_rfl) (by kernel_rfl) (fun _ _ _ h => h) (Or.inl ⟨by rfl, ?_⟩) (by assumption) ?_
              case refine_2 => (intro w hSw; (try dsimp only at hSw); go_simp; (try with_reducible rfl))
              try simp only [Act.put, List.setIfInBounds_toArray, List.set_cons_zero, List.set_cons_succ]
              refine wpAnyH_ready (rs := [10]) (by kernel_rfl) (by simp) ?_
              refine AllReadyH.cons (o := _) rfl (fun K hK => ?_) AllReadyH.nil
              go_simp
              refine hK.out _ _ (KS.out _ (hX.alloc _)) (fun hHeld => ?_)
              clear hK K
              try simp only [Act.put, List.setIfInBounds_toArray, List.set_cons_zero, List.set_cons_succ]
              refine wpAnyH_ready (rs := [11]) (by kernel_rfl) (by simp) ?_
              refine AllReadyH.cons (o := _) rfl (fun K hK => ?_) AllReadyH.nil
              go_simp
              have BYA := BoxIs.new wm #[.int .i64 k, .int .i64 m, .int .i64 a, .int .i64 b, .int .i64 c, .int .i64 d, .int .i64 vx, .int .i64 vy, .slice (some ⟨wr.heap.size, 0, none⟩) 64 64, .slice none 0 0, .slice none 0 0, .slice none 0 0, .slice none 0 0] 30
              have HEA := hX.alloc (.cells #[.int .i64 k, .int .i64 m, .int .i64 a, .int .i64 b, .int .i64 c, .int .i64 d, .int .i64 vx, .int .i64 vy, .slice (some ⟨wr.heap.size, 0, none⟩) 64 64, .slice none 0 0, .slice none 0 0, .slice none 0 0, .slice none 0 0] 30)
              have hltm : wr.heap.size < wm.heap.size := hHm.1 _ rfl
              have HRA : SqM (wm.alloc (.cells #[.int .i64 k, .int .i64 m, .int .i64 a, .int .i64 b, .int .i64 c, .int .i64 d, .int .i64 vx, .int .i64 vy, .slice (some ⟨wr.heap.size, 0, none⟩) 64 64, .slice none 0 0, .slice none 0 0, .slice none 0 0, .slice none 0 0] 30)) wm.heap.size (fun W => Ints W (.slice (some ⟨wr.heap.size, 0, none⟩) 64 64) (zsL 64)) := SqM.one (hHm.ext ((Ext.refl wm).alloc _)) (Nat.ne_of_lt hltm)
              refine hK.out _ _ (KS.out _ HEA) (fun hHeld => ?_)
              clear hK K
              try simp only [Act.put, List.setIfInBounds_toArray, List.set_cons_zero, List.set_cons_succ]
              refine wpAnyH_done (by kernel_rfl) ?_ _
              obtain ⟨az, haz⟩ : ∃ z, wr.heap.size = z := ⟨_, rfl⟩
              obtain ⟨bz, hbz⟩ : ∃ z, wm.heap.size = z := ⟨_, rfl⟩
              rw [haz] at BYA HEA HRA ⊢
              obtain ⟨wy, hwy⟩ : ∃ z, wm.alloc (.cells #[.int .i64 k, .int .i64 m, .int .i64 a, .int .i64 b, .int .i64 c, .int .i64 d, .int .i64 vx, .int .i64 vy, .slice (some ⟨az, 0, none⟩) 64 64, .slice none 0 0, .slice none 0 0, .slice none 0 0, .slice none 0 0] 30) = z := ⟨_, rfl⟩
              rw [hwy] at BYA HEA HRA ⊢
              rw [hbz] at BYA HRA ⊢
              have HZ1 : Hid (wr.heap.size ≤ bz) := by show _ ≤ _; omega
              clear hwy hbz haz hX hEm hHm hltm
              clear hHeld KS g0 g1 g2 g3 g4 g5 g6 g7 g8 g9 g10 g11 g12
              obtain ⟨i0, hi, hz0, hz1, hz2⟩ := info_parts infoInt
              have HBX0 := Lib.hid BYA; have HEX0 := Lib.hid HEA; have HRX0 := Lib.hid HRA
              clear BYA HEA HRA
              go_wp2_with fail
              refine wp_loop_rounds 5 ?_
              rw [rounds_succ]
              have c9 := HBX0.out.cell (i := 9) (v := .slice none 0 0) rfl
              have t9 := HBX0.out.free (i := 9)
              go_wp2_with (at_make; refine wpList_make_full _ rfl _ _ 22 rfl wy.heap.size 3 i0 (.int .i64 0) 1 Tryz.underlying22 hi hz0 hz1 .i64 .i64 _ _ 16 rfl rfl rfl rfl (by rw [hz2]; decide) (by decide) (Nat.le_refl _) ?_; intro wm hown hgrow; have hm := made_ho (by decide) hown hgrow; have c9 := hm.1.cell c9; have t9 := (HBX0.out.ext hm.1).free (i := 9); have HMM := Lib.hid hm; clear hm hown hgrow)
              obtain ⟨hEm, hHm⟩ := HMM.out
              have hne : wy.heap.size ≠ bz := fun e => Nat.lt_irrefl _ (e ▸ HBX0.out.lt)
              have B1 := (HBX0.out.ext hEm).set (i := 9) (.slice (some ⟨wy.heap.size, 0, none⟩) 16 16)
              have E1 := (HEX0.out.trans hEm).setCell (p := ⟨bz, 9, none⟩) HZ1.out (.slice (some ⟨wy.heap.size, 0, none⟩) 16 16)
              have R1 := HRX0.out.add (i := 9) (v := .slice (some ⟨wy.heap.size, 0, none⟩) 16 16) hEm hHm hne
              obtain ⟨s0, hs⟩ : ∃ z, wy.heap.size = z := ⟨_, rfl⟩
              rw [hs] at B1 E1 R1 ⊢
              obtain ⟨wv0, hw⟩ : ∃ z, wm.setCell ⟨bz, 9, none⟩ (.slice (some ⟨s0, 0, none⟩) 16 16) = z := ⟨_, rfl⟩
              rw [hw] at B1 E1 R1 ⊢
              have HBX1 : Hid (BoxIs wv0 bz #[.int .i64 k, .int .i64 m, .int .i64 a, .int .i64 b, .int .i64 c, .int .i64 d, .int .i64 vx, .int .i64 vy, .slice (some ⟨az, 0, none⟩) 64 64, .slice (some ⟨s0, 0, none⟩) 16 16, .slice none 0 0, .slice none 0 0, .slice none 0 0] 30) := B1
              have HEX1 := Lib.hid E1; have HRX1 := Lib.hid R1
              clear hw hs hne hEm hHm B1 E1 R1 c9 t9 HMM HBX0 HEX0 HRX0
              rw [rounds_succ]
              have c9 := HBX1.out.cell (i := 10) (v := .slice none 0 0) rfl
              have t9 := HBX1.out.free (i := 10)
              go_wp2_with (at_make; refine wpList_make_full _ rfl _ _ 22 rfl wv0.heap.size 3 i0 (.int .i64 0) 1 Tryz.underlying22 hi hz0 hz1 .i64 .i64 _ _ 16 rfl rfl rfl rfl (by rw [hz2]; decide) (by decide) (Nat.le_refl _) ?_; intro wm hown hgrow; have hm := made_ho (by decide) hown hgrow; have c9 := hm.1.cell c9; have t9 := (HBX1.out.ext hm.1).free (i := 10); have HMM := Lib.hid hm; clear hm hown hgrow)
              obtain ⟨hEm, hHm⟩ := HMM.out
              have hne : wv0.heap.size ≠ bz := fun e => Nat.lt_irrefl _ (e ▸ HBX1.out.lt)
              have B1 := (HBX1.out.ext hEm).set (i := 10) (.slice (some ⟨wv0.heap.size, 0, none⟩) 16 16)
              have E1 := (HEX1.out.trans hEm).setCell (p := ⟨bz, 10, none⟩) HZ1.out (.slice (some ⟨wv0.heap.size, 0, none⟩) 16 16)
              have R1 := HRX1.out.add (i := 10) (v := .slice (some ⟨wv0.heap.size, 0, none⟩) 16 16) hEm hHm hne
              obtain ⟨s1, hs⟩ : ∃ z, wv0.heap.size = z := ⟨_, rfl⟩
              rw [hs] at B1 E1 R1 ⊢
              obtain ⟨wv1, hw⟩ : ∃ z, wm.setCell ⟨bz, 10, none⟩ (.slice (some ⟨s1, 0, none⟩) 16 16) = z := ⟨_, rfl⟩
              rw [hw] at B1 E1 R1 ⊢
              have HBX2 : Hid (BoxIs wv1 bz #[.int .i64 k, .int .i64 m, .int .i64 a, .int .i64 b, .int .i64 c, .int .i64 d, .int .i64 vx, .int .i64 vy, .slice (some ⟨az, 0, none⟩) 64 64, .slice (some ⟨s0, 0, none⟩) 16 16, .slice (some ⟨s1, 0, none⟩) 16 16, .slice none 0 0, .slice none 0 0] 30) := B1
              have HEX2 := Lib.hid E1; have HRX2 := Lib.hid R1
              clear hw hs hne hEm hHm B1 E1 R1 c9 t9 HMM HBX1 HEX1 HRX1
              rw [rounds_succ]
              have c9 := HBX2.out.cell (i := 11) (v := .slice none 0 0) rfl
              have t9 := HBX2.out.free (i := 11)
              go_wp2_with (at_make; refine wpList_make_full _ rfl _ _ 22 rfl wv1.heap.size 3 i0 (.int .i64 0) 1 Tryz.underlying22 hi hz0 hz1 .i64 .i64 _ _ 16 rfl rfl rfl rfl (by rw [hz2]; decide) (by decide) (Nat.le_refl _) ?_; intro wm hown hgrow; have hm := made_ho (by decide) hown hgrow; have c9 := hm.1.cell c9; have t9 := (HBX2.out.ext hm.1).free (i := 11); have HMM := Lib.hid hm; clear hm hown hgrow)
              obtain ⟨hEm, hHm⟩ := HMM.out
              have hne : wv1.heap.size ≠ bz := fun e => Nat.lt_irrefl _ (e ▸ HBX2.out.lt)
              have B1 := (HBX2.out.ext hEm).set (i := 11) (.slice (some ⟨wv1.heap.size, 0, none⟩) 16 16)
              have E1 := (HEX2.out.trans hEm).setCell (p := ⟨bz, 11, none⟩) HZ1.out (.slice (some ⟨wv1.heap.size, 0, none⟩) 16 16)
              have R1 := HRX2.out.add (i := 11) (v := .slice (some ⟨wv1.heap.size, 0, none⟩) 16 16) hEm hHm hne
              obtain ⟨s2, hs⟩ : ∃ z, wv1.heap.size = z := ⟨_, rfl⟩
              rw [hs] at B1 E1 R1 ⊢
              obtain ⟨wv2, hw⟩ : ∃ z, wm.setCell ⟨bz, 11, none⟩ (.slice (some ⟨s2, 0, none⟩) 16 16) = z := ⟨_, rfl⟩
              rw [hw] at B1 E1 R1 ⊢
              have HBX3 : Hid (BoxIs wv2 bz #[.int .i64 k, .int .i64 m, .int .i64 a, .int .i64 b, .int .i64 c, .int .i64 d, .int .i64 vx, .int .i64 vy, .slice (some ⟨az, 0, none⟩) 64 64, .slice (some ⟨s0, 0, none⟩) 16 16, .slice (some ⟨s1, 0, none⟩) 16 16, .slice (some ⟨s2, 0, none⟩) 16 16, .slice none 0 0] 30) := B1
              have HEX3 := Lib.hid E1; have HRX3 := Lib.hid R1
              clear hw hs hne hEm hHm B1 E1 R1 c9 t9 HMM HBX2 HEX2 HRX2
              rw [rounds_succ]
              have c9 := HBX3.out.cell (i := 12) (v := .slice none 0 0) rfl
              have t9 := HBX3.out.free (i := 12)
              go_wp2_with (at_make; refine wpList_make_full _ rfl _ _ 22 rfl wv2.heap.size 3 i0 (.int .i64 0) 1 Tryz.underlying22 hi hz0 hz1 .i64 .i64 _ _ 16 rfl rfl rfl rfl (by rw [hz2]; decide) (by decide) (Nat.le_refl _) ?_; intro wm hown hgrow; have hm := made_ho (by decide) hown hgrow; have c9 := hm.1.cell c9; have t9 := (HBX3.out.ext hm.1).free (i := 12); have HMM := Lib.hid hm; clear hm hown hgrow)
              obtain ⟨hEm, hHm⟩ := HMM.out
              have hne : wv2.heap.size ≠ bz := fun e => Nat.lt_irrefl _ (e ▸ HBX3.out.lt)
              have B1 := (HBX3.out.ext hEm).set (i := 12) (.slice (some ⟨wv2.heap.size, 0, none⟩) 16 16)
              have E1 := (HEX3.out.trans hEm).setCell (p := ⟨bz, 12, none⟩) HZ1.out (.slice (some ⟨wv2.heap.size, 0, none⟩) 16 16)
              have R1 := HRX3.out.add (i := 12) (v := .slice (some ⟨wv2.heap.size, 0, none⟩) 16 16) hEm hHm hne
              obtain ⟨s3, hs⟩ : ∃ z, wv2.heap.size = z := ⟨_, rfl⟩
              rw [hs] at B1 E1 R1 ⊢
              obtain ⟨wv3, hw⟩ : ∃ z, wm.setCell ⟨bz, 12, none⟩ (.slice (some ⟨s3, 0, none⟩) 16 16) = z := ⟨_, rfl⟩
              rw [hw] at B1 E1 R1 ⊢
              have HBX4 : Hid (BoxIs wv3 bz #[.int .i64 k, .int .i64 m, .int .i64 a, .int .i64 b, .int .i64 c, .int .i64 d, .int .i64 vx, .int .i64 vy, .slice (some ⟨az, 0, none⟩) 64 64, .slice (some ⟨s0, 0, none⟩) 16 16, .slice (some ⟨s1, 0, none⟩) 16 16, .slice (some ⟨s2, 0, none⟩) 16 16, .slice (some ⟨s3, 0, none⟩) 16 16] 30) := B1
              have HEX4 := Lib.hid E1; have HRX4 := Lib.hid R1
              clear hw hs hne hEm hHm B1 E1 R1 c9 t9 HMM HBX3 HEX3 HRX3
              have UZ := Lib.hid (fun (r : Int) (hr : 0 ≤ r ∧ r ≤ 15) (W' : World) (kx : Ext wv3 W') => dz_any (N : Int) H PW PH (X8 : Int) (Y8 : Int) r qp k m a b c d vx vy l l0 l1 l2 l3 zs ps fa pa i fc pn pc _ _ _ _ _ W' (HFI.out.ext (HEr.out.trans (HEX4.out.trans kx))) (HPI.out.ext (HEr.out.trans (HEX4.out.trans kx))) (HRX4.out.ext kx).get HCK.out hr)
              obtain ⟨ZM, hZM⟩ : ∃ z, bld (N : Int) H zs ps (X8 : Int) (Y8 : Int) 0 (zeQ ⟨k, m, a, b, c, d, vx, vy, l, l0, l1, l2, l3⟩) = z := ⟨_, rfl⟩
              rw [hZM] at UZ
              clear hZM
              rw [rounds_succ]
              have f0 := (HBr.out.ext HEX4.out).cell (i := 0) (v := .int .i64 (N : Int)) rfl
              have f1 := (HBr.out.ext HEX4.out).cell (i := 1) (v := .int .i64 H) rfl
              have f2 := (HBr.out.ext HEX4.out).cell (i := 2) (v := .slice fa i fc) rfl
              have p0 := (HPr.out.ext HEX4.out).cell (i := 0) (v := .int .i64 PW) rfl
              have p1 := (HPr.out.ext HEX4.out).cell (i := 1) (v := .int .i64 PH) rfl
              have p2 := (HPr.out.ext HEX4.out).cell (i := 2) (v := .slice pa pn pc) rfl
              obtain ⟨⟨g0, g1, g2, g3, g4, g5, g6, g7, g8, g9, g10, g11, g12⟩, -⟩ := sq_cells HBX4.out
              have UZ1 := Lib.hid (UZ.out qp HQP.out wv3 (Ext.refl _))
              go_wp2_with fail
              refine UZ1.out.mono ?_; rintro e w5 ⟨u5a, u5n, u5c, rfl, hx5, hi5⟩
              have B5 := BoxIs.new w5 #[.int .i64 (N : Int), .int .i64 H, .slice u5a u5n u5c] 24
              have X5 := hx5.alloc (.cells #[.int .i64 (N : Int), .int .i64 H, .slice u5a u5n u5c] 24)
              have I5 := hi5.ext ((Ext.refl w5).alloc (.cells #[.int .i64 (N : Int), .int .i64 H, .slice u5a u5n u5c] 24))
              clear f0 f1 f2 p0 p1 p2 g0 g1 g2 g3 g4 g5 g6 g7 g8 g9 g10 g11 g12
              have f0 := (HBr.out.ext (HEX4.out.trans X5)).cell (i := 0) (v := .int .i64 (N : Int)) rfl
              have f1 := (HBr.out.ext (HEX4.out.trans X5)).cell (i := 1) (v := .int .i64 H) rfl
              have f2 := (HBr.out.ext (HEX4.out.trans X5)).cell (i := 2) (v := .slice fa i fc) rfl
              have p0 := (HPr.out.ext (HEX4.out.trans X5)).cell (i := 0) (v := .int .i64 PW) rfl
              have p1 := (HPr.out.ext (HEX4.out.trans X5)).cell (i := 1) (v := .int .i64 PH) rfl
              have p2 := (HPr.out.ext (HEX4.out.trans X5)).cell (i := 2) (v := .slice pa pn pc) rfl
              obtain ⟨⟨g0, g1, g2, g3, g4, g5, g6, g7, g8, g9, g10, g11, g12⟩, -⟩ := sq_cells (HBX4.out.ext X5)
              obtain ⟨w6, hw6⟩ : ∃ z, w5.alloc (.cells #[.int .i64 (N : Int), .int .i64 H, .slice u5a u5n u5c] 24) = z := ⟨_, rfl⟩
              rw [hw6] at B5 X5 I5
              have HW6 := Lib.hid hw6; have HB5 := Lib.hid B5; have HX5 := Lib.hid X5; have HI5 := Lib.hid I5
              clear hw6 B5 X5 I5 hx5 hi5 UZ1
              have UZ2 := Lib.hid (UZ.out 0 (by decide) w6 HX5.out)
              go_wp2_with fail
              rw [HW6.out]
              refine UZ2.out.mono ?_; rintro e w7 ⟨u7a, u7n, u7c, rfl, hx7, hi7⟩
              have B7 := BoxIs.new w7 #[.int .i64 (N : Int), .int .i64 H, .slice u7a u7n u7c] 24
              have X7 := hx7.alloc (.cells #[.int .i64 (N : Int), .int .i64 H, .slice u7a u7n u7c] 24)
              have I7 := hi7.ext ((Ext.refl w7).alloc (.cells #[.int .i64 (N : Int), .int .i64 H, .slice u7a u7n u7c] 24))
              obtain ⟨w8, hw8⟩ : ∃ z, w7.alloc (.cells #[.int .i64 (N : Int), .int .i64 H, .slice u7a u7n u7c] 24) = z := ⟨_, rfl⟩
              rw [hw8] at B7 X7 I7
              have HW8 := Lib.hid hw8; have HB7 := Lib.hid B7; have HI7 := Lib.hid I7
              have HE8 := Lib.hid (HEr.out.trans (HEX4.out.trans (HX5.out.trans X7)))
              have HB5' := Lib.hid (HB5.out.ext X7); have HI5' := Lib.hid (HI5.out.ext X7)
              clear hw8 B7 X7 I7 hx7 hi7 UZ2 HW6 f0 f1 f2 p0 p1 p2 g0 g1 g2 g3 g4 g5 g6 g7 g8 g9 g10 g11 g12 UZ HBX4 HRX4 HEX4 HX5 HB5 HI5 HBr HPr HSr HCK HFI HPI HSI
              have hst : (0 : Int) < stepOf qp := by have := stepOf_ok (qp := qp) HQP.out; omega
              have UST := Lib.hid (fun (W' : World) => step_ok qp W' HQP.out)
              obtain ⟨so, hso⟩ : ∃ z, stepOf qp = z := ⟨_, rfl⟩
              rw [hso] at hst UST
              clear hso
              go_wp2_with fail
              rw [HW8.out]
              refine (UST.out _).mono ?_; rintro e w9 ⟨rfl, rfl⟩
              go_wp2_with fail
              refine (first21_any _ (HET.out.ext HE8.out)).mono ?_; rintro e w10 ⟨rfl, hx10⟩
              have f0 := (HB5'.out.ext hx10).cell (i := 0) (v := .int .i64 (N : Int)) rfl
              have f1 := (HB5'.out.ext hx10).cell (i := 1) (v := .int .i64 H) rfl
              have f2 := (HB5'.out.ext hx10).cell (i := 2) (v := .slice u5a u5n u5c) rfl
              have p0 := (HB7.out.ext hx10).cell (i := 0) (v := .int .i64 (N : Int)) rfl
              have p1 := (HB7.out.ext hx10).cell (i := 1) (v := .int .i64 H) rfl
              have p2 := (HB7.out.ext hx10).cell (i := 2) (v := .slice u7a u7n u7c) rfl
              have UFR := Lib.hid (frame_same (N : Int) H ZM u5a u7a u5n u7n u5c u7c w10 (HI5'.out.ext hx10) (HI7.out.ext hx10))
              have HE10 := Lib.hid (HE8.out.trans hx10)
              clear hx10
              go_wp2_with fail
              refine UFR.out.mono ?_; rintro e w11 ⟨rfl, hx11⟩
              have E11 := HE10.out.trans hx11
              clear hx11 f0 f1 f2 p0 p1 p2
              go_wp2
              go_ret
              exact ⟨rfl, E11⟩
            · skip
              go_simp
              have hX : Ext wr (wr.drew.alloc (.cells #[.int .i64 0, .int .i64 0, .int .i64 0, .int .i64 0, .int .i64 0, .int .i64 0, .int .i64 0, .int .i64 0, .slice none 0 0, .slice none 0 0, .slice none 0 0, .slice none 0 0, .slice none 0 0] 30)) := (Ext.refl wr).drew.alloc _
              have HZ := BoxIs.new wr.drew #[.int .i64 0, .int .i64 0, .int .i64 0, .int .i64 0, .int .i64 0, .int .i64 0, .int .i64 0, .int .i64 0, .slice none 0 0, .slice none 0 0, .slice none 0 0, .slice none 0 0, .slice none 0 0] 30
              refine hK.out _ _ (KS.out _ hX) (fun hHeld => ?_)
              clear hK K
              try simp only [Act.put, List.setIfInBounds_toArray, List.set_cons_zero, List.set_cons_succ]
              refine wpAnyH_ready (rs := [8]) (by kernel_rfl) (by simp) ?_
              refine AllReadyH.cons (o := { dst := some 162, op := Op.makeSlice 22 (Operand.const (Value.int IntKind.i64 64)) (Operand.const (Value.int IntKind.i64 64)), type := 22, pos := "law.go:153", after := #[], guard := none }) rfl (fun K hK => ?_) AllReadyH.nil
              refine step_made (by rfl) 64 (by rfl) (by decide) ?_
              intro wm hEm hHm
              have hXm : Ext wr wm := hX.trans hEm
              have HZm := HZ.ext hEm
              rw [show wr.drew.heap.size = wr.heap.size from rfl] at HZm
              rw [show (wr.alloc (.cells #[.int .i64 0, .int .i64 0, .int .i64 0, .int .i64 0, .int .i64 0, .int .i64 0, .int .i64 0, .int .i64 0, .slice none 0 0, .slice none 0 0, .slice none 0 0, .slice none 0 0, .slice none 0 0] 30)).drew.heap.size = wr.heap.size + 1 by simp] at hHm
              try rw [show (wr.alloc (.cells #[.int .i64 0, .int .i64 0, .int .i64 0, .int .i64 0, .int .i64 0, .int .i64 0, .int .i64 0, .int .i64 0, .slice none 0 0, .slice none 0 0, .slice none 0 0, .slice none 0 0, .slice none 0 0] 30)).drew.heap.size = wr.heap.size + 1 by simp]
              refine hK.out _ _ (KS.out _ hXm) (fun hHeld => ?_)
              clear hK K
              try simp only [Act.put, List.setIfInBounds_toArray, List.set_cons_zero, List.set_cons_succ]
              refine wpAnyH_take (i := 9) (oi := { dst := some 163, op := Op.build 30 #[(0, Operand.tmp 155), (1, Operand.tmp 157), (2, Operand.tmp 159), (3, Operand.tmp 161), (4, Operand.tmp 162)], type := 30, pos := "law.go:153", after := #[{ on := 1, ground := Ground.data }, { on := 3, ground := Ground.data }, { on := 5, ground := Ground.data }, { on := 7, ground := Ground.data }, { on := 8, ground := Ground.data }], guard := none }) (v := ?_) rfl (by kernel_rfl) (by kernel_rfl) (by kernel_rfl) (fun _ _ _ h => h) (Or.inl ⟨by rfl, ?_⟩) (by assumption) ?_
              case refine_2 => (intro w hSw; (try dsimp only at hSw); go_simp; (try with_reducible rfl))
              try simp only [Act.put, List.setIfInBounds_toArray, List.set_cons_zero, List.set_cons_succ]
              obtain ⟨⟨r0, r1, r2, r3, r4, r5, r6, r7, r8, r9, r10, r11, r12⟩, y0, y1, y2, y3, y4, y5, y6, y7, y8, y9, y10, y11, y12⟩ := sq_cells HZm
              refine wpAnyH_ready (rs := [11]) (by kernel_rfl) (by simp) ?_
              refine AllReadyH.cons (o := _) rfl (fun K hK => ?_) AllReadyH.nil
              go_simp
              have BYA := sq_put HZm (v0 := .int .i64 k) (v1 := .int .i64 m) (v2 := .int .i64 a) (v3 := .int .i64 b) (v4 := .int .i64 c) (v5 := .int .i64 d) (v6 := .int .i64 vx) (v7 := .int .i64 vy) (v8 := .slice (some ⟨wr.heap.size + 1, 0, none⟩) 64 64) (v9 := .slice none 0 0) (v10 := .slice none 0 0) (v11 := .slice none 0 0) (v12 := .slice none 0 0)
              have HEA := (((((((((((((hXm.setCell (p := ⟨wr.heap.size, 0, none⟩) (Nat.le_refl _) (.int .i64 k)).setCell (p := ⟨wr.heap.size, 1, none⟩) (Nat.le_refl _) (.int .i64 m)).setCell (p := ⟨wr.heap.size, 2, none⟩) (Nat.le_refl _) (.int .i64 a)).setCell (p := ⟨wr.heap.size, 3, none⟩) (Nat.le_refl _) (.int .i64 b)).setCell (p := ⟨wr.heap.size, 4, none⟩) (Nat.le_refl _) (.int .i64 c)).setCell (p := ⟨wr.heap.size, 5, none⟩) (Nat.le_refl _) (.int .i64 d)).setCell (p := ⟨wr.heap.size, 6, none⟩) (Nat.le_refl _) (.int .i64 vx)).setCell (p := ⟨wr.heap.size, 7, none⟩) (Nat.le_refl _) (.int .i64 vy)).setCell (p := ⟨wr.heap.size, 8, none⟩) (Nat.le_refl _) (.slice (some ⟨wr.heap.size + 1, 0, none⟩) 64 64)).setCell (p := ⟨wr.heap.size, 9, none⟩) (Nat.le_refl _) (.slice none 0 0)).setCell (p := ⟨wr.heap.size, 10, none⟩) (Nat.le_refl _) (.slice none 0 0)).setCell (p := ⟨wr.heap.size, 11, none⟩) (Nat.le_refl _) (.slice none 0 0)).setCell (p := ⟨wr.heap.size, 12, none⟩) (Nat.le_refl _) (.slice none 0 0))
              have HRA := ((((((((((((((SqM.one hHm (Nat.succ_ne_self wr.heap.size)).setc (i := 0) (v := .int .i64 k)).setc (i := 1) (v := .int .i64 m)).setc (i := 2) (v := .int .i64 a)).setc (i := 3) (v := .int .i64 b)).setc (i := 4) (v := .int .i64 c)).setc (i := 5) (v := .int .i64 d)).setc (i := 6) (v := .int .i64 vx)).setc (i := 7) (v := .int .i64 vy)).setc (i := 8) (v := .slice (some ⟨wr.heap.size + 1, 0, none⟩) 64 64)).setc (i := 9) (v := .slice none 0 0)).setc (i := 10) (v := .slice none 0 0)).setc (i := 11) (v := .slice none 0 0)).setc (i := 12) (v := .slice none 0 0))
              refine hK.out _ _ (KS.out _ HEA) (fun hHeld => ?_)
              clear hK K
              try simp only [Act.put, List.setIfInBounds_toArray, List.set_cons_zero, List.set_cons_succ]
              refine wpAnyH_done (by kernel_rfl) ?_ _
              obtain ⟨wy, hwy⟩ : ∃ z, (((((((((((((wm.setCell ⟨wr.heap.size, 0, none⟩ (.int .i64 k)).setCell ⟨wr.heap.size, 1, none⟩ (.int .i64 m)).setCell ⟨wr.heap.size, 2, none⟩ (.int .i64 a)).setCell ⟨wr.heap.size, 3, none⟩ (.int .i64 b)).setCell ⟨wr.heap.size, 4, none⟩ (.int .i64 c)).setCell ⟨wr.heap.size, 5, none⟩ (.int .i64 d)).setCell ⟨wr.heap.size, 6, none⟩ (.int .i64 vx)).setCell ⟨wr.heap.size, 7, none⟩ (.int .i64 vy)).setCell ⟨wr.heap.size, 8, none⟩ (.slice (some ⟨wr.heap.size + 1, 0, none⟩) 64 64)).setCell ⟨wr.heap.size, 9, none⟩ (.slice none 0 0)).setCell ⟨wr.heap.size, 10, none⟩ (.slice none 0 0)).setCell ⟨wr.heap.size, 11, none⟩ (.slice none 0 0)).setCell ⟨wr.heap.size, 12, none⟩ (.slice none 0 0)) = z := ⟨_, rfl⟩
              rw [hwy] at BYA HEA HRA ⊢
              obtain ⟨bz, hbz⟩ : ∃ z, wr.heap.size = z := ⟨_, rfl⟩
              obtain ⟨az, haz⟩ : ∃ z, wr.heap.size + 1 = z := ⟨_, rfl⟩
              rw [haz] at BYA HRA ⊢
              rw [hbz] at BYA HRA ⊢
              have HZ1 : Hid (wr.heap.size ≤ bz) := by show _ ≤ _; omega
              clear hwy hbz haz hX hXm hEm hHm HZ HZm r0 r1 r2 r3 r4 r5 r6 r7 r8 r9 r10 r11 r12 y0 y1 y2 y3 y4 y5 y6 y7 y8 y9 y10 y11 y12
              clear hHeld KS g0 g1 g2 g3 g4 g5 g6 g7 g8 g9 g10 g11 g12
              obtain ⟨i0, hi, hz0, hz1, hz2⟩ := info_parts infoInt
              have HBX0 := Lib.hid BYA; have HEX0 := Lib.hid HEA; have HRX0 := Lib.hid HRA
              clear BYA HEA HRA
              go_wp2_with fail
              refine wp_loop_rounds 5 ?_
              rw [rounds_succ]
              have c9 := HBX0.out.cell (i := 9) (v := .slice none 0 0) rfl
              have t9 := HBX0.out.free (i := 9)
              go_wp2_with (at_make; refine wpList_make_full _ rfl _ _ 22 rfl wy.heap.size 3 i0 (.int .i64 0) 1 Tryz.underlying22 hi hz0 hz1 .i64 .i64 _ _ 16 rfl rfl rfl rfl (by rw [hz2]; decide) (by decide) (Nat.le_refl _) ?_; intro wm hown hgrow; have hm := made_ho (by decide) hown hgrow; have c9 := hm.1.cell c9; have t9 := (HBX0.out.ext hm.1).free (i := 9); have HMM := Lib.hid hm; clear hm hown hgrow)
              obtain ⟨hEm, hHm⟩ := HMM.out
              have hne : wy.heap.size ≠ bz := fun e => Nat.lt_irrefl _ (e ▸ HBX0.out.lt)
              have B1 := (HBX0.out.ext hEm).set (i := 9) (.slice (some ⟨wy.heap.size, 0, none⟩) 16 16)
              have E1 := (HEX0.out.trans hEm).setCell (p := ⟨bz, 9, none⟩) HZ1.out (.slice (some ⟨wy.heap.size, 0, none⟩) 16 16)
              have R1 := HRX0.out.add (i := 9) (v := .slice (some ⟨wy.heap.size, 0, none⟩) 16 16) hEm hHm hne
              obtain ⟨s0, hs⟩ : ∃ z, wy.heap.size = z := ⟨_, rfl⟩
              rw [hs] at B1 E1 R1 ⊢
              obtain ⟨wv0, hw⟩ : ∃ z, wm.setCell ⟨bz, 9, none⟩ (.slice (some ⟨s0, 0, none⟩) 16 16) = z := ⟨_, rfl⟩
              rw [hw] at B1 E1 R1 ⊢
              have HBX1 : Hid (BoxIs wv0 bz #[.int .i64 k, .int .i64 m, .int .i64 a, .int .i64 b, .int .i64 c, .int .i64 d, .int .i64 vx, .int .i64 vy, .slice (some ⟨az, 0, none⟩) 64 64, .slice (some ⟨s0, 0, none⟩) 16 16, .slice none 0 0, .slice none 0 0, .slice none 0 0] 30) := B1
              have HEX1 := Lib.hid E1; have HRX1 := Lib.hid R1
              clear hw hs hne hEm hHm B1 E1 R1 c9 t9 HMM HBX0 HEX0 HRX0
              rw [rounds_succ]
              have c9 := HBX1.out.cell (i := 10) (v := .slice none 0 0) rfl
              have t9 := HBX1.out.free (i := 10)
              go_wp2_with (at_make; refine wpList_make_full _ rfl _ _ 22 rfl wv0.heap.size 3 i0 (.int .i64 0) 1 Tryz.underlying22 hi hz0 hz1 .i64 .i64 _ _ 16 rfl rfl rfl rfl (by rw [hz2]; decide) (by decide) (Nat.le_refl _) ?_; intro wm hown hgrow; have hm := made_ho (by decide) hown hgrow; have c9 := hm.1.cell c9; have t9 := (HBX1.out.ext hm.1).free (i := 10); have HMM := Lib.hid hm; clear hm hown hgrow)
              obtain ⟨hEm, hHm⟩ := HMM.out
              have hne : wv0.heap.size ≠ bz := fun e => Nat.lt_irrefl _ (e ▸ HBX1.out.lt)
              have B1 := (HBX1.out.ext hEm).set (i := 10) (.slice (some ⟨wv0.heap.size, 0, none⟩) 16 16)
              have E1 := (HEX1.out.trans hEm).setCell (p := ⟨bz, 10, none⟩) HZ1.out (.slice (some ⟨wv0.heap.size, 0, none⟩) 16 16)
              have R1 := HRX1.out.add (i := 10) (v := .slice (some ⟨wv0.heap.size, 0, none⟩) 16 16) hEm hHm hne
              obtain ⟨s1, hs⟩ : ∃ z, wv0.heap.size = z := ⟨_, rfl⟩
              rw [hs] at B1 E1 R1 ⊢
              obtain ⟨wv1, hw⟩ : ∃ z, wm.setCell ⟨bz, 10, none⟩ (.slice (some ⟨s1, 0, none⟩) 16 16) = z := ⟨_, rfl⟩
              rw [hw] at B1 E1 R1 ⊢
              have HBX2 : Hid (BoxIs wv1 bz #[.int .i64 k, .int .i64 m, .int .i64 a, .int .i64 b, .int .i64 c, .int .i64 d, .int .i64 vx, .int .i64 vy, .slice (some ⟨az, 0, none⟩) 64 64, .slice (some ⟨s0, 0, none⟩) 16 16, .slice (some ⟨s1, 0, none⟩) 16 16, .slice none 0 0, .slice none 0 0] 30) := B1
              have HEX2 := Lib.hid E1; have HRX2 := Lib.hid R1
              clear hw hs hne hEm hHm B1 E1 R1 c9 t9 HMM HBX1 HEX1 HRX1
              rw [rounds_succ]
              have c9 := HBX2.out.cell (i := 11) (v := .slice none 0 0) rfl
              have t9 := HBX2.out.free (i := 11)
              go_wp2_with (at_make; refine wpList_make_full _ rfl _ _ 22 rfl wv1.heap.size 3 i0 (.int .i64 0) 1 Tryz.underlying22 hi hz0 hz1 .i64 .i64 _ _ 16 rfl rfl rfl rfl (by rw [hz2]; decide) (by decide) (Nat.le_refl _) ?_; intro wm hown hgrow; have hm := made_ho (by decide) hown hgrow; have c9 := hm.1.cell c9; have t9 := (HBX2.out.ext hm.1).free (i := 11); have HMM := Lib.hid hm; clear hm hown hgrow)
              obtain ⟨hEm, hHm⟩ := HMM.out
              have hne : wv1.heap.size ≠ bz := fun e => Nat.lt_irrefl _ (e ▸ HBX2.out.lt)
              have B1 := (HBX2.out.ext hEm).set (i := 11) (.slice (some ⟨wv1.heap.size, 0, none⟩) 16 16)
              have E1 := (HEX2.out.trans hEm).setCell (p := ⟨bz, 11, none⟩) HZ1.out (.slice (some ⟨wv1.heap.size, 0, none⟩) 16 16)
              have R1 := HRX2.out.add (i := 11) (v := .slice (some ⟨wv1.heap.size, 0, none⟩) 16 16) hEm hHm hne
              obtain ⟨s2, hs⟩ : ∃ z, wv1.heap.size = z := ⟨_, rfl⟩
              rw [hs] at B1 E1 R1 ⊢
              obtain ⟨wv2, hw⟩ : ∃ z, wm.setCell ⟨bz, 11, none⟩ (.slice (some ⟨s2, 0, none⟩) 16 16) = z := ⟨_, rfl⟩
              rw [hw] at B1 E1 R1 ⊢
              have HBX3 : Hid (BoxIs wv2 bz #[.int .i64 k, .int .i64 m, .int .i64 a, .int .i64 b, .int .i64 c, .int .i64 d, .int .i64 vx, .int .i64 vy, .slice (some ⟨az, 0, none⟩) 64 64, .slice (some ⟨s0, 0, none⟩) 16 16, .slice (some ⟨s1, 0, none⟩) 16 16, .slice (some ⟨s2, 0, none⟩) 16 16, .slice none 0 0] 30) := B1
              have HEX3 := Lib.hid E1; have HRX3 := Lib.hid R1
              clear hw hs hne hEm hHm B1 E1 R1 c9 t9 HMM HBX2 HEX2 HRX2
              rw [rounds_succ]
              have c9 := HBX3.out.cell (i := 12) (v := .slice none 0 0) rfl
              have t9 := HBX3.out.free (i := 12)
              go_wp2_with (at_make; refine wpList_make_full _ rfl _ _ 22 rfl wv2.heap.size 3 i0 (.int .i64 0) 1 Tryz.underlying22 hi hz0 hz1 .i64 .i64 _ _ 16 rfl rfl rfl rfl (by rw [hz2]; decide) (by decide) (Nat.le_refl _) ?_; intro wm hown hgrow; have hm := made_ho (by decide) hown hgrow; have c9 := hm.1.cell c9; have t9 := (HBX3.out.ext hm.1).free (i := 12); have HMM := Lib.hid hm; clear hm hown hgrow)
              obtain ⟨hEm, hHm⟩ := HMM.out
              have hne : wv2.heap.size ≠ bz := fun e => Nat.lt_irrefl _ (e ▸ HBX3.out.lt)
              have B1 := (HBX3.out.ext hEm).set (i := 12) (.slice (some ⟨wv2.heap.size, 0, none⟩) 16 16)
              have E1 := (HEX3.out.trans hEm).setCell (p := ⟨bz, 12, none⟩) HZ1.out (.slice (some ⟨wv2.heap.size, 0, none⟩) 16 16)
              have R1 := HRX3.out.add (i := 12) (v := .slice (some ⟨wv2.heap.size, 0, none⟩) 16 16) hEm hHm hne
              obtain ⟨s3, hs⟩ : ∃ z, wv2.heap.size = z := ⟨_, rfl⟩
              rw [hs] at B1 E1 R1 ⊢
              obtain ⟨wv3, hw⟩ : ∃ z, wm.setCell ⟨bz, 12, none⟩ (.slice (some ⟨s3, 0, none⟩) 16 16) = z := ⟨_, rfl⟩
              rw [hw] at B1 E1 R1 ⊢
              have HBX4 : Hid (BoxIs wv3 bz #[.int .i64 k, .int .i64 m, .int .i64 a, .int .i64 b, .int .i64 c, .int .i64 d, .int .i64 vx, .int .i64 vy, .slice (some ⟨az, 0, none⟩) 64 64, .slice (some ⟨s0, 0, none⟩) 16 16, .slice (some ⟨s1, 0, none⟩) 16 16, .slice (some ⟨s2, 0, none⟩) 16 16, .slice (some ⟨s3, 0, none⟩) 16 16] 30) := B1
              have HEX4 := Lib.hid E1; have HRX4 := Lib.hid R1
              clear hw hs hne hEm hHm B1 E1 R1 c9 t9 HMM HBX3 HEX3 HRX3
              have UZ := Lib.hid (fun (r : Int) (hr : 0 ≤ r ∧ r ≤ 15) (W' : World) (kx : Ext wv3 W') => dz_any (N : Int) H PW PH (X8 : Int) (Y8 : Int) r qp k m a b c d vx vy l l0 l1 l2 l3 zs ps fa pa i fc pn pc _ _ _ _ _ W' (HFI.out.ext (HEr.out.trans (HEX4.out.trans kx))) (HPI.out.ext (HEr.out.trans (HEX4.out.trans kx))) (HRX4.out.ext kx).get HCK.out hr)
              obtain ⟨ZM, hZM⟩ : ∃ z, bld (N : Int) H zs ps (X8 : Int) (Y8 : Int) 0 (zeQ ⟨k, m, a, b, c, d, vx, vy, l, l0, l1, l2, l3⟩) = z := ⟨_, rfl⟩
              rw [hZM] at UZ
              clear hZM
              rw [rounds_succ]
              have f0 := (HBr.out.ext HEX4.out).cell (i := 0) (v := .int .i64 (N : Int)) rfl
              have f1 := (HBr.out.ext HEX4.out).cell (i := 1) (v := .int .i64 H) rfl
              have f2 := (HBr.out.ext HEX4.out).cell (i := 2) (v := .slice fa i fc) rfl
              have p0 := (HPr.out.ext HEX4.out).cell (i := 0) (v := .int .i64 PW) rfl
              have p1 := (HPr.out.ext HEX4.out).cell (i := 1) (v := .int .i64 PH) rfl
              have p2 := (HPr.out.ext HEX4.out).cell (i := 2) (v := .slice pa pn pc) rfl
              obtain ⟨⟨g0, g1, g2, g3, g4, g5, g6, g7, g8, g9, g10, g11, g12⟩, -⟩ := sq_cells HBX4.out
              have UZ1 := Lib.hid (UZ.out qp HQP.out wv3 (Ext.refl _))
              go_wp2_with fail
              refine UZ1.out.mono ?_; rintro e w5 ⟨u5a, u5n, u5c, rfl, hx5, hi5⟩
              have B5 := BoxIs.new w5 #[.int .i64 (N : Int), .int .i64 H, .slice u5a u5n u5c] 24
              have X5 := hx5.alloc (.cells #[.int .i64 (N : Int), .int .i64 H, .slice u5a u5n u5c] 24)
              have I5 := hi5.ext ((Ext.refl w5).alloc (.cells #[.int .i64 (N : Int), .int .i64 H, .slice u5a u5n u5c] 24))
              clear f0 f1 f2 p0 p1 p2 g0 g1 g2 g3 g4 g5 g6 g7 g8 g9 g10 g11 g12
              have f0 := (HBr.out.ext (HEX4.out.trans X5)).cell (i := 0) (v := .int .i64 (N : Int)) rfl
              have f1 := (HBr.out.ext (HEX4.out.trans X5)).cell (i := 1) (v := .int .i64 H) rfl
              have f2 := (HBr.out.ext (HEX4.out.trans X5)).cell (i := 2) (v := .slice fa i fc) rfl
              have p0 := (HPr.out.ext (HEX4.out.trans X5)).cell (i := 0) (v := .int .i64 PW) rfl
              have p1 := (HPr.out.ext (HEX4.out.trans X5)).cell (i := 1) (v := .int .i64 PH) rfl
              have p2 := (HPr.out.ext (HEX4.out.trans X5)).cell (i := 2) (v := .slice pa pn pc) rfl
              obtain ⟨⟨g0, g1, g2, g3, g4, g5, g6, g7, g8, g9, g10, g11, g12⟩, -⟩ := sq_cells (HBX4.out.ext X5)
              obtain ⟨w6, hw6⟩ : ∃ z, w5.alloc (.cells #[.int .i64 (N : Int), .int .i64 H, .slice u5a u5n u5c] 24) = z := ⟨_, rfl⟩
              rw [hw6] at B5 X5 I5
              have HW6 := Lib.hid hw6; have HB5 := Lib.hid B5; have HX5 := Lib.hid X5; have HI5 := Lib.hid I5
              clear hw6 B5 X5 I5 hx5 hi5 UZ1
              have UZ2 := Lib.hid (UZ.out 0 (by decide) w6 HX5.out)
              go_wp2_with fail
              rw [HW6.out]
              refine UZ2.out.mono ?_; rintro e w7 ⟨u7a, u7n, u7c, rfl, hx7, hi7⟩
              have B7 := BoxIs.new w7 #[.int .i64 (N : Int), .int .i64 H, .slice u7a u7n u7c] 24
              have X7 := hx7.alloc (.cells #[.int .i64 (N : Int), .int .i64 H, .slice u7a u7n u7c] 24)
              have I7 := hi7.ext ((Ext.refl w7).alloc (.cells #[.int .i64 (N : Int), .int .i64 H, .slice u7a u7n u7c] 24))
              obtain ⟨w8, hw8⟩ : ∃ z, w7.alloc (.cells #[.int .i64 (N : Int), .int .i64 H, .slice u7a u7n u7c] 24) = z := ⟨_, rfl⟩
              rw [hw8] at B7 X7 I7
              have HW8 := Lib.hid hw8; have HB7 := Lib.hid B7; have HI7 := Lib.hid I7
              have HE8 := Lib.hid (HEr.out.trans (HEX4.out.trans (HX5.out.trans X7)))
              have HB5' := Lib.hid (HB5.out.ext X7); have HI5' := Lib.hid (HI5.out.ext X7)
              clear hw8 B7 X7 I7 hx7 hi7 UZ2 HW6 f0 f1 f2 p0 p1 p2 g0 g1 g2 g3 g4 g5 g6 g7 g8 g9 g10 g11 g12 UZ HBX4 HRX4 HEX4 HX5 HB5 HI5 HBr HPr HSr HCK HFI HPI HSI
              have hst : (0 : Int) < stepOf qp := by have := stepOf_ok (qp := qp) HQP.out; omega
              have UST := Lib.hid (fun (W' : World) => step_ok qp W' HQP.out)
              obtain ⟨so, hso⟩ : ∃ z, stepOf qp = z := ⟨_, rfl⟩
              rw [hso] at hst UST
              clear hso
              go_wp2_with fail
              rw [HW8.out]
              refine (UST.out _).mono ?_; rintro e w9 ⟨rfl, rfl⟩
              go_wp2_with fail
              refine (first21_any _ (HET.out.ext HE8.out)).mono ?_; rintro e w10 ⟨rfl, hx10⟩
              have f0 := (HB5'.out.ext hx10).cell (i := 0) (v := .int .i64 (N : Int)) rfl
              have f1 := (HB5'.out.ext hx10).cell (i := 1) (v := .int .i64 H) rfl
              have f2 := (HB5'.out.ext hx10).cell (i := 2) (v := .slice u5a u5n u5c) rfl
              have p0 := (HB7.out.ext hx10).cell (i := 0) (v := .int .i64 (N : Int)) rfl
              have p1 := (HB7.out.ext hx10).cell (i := 1) (v := .int .i64 H) rfl
              have p2 := (HB7.out.ext hx10).cell (i := 2) (v := .slice u7a u7n u7c) rfl
              have UFR := Lib.hid (frame_same (N : Int) H ZM u5a u7a u5n u7n u5c u7c w10 (HI5'.out.ext hx10) (HI7.out.ext hx10))
              have HE10 := Lib.hid (HE8.out.trans hx10)
              clear hx10
              go_wp2_with fail
              refine UFR.out.mono ?_; rintro e w11 ⟨rfl, hx11⟩
              have E11 := HE10.out.trans hx11
              clear hx11 f0 f1 f2 p0 p1 p2
              go_wp2
              go_ret
              exact ⟨rfl, E11⟩
theorem squares21 (W H PW PH : Int) (u0 u1 : Value) (zs ps : List Int) (x y qp : Int) (q : Sq) (vL v0 v1 v2 v3 : Value) (w : World) (hg : EtIs w) (hf : Row w u0 zs.length (zs.map (Value.int .i64))) (hp : Row w u1 ps.length (ps.map (Value.int .i64))) (hs : RawSq w q vL v0 v1 v2 v3) :
    Calls Tryz.prog 7 #[.agg #[.int .i64 W, .int .i64 H, u0], .agg #[.int .i64 PW, .int .i64 PH, u1], .int .i64 x, .int .i64 y, .int .i64 qp, .agg (sqC q vL v0 v1 v2 v3).toArray] w fun e w' => e = .returned (.bool true) ∧ Ext w w' := by
  obtain ⟨fa, fc, rfl⟩ := hf.form
  obtain ⟨pa, pc, rfl⟩ := hp.form
  exact squares_law W H PW PH x y qp zs ps fa pa _ fc _ pc q vL v0 v1 v2 v3 w hg hf hp hs
end Go.Proofs.YtcekpngkfldgkaaGreatDoor
