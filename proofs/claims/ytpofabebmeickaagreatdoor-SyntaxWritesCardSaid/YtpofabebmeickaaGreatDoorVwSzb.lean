/- kinref20.levels, parts, asks. -/
import Derived.Test.YtpofabebmeickaaGreatDoorVwSza
namespace Go.Proofs.YtpofabebmeickaaGreatDoor
set_option linter.unusedVariables false
set_option linter.unusedSimpArgs false
open Go.RowKit Go.Extern.Stop Go.Stop Go.Extern

/-- an error without a path, as the document's -/
def cdF (f : Fall) : Int := match f with
  | none => 0
  | some (_, c) => c
def noPath (f : Fall) : Prop := f = none ∨ ∃ c, f = some ([], c) ∧ c ≠ 0
theorem noPath.is {f : Fall} (h : noPath f) (W : World) : RErrIs W f (cdF f) (.slice none 0 0) := by
  rcases h with rfl | ⟨c, rfl, hc⟩
  · exact RErrIs.zero
  · exact RErrIs.code hc
theorem lv_np (l : List Int) (n : Nat) : noPath (lvE l n) := by
  unfold lvE
  split
  · split
    · exact .inr ⟨3, rfl, by decide⟩
    · exact .inl rfl
  · exact .inr ⟨14, rfl, by decide⟩
theorem or_np {f g : Fall} (h : noPath f) (k : noPath g) : noPath (orF f g) := by
  rcases h with rfl | ⟨c, rfl, hc⟩
  · exact k
  · exact .inr ⟨c, rfl, hc⟩
theorem ask_np (key : Bool) (q : Sq) : noPath (askE key q) := by
  unfold askE liE foE
  split
  · split
    · split
      · exact lv_np _ _
      · split
        · exact or_np (lv_np _ _) (or_np (lv_np _ _) (or_np (lv_np _ _) (lv_np _ _)))
        · exact .inl rfl
    · exact .inr ⟨3, rfl, by decide⟩
  · exact .inr ⟨13, rfl, by decide⟩
theorem np_ok {f : Fall} (h : noPath f) : (cdF f == 0) = f.isNone := by
  rcases h with rfl | ⟨c, rfl, hc⟩
  · rfl
  · show (c == 0) = false
    exact beq_eq_false_iff_ne.2 hc
def CdPost (w : World) (f : Fall) (e : Ending) (w' : World) : Prop := e = .returned (.agg #[.int .i64 (cdF f), .slice none 0 0]) ∧ Ext w w'
set_option maxRecDepth 20000 in
set_option maxHeartbeats 1000000 in
theorem rlev_any (l : List Int) (n : Nat) (v : Value) (w : World) (h : Ints w v l) : Calls Tryz.prog 68 #[v, .int .i64 (n : Int)] w (CdPost w (lvE l n)) := by
  obtain ⟨a, cap, rfl⟩ := h.form
  obtain ⟨m, hm⟩ : ∃ m, l.length = m := ⟨_, rfl⟩
  have U := Lib.hid (fun w' (k : Ext w w') => within_any l (-16320) 16320 _ w' (h.ext k))
  rw [within_lv] at U
  rw [hm] at U ⊢
  have B1 := BoxIs.new w #[.int .i64 0, .slice none 0 0] 46
  have E1 := (Ext.refl w).alloc (.cells #[.int .i64 0, .slice none 0 0] 46)
  have HB := Lib.hid B1
  have HE := Lib.hid E1
  clear h B1 E1
  by_cases he : m = n
  · subst he
    obtain ⟨b, hb⟩ : ∃ b, l.any noLv = b := ⟨_, rfl⟩
    rw [hb] at U
    have HV : Hid (lvE l m = if b then range else none) := by show _ = _; unfold lvE; rw [if_pos hm, hb]
    have t1 : ((m : Int) != (m : Int)) = false := by simp
    clear hb hm
    go_enter Tryz.func68, Tryz.ntmps68
    go_wp2_with fail
    refine (U.out _ HE.out).mono ?_; rintro e w1 ⟨rfl, hx1⟩
    cases b
    · have c0 := (HB.out.ext hx1).cell (i := 0) (v := .int .i64 0) rfl
      have c1 := (HB.out.ext hx1).cell (i := 1) (v := .slice none 0 0) rfl
      have f0 := (HB.out.ext hx1).free (i := 0)
      have f1 := (HB.out.ext hx1).free (i := 1)
      have HX := Lib.hid (HE.out.trans hx1)
      clear hx1
      go_wp2
      exact bodyPost_ret (v := .agg #[.int .i64 0, .slice none 0 0]) (by simp [results, Tryz.results68, go_sem, c0, c1]) rfl ⟨by rw [HV.out]; rfl, by
        have e := HX.out
        repeat refine Ext.setCell ?_ (by exact Nat.le_refl _) _
        exact e⟩
    · go_wp2_with fail
      refine (fail_any _ _).mono ?_; rintro e w2 ⟨rfl, hx2⟩
      have c0 := (HB.out.ext (hx1.trans hx2)).cell (i := 0) (v := .int .i64 0) rfl
      have c1 := (HB.out.ext (hx1.trans hx2)).cell (i := 1) (v := .slice none 0 0) rfl
      have f0 := (HB.out.ext (hx1.trans hx2)).free (i := 0)
      have f1 := (HB.out.ext (hx1.trans hx2)).free (i := 1)
      have HX := Lib.hid (HE.out.trans (hx1.trans hx2))
      clear hx1 hx2
      go_wp2
      exact bodyPost_ret (v := .agg #[.int .i64 3, .slice none 0 0]) (by simp [results, Tryz.results68, go_sem, c0, c1]) rfl ⟨by rw [HV.out]; rfl, by
        have e := HX.out
        repeat refine Ext.setCell ?_ (by exact Nat.le_refl _) _
        exact e⟩
  · have HV : Hid (lvE l n = fit) := by show _ = _; unfold lvE; rw [if_neg (by omega)]
    have t1 : ((m : Int) != (n : Int)) = true := by rw [bne_iff_ne]; omega
    clear hm U
    go_enter Tryz.func68, Tryz.ntmps68
    go_wp2_with fail
    refine (fail_any _ _).mono ?_; rintro e w2 ⟨rfl, hx2⟩
    have c0 := (HB.out.ext hx2).cell (i := 0) (v := .int .i64 0) rfl
    have c1 := (HB.out.ext hx2).cell (i := 1) (v := .slice none 0 0) rfl
    have f0 := (HB.out.ext hx2).free (i := 0)
    have f1 := (HB.out.ext hx2).free (i := 1)
    have HX := Lib.hid (HE.out.trans hx2)
    clear hx2
    go_wp2
    exact bodyPost_ret (v := .agg #[.int .i64 14, .slice none 0 0]) (by simp [results, Tryz.results68, go_sem, c0, c1]) rfl ⟨by rw [HV.out]; rfl, by
        have e := HX.out
        repeat refine Ext.setCell ?_ (by exact Nat.le_refl _) _
        exact e⟩

set_option maxRecDepth 20000 in
set_option maxHeartbeats 2000000 in
theorem rpts_any (q : Sq) (L s0 s1 s2 s3 : Value) (w : World) (hk : 0 ≤ q.k ∧ q.k ≤ 3) (hL : SlF L) (h0 : SlF s0) (h1 : SlF s1) (h2 : SlF s2) (h3 : SlF s3) : Calls Tryz.prog 67 #[sqQ q L s0 s1 s2 s3] w fun e w' => e = .returned (.bool (ptB q)) ∧ Ext w w' := by
  obtain ⟨aL, lL, cL, rfl⟩ := hL
  obtain ⟨a0, l0, c0, rfl⟩ := h0
  obtain ⟨a1, l1, c1, rfl⟩ := h1
  obtain ⟨a2, l2, c2, rfl⟩ := h2
  obtain ⟨a3, l3, c3, rfl⟩ := h3
  obtain ⟨gk, gm, ga, gb, gc, gd, gx, gy, xL, x0, x1, x2, x3⟩ := q
  dsimp only at hk
  unfold sqQ sqV
  dsimp only
  rcases (by omega : gk = 0 ∨ gk = 1 ∨ gk = 2 ∨ gk = 3) with rfl | rfl | rfl | rfl
  · have H : Hid (ptB ⟨0, gm, ga, gb, gc, gd, gx, gy, xL, x0, x1, x2, x3⟩ = true) := rfl
    go_enter Tryz.func67, Tryz.ntmps67
    go_wp2
    go_ret
    exact ⟨by rw [H.out]; rfl, (Ext.refl w).alloc _⟩
  · have H : Hid (ptB ⟨1, gm, ga, gb, gc, gd, gx, gy, xL, x0, x1, x2, x3⟩ = (decide (-15 ≤ gx) && decide (gx ≤ 15) && (decide (-15 ≤ gy) && decide (gy ≤ 15)))) := rfl
    by_cases t1 : -15 ≤ gx
    · by_cases t2 : gx ≤ 15
      · by_cases t3 : -15 ≤ gy
        · by_cases t4 : gy ≤ 15
          · have HV : Hid (ptB ⟨1, gm, ga, gb, gc, gd, gx, gy, xL, x0, x1, x2, x3⟩ = true) := by show _ = _; rw [H.out]; simp [t1, t2, t3, t4]
            go_enter Tryz.func67, Tryz.ntmps67
            go_wp2
            go_ret
            exact ⟨by rw [HV.out]; rfl, ((Ext.refl w).alloc _).alloc _⟩
          · have HV : Hid (ptB ⟨1, gm, ga, gb, gc, gd, gx, gy, xL, x0, x1, x2, x3⟩ = false) := by show _ = _; rw [H.out]; simp [t4]
            go_enter Tryz.func67, Tryz.ntmps67
            go_wp2
            go_ret
            exact ⟨by rw [HV.out]; rfl, ((Ext.refl w).alloc _).alloc _⟩
        · have HV : Hid (ptB ⟨1, gm, ga, gb, gc, gd, gx, gy, xL, x0, x1, x2, x3⟩ = false) := by show _ = _; rw [H.out]; simp [t3]
          go_enter Tryz.func67, Tryz.ntmps67
          go_wp2
          go_ret
          exact ⟨by rw [HV.out]; rfl, ((Ext.refl w).alloc _).alloc _⟩
      · have HV : Hid (ptB ⟨1, gm, ga, gb, gc, gd, gx, gy, xL, x0, x1, x2, x3⟩ = false) := by show _ = _; rw [H.out]; simp [t2]
        go_enter Tryz.func67, Tryz.ntmps67
        go_wp2
        go_ret
        exact ⟨by rw [HV.out]; rfl, ((Ext.refl w).alloc _).alloc _⟩
    · have HV : Hid (ptB ⟨1, gm, ga, gb, gc, gd, gx, gy, xL, x0, x1, x2, x3⟩ = false) := by show _ = _; rw [H.out]; simp [t1]
      go_enter Tryz.func67, Tryz.ntmps67
      go_wp2
      go_ret
      exact ⟨by rw [HV.out]; rfl, ((Ext.refl w).alloc _).alloc _⟩
  · have H : Hid (ptB ⟨2, gm, ga, gb, gc, gd, gx, gy, xL, x0, x1, x2, x3⟩ = (decide (0 ≤ gm) && decide (gm ≤ 3))) := rfl
    by_cases t1 : 0 ≤ gm
    · by_cases t2 : gm ≤ 3
      · have HV : Hid (ptB ⟨2, gm, ga, gb, gc, gd, gx, gy, xL, x0, x1, x2, x3⟩ = true) := by show _ = _; rw [H.out]; simp [t1, t2]
        go_enter Tryz.func67, Tryz.ntmps67
        go_wp2
        go_ret
        exact ⟨by rw [HV.out]; rfl, (Ext.refl w).alloc _⟩
      · have HV : Hid (ptB ⟨2, gm, ga, gb, gc, gd, gx, gy, xL, x0, x1, x2, x3⟩ = false) := by show _ = _; rw [H.out]; simp [t2]
        go_enter Tryz.func67, Tryz.ntmps67
        go_wp2
        go_ret
        exact ⟨by rw [HV.out]; rfl, (Ext.refl w).alloc _⟩
    · have HV : Hid (ptB ⟨2, gm, ga, gb, gc, gd, gx, gy, xL, x0, x1, x2, x3⟩ = false) := by show _ = _; rw [H.out]; simp [t1]
      go_enter Tryz.func67, Tryz.ntmps67
      go_wp2
      go_ret
      exact ⟨by rw [HV.out]; rfl, (Ext.refl w).alloc _⟩
  · have hw : decide (within 0 3 [ga, gb, gc, gd]) = ptB ⟨3, gm, ga, gb, gc, gd, gx, gy, xL, x0, x1, x2, x3⟩ := by
      show _ = (isM ga && isM gb && isM gc && isM gd)
      unfold isM within
      rw [Bool.eq_iff_iff]
      simp only [decide_eq_true_eq, Bool.and_eq_true, List.forall_mem_cons, List.not_mem_nil, false_implies, implies_true, and_true, and_assoc]
    have B1 := BoxIs.new w #[.int .i64 3, .int .i64 gm, .int .i64 ga, .int .i64 gb, .int .i64 gc, .int .i64 gd, .int .i64 gx, .int .i64 gy, .slice aL lL cL, .slice a0 l0 c0, .slice a1 l1 c1, .slice a2 l2 c2, .slice a3 l3 c3] 42
    have E1 := (Ext.refl w).alloc (.cells #[.int .i64 3, .int .i64 gm, .int .i64 ga, .int .i64 gb, .int .i64 gc, .int .i64 gd, .int .i64 gx, .int .i64 gy, .slice aL lL cL, .slice a0 l0 c0, .slice a1 l1 c1, .slice a2 l2 c2, .slice a3 l3 c3] 42)
    obtain ⟨u, hu⟩ : ∃ z, w.alloc (.cells #[.int .i64 3, .int .i64 gm, .int .i64 ga, .int .i64 gb, .int .i64 gc, .int .i64 gd, .int .i64 gx, .int .i64 gy, .slice aL lL cL, .slice a0 l0 c0, .slice a1 l1 c1, .slice a2 l2 c2, .slice a3 l3 c3] 42) = z := ⟨_, rfl⟩
    rw [hu] at B1 E1
    have UW := Lib.hid (within_any [ga, gb, gc, gd] 0 3 _ u (ints4 (T := 42) B1))
    rw [hw] at UW
    have HU := Lib.hid hu
    have HE := Lib.hid E1
    clear B1 E1 hu hw
    go_enter Tryz.func67, Tryz.ntmps67
    go_wp2_with fail
    rw [HU.out]
    refine (UW.out).mono ?_; rintro e w1 ⟨rfl, hx1⟩
    have HX := Lib.hid (HE.out.trans hx1)
    clear hx1
    go_wp2
    go_ret
    exact ⟨rfl, HX.out⟩

set_option maxRecDepth 20000 in
set_option maxHeartbeats 4000000 in
theorem rask_bad (key : Bool) (f : Fall) (gk gm ga gb gc gd gx gy : Int) (vL v0 v1 v2 v3 : Value) (w : World) (hk : okK key gk = false) (hf : f = kndF) (hL : SlF vL) (h0 : SlF v0) (h1 : SlF v1) (h2 : SlF v2) (h3 : SlF v3) : Calls Tryz.prog 41 #[.bool key, sqV gk gm ga gb gc gd gx gy vL v0 v1 v2 v3] w (CdPost w f) := by
  obtain ⟨aL, lL, cL, rfl⟩ := hL
  obtain ⟨a0, l0, c0, rfl⟩ := h0
  obtain ⟨a1, l1, c1, rfl⟩ := h1
  obtain ⟨a2, l2, c2, rfl⟩ := h2
  obtain ⟨a3, l3, c3, rfl⟩ := h3
  have HF := Lib.hid hf
  clear hf
  have A0 := (BoxIs.new w #[.int .i64 gk, .int .i64 gm, .int .i64 ga, .int .i64 gb, .int .i64 gc, .int .i64 gd, .int .i64 gx, .int .i64 gy, .slice aL lL cL, .slice a0 l0 c0, .slice a1 l1 c1, .slice a2 l2 c2, .slice a3 l3 c3] 42).ext ((Ext.refl _).alloc (.cells #[.int .i64 0, .slice none 0 0] 46))
  have A1 := BoxIs.new (w.alloc (.cells #[.int .i64 gk, .int .i64 gm, .int .i64 ga, .int .i64 gb, .int .i64 gc, .int .i64 gd, .int .i64 gx, .int .i64 gy, .slice aL lL cL, .slice a0 l0 c0, .slice a1 l1 c1, .slice a2 l2 c2, .slice a3 l3 c3] 42)) #[.int .i64 0, .slice none 0 0] 46
  have hs : (w.alloc (.cells #[.int .i64 gk, .int .i64 gm, .int .i64 ga, .int .i64 gb, .int .i64 gc, .int .i64 gd, .int .i64 gx, .int .i64 gy, .slice aL lL cL, .slice a0 l0 c0, .slice a1 l1 c1, .slice a2 l2 c2, .slice a3 l3 c3] 42)).heap.size = w.heap.size + 1 := by simp
  rw [hs] at A1
  have E2 := ((Ext.refl w).alloc (.cells #[.int .i64 gk, .int .i64 gm, .int .i64 ga, .int .i64 gb, .int .i64 gc, .int .i64 gd, .int .i64 gx, .int .i64 gy, .slice aL lL cL, .slice a0 l0 c0, .slice a1 l1 c1, .slice a2 l2 c2, .slice a3 l3 c3] 42)).alloc (.cells #[.int .i64 0, .slice none 0 0] 46)
  obtain ⟨u, hu⟩ : ∃ z, (w.alloc (.cells #[.int .i64 gk, .int .i64 gm, .int .i64 ga, .int .i64 gb, .int .i64 gc, .int .i64 gd, .int .i64 gx, .int .i64 gy, .slice aL lL cL, .slice a0 l0 c0, .slice a1 l1 c1, .slice a2 l2 c2, .slice a3 l3 c3] 42)).alloc (.cells #[.int .i64 0, .slice none 0 0] 46) = z := ⟨_, rfl⟩
  rw [hu] at A0 A1 E2
  have HA := Lib.hid A0
  have HR := Lib.hid A1
  have HE := Lib.hid E2
  have HU := Lib.hid hu
  obtain ⟨⟨g0, g1, g2, g3, g4, g5, g6, g7, g8, g9, g10, g11, g12⟩, -⟩ := sq_cells A0
  clear A0 A1 E2 hu hs
  unfold sqV
  by_cases k1 : gk < 0
  · clear hk
    go_enter Tryz.func41, Tryz.ntmps41
    go_wp2_with fail
    rw [HU.out]
    refine (fail_any _ _).mono ?_; rintro e w1 ⟨rfl, hx1⟩
    clear g0 g1 g2 g3 g4 g5 g6 g7 g8 g9 g10 g11 g12
    have HX := Lib.hid hx1
    have q0 := (HR.out.ext HX.out).cell (i := 0) (v := .int .i64 0) rfl
    have q1 := (HR.out.ext HX.out).cell (i := 1) (v := .slice none 0 0) rfl
    have f0 := (HR.out.ext HX.out).free (i := 0)
    have f1 := (HR.out.ext HX.out).free (i := 1)
    go_wp2
    exact bodyPost_ret (v := .agg #[.int .i64 13, .slice none 0 0]) (by simp [results, Tryz.results41, go_sem, q0, q1]) rfl ⟨by rw [HF.out]; rfl, by
      have e := HE.out.trans HX.out
      repeat refine Ext.setCell ?_ (by exact Nat.le_succ _) _
      exact e⟩
  by_cases k2 : 3 < gk
  · clear hk
    go_enter Tryz.func41, Tryz.ntmps41
    go_wp2_with fail
    rw [HU.out]
    refine (fail_any _ _).mono ?_; rintro e w1 ⟨rfl, hx1⟩
    clear g0 g1 g2 g3 g4 g5 g6 g7 g8 g9 g10 g11 g12
    have HX := Lib.hid hx1
    have q0 := (HR.out.ext HX.out).cell (i := 0) (v := .int .i64 0) rfl
    have q1 := (HR.out.ext HX.out).cell (i := 1) (v := .slice none 0 0) rfl
    have f0 := (HR.out.ext HX.out).free (i := 0)
    have f1 := (HR.out.ext HX.out).free (i := 1)
    go_wp2
    exact bodyPost_ret (v := .agg #[.int .i64 13, .slice none 0 0]) (by simp [results, Tryz.results41, go_sem, q0, q1]) rfl ⟨by rw [HF.out]; rfl, by
      have e := HE.out.trans HX.out
      repeat refine Ext.setCell ?_ (by exact Nat.le_succ _) _
      exact e⟩
  cases key
  · exfalso
    simp only [okK, Bool.false_and, Bool.not_false, Bool.and_true, Bool.and_eq_false_iff, decide_eq_false_iff_not] at hk
    omega
  have k3 : gk < 2 := by
    simp only [okK, Bool.true_and, Bool.not_eq_false', Bool.and_eq_false_iff, decide_eq_false_iff_not, decide_eq_true_eq] at hk
    omega
  clear hk
  go_enter Tryz.func41, Tryz.ntmps41
  go_wp2_with fail
  rw [HU.out]
  refine (fail_any _ _).mono ?_; rintro e w1 ⟨rfl, hx1⟩
  clear g0 g1 g2 g3 g4 g5 g6 g7 g8 g9 g10 g11 g12
  have HX := Lib.hid hx1
  have q0 := (HR.out.ext HX.out).cell (i := 0) (v := .int .i64 0) rfl
  have q1 := (HR.out.ext HX.out).cell (i := 1) (v := .slice none 0 0) rfl
  have f0 := (HR.out.ext HX.out).free (i := 0)
  have f1 := (HR.out.ext HX.out).free (i := 1)
  go_wp2
  exact bodyPost_ret (v := .agg #[.int .i64 13, .slice none 0 0]) (by simp [results, Tryz.results41, go_sem, q0, q1]) rfl ⟨by rw [HF.out]; rfl, by
    have e := HE.out.trans HX.out
    repeat refine Ext.setCell ?_ (by exact Nat.le_succ _) _
    exact e⟩
set_option maxRecDepth 20000 in
set_option maxHeartbeats 4000000 in
theorem rask_0 (key : Bool) (f : Fall) (gm ga gb gc gd gx gy : Int) (xL x0 x1 x2 x3 : List Int) (vL v0 v1 v2 v3 : Value) (w : World) (hk : okK key 0 = true) (hf : f = if ptB ⟨0, gm, ga, gb, gc, gd, gx, gy, xL, x0, x1, x2, x3⟩ then liE ⟨0, gm, ga, gb, gc, gd, gx, gy, xL, x0, x1, x2, x3⟩ else range) (h : SqIs w ⟨0, gm, ga, gb, gc, gd, gx, gy, xL, x0, x1, x2, x3⟩ vL v0 v1 v2 v3) : Calls Tryz.prog 41 #[.bool key, sqV 0 gm ga gb gc gd gx gy vL v0 v1 v2 v3] w (CdPost w f) := by
  have UL := Lib.hid (fun w' (k : Ext w w') => rlev_any xL 64 vL w' (h.1.ext k))
  have U0 := Lib.hid (fun w' (k : Ext w w') => rlev_any x0 16 v0 w' (h.2.1.ext k))
  have U1 := Lib.hid (fun w' (k : Ext w w') => rlev_any x1 16 v1 w' (h.2.2.1.ext k))
  have U2 := Lib.hid (fun w' (k : Ext w w') => rlev_any x2 16 v2 w' (h.2.2.2.1.ext k))
  have U3 := Lib.hid (fun w' (k : Ext w w') => rlev_any x3 16 v3 w' (h.2.2.2.2.ext k))
  obtain ⟨aL, lL, cL, rfl⟩ := h.1.slf
  obtain ⟨a0, l0, c0, rfl⟩ := h.2.1.slf
  obtain ⟨a1, l1, c1, rfl⟩ := h.2.2.1.slf
  obtain ⟨a2, l2, c2, rfl⟩ := h.2.2.2.1.slf
  obtain ⟨a3, l3, c3, rfl⟩ := h.2.2.2.2.slf
  have UP := Lib.hid (fun w' => rpts_any ⟨0, gm, ga, gb, gc, gd, gx, gy, xL, x0, x1, x2, x3⟩ _ _ _ _ _ w' (by show (0 : Int) ≤ 0 ∧ (0 : Int) ≤ 3; decide) h.1.slf h.2.1.slf h.2.2.1.slf h.2.2.2.1.slf h.2.2.2.2.slf)
  obtain ⟨pb, hpb⟩ : ∃ b, ptB ⟨0, gm, ga, gb, gc, gd, gx, gy, xL, x0, x1, x2, x3⟩ = b := ⟨_, rfl⟩
  rw [hpb] at UP hf
  have HF : Hid (f = if pb then none else range) := hf
  clear hf hpb h
  have A0 := (BoxIs.new w #[.int .i64 0, .int .i64 gm, .int .i64 ga, .int .i64 gb, .int .i64 gc, .int .i64 gd, .int .i64 gx, .int .i64 gy, .slice aL lL cL, .slice a0 l0 c0, .slice a1 l1 c1, .slice a2 l2 c2, .slice a3 l3 c3] 42).ext ((Ext.refl _).alloc (.cells #[.int .i64 0, .slice none 0 0] 46))
  have A1 := BoxIs.new (w.alloc (.cells #[.int .i64 0, .int .i64 gm, .int .i64 ga, .int .i64 gb, .int .i64 gc, .int .i64 gd, .int .i64 gx, .int .i64 gy, .slice aL lL cL, .slice a0 l0 c0, .slice a1 l1 c1, .slice a2 l2 c2, .slice a3 l3 c3] 42)) #[.int .i64 0, .slice none 0 0] 46
  have hs : (w.alloc (.cells #[.int .i64 0, .int .i64 gm, .int .i64 ga, .int .i64 gb, .int .i64 gc, .int .i64 gd, .int .i64 gx, .int .i64 gy, .slice aL lL cL, .slice a0 l0 c0, .slice a1 l1 c1, .slice a2 l2 c2, .slice a3 l3 c3] 42)).heap.size = w.heap.size + 1 := by simp
  rw [hs] at A1
  have E2 := ((Ext.refl w).alloc (.cells #[.int .i64 0, .int .i64 gm, .int .i64 ga, .int .i64 gb, .int .i64 gc, .int .i64 gd, .int .i64 gx, .int .i64 gy, .slice aL lL cL, .slice a0 l0 c0, .slice a1 l1 c1, .slice a2 l2 c2, .slice a3 l3 c3] 42)).alloc (.cells #[.int .i64 0, .slice none 0 0] 46)
  obtain ⟨u, hu⟩ : ∃ z, (w.alloc (.cells #[.int .i64 0, .int .i64 gm, .int .i64 ga, .int .i64 gb, .int .i64 gc, .int .i64 gd, .int .i64 gx, .int .i64 gy, .slice aL lL cL, .slice a0 l0 c0, .slice a1 l1 c1, .slice a2 l2 c2, .slice a3 l3 c3] 42)).alloc (.cells #[.int .i64 0, .slice none 0 0] 46) = z := ⟨_, rfl⟩
  rw [hu] at A0 A1 E2
  have HA := Lib.hid A0
  have HR := Lib.hid A1
  have HE := Lib.hid E2
  have HU := Lib.hid hu
  obtain ⟨⟨g0, g1, g2, g3, g4, g5, g6, g7, g8, g9, g10, g11, g12⟩, -⟩ := sq_cells A0
  clear A0 A1 E2 hu hs
  unfold sqQ sqV at UP
  unfold sqV
  cases key
  · go_enter Tryz.func41, Tryz.ntmps41
    go_wp2_with fail
    rw [HU.out]
    refine (UP.out _).mono ?_; rintro e w1 ⟨rfl, hx1⟩
    clear g0 g1 g2 g3 g4 g5 g6 g7 g8 g9 g10 g11 g12
    cases pb
    · go_wp2_with fail
      refine (fail_any _ _).mono ?_; rintro e w2 ⟨rfl, hx2⟩
      have HX := Lib.hid (hx1.trans hx2)
      have q0 := (HR.out.ext HX.out).cell (i := 0) (v := .int .i64 0) rfl
      have q1 := (HR.out.ext HX.out).cell (i := 1) (v := .slice none 0 0) rfl
      have f0 := (HR.out.ext HX.out).free (i := 0)
      have f1 := (HR.out.ext HX.out).free (i := 1)
      go_wp2
      exact bodyPost_ret (v := .agg #[.int .i64 3, .slice none 0 0]) (by simp [results, Tryz.results41, go_sem, q0, q1]) rfl ⟨by rw [HF.out]; rfl, by
        have e := HE.out.trans HX.out
        repeat refine Ext.setCell ?_ (by exact Nat.le_succ _) _
        exact e⟩
    have HX1 := Lib.hid hx1
    clear hx1
    obtain ⟨⟨g0, g1, g2, g3, g4, g5, g6, g7, g8, g9, g10, g11, g12⟩, -⟩ := sq_cells (HA.out.ext HX1.out)
    go_wp2_with fail
    refine wp_loop_rounds 5 ?_
    rw [rounds_succ]
    have HX := Lib.hid HX1.out
    have q0 := (HR.out.ext HX.out).cell (i := 0) (v := .int .i64 0) rfl
    have q1 := (HR.out.ext HX.out).cell (i := 1) (v := .slice none 0 0) rfl
    have f0 := (HR.out.ext HX.out).free (i := 0)
    have f1 := (HR.out.ext HX.out).free (i := 1)
    go_wp2
    exact bodyPost_ret (v := .agg #[.int .i64 0, .slice none 0 0]) (by simp [results, Tryz.results41, go_sem, q0, q1]) rfl ⟨by rw [HF.out]; rfl, by
      have e := HE.out.trans HX.out
      repeat refine Ext.setCell ?_ (by exact Nat.le_succ _) _
      exact e⟩
  · exact absurd hk (by decide)
set_option maxRecDepth 20000 in
set_option maxHeartbeats 4000000 in
theorem rask_1 (key : Bool) (f : Fall) (gm ga gb gc gd gx gy : Int) (xL x0 x1 x2 x3 : List Int) (vL v0 v1 v2 v3 : Value) (w : World) (hk : okK key 1 = true) (hf : f = if ptB ⟨1, gm, ga, gb, gc, gd, gx, gy, xL, x0, x1, x2, x3⟩ then liE ⟨1, gm, ga, gb, gc, gd, gx, gy, xL, x0, x1, x2, x3⟩ else range) (h : SqIs w ⟨1, gm, ga, gb, gc, gd, gx, gy, xL, x0, x1, x2, x3⟩ vL v0 v1 v2 v3) : Calls Tryz.prog 41 #[.bool key, sqV 1 gm ga gb gc gd gx gy vL v0 v1 v2 v3] w (CdPost w f) := by
  have UL := Lib.hid (fun w' (k : Ext w w') => rlev_any xL 64 vL w' (h.1.ext k))
  have U0 := Lib.hid (fun w' (k : Ext w w') => rlev_any x0 16 v0 w' (h.2.1.ext k))
  have U1 := Lib.hid (fun w' (k : Ext w w') => rlev_any x1 16 v1 w' (h.2.2.1.ext k))
  have U2 := Lib.hid (fun w' (k : Ext w w') => rlev_any x2 16 v2 w' (h.2.2.2.1.ext k))
  have U3 := Lib.hid (fun w' (k : Ext w w') => rlev_any x3 16 v3 w' (h.2.2.2.2.ext k))
  obtain ⟨aL, lL, cL, rfl⟩ := h.1.slf
  obtain ⟨a0, l0, c0, rfl⟩ := h.2.1.slf
  obtain ⟨a1, l1, c1, rfl⟩ := h.2.2.1.slf
  obtain ⟨a2, l2, c2, rfl⟩ := h.2.2.2.1.slf
  obtain ⟨a3, l3, c3, rfl⟩ := h.2.2.2.2.slf
  have UP := Lib.hid (fun w' => rpts_any ⟨1, gm, ga, gb, gc, gd, gx, gy, xL, x0, x1, x2, x3⟩ _ _ _ _ _ w' (by show (0 : Int) ≤ 1 ∧ (1 : Int) ≤ 3; decide) h.1.slf h.2.1.slf h.2.2.1.slf h.2.2.2.1.slf h.2.2.2.2.slf)
  obtain ⟨pb, hpb⟩ : ∃ b, ptB ⟨1, gm, ga, gb, gc, gd, gx, gy, xL, x0, x1, x2, x3⟩ = b := ⟨_, rfl⟩
  rw [hpb] at UP hf
  have HF : Hid (f = if pb then lvE xL 64 else range) := hf
  clear hf hpb h
  have A0 := (BoxIs.new w #[.int .i64 1, .int .i64 gm, .int .i64 ga, .int .i64 gb, .int .i64 gc, .int .i64 gd, .int .i64 gx, .int .i64 gy, .slice aL lL cL, .slice a0 l0 c0, .slice a1 l1 c1, .slice a2 l2 c2, .slice a3 l3 c3] 42).ext ((Ext.refl _).alloc (.cells #[.int .i64 0, .slice none 0 0] 46))
  have A1 := BoxIs.new (w.alloc (.cells #[.int .i64 1, .int .i64 gm, .int .i64 ga, .int .i64 gb, .int .i64 gc, .int .i64 gd, .int .i64 gx, .int .i64 gy, .slice aL lL cL, .slice a0 l0 c0, .slice a1 l1 c1, .slice a2 l2 c2, .slice a3 l3 c3] 42)) #[.int .i64 0, .slice none 0 0] 46
  have hs : (w.alloc (.cells #[.int .i64 1, .int .i64 gm, .int .i64 ga, .int .i64 gb, .int .i64 gc, .int .i64 gd, .int .i64 gx, .int .i64 gy, .slice aL lL cL, .slice a0 l0 c0, .slice a1 l1 c1, .slice a2 l2 c2, .slice a3 l3 c3] 42)).heap.size = w.heap.size + 1 := by simp
  rw [hs] at A1
  have E2 := ((Ext.refl w).alloc (.cells #[.int .i64 1, .int .i64 gm, .int .i64 ga, .int .i64 gb, .int .i64 gc, .int .i64 gd, .int .i64 gx, .int .i64 gy, .slice aL lL cL, .slice a0 l0 c0, .slice a1 l1 c1, .slice a2 l2 c2, .slice a3 l3 c3] 42)).alloc (.cells #[.int .i64 0, .slice none 0 0] 46)
  obtain ⟨u, hu⟩ : ∃ z, (w.alloc (.cells #[.int .i64 1, .int .i64 gm, .int .i64 ga, .int .i64 gb, .int .i64 gc, .int .i64 gd, .int .i64 gx, .int .i64 gy, .slice aL lL cL, .slice a0 l0 c0, .slice a1 l1 c1, .slice a2 l2 c2, .slice a3 l3 c3] 42)).alloc (.cells #[.int .i64 0, .slice none 0 0] 46) = z := ⟨_, rfl⟩
  rw [hu] at A0 A1 E2
  have HA := Lib.hid A0
  have HR := Lib.hid A1
  have HE := Lib.hid E2
  have HU := Lib.hid hu
  obtain ⟨⟨g0, g1, g2, g3, g4, g5, g6, g7, g8, g9, g10, g11, g12⟩, -⟩ := sq_cells A0
  clear A0 A1 E2 hu hs
  unfold sqQ sqV at UP
  unfold sqV
  cases key
  · go_enter Tryz.func41, Tryz.ntmps41
    go_wp2_with fail
    rw [HU.out]
    refine (UP.out _).mono ?_; rintro e w1 ⟨rfl, hx1⟩
    clear g0 g1 g2 g3 g4 g5 g6 g7 g8 g9 g10 g11 g12
    cases pb
    · go_wp2_with fail
      refine (fail_any _ _).mono ?_; rintro e w2 ⟨rfl, hx2⟩
      have HX := Lib.hid (hx1.trans hx2)
      have q0 := (HR.out.ext HX.out).cell (i := 0) (v := .int .i64 0) rfl
      have q1 := (HR.out.ext HX.out).cell (i := 1) (v := .slice none 0 0) rfl
      have f0 := (HR.out.ext HX.out).free (i := 0)
      have f1 := (HR.out.ext HX.out).free (i := 1)
      go_wp2
      exact bodyPost_ret (v := .agg #[.int .i64 3, .slice none 0 0]) (by simp [results, Tryz.results41, go_sem, q0, q1]) rfl ⟨by rw [HF.out]; rfl, by
        have e := HE.out.trans HX.out
        repeat refine Ext.setCell ?_ (by exact Nat.le_succ _) _
        exact e⟩
    have HX1 := Lib.hid hx1
    clear hx1
    obtain ⟨⟨g0, g1, g2, g3, g4, g5, g6, g7, g8, g9, g10, g11, g12⟩, -⟩ := sq_cells (HA.out.ext HX1.out)
    go_wp2_with fail
    refine (UL.out _ (HE.out.trans HX1.out)).mono ?_; rintro e w2 ⟨rfl, hx2⟩
    clear g0 g1 g2 g3 g4 g5 g6 g7 g8 g9 g10 g11 g12
    have HX := Lib.hid (HX1.out.trans hx2)
    have q0 := (HR.out.ext HX.out).cell (i := 0) (v := .int .i64 0) rfl
    have q1 := (HR.out.ext HX.out).cell (i := 1) (v := .slice none 0 0) rfl
    have f0 := (HR.out.ext HX.out).free (i := 0)
    have f1 := (HR.out.ext HX.out).free (i := 1)
    go_wp2
    exact bodyPost_ret (v := .agg #[.int .i64 (cdF (lvE xL 64)), .slice none 0 0]) (by simp [results, Tryz.results41, go_sem, q0, q1]) rfl ⟨by rw [HF.out]; rfl, by
      have e := HE.out.trans HX.out
      repeat refine Ext.setCell ?_ (by exact Nat.le_succ _) _
      exact e⟩
  · exact absurd hk (by decide)
set_option maxRecDepth 20000 in
set_option maxHeartbeats 4000000 in
theorem rask_2 (key : Bool) (f : Fall) (gm ga gb gc gd gx gy : Int) (xL x0 x1 x2 x3 : List Int) (vL v0 v1 v2 v3 : Value) (w : World) (hk : okK key 2 = true) (hf : f = if ptB ⟨2, gm, ga, gb, gc, gd, gx, gy, xL, x0, x1, x2, x3⟩ then liE ⟨2, gm, ga, gb, gc, gd, gx, gy, xL, x0, x1, x2, x3⟩ else range) (h : SqIs w ⟨2, gm, ga, gb, gc, gd, gx, gy, xL, x0, x1, x2, x3⟩ vL v0 v1 v2 v3) : Calls Tryz.prog 41 #[.bool key, sqV 2 gm ga gb gc gd gx gy vL v0 v1 v2 v3] w (CdPost w f) := by
  have UL := Lib.hid (fun w' (k : Ext w w') => rlev_any xL 64 vL w' (h.1.ext k))
  have U0 := Lib.hid (fun w' (k : Ext w w') => rlev_any x0 16 v0 w' (h.2.1.ext k))
  have U1 := Lib.hid (fun w' (k : Ext w w') => rlev_any x1 16 v1 w' (h.2.2.1.ext k))
  have U2 := Lib.hid (fun w' (k : Ext w w') => rlev_any x2 16 v2 w' (h.2.2.2.1.ext k))
  have U3 := Lib.hid (fun w' (k : Ext w w') => rlev_any x3 16 v3 w' (h.2.2.2.2.ext k))
  obtain ⟨aL, lL, cL, rfl⟩ := h.1.slf
  obtain ⟨a0, l0, c0, rfl⟩ := h.2.1.slf
  obtain ⟨a1, l1, c1, rfl⟩ := h.2.2.1.slf
  obtain ⟨a2, l2, c2, rfl⟩ := h.2.2.2.1.slf
  obtain ⟨a3, l3, c3, rfl⟩ := h.2.2.2.2.slf
  have UP := Lib.hid (fun w' => rpts_any ⟨2, gm, ga, gb, gc, gd, gx, gy, xL, x0, x1, x2, x3⟩ _ _ _ _ _ w' (by show (0 : Int) ≤ 2 ∧ (2 : Int) ≤ 3; decide) h.1.slf h.2.1.slf h.2.2.1.slf h.2.2.2.1.slf h.2.2.2.2.slf)
  obtain ⟨pb, hpb⟩ : ∃ b, ptB ⟨2, gm, ga, gb, gc, gd, gx, gy, xL, x0, x1, x2, x3⟩ = b := ⟨_, rfl⟩
  rw [hpb] at UP hf
  have HF : Hid (f = if pb then lvE xL 64 else range) := hf
  clear hf hpb h
  have A0 := (BoxIs.new w #[.int .i64 2, .int .i64 gm, .int .i64 ga, .int .i64 gb, .int .i64 gc, .int .i64 gd, .int .i64 gx, .int .i64 gy, .slice aL lL cL, .slice a0 l0 c0, .slice a1 l1 c1, .slice a2 l2 c2, .slice a3 l3 c3] 42).ext ((Ext.refl _).alloc (.cells #[.int .i64 0, .slice none 0 0] 46))
  have A1 := BoxIs.new (w.alloc (.cells #[.int .i64 2, .int .i64 gm, .int .i64 ga, .int .i64 gb, .int .i64 gc, .int .i64 gd, .int .i64 gx, .int .i64 gy, .slice aL lL cL, .slice a0 l0 c0, .slice a1 l1 c1, .slice a2 l2 c2, .slice a3 l3 c3] 42)) #[.int .i64 0, .slice none 0 0] 46
  have hs : (w.alloc (.cells #[.int .i64 2, .int .i64 gm, .int .i64 ga, .int .i64 gb, .int .i64 gc, .int .i64 gd, .int .i64 gx, .int .i64 gy, .slice aL lL cL, .slice a0 l0 c0, .slice a1 l1 c1, .slice a2 l2 c2, .slice a3 l3 c3] 42)).heap.size = w.heap.size + 1 := by simp
  rw [hs] at A1
  have E2 := ((Ext.refl w).alloc (.cells #[.int .i64 2, .int .i64 gm, .int .i64 ga, .int .i64 gb, .int .i64 gc, .int .i64 gd, .int .i64 gx, .int .i64 gy, .slice aL lL cL, .slice a0 l0 c0, .slice a1 l1 c1, .slice a2 l2 c2, .slice a3 l3 c3] 42)).alloc (.cells #[.int .i64 0, .slice none 0 0] 46)
  obtain ⟨u, hu⟩ : ∃ z, (w.alloc (.cells #[.int .i64 2, .int .i64 gm, .int .i64 ga, .int .i64 gb, .int .i64 gc, .int .i64 gd, .int .i64 gx, .int .i64 gy, .slice aL lL cL, .slice a0 l0 c0, .slice a1 l1 c1, .slice a2 l2 c2, .slice a3 l3 c3] 42)).alloc (.cells #[.int .i64 0, .slice none 0 0] 46) = z := ⟨_, rfl⟩
  rw [hu] at A0 A1 E2
  have HA := Lib.hid A0
  have HR := Lib.hid A1
  have HE := Lib.hid E2
  have HU := Lib.hid hu
  obtain ⟨⟨g0, g1, g2, g3, g4, g5, g6, g7, g8, g9, g10, g11, g12⟩, -⟩ := sq_cells A0
  clear A0 A1 E2 hu hs
  unfold sqQ sqV at UP
  unfold sqV
  cases key
  · go_enter Tryz.func41, Tryz.ntmps41
    go_wp2_with fail
    rw [HU.out]
    refine (UP.out _).mono ?_; rintro e w1 ⟨rfl, hx1⟩
    clear g0 g1 g2 g3 g4 g5 g6 g7 g8 g9 g10 g11 g12
    cases pb
    · go_wp2_with fail
      refine (fail_any _ _).mono ?_; rintro e w2 ⟨rfl, hx2⟩
      have HX := Lib.hid (hx1.trans hx2)
      have q0 := (HR.out.ext HX.out).cell (i := 0) (v := .int .i64 0) rfl
      have q1 := (HR.out.ext HX.out).cell (i := 1) (v := .slice none 0 0) rfl
      have f0 := (HR.out.ext HX.out).free (i := 0)
      have f1 := (HR.out.ext HX.out).free (i := 1)
      go_wp2
      exact bodyPost_ret (v := .agg #[.int .i64 3, .slice none 0 0]) (by simp [results, Tryz.results41, go_sem, q0, q1]) rfl ⟨by rw [HF.out]; rfl, by
        have e := HE.out.trans HX.out
        repeat refine Ext.setCell ?_ (by exact Nat.le_succ _) _
        exact e⟩
    have HX1 := Lib.hid hx1
    clear hx1
    obtain ⟨⟨g0, g1, g2, g3, g4, g5, g6, g7, g8, g9, g10, g11, g12⟩, -⟩ := sq_cells (HA.out.ext HX1.out)
    go_wp2_with fail
    refine (UL.out _ (HE.out.trans HX1.out)).mono ?_; rintro e w2 ⟨rfl, hx2⟩
    clear g0 g1 g2 g3 g4 g5 g6 g7 g8 g9 g10 g11 g12
    have HX := Lib.hid (HX1.out.trans hx2)
    have q0 := (HR.out.ext HX.out).cell (i := 0) (v := .int .i64 0) rfl
    have q1 := (HR.out.ext HX.out).cell (i := 1) (v := .slice none 0 0) rfl
    have f0 := (HR.out.ext HX.out).free (i := 0)
    have f1 := (HR.out.ext HX.out).free (i := 1)
    go_wp2
    exact bodyPost_ret (v := .agg #[.int .i64 (cdF (lvE xL 64)), .slice none 0 0]) (by simp [results, Tryz.results41, go_sem, q0, q1]) rfl ⟨by rw [HF.out]; rfl, by
      have e := HE.out.trans HX.out
      repeat refine Ext.setCell ?_ (by exact Nat.le_succ _) _
      exact e⟩
  · go_enter Tryz.func41, Tryz.ntmps41
    go_wp2_with fail
    rw [HU.out]
    refine (UP.out _).mono ?_; rintro e w1 ⟨rfl, hx1⟩
    clear g0 g1 g2 g3 g4 g5 g6 g7 g8 g9 g10 g11 g12
    cases pb
    · go_wp2_with fail
      refine (fail_any _ _).mono ?_; rintro e w2 ⟨rfl, hx2⟩
      have HX := Lib.hid (hx1.trans hx2)
      have q0 := (HR.out.ext HX.out).cell (i := 0) (v := .int .i64 0) rfl
      have q1 := (HR.out.ext HX.out).cell (i := 1) (v := .slice none 0 0) rfl
      have f0 := (HR.out.ext HX.out).free (i := 0)
      have f1 := (HR.out.ext HX.out).free (i := 1)
      go_wp2
      exact bodyPost_ret (v := .agg #[.int .i64 3, .slice none 0 0]) (by simp [results, Tryz.results41, go_sem, q0, q1]) rfl ⟨by rw [HF.out]; rfl, by
        have e := HE.out.trans HX.out
        repeat refine Ext.setCell ?_ (by exact Nat.le_succ _) _
        exact e⟩
    have HX1 := Lib.hid hx1
    clear hx1
    obtain ⟨⟨g0, g1, g2, g3, g4, g5, g6, g7, g8, g9, g10, g11, g12⟩, -⟩ := sq_cells (HA.out.ext HX1.out)
    go_wp2_with fail
    refine (UL.out _ (HE.out.trans HX1.out)).mono ?_; rintro e w2 ⟨rfl, hx2⟩
    clear g0 g1 g2 g3 g4 g5 g6 g7 g8 g9 g10 g11 g12
    have HX := Lib.hid (HX1.out.trans hx2)
    have q0 := (HR.out.ext HX.out).cell (i := 0) (v := .int .i64 0) rfl
    have q1 := (HR.out.ext HX.out).cell (i := 1) (v := .slice none 0 0) rfl
    have f0 := (HR.out.ext HX.out).free (i := 0)
    have f1 := (HR.out.ext HX.out).free (i := 1)
    go_wp2
    exact bodyPost_ret (v := .agg #[.int .i64 (cdF (lvE xL 64)), .slice none 0 0]) (by simp [results, Tryz.results41, go_sem, q0, q1]) rfl ⟨by rw [HF.out]; rfl, by
      have e := HE.out.trans HX.out
      repeat refine Ext.setCell ?_ (by exact Nat.le_succ _) _
      exact e⟩
set_option maxRecDepth 20000 in
set_option maxHeartbeats 4000000 in
theorem rask_3 (key : Bool) (f : Fall) (gm ga gb gc gd gx gy : Int) (xL x0 x1 x2 x3 : List Int) (vL v0 v1 v2 v3 : Value) (w : World) (hk : okK key 3 = true) (hf : f = if ptB ⟨3, gm, ga, gb, gc, gd, gx, gy, xL, x0, x1, x2, x3⟩ then liE ⟨3, gm, ga, gb, gc, gd, gx, gy, xL, x0, x1, x2, x3⟩ else range) (h : SqIs w ⟨3, gm, ga, gb, gc, gd, gx, gy, xL, x0, x1, x2, x3⟩ vL v0 v1 v2 v3) : Calls Tryz.prog 41 #[.bool key, sqV 3 gm ga gb gc gd gx gy vL v0 v1 v2 v3] w (CdPost w f) := by
  have UL := Lib.hid (fun w' (k : Ext w w') => rlev_any xL 64 vL w' (h.1.ext k))
  have U0 := Lib.hid (fun w' (k : Ext w w') => rlev_any x0 16 v0 w' (h.2.1.ext k))
  have U1 := Lib.hid (fun w' (k : Ext w w') => rlev_any x1 16 v1 w' (h.2.2.1.ext k))
  have U2 := Lib.hid (fun w' (k : Ext w w') => rlev_any x2 16 v2 w' (h.2.2.2.1.ext k))
  have U3 := Lib.hid (fun w' (k : Ext w w') => rlev_any x3 16 v3 w' (h.2.2.2.2.ext k))
  obtain ⟨aL, lL, cL, rfl⟩ := h.1.slf
  obtain ⟨a0, l0, c0, rfl⟩ := h.2.1.slf
  obtain ⟨a1, l1, c1, rfl⟩ := h.2.2.1.slf
  obtain ⟨a2, l2, c2, rfl⟩ := h.2.2.2.1.slf
  obtain ⟨a3, l3, c3, rfl⟩ := h.2.2.2.2.slf
  have UP := Lib.hid (fun w' => rpts_any ⟨3, gm, ga, gb, gc, gd, gx, gy, xL, x0, x1, x2, x3⟩ _ _ _ _ _ w' (by show (0 : Int) ≤ 3 ∧ (3 : Int) ≤ 3; decide) h.1.slf h.2.1.slf h.2.2.1.slf h.2.2.2.1.slf h.2.2.2.2.slf)
  obtain ⟨pb, hpb⟩ : ∃ b, ptB ⟨3, gm, ga, gb, gc, gd, gx, gy, xL, x0, x1, x2, x3⟩ = b := ⟨_, rfl⟩
  rw [hpb] at UP hf
  have HF : Hid (f = if pb then orF (lvE x0 16) (orF (lvE x1 16) (orF (lvE x2 16) (lvE x3 16))) else range) := hf
  clear hf hpb h
  have A0 := (BoxIs.new w #[.int .i64 3, .int .i64 gm, .int .i64 ga, .int .i64 gb, .int .i64 gc, .int .i64 gd, .int .i64 gx, .int .i64 gy, .slice aL lL cL, .slice a0 l0 c0, .slice a1 l1 c1, .slice a2 l2 c2, .slice a3 l3 c3] 42).ext ((Ext.refl _).alloc (.cells #[.int .i64 0, .slice none 0 0] 46))
  have A1 := BoxIs.new (w.alloc (.cells #[.int .i64 3, .int .i64 gm, .int .i64 ga, .int .i64 gb, .int .i64 gc, .int .i64 gd, .int .i64 gx, .int .i64 gy, .slice aL lL cL, .slice a0 l0 c0, .slice a1 l1 c1, .slice a2 l2 c2, .slice a3 l3 c3] 42)) #[.int .i64 0, .slice none 0 0] 46
  have hs : (w.alloc (.cells #[.int .i64 3, .int .i64 gm, .int .i64 ga, .int .i64 gb, .int .i64 gc, .int .i64 gd, .int .i64 gx, .int .i64 gy, .slice aL lL cL, .slice a0 l0 c0, .slice a1 l1 c1, .slice a2 l2 c2, .slice a3 l3 c3] 42)).heap.size = w.heap.size + 1 := by simp
  rw [hs] at A1
  have E2 := ((Ext.refl w).alloc (.cells #[.int .i64 3, .int .i64 gm, .int .i64 ga, .int .i64 gb, .int .i64 gc, .int .i64 gd, .int .i64 gx, .int .i64 gy, .slice aL lL cL, .slice a0 l0 c0, .slice a1 l1 c1, .slice a2 l2 c2, .slice a3 l3 c3] 42)).alloc (.cells #[.int .i64 0, .slice none 0 0] 46)
  obtain ⟨u, hu⟩ : ∃ z, (w.alloc (.cells #[.int .i64 3, .int .i64 gm, .int .i64 ga, .int .i64 gb, .int .i64 gc, .int .i64 gd, .int .i64 gx, .int .i64 gy, .slice aL lL cL, .slice a0 l0 c0, .slice a1 l1 c1, .slice a2 l2 c2, .slice a3 l3 c3] 42)).alloc (.cells #[.int .i64 0, .slice none 0 0] 46) = z := ⟨_, rfl⟩
  rw [hu] at A0 A1 E2
  have HA := Lib.hid A0
  have HR := Lib.hid A1
  have HE := Lib.hid E2
  have HU := Lib.hid hu
  obtain ⟨⟨g0, g1, g2, g3, g4, g5, g6, g7, g8, g9, g10, g11, g12⟩, -⟩ := sq_cells A0
  clear A0 A1 E2 hu hs
  unfold sqQ sqV at UP
  unfold sqV
  cases key
  · go_enter Tryz.func41, Tryz.ntmps41
    go_wp2_with fail
    rw [HU.out]
    refine (UP.out _).mono ?_; rintro e w1 ⟨rfl, hx1⟩
    clear g0 g1 g2 g3 g4 g5 g6 g7 g8 g9 g10 g11 g12
    cases pb
    · go_wp2_with fail
      refine (fail_any _ _).mono ?_; rintro e w2 ⟨rfl, hx2⟩
      have HX := Lib.hid (hx1.trans hx2)
      have q0 := (HR.out.ext HX.out).cell (i := 0) (v := .int .i64 0) rfl
      have q1 := (HR.out.ext HX.out).cell (i := 1) (v := .slice none 0 0) rfl
      have f0 := (HR.out.ext HX.out).free (i := 0)
      have f1 := (HR.out.ext HX.out).free (i := 1)
      go_wp2
      exact bodyPost_ret (v := .agg #[.int .i64 3, .slice none 0 0]) (by simp [results, Tryz.results41, go_sem, q0, q1]) rfl ⟨by rw [HF.out]; rfl, by
        have e := HE.out.trans HX.out
        repeat refine Ext.setCell ?_ (by exact Nat.le_succ _) _
        exact e⟩
    have HX1 := Lib.hid hx1
    clear hx1
    obtain ⟨⟨g0, g1, g2, g3, g4, g5, g6, g7, g8, g9, g10, g11, g12⟩, -⟩ := sq_cells (HA.out.ext HX1.out)
    go_wp2_with fail
    refine wp_loop_rounds 5 ?_
    rw [rounds_succ]
    go_wp2_with fail
    clear g0 g1 g2 g3 g4 g5 g6 g7 g8 g9 g10 g11 g12
    refine (U0.out _ (HE.out.trans HX1.out)).mono ?_; rintro e w2 ⟨rfl, hx2⟩
    have np0 := lv_np x0 16
    have UO := fun w' => ok_any (cdF (lvE x0 16)) (.slice none 0 0) w'
    rw [np_ok np0] at UO
    have UO := Lib.hid UO
    obtain ⟨fe, hfe⟩ : ∃ f, lvE x0 16 = f := ⟨_, rfl⟩
    rw [hfe] at UO HF ⊢
    have N3 := BoxIs.new w2 #[.int .i64 (cdF fe), .slice none 0 0] 46
    have X3 := (Ext.refl w2).alloc (.cells #[.int .i64 (cdF fe), .slice none 0 0] 46)
    obtain ⟨w3, hw3⟩ : ∃ z, w2.alloc (.cells #[.int .i64 (cdF fe), .slice none 0 0] 46) = z := ⟨_, rfl⟩
    rw [hw3] at N3 X3
    have HN := Lib.hid N3
    have HX2 := Lib.hid (HX1.out.trans (hx2.trans X3))
    have HW3 := Lib.hid hw3
    clear N3 X3 hw3 hx2 hfe np0
    go_wp2_with fail
    rw [HW3.out]
    clear HW3
    refine (UO.out _).mono ?_; rintro e w4 ⟨rfl, hx4⟩
    cases fe with
    | some e =>
      have n0 := (HN.out.ext hx4).cell (i := 0) (v := .int .i64 (cdF (some e))) rfl
      have n1 := (HN.out.ext hx4).cell (i := 1) (v := .slice none 0 0) rfl
      have HX := Lib.hid (HX2.out.trans hx4)
      have q0 := (HR.out.ext HX.out).cell (i := 0) (v := .int .i64 0) rfl
      have q1 := (HR.out.ext HX.out).cell (i := 1) (v := .slice none 0 0) rfl
      have f0 := (HR.out.ext HX.out).free (i := 0)
      have f1 := (HR.out.ext HX.out).free (i := 1)
      go_wp2
      exact bodyPost_ret (v := .agg #[.int .i64 (cdF (some e)), .slice none 0 0]) (by simp [results, Tryz.results41, go_sem, q0, q1]) rfl ⟨by rw [HF.out]; rfl, by
        have e := HE.out.trans HX.out
        repeat refine Ext.setCell ?_ (by exact Nat.le_succ _) _
        exact e⟩
    | none =>
      have HY2 := Lib.hid (HX2.out.trans hx4)
      obtain ⟨⟨g0, g1, g2, g3, g4, g5, g6, g7, g8, g9, g10, g11, g12⟩, -⟩ := sq_cells (HA.out.ext HY2.out)
      clear hx4 HN UO HX2
      go_wp2_with fail
      rw [rounds_succ]
      go_wp2_with fail
      clear g0 g1 g2 g3 g4 g5 g6 g7 g8 g9 g10 g11 g12
      refine (U1.out _ (HE.out.trans HY2.out)).mono ?_; rintro e w2 ⟨rfl, hx2⟩
      have np1 := lv_np x1 16
      have UO := fun w' => ok_any (cdF (lvE x1 16)) (.slice none 0 0) w'
      rw [np_ok np1] at UO
      have UO := Lib.hid UO
      obtain ⟨fe, hfe⟩ : ∃ f, lvE x1 16 = f := ⟨_, rfl⟩
      rw [hfe] at UO HF ⊢
      have N3 := BoxIs.new w2 #[.int .i64 (cdF fe), .slice none 0 0] 46
      have X3 := (Ext.refl w2).alloc (.cells #[.int .i64 (cdF fe), .slice none 0 0] 46)
      obtain ⟨w3, hw3⟩ : ∃ z, w2.alloc (.cells #[.int .i64 (cdF fe), .slice none 0 0] 46) = z := ⟨_, rfl⟩
      rw [hw3] at N3 X3
      have HN := Lib.hid N3
      have HX3 := Lib.hid (HY2.out.trans (hx2.trans X3))
      have HW3 := Lib.hid hw3
      clear N3 X3 hw3 hx2 hfe np1
      go_wp2_with fail
      rw [HW3.out]
      clear HW3
      refine (UO.out _).mono ?_; rintro e w4 ⟨rfl, hx4⟩
      cases fe with
      | some e =>
        have n0 := (HN.out.ext hx4).cell (i := 0) (v := .int .i64 (cdF (some e))) rfl
        have n1 := (HN.out.ext hx4).cell (i := 1) (v := .slice none 0 0) rfl
        have HX := Lib.hid (HX3.out.trans hx4)
        have q0 := (HR.out.ext HX.out).cell (i := 0) (v := .int .i64 0) rfl
        have q1 := (HR.out.ext HX.out).cell (i := 1) (v := .slice none 0 0) rfl
        have f0 := (HR.out.ext HX.out).free (i := 0)
        have f1 := (HR.out.ext HX.out).free (i := 1)
        go_wp2
        exact bodyPost_ret (v := .agg #[.int .i64 (cdF (some e)), .slice none 0 0]) (by simp [results, Tryz.results41, go_sem, q0, q1]) rfl ⟨by rw [HF.out]; rfl, by
          have e := HE.out.trans HX.out
          repeat refine Ext.setCell ?_ (by exact Nat.le_succ _) _
          exact e⟩
      | none =>
        have HY3 := Lib.hid (HX3.out.trans hx4)
        obtain ⟨⟨g0, g1, g2, g3, g4, g5, g6, g7, g8, g9, g10, g11, g12⟩, -⟩ := sq_cells (HA.out.ext HY3.out)
        clear hx4 HN UO HX3
        go_wp2_with fail
        rw [rounds_succ]
        go_wp2_with fail
        clear g0 g1 g2 g3 g4 g5 g6 g7 g8 g9 g10 g11 g12
        refine (U2.out _ (HE.out.trans HY3.out)).mono ?_; rintro e w2 ⟨rfl, hx2⟩
        have np2 := lv_np x2 16
        have UO := fun w' => ok_any (cdF (lvE x2 16)) (.slice none 0 0) w'
        rw [np_ok np2] at UO
        have UO := Lib.hid UO
        obtain ⟨fe, hfe⟩ : ∃ f, lvE x2 16 = f := ⟨_, rfl⟩
        rw [hfe] at UO HF ⊢
        have N3 := BoxIs.new w2 #[.int .i64 (cdF fe), .slice none 0 0] 46
        have X3 := (Ext.refl w2).alloc (.cells #[.int .i64 (cdF fe), .slice none 0 0] 46)
        obtain ⟨w3, hw3⟩ : ∃ z, w2.alloc (.cells #[.int .i64 (cdF fe), .slice none 0 0] 46) = z := ⟨_, rfl⟩
        rw [hw3] at N3 X3
        have HN := Lib.hid N3
        have HX4 := Lib.hid (HY3.out.trans (hx2.trans X3))
        have HW3 := Lib.hid hw3
        clear N3 X3 hw3 hx2 hfe np2
        go_wp2_with fail
        rw [HW3.out]
        clear HW3
        refine (UO.out _).mono ?_; rintro e w4 ⟨rfl, hx4⟩
        cases fe with
        | some e =>
          have n0 := (HN.out.ext hx4).cell (i := 0) (v := .int .i64 (cdF (some e))) rfl
          have n1 := (HN.out.ext hx4).cell (i := 1) (v := .slice none 0 0) rfl
          have HX := Lib.hid (HX4.out.trans hx4)
          have q0 := (HR.out.ext HX.out).cell (i := 0) (v := .int .i64 0) rfl
          have q1 := (HR.out.ext HX.out).cell (i := 1) (v := .slice none 0 0) rfl
          have f0 := (HR.out.ext HX.out).free (i := 0)
          have f1 := (HR.out.ext HX.out).free (i := 1)
          go_wp2
          exact bodyPost_ret (v := .agg #[.int .i64 (cdF (some e)), .slice none 0 0]) (by simp [results, Tryz.results41, go_sem, q0, q1]) rfl ⟨by rw [HF.out]; rfl, by
            have e := HE.out.trans HX.out
            repeat refine Ext.setCell ?_ (by exact Nat.le_succ _) _
            exact e⟩
        | none =>
          have HY4 := Lib.hid (HX4.out.trans hx4)
          obtain ⟨⟨g0, g1, g2, g3, g4, g5, g6, g7, g8, g9, g10, g11, g12⟩, -⟩ := sq_cells (HA.out.ext HY4.out)
          clear hx4 HN UO HX4
          go_wp2_with fail
          rw [rounds_succ]
          go_wp2_with fail
          clear g0 g1 g2 g3 g4 g5 g6 g7 g8 g9 g10 g11 g12
          refine (U3.out _ (HE.out.trans HY4.out)).mono ?_; rintro e w2 ⟨rfl, hx2⟩
          have np3 := lv_np x3 16
          have UO := fun w' => ok_any (cdF (lvE x3 16)) (.slice none 0 0) w'
          rw [np_ok np3] at UO
          have UO := Lib.hid UO
          obtain ⟨fe, hfe⟩ : ∃ f, lvE x3 16 = f := ⟨_, rfl⟩
          rw [hfe] at UO HF ⊢
          have N3 := BoxIs.new w2 #[.int .i64 (cdF fe), .slice none 0 0] 46
          have X3 := (Ext.refl w2).alloc (.cells #[.int .i64 (cdF fe), .slice none 0 0] 46)
          obtain ⟨w3, hw3⟩ : ∃ z, w2.alloc (.cells #[.int .i64 (cdF fe), .slice none 0 0] 46) = z := ⟨_, rfl⟩
          rw [hw3] at N3 X3
          have HN := Lib.hid N3
          have HX5 := Lib.hid (HY4.out.trans (hx2.trans X3))
          have HW3 := Lib.hid hw3
          clear N3 X3 hw3 hx2 hfe np3
          go_wp2_with fail
          rw [HW3.out]
          clear HW3
          refine (UO.out _).mono ?_; rintro e w4 ⟨rfl, hx4⟩
          cases fe with
          | some e =>
            have n0 := (HN.out.ext hx4).cell (i := 0) (v := .int .i64 (cdF (some e))) rfl
            have n1 := (HN.out.ext hx4).cell (i := 1) (v := .slice none 0 0) rfl
            have HX := Lib.hid (HX5.out.trans hx4)
            have q0 := (HR.out.ext HX.out).cell (i := 0) (v := .int .i64 0) rfl
            have q1 := (HR.out.ext HX.out).cell (i := 1) (v := .slice none 0 0) rfl
            have f0 := (HR.out.ext HX.out).free (i := 0)
            have f1 := (HR.out.ext HX.out).free (i := 1)
            go_wp2
            exact bodyPost_ret (v := .agg #[.int .i64 (cdF (some e)), .slice none 0 0]) (by simp [results, Tryz.results41, go_sem, q0, q1]) rfl ⟨by rw [HF.out]; rfl, by
              have e := HE.out.trans HX.out
              repeat refine Ext.setCell ?_ (by exact Nat.le_succ _) _
              exact e⟩
          | none =>
            have HY5 := Lib.hid (HX5.out.trans hx4)
            obtain ⟨⟨g0, g1, g2, g3, g4, g5, g6, g7, g8, g9, g10, g11, g12⟩, -⟩ := sq_cells (HA.out.ext HY5.out)
            clear hx4 HN UO HX5
            go_wp2_with fail
            rw [rounds_succ]
            have HX := Lib.hid HY5.out
            have q0 := (HR.out.ext HX.out).cell (i := 0) (v := .int .i64 0) rfl
            have q1 := (HR.out.ext HX.out).cell (i := 1) (v := .slice none 0 0) rfl
            have f0 := (HR.out.ext HX.out).free (i := 0)
            have f1 := (HR.out.ext HX.out).free (i := 1)
            go_wp2
            exact bodyPost_ret (v := .agg #[.int .i64 0, .slice none 0 0]) (by simp [results, Tryz.results41, go_sem, q0, q1]) rfl ⟨by rw [HF.out]; rfl, by
              have e := HE.out.trans HX.out
              repeat refine Ext.setCell ?_ (by exact Nat.le_succ _) _
              exact e⟩
  · go_enter Tryz.func41, Tryz.ntmps41
    go_wp2_with fail
    rw [HU.out]
    refine (UP.out _).mono ?_; rintro e w1 ⟨rfl, hx1⟩
    clear g0 g1 g2 g3 g4 g5 g6 g7 g8 g9 g10 g11 g12
    cases pb
    · go_wp2_with fail
      refine (fail_any _ _).mono ?_; rintro e w2 ⟨rfl, hx2⟩
      have HX := Lib.hid (hx1.trans hx2)
      have q0 := (HR.out.ext HX.out).cell (i := 0) (v := .int .i64 0) rfl
      have q1 := (HR.out.ext HX.out).cell (i := 1) (v := .slice none 0 0) rfl
      have f0 := (HR.out.ext HX.out).free (i := 0)
      have f1 := (HR.out.ext HX.out).free (i := 1)
      go_wp2
      exact bodyPost_ret (v := .agg #[.int .i64 3, .slice none 0 0]) (by simp [results, Tryz.results41, go_sem, q0, q1]) rfl ⟨by rw [HF.out]; rfl, by
        have e := HE.out.trans HX.out
        repeat refine Ext.setCell ?_ (by exact Nat.le_succ _) _
        exact e⟩
    have HX1 := Lib.hid hx1
    clear hx1
    obtain ⟨⟨g0, g1, g2, g3, g4, g5, g6, g7, g8, g9, g10, g11, g12⟩, -⟩ := sq_cells (HA.out.ext HX1.out)
    go_wp2_with fail
    refine wp_loop_rounds 5 ?_
    rw [rounds_succ]
    go_wp2_with fail
    clear g0 g1 g2 g3 g4 g5 g6 g7 g8 g9 g10 g11 g12
    refine (U0.out _ (HE.out.trans HX1.out)).mono ?_; rintro e w2 ⟨rfl, hx2⟩
    have np0 := lv_np x0 16
    have UO := fun w' => ok_any (cdF (lvE x0 16)) (.slice none 0 0) w'
    rw [np_ok np0] at UO
    have UO := Lib.hid UO
    obtain ⟨fe, hfe⟩ : ∃ f, lvE x0 16 = f := ⟨_, rfl⟩
    rw [hfe] at UO HF ⊢
    have N3 := BoxIs.new w2 #[.int .i64 (cdF fe), .slice none 0 0] 46
    have X3 := (Ext.refl w2).alloc (.cells #[.int .i64 (cdF fe), .slice none 0 0] 46)
    obtain ⟨w3, hw3⟩ : ∃ z, w2.alloc (.cells #[.int .i64 (cdF fe), .slice none 0 0] 46) = z := ⟨_, rfl⟩
    rw [hw3] at N3 X3
    have HN := Lib.hid N3
    have HX2 := Lib.hid (HX1.out.trans (hx2.trans X3))
    have HW3 := Lib.hid hw3
    clear N3 X3 hw3 hx2 hfe np0
    go_wp2_with fail
    rw [HW3.out]
    clear HW3
    refine (UO.out _).mono ?_; rintro e w4 ⟨rfl, hx4⟩
    cases fe with
    | some e =>
      have n0 := (HN.out.ext hx4).cell (i := 0) (v := .int .i64 (cdF (some e))) rfl
      have n1 := (HN.out.ext hx4).cell (i := 1) (v := .slice none 0 0) rfl
      have HX := Lib.hid (HX2.out.trans hx4)
      have q0 := (HR.out.ext HX.out).cell (i := 0) (v := .int .i64 0) rfl
      have q1 := (HR.out.ext HX.out).cell (i := 1) (v := .slice none 0 0) rfl
      have f0 := (HR.out.ext HX.out).free (i := 0)
      have f1 := (HR.out.ext HX.out).free (i := 1)
      go_wp2
      exact bodyPost_ret (v := .agg #[.int .i64 (cdF (some e)), .slice none 0 0]) (by simp [results, Tryz.results41, go_sem, q0, q1]) rfl ⟨by rw [HF.out]; rfl, by
        have e := HE.out.trans HX.out
        repeat refine Ext.setCell ?_ (by exact Nat.le_succ _) _
        exact e⟩
    | none =>
      have HY2 := Lib.hid (HX2.out.trans hx4)
      obtain ⟨⟨g0, g1, g2, g3, g4, g5, g6, g7, g8, g9, g10, g11, g12⟩, -⟩ := sq_cells (HA.out.ext HY2.out)
      clear hx4 HN UO HX2
      go_wp2_with fail
      rw [rounds_succ]
      go_wp2_with fail
      clear g0 g1 g2 g3 g4 g5 g6 g7 g8 g9 g10 g11 g12
      refine (U1.out _ (HE.out.trans HY2.out)).mono ?_; rintro e w2 ⟨rfl, hx2⟩
      have np1 := lv_np x1 16
      have UO := fun w' => ok_any (cdF (lvE x1 16)) (.slice none 0 0) w'
      rw [np_ok np1] at UO
      have UO := Lib.hid UO
      obtain ⟨fe, hfe⟩ : ∃ f, lvE x1 16 = f := ⟨_, rfl⟩
      rw [hfe] at UO HF ⊢
      have N3 := BoxIs.new w2 #[.int .i64 (cdF fe), .slice none 0 0] 46
      have X3 := (Ext.refl w2).alloc (.cells #[.int .i64 (cdF fe), .slice none 0 0] 46)
      obtain ⟨w3, hw3⟩ : ∃ z, w2.alloc (.cells #[.int .i64 (cdF fe), .slice none 0 0] 46) = z := ⟨_, rfl⟩
      rw [hw3] at N3 X3
      have HN := Lib.hid N3
      have HX3 := Lib.hid (HY2.out.trans (hx2.trans X3))
      have HW3 := Lib.hid hw3
      clear N3 X3 hw3 hx2 hfe np1
      go_wp2_with fail
      rw [HW3.out]
      clear HW3
      refine (UO.out _).mono ?_; rintro e w4 ⟨rfl, hx4⟩
      cases fe with
      | some e =>
        have n0 := (HN.out.ext hx4).cell (i := 0) (v := .int .i64 (cdF (some e))) rfl
        have n1 := (HN.out.ext hx4).cell (i := 1) (v := .slice none 0 0) rfl
        have HX := Lib.hid (HX3.out.trans hx4)
        have q0 := (HR.out.ext HX.out).cell (i := 0) (v := .int .i64 0) rfl
        have q1 := (HR.out.ext HX.out).cell (i := 1) (v := .slice none 0 0) rfl
        have f0 := (HR.out.ext HX.out).free (i := 0)
        have f1 := (HR.out.ext HX.out).free (i := 1)
        go_wp2
        exact bodyPost_ret (v := .agg #[.int .i64 (cdF (some e)), .slice none 0 0]) (by simp [results, Tryz.results41, go_sem, q0, q1]) rfl ⟨by rw [HF.out]; rfl, by
          have e := HE.out.trans HX.out
          repeat refine Ext.setCell ?_ (by exact Nat.le_succ _) _
          exact e⟩
      | none =>
        have HY3 := Lib.hid (HX3.out.trans hx4)
        obtain ⟨⟨g0, g1, g2, g3, g4, g5, g6, g7, g8, g9, g10, g11, g12⟩, -⟩ := sq_cells (HA.out.ext HY3.out)
        clear hx4 HN UO HX3
        go_wp2_with fail
        rw [rounds_succ]
        go_wp2_with fail
        clear g0 g1 g2 g3 g4 g5 g6 g7 g8 g9 g10 g11 g12
        refine (U2.out _ (HE.out.trans HY3.out)).mono ?_; rintro e w2 ⟨rfl, hx2⟩
        have np2 := lv_np x2 16
        have UO := fun w' => ok_any (cdF (lvE x2 16)) (.slice none 0 0) w'
        rw [np_ok np2] at UO
        have UO := Lib.hid UO
        obtain ⟨fe, hfe⟩ : ∃ f, lvE x2 16 = f := ⟨_, rfl⟩
        rw [hfe] at UO HF ⊢
        have N3 := BoxIs.new w2 #[.int .i64 (cdF fe), .slice none 0 0] 46
        have X3 := (Ext.refl w2).alloc (.cells #[.int .i64 (cdF fe), .slice none 0 0] 46)
        obtain ⟨w3, hw3⟩ : ∃ z, w2.alloc (.cells #[.int .i64 (cdF fe), .slice none 0 0] 46) = z := ⟨_, rfl⟩
        rw [hw3] at N3 X3
        have HN := Lib.hid N3
        have HX4 := Lib.hid (HY3.out.trans (hx2.trans X3))
        have HW3 := Lib.hid hw3
        clear N3 X3 hw3 hx2 hfe np2
        go_wp2_with fail
        rw [HW3.out]
        clear HW3
        refine (UO.out _).mono ?_; rintro e w4 ⟨rfl, hx4⟩
        cases fe with
        | some e =>
          have n0 := (HN.out.ext hx4).cell (i := 0) (v := .int .i64 (cdF (some e))) rfl
          have n1 := (HN.out.ext hx4).cell (i := 1) (v := .slice none 0 0) rfl
          have HX := Lib.hid (HX4.out.trans hx4)
          have q0 := (HR.out.ext HX.out).cell (i := 0) (v := .int .i64 0) rfl
          have q1 := (HR.out.ext HX.out).cell (i := 1) (v := .slice none 0 0) rfl
          have f0 := (HR.out.ext HX.out).free (i := 0)
          have f1 := (HR.out.ext HX.out).free (i := 1)
          go_wp2
          exact bodyPost_ret (v := .agg #[.int .i64 (cdF (some e)), .slice none 0 0]) (by simp [results, Tryz.results41, go_sem, q0, q1]) rfl ⟨by rw [HF.out]; rfl, by
            have e := HE.out.trans HX.out
            repeat refine Ext.setCell ?_ (by exact Nat.le_succ _) _
            exact e⟩
        | none =>
          have HY4 := Lib.hid (HX4.out.trans hx4)
          obtain ⟨⟨g0, g1, g2, g3, g4, g5, g6, g7, g8, g9, g10, g11, g12⟩, -⟩ := sq_cells (HA.out.ext HY4.out)
          clear hx4 HN UO HX4
          go_wp2_with fail
          rw [rounds_succ]
          go_wp2_with fail
          clear g0 g1 g2 g3 g4 g5 g6 g7 g8 g9 g10 g11 g12
          refine (U3.out _ (HE.out.trans HY4.out)).mono ?_; rintro e w2 ⟨rfl, hx2⟩
          have np3 := lv_np x3 16
          have UO := fun w' => ok_any (cdF (lvE x3 16)) (.slice none 0 0) w'
          rw [np_ok np3] at UO
          have UO := Lib.hid UO
          obtain ⟨fe, hfe⟩ : ∃ f, lvE x3 16 = f := ⟨_, rfl⟩
          rw [hfe] at UO HF ⊢
          have N3 := BoxIs.new w2 #[.int .i64 (cdF fe), .slice none 0 0] 46
          have X3 := (Ext.refl w2).alloc (.cells #[.int .i64 (cdF fe), .slice none 0 0] 46)
          obtain ⟨w3, hw3⟩ : ∃ z, w2.alloc (.cells #[.int .i64 (cdF fe), .slice none 0 0] 46) = z := ⟨_, rfl⟩
          rw [hw3] at N3 X3
          have HN := Lib.hid N3
          have HX5 := Lib.hid (HY4.out.trans (hx2.trans X3))
          have HW3 := Lib.hid hw3
          clear N3 X3 hw3 hx2 hfe np3
          go_wp2_with fail
          rw [HW3.out]
          clear HW3
          refine (UO.out _).mono ?_; rintro e w4 ⟨rfl, hx4⟩
          cases fe with
          | some e =>
            have n0 := (HN.out.ext hx4).cell (i := 0) (v := .int .i64 (cdF (some e))) rfl
            have n1 := (HN.out.ext hx4).cell (i := 1) (v := .slice none 0 0) rfl
            have HX := Lib.hid (HX5.out.trans hx4)
            have q0 := (HR.out.ext HX.out).cell (i := 0) (v := .int .i64 0) rfl
            have q1 := (HR.out.ext HX.out).cell (i := 1) (v := .slice none 0 0) rfl
            have f0 := (HR.out.ext HX.out).free (i := 0)
            have f1 := (HR.out.ext HX.out).free (i := 1)
            go_wp2
            exact bodyPost_ret (v := .agg #[.int .i64 (cdF (some e)), .slice none 0 0]) (by simp [results, Tryz.results41, go_sem, q0, q1]) rfl ⟨by rw [HF.out]; rfl, by
              have e := HE.out.trans HX.out
              repeat refine Ext.setCell ?_ (by exact Nat.le_succ _) _
              exact e⟩
          | none =>
            have HY5 := Lib.hid (HX5.out.trans hx4)
            obtain ⟨⟨g0, g1, g2, g3, g4, g5, g6, g7, g8, g9, g10, g11, g12⟩, -⟩ := sq_cells (HA.out.ext HY5.out)
            clear hx4 HN UO HX5
            go_wp2_with fail
            rw [rounds_succ]
            have HX := Lib.hid HY5.out
            have q0 := (HR.out.ext HX.out).cell (i := 0) (v := .int .i64 0) rfl
            have q1 := (HR.out.ext HX.out).cell (i := 1) (v := .slice none 0 0) rfl
            have f0 := (HR.out.ext HX.out).free (i := 0)
            have f1 := (HR.out.ext HX.out).free (i := 1)
            go_wp2
            exact bodyPost_ret (v := .agg #[.int .i64 0, .slice none 0 0]) (by simp [results, Tryz.results41, go_sem, q0, q1]) rfl ⟨by rw [HF.out]; rfl, by
              have e := HE.out.trans HX.out
              repeat refine Ext.setCell ?_ (by exact Nat.le_succ _) _
              exact e⟩
theorem rasks_any (key : Bool) (q : Sq) (L s0 s1 s2 s3 : Value) (w : World) (h : SqIs w q L s0 s1 s2 s3) : Calls Tryz.prog 41 #[.bool key, sqQ q L s0 s1 s2 s3] w (CdPost w (askE key q)) := by
  obtain ⟨k, m, a, b, c, d, x, y, l, l0, l1, l2, l3⟩ := q
  unfold sqQ
  dsimp only
  cases hk : okK key k
  · refine rask_bad key _ k m a b c d x y _ _ _ _ _ w hk ?_ h.1.slf h.2.1.slf h.2.2.1.slf h.2.2.2.1.slf h.2.2.2.2.slf
    unfold askE
    rw [if_neg (by rw [hk]; decide)]
  · have hk2 := hk
    simp only [okK, Bool.and_eq_true, Bool.not_eq_true', decide_eq_true_eq] at hk2
    rcases (by omega : k = 0 ∨ k = 1 ∨ k = 2 ∨ k = 3) with rfl | rfl | rfl | rfl
    · exact rask_0 key _ m a b c d x y l l0 l1 l2 l3 _ _ _ _ _ w hk (by unfold askE; rw [if_pos hk]) h
    · exact rask_1 key _ m a b c d x y l l0 l1 l2 l3 _ _ _ _ _ w hk (by unfold askE; rw [if_pos hk]) h
    · exact rask_2 key _ m a b c d x y l l0 l1 l2 l3 _ _ _ _ _ w hk (by unfold askE; rw [if_pos hk]) h
    · exact rask_3 key _ m a b c d x y l l0 l1 l2 l3 _ _ _ _ _ w hk (by unfold askE; rw [if_pos hk]) h
end Go.Proofs.YtpofabebmeickaaGreatDoor

