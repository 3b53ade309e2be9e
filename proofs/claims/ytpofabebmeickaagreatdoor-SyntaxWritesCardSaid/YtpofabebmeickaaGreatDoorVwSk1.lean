/- kinlaw20.Weighs, few, copied. -/
import Derived.Test.YtpofabebmeickaaGreatDoorVwOpSq
import Derived.Test.YtpofabebmeickaaGreatDoorVwSz9
import Derived.Test.YtpofabebmeickaaGreatDoorVwZb
namespace Go.Proofs.YtpofabebmeickaaGreatDoor
set_option linter.unusedVariables false
set_option linter.unusedSimpArgs false
open Go.RowKit Go.Extern.Stop Go.Stop Go.Extern

def wg1 (n : Nat) : Int := min (n : Int) 20001
def wgS (q : Sq) : Int := wg1 q.L.length + wg1 q.s0.length + wg1 q.s1.length + wg1 q.s2.length + wg1 q.s3.length
theorem wg1_in (n : Nat) : 0 ≤ wg1 n ∧ wg1 n ≤ 20001 := by unfold wg1; omega
theorem wgS_in (q : Sq) : 0 ≤ wgS q ∧ wgS q ≤ 100005 := by
  unfold wgS
  have := wg1_in q.L.length
  have := wg1_in q.s0.length
  have := wg1_in q.s1.length
  have := wg1_in q.s2.length
  have := wg1_in q.s3.length
  omega
theorem wgS_out {q : Sq} (h : wgS q ≤ 20000) : q.L.length ≤ 20000 ∧ q.s0.length ≤ 20000 ∧ q.s1.length ≤ 20000 ∧ q.s2.length ≤ 20000 ∧ q.s3.length ≤ 20000 := by
  unfold wgS wg1 at h
  omega
theorem RawSq.is {w : World} {q : Sq} {L s0 s1 s2 s3 : Value} (h : RawSq w q L s0 s1 s2 s3) (hw : wgS q ≤ 20000) : SqIs w q L s0 s1 s2 s3 := by
  obtain ⟨h1, h2, h3, h4, h5⟩ := wgS_out hw
  exact ⟨⟨h.1, by omega⟩, ⟨h.2.1, by omega⟩, ⟨h.2.2.1, by omega⟩, ⟨h.2.2.2.1, by omega⟩, ⟨h.2.2.2.2, by omega⟩⟩
def wsum (l : List Sq) : Nat → Int
  | 0 => 0
  | i + 1 => wsum l i + wgS (l.getD i sq0)
theorem wsum_in (l : List Sq) : ∀ i, 0 ≤ wsum l i ∧ wsum l i ≤ 100005 * i
  | 0 => ⟨Int.le_refl _, Int.le_refl _⟩
  | i + 1 => by
    have := wsum_in l i
    have := wgS_in (l.getD i sq0)
    show 0 ≤ wsum l i + _ ∧ wsum l i + _ ≤ _
    omega
theorem wsum_mono (l : List Sq) {i j : Nat} (h : i ≤ j) : wsum l i ≤ wsum l j := by
  induction j with
  | zero => rw [Nat.le_zero.1 h]; exact Int.le_refl _
  | succ j ih =>
    by_cases e : i = j + 1
    · rw [e]; exact Int.le_refl _
    · have := ih (by omega)
      have := wgS_in (l.getD j sq0)
      show _ ≤ wsum l j + _
      omega
def fewB (l : List Sq) : Bool := decide (l.length ≤ 100) && decide (wsum l (min l.length 100) ≤ 20000)
theorem fewB_out {l : List Sq} (h : fewB l = true) : l.length ≤ 100 ∧ ∀ (i : Nat) (q : Sq), l[i]? = some q → wgS q ≤ 20000 := by
  unfold fewB at h
  simp only [Bool.and_eq_true, decide_eq_true_eq] at h
  obtain ⟨h1, h2⟩ := h
  refine ⟨h1, fun i q hq => ?_⟩
  obtain ⟨hi, e⟩ := List.getElem?_eq_some_iff.1 hq
  have m := wsum_mono l (show i + 1 ≤ min l.length 100 by omega)
  have n := (wsum_in l i).1
  have e2 : l.getD i sq0 = q := by rw [List.getD_eq_getElem?_getD, hq]; rfl
  have : wsum l (i + 1) = wsum l i + wgS (l.getD i sq0) := rfl
  rw [e2] at this
  omega

set_option maxRecDepth 20000 in
set_option maxHeartbeats 4000000 in
theorem weighs_any (q : Sq) (L s0 s1 s2 s3 : Value) (w : World) (h : RawSq w q L s0 s1 s2 s3) : Calls Tryz.prog 23 #[sqQ q L s0 s1 s2 s3] w fun e w' => e = .returned (.int .i64 (wgS q)) ∧ Ext w w' := by
  obtain ⟨aL, cL, rfl⟩ := h.1.form
  obtain ⟨a0, c0, rfl⟩ := h.2.1.form
  obtain ⟨a1, c1, rfl⟩ := h.2.2.1.form
  obtain ⟨a2, c2, rfl⟩ := h.2.2.2.1.form
  obtain ⟨a3, c3, rfl⟩ := h.2.2.2.2.form
  clear h
  obtain ⟨gk, gm, ga, gb, gc, gd, gx, gy, xL, x0, x1, x2, x3⟩ := q
  unfold sqQ sqV wgS
  dsimp only
  obtain ⟨lL, hlL⟩ : ∃ n, xL.length = n := ⟨_, rfl⟩
  obtain ⟨l0, hl0⟩ : ∃ n, x0.length = n := ⟨_, rfl⟩
  obtain ⟨l1, hl1⟩ : ∃ n, x1.length = n := ⟨_, rfl⟩
  obtain ⟨l2, hl2⟩ : ∃ n, x2.length = n := ⟨_, rfl⟩
  obtain ⟨l3, hl3⟩ : ∃ n, x3.length = n := ⟨_, rfl⟩
  rw [hlL, hl0, hl1, hl2, hl3]
  clear hlL hl0 hl1 hl2 hl3
  obtain ⟨mL, hmL⟩ : ∃ z, wg1 lL = z := ⟨_, rfl⟩
  obtain ⟨m0, hm0⟩ : ∃ z, wg1 l0 = z := ⟨_, rfl⟩
  obtain ⟨m1, hm1⟩ : ∃ z, wg1 l1 = z := ⟨_, rfl⟩
  obtain ⟨m2, hm2⟩ : ∃ z, wg1 l2 = z := ⟨_, rfl⟩
  obtain ⟨m3, hm3⟩ : ∃ z, wg1 l3 = z := ⟨_, rfl⟩
  have bL := wg1_in lL
  have b0 := wg1_in l0
  have b1 := wg1_in l1
  have b2 := wg1_in l2
  have b3 := wg1_in l3
  rw [hmL] at bL
  rw [hm0] at b0
  rw [hm1] at b1
  rw [hm2] at b2
  rw [hm3] at b3
  rw [hmL, hm0, hm1, hm2, hm3]
  unfold wg1 at hmL hm0 hm1 hm2 hm3
  have e0 : IntKind.i64.wrap (mL + m0) = mL + m0 := by rw [IntKind.wrap_i64]; omega
  have e1 : IntKind.i64.wrap (mL + m0 + m1) = mL + m0 + m1 := by rw [IntKind.wrap_i64]; omega
  have e2 : IntKind.i64.wrap (mL + m0 + m1 + m2) = mL + m0 + m1 + m2 := by rw [IntKind.wrap_i64]; omega
  have e3 : IntKind.i64.wrap (mL + m0 + m1 + m2 + m3) = mL + m0 + m1 + m2 + m3 := by rw [IntKind.wrap_i64]; omega
  clear bL b0 b1 b2 b3
  have B0 := BoxIs.new w #[.int .i64 gk, .int .i64 gm, .int .i64 ga, .int .i64 gb, .int .i64 gc, .int .i64 gd, .int .i64 gx, .int .i64 gy, .slice aL lL cL, .slice a0 l0 c0, .slice a1 l1 c1, .slice a2 l2 c2, .slice a3 l3 c3] 36
  have E0 := (Ext.refl w).alloc (.cells #[.int .i64 gk, .int .i64 gm, .int .i64 ga, .int .i64 gb, .int .i64 gc, .int .i64 gd, .int .i64 gx, .int .i64 gy, .slice aL lL cL, .slice a0 l0 c0, .slice a1 l1 c1, .slice a2 l2 c2, .slice a3 l3 c3] 36)
  obtain ⟨u, hu⟩ : ∃ z, w.alloc (.cells #[.int .i64 gk, .int .i64 gm, .int .i64 ga, .int .i64 gb, .int .i64 gc, .int .i64 gd, .int .i64 gx, .int .i64 gy, .slice aL lL cL, .slice a0 l0 c0, .slice a1 l1 c1, .slice a2 l2 c2, .slice a3 l3 c3] 36) = z := ⟨_, rfl⟩
  rw [hu] at B0 E0
  have HE := Lib.hid E0
  have HU := Lib.hid hu
  have HB := Lib.hid B0
  obtain ⟨⟨g0, g1, g2, g3, g4, g5, g6, g7, g8, g9, g10, g11, g12⟩, -⟩ := sq_cells B0
  clear B0 E0 hu
  go_enter Tryz.func23, Tryz.ntmps23
  go_wp2_with fail
  rw [HU.out]
  refine wp_loop_rounds 5 ?_
  rw [rounds_succ]
  go_wp2
  rw [rounds_succ]
  go_wp2
  rw [rounds_succ]
  go_wp2
  rw [rounds_succ]
  go_wp2
  rw [rounds_succ]
  go_wp2
  go_ret
  exact ⟨rfl, HE.out⟩
theorem Sqs.sel {w : World} {a : Option Addr} {n cap : Nat} {l : List Sq} (h : Sqs w (.slice a n cap) l) (hn : 0 < l.length) : ∃ g off, a = some ⟨g, off, none⟩ ∧ ∀ i q, l[i]? = some q → ∃ L s0 s1 s2 s3, (∀ j u, (sqC q L s0 s1 s2 s3)[j]? = some u → w.cell? ⟨g, off + i * 13 + j, none⟩ = some u) ∧ RawSq w q L s0 s1 s2 s3 := by
  obtain ⟨a', cap', e, -, -, h3⟩ := h
  simp only [Value.slice.injEq] at e
  obtain ⟨rfl, -, -⟩ := e
  exact h3 hn
set_option maxRecDepth 20000 in
set_option maxHeartbeats 4000000 in
theorem few_any20 (l : List Sq) (v : Value) (w : World) (h : Sqs w v l) : Calls Tryz.prog 8 #[v] w fun e w' => e = .returned (.bool (fewB l)) ∧ Ext w w' := by
  have hm := h.small
  obtain ⟨la, lc, rfl⟩ := h.form
  obtain ⟨n, hn⟩ : ∃ n, l.length = n := ⟨_, rfl⟩
  have HL : Hid (Sqs w (.slice la n lc) l) := by show Sqs _ _ _; rw [← hn]; exact h
  have HN := Lib.hid hn
  have HF : Hid (fewB l = (decide (n ≤ 100) && decide (wsum l (min n 100) ≤ 20000))) := by show _ = _; unfold fewB; rw [hn]
  rw [hn] at hm ⊢
  unfold maxLen at hm
  clear h hn
  go_enter Tryz.func8, Tryz.ntmps8
  go_wp2_with fail
  go_loopw [3, 4] (fun sv iv wr => ∃ i : Nat, (i ≤ n ∧ i ≤ 100) ∧ iv = .int .i64 (i : Int) ∧ sv = .int .i64 (wsum l i) ∧ Hid (Ext w wr)) (fun _ iv _ => n - (intOf iv).toNat)
  case atStart => exact ⟨0, ⟨Nat.zero_le _, Nat.zero_le _⟩, rfl, rfl, Ext.refl w⟩
  case round =>
    obtain ⟨i, ⟨hi, hi2⟩, rfl, rfl, HE⟩ := hrel
    have b0 := wsum_in l i
    by_cases hlt : i < n
    · by_cases h1 : i < 100
      · obtain ⟨g, off, rfl, hs⟩ := HL.out.sel (by rw [HN.out]; omega)
        obtain ⟨q, hq⟩ : ∃ q, l[i]? = some q := ⟨_, List.getElem?_eq_getElem (by rw [HN.out]; exact hlt)⟩
        obtain ⟨vL, v0, v1, v2, v3, hc, hr⟩ := hs i q hq
        have HS : Hid (wsum l (i + 1) = wsum l i + wgS q) := by show wsum l i + wgS (l.getD i sq0) = _; rw [List.getD_eq_getElem?_getD, hq]; rfl
        have bw := wgS_in q
        have UW := Lib.hid (fun w' (h : Ext w w') => weighs_any q _ _ _ _ _ w' (hr.ext h))
        obtain ⟨aL, cL, rfl⟩ := hr.1.form
        obtain ⟨a0, c0, rfl⟩ := hr.2.1.form
        obtain ⟨a1, c1, rfl⟩ := hr.2.2.1.form
        obtain ⟨a2, c2, rfl⟩ := hr.2.2.2.1.form
        obtain ⟨a3, c3, rfl⟩ := hr.2.2.2.2.form
        have k0 : wr.cell? ⟨g, off + i * 13, none⟩ = some (.int .i64 q.k) := HE.out.cell (hc 0 _ rfl)
        have k1 : wr.cell? ⟨g, off + i * 13 + 1, none⟩ = some (.int .i64 q.m) := HE.out.cell (hc 1 _ rfl)
        have k2 : wr.cell? ⟨g, off + i * 13 + 2, none⟩ = some (.int .i64 q.a) := HE.out.cell (hc 2 _ rfl)
        have k3 : wr.cell? ⟨g, off + i * 13 + 3, none⟩ = some (.int .i64 q.b) := HE.out.cell (hc 3 _ rfl)
        have k4 : wr.cell? ⟨g, off + i * 13 + 4, none⟩ = some (.int .i64 q.c) := HE.out.cell (hc 4 _ rfl)
        have k5 : wr.cell? ⟨g, off + i * 13 + 5, none⟩ = some (.int .i64 q.d) := HE.out.cell (hc 5 _ rfl)
        have k6 : wr.cell? ⟨g, off + i * 13 + 6, none⟩ = some (.int .i64 q.x) := HE.out.cell (hc 6 _ rfl)
        have k7 : wr.cell? ⟨g, off + i * 13 + 7, none⟩ = some (.int .i64 q.y) := HE.out.cell (hc 7 _ rfl)
        have k8 : wr.cell? ⟨g, off + i * 13 + 8, none⟩ = some (.slice aL q.L.length cL) := HE.out.cell (hc 8 _ rfl)
        have k9 : wr.cell? ⟨g, off + i * 13 + 9, none⟩ = some (.slice a0 q.s0.length c0) := HE.out.cell (hc 9 _ rfl)
        have k10 : wr.cell? ⟨g, off + i * 13 + 10, none⟩ = some (.slice a1 q.s1.length c1) := HE.out.cell (hc 10 _ rfl)
        have k11 : wr.cell? ⟨g, off + i * 13 + 11, none⟩ = some (.slice a2 q.s2.length c2) := HE.out.cell (hc 11 _ rfl)
        have k12 : wr.cell? ⟨g, off + i * 13 + 12, none⟩ = some (.slice a3 q.s3.length c3) := HE.out.cell (hc 12 _ rfl)
        have UZ := Lib.hid (UW.out _ HE.out)
        clear hs hc hr hq UW
        revert HS bw b0 UZ
        generalize wsum l i = s
        generalize wgS q = z
        intro b0 HS bw UZ
        have e1 : IntKind.i64.wrap (s + z) = s + z := by rw [IntKind.wrap_i64]; omega
        have x1 : (0 : Int) ≤ (i : Int) := by omega
        have x2 : (i : Int) < (n : Int) := by omega
        have x3 : (i : Int) < 100 := by omega
        unfold sqQ sqV at UZ
        go_wp2_with fail
        refine (UZ.out).mono ?_; rintro e w1 ⟨rfl, hx1⟩
        have HX := Lib.hid (HE.out.trans hx1)
        clear hx1 k0 k1 k2 k3 k4 k5 k6 k7 k8 k9 k10 k11 k12
        go_wp2
        go_roundw
        case rel => exact ⟨i + 1, ⟨by omega, by omega⟩, by go_num, by rw [HS.out], HX.out⟩
        case measure => simp [intOf] <;> omega
      · have h41 : ¬ n ≤ 100 := by omega
        have HR : Hid (fewB l = false) := by show _ = _; rw [HF.out]; simp [h41]
        have k1 : (100 : Int) < (n : Int) := by omega
        have x3 : ¬ (i : Int) < 100 := by omega
        have x2 : (i : Int) < (n : Int) := by omega
        clear h41 b0
        go_wp2
        go_ret
        exact ⟨by rw [HR.out]; rfl, HE.out⟩
    · have h41 : n ≤ 100 := by omega
      have HR : Hid (fewB l = decide (wsum l i ≤ 20000)) := by show _ = _; rw [HF.out, show min n 100 = i by omega]; simp [h41]
      have k1 : (n : Int) ≤ 100 := by omega
      have x2 : ¬ (i : Int) < (n : Int) := by omega
      revert HR b0
      generalize wsum l i = s
      intro b0 HR
      clear h41
      by_cases hs : s ≤ 20000
      · have t1 : decide (s ≤ 20000) = true := decide_eq_true hs
        go_wp2
        go_ret
        exact ⟨by rw [HR.out, t1]; rfl, HE.out⟩
      · have t1 : decide (s ≤ 20000) = false := decide_eq_false hs
        go_wp2
        go_ret
        exact ⟨by rw [HR.out, t1]; rfl, HE.out⟩
end Go.Proofs.YtpofabebmeickaaGreatDoor

