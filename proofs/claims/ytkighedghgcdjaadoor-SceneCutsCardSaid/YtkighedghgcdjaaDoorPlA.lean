/- slices.Equal, plane.Same, at, At, New; kinref6.at, At; kinlaw6.few: contracts over this seat's translation. -/
import Derived.Test.YtkighedghgcdjaaDoorFr2
import Derived.Test.YtkighedghgcdjaaDoorCpF
import Derived.Test.YtkighedghgcdjaaDoorCop
import Derived.Test.YtkighedghgcdjaaDoorRMay
namespace Go.Proofs.YtkighedghgcdjaaDoor
set_option linter.unusedVariables false
set_option linter.unusedSimpArgs false
open Go.RowKit Go.Extern.Stop Go.Stop Go.Extern

set_option maxRecDepth 20000 in
set_option maxHeartbeats 1000000 in
theorem equal_any (xs ys : List Int) (va vb : Value) (w : World) (ha : Ints w va xs) (hb : Ints w vb ys) :
    Calls Tryd.prog 65 #[va, vb] w fun e w' => e = .returned (.bool (decide (xs = ys))) ∧ Ext w w' := by
  obtain ⟨n, hn⟩ : ∃ n, n = xs.length := ⟨_, rfl⟩
  obtain ⟨m, hm⟩ : ∃ m, m = ys.length := ⟨_, rfl⟩
  have hle := ha.2
  have hle' := hb.2
  obtain ⟨a, cap, rfl⟩ := ha.form
  obtain ⟨b, cap', rfl⟩ := hb.form
  by_cases hnm : n = m
  · rw [← hn] at ha hle ⊢
    rw [← hm, ← hnm] at hb ⊢
    rw [← hnm] at hm
    have AG := Lib.hid ha.had
    have BG := Lib.hid hb.had
    have HN := Lib.hid hn
    have HM := Lib.hid hm
    clear hn hm hnm hle' m
    go_enter Tryd.func65, Tryd.ntmps65
    go_wp2
    go_loopw [13] (fun i wr => ∃ k : Nat, k ≤ n ∧ i = .int .i64 k ∧ Ext w wr ∧ Hid (∀ j, j < k → xs[j]? = ys[j]?)) (fun i _ => n - (intOf i).toNat)
    case atStart => exact ⟨0, Nat.zero_le _, rfl, Ext.refl w, fun j hj => absurd hj (Nat.not_lt_zero _)⟩
    case round =>
      obtain ⟨k, hk, rfl, hE, HJ⟩ := hrel
      by_cases hlt : k < n
      · obtain ⟨g, off, rfl⟩ := AG.out (by omega)
        obtain ⟨g', off', rfl⟩ := BG.out (by omega)
        obtain ⟨x, hx⟩ : ∃ x, xs[k]? = some x := ⟨_, List.getElem?_eq_getElem (by rw [← HN.out]; exact hlt)⟩
        obtain ⟨y, hy⟩ : ∃ y, ys[k]? = some y := ⟨_, List.getElem?_eq_getElem (by rw [← HM.out]; exact hlt)⟩
        have cx := hE.cell (ha.at hx)
        have cy := hE.cell (hb.at hy)
        have HX := Lib.hid hx
        have HY := Lib.hid hy
        clear hx hy
        by_cases hxy : x = y
        · subst hxy
          go_wp2
          go_quiet (fail)
          go_wp2
          go_roundw
          case rel => exact ⟨k + 1, by omega, by go_num, hE.drewN _, fun j hj => by
            by_cases hjk : j = k
            · subst hjk; rw [HX.out, HY.out]
            · exact HJ.out j (by omega)⟩
          case measure => simp [intOf]; omega
        · have hne : (x != y) = true := by simpa using hxy
          have hne2 : (x == y) = false := by simpa using hxy
          go_wp2
          go_quiet (fail)
          go_wp2
          go_ret
          refine ⟨?_, hE.drewN _⟩
          have : xs ≠ ys := fun e => by
            have h1 := HX.out
            rw [e, HY.out] at h1
            exact hxy (Option.some.inj h1).symm
          simp [this]
      · go_wp2
        go_ret
        refine ⟨?_, hE⟩
        have : xs = ys := eq_of_gets (by rw [← HN.out, ← HM.out]) (fun j hj => HJ.out j (by rw [← HN.out] at hj; omega))
        simp [this]
  · have hne : ((xs.length : Int) != (ys.length : Int)) = true := by simp; omega
    have hxy : xs ≠ ys := fun e => hnm (by rw [hn, hm, e])
    have HXY := Lib.hid hxy
    clear hnm hn hm hxy ha hb
    go_enter Tryd.func65, Tryd.ntmps65
    go_wp2
    go_ret
    exact ⟨by simp [HXY.out], Ext.refl w⟩
/-- are two frames valid and the same -/
def sameB (W H : Int) (xs : List Int) (W' H' : Int) (ys : List Int) : Bool := decide (may W H xs) && (decide (W = W') && (decide (H = H') && decide (xs = ys)))
set_option maxRecDepth 20000 in
set_option maxHeartbeats 1000000 in
theorem same_any (W H W' H' : Int) (xs ys : List Int) (a b : Option Addr) (n m ca cb : Nat) (w : World) (ha : Ints w (.slice a n ca) xs) (hb : Ints w (.slice b m cb) ys) :
    Calls Tryd.prog 31 #[.agg #[.int .i64 W, .int .i64 H, .slice a n ca], .agg #[.int .i64 W', .int .i64 H', .slice b m cb]] w fun e w' => e = .returned (.bool (sameB W H xs W' H' ys)) ∧ Ext w w' := by
  have M1 := Lib.hid (fun w h => may_any W H xs a n ca w h)
  by_cases h1 : may W H xs
  · have H1 := Lib.hid h1
    by_cases h3 : W = W'
    · subst h3
      by_cases h4 : H = H'
      · subst h4
        have HR : Hid (sameB W H xs W H ys = decide (xs = ys)) := by show _ = _; unfold sameB; simp [h1]
        have Q1 := Lib.hid (fun w h k => equal_any xs ys (.slice a n ca) (.slice b m cb) w h k)
        clear h1
        go_enter Tryd.func31, Tryd.ntmps31
        go_wp2_with fail
        refine (M1.out _ (ha.ext (by repeat (first | exact Ext.refl _ | assumption | refine Ext.alloc ?_ _ | refine Ext.drew ?_ | refine Ext.drewN ?_ _ | refine Ext.setCell ?_ (by first | exact Nat.le_refl _ | (simp; done) | omega) _ | refine Ext.trans ?_ (by assumption))))).mono ?_; rintro e w1 ⟨rfl, hx1⟩
        rw [decide_eq_true H1.out]
        have p0 : w1.cell? ⟨w.heap.size, 0, none⟩ = some (.int .i64 W) := hx1.cell (by simp)
        have p1 : w1.cell? ⟨w.heap.size, 1, none⟩ = some (.int .i64 H) := hx1.cell (by simp)
        have p2 : w1.cell? ⟨w.heap.size, 2, none⟩ = some (.slice a n ca) := hx1.cell (by simp)
        have q0 : w1.cell? ⟨w.heap.size + 1, 0, none⟩ = some (.int .i64 W) := hx1.cell (by simp)
        have q1 : w1.cell? ⟨w.heap.size + 1, 1, none⟩ = some (.int .i64 H) := hx1.cell (by simp)
        have q2 : w1.cell? ⟨w.heap.size + 1, 2, none⟩ = some (.slice b m cb) := hx1.cell (by simp)
        go_wp2_with fail
        refine (Q1.out _ (ha.ext (by repeat (first | exact Ext.refl _ | assumption | refine Ext.alloc ?_ _ | refine Ext.drew ?_ | refine Ext.drewN ?_ _ | refine Ext.setCell ?_ (by first | exact Nat.le_refl _ | (simp; done) | omega) _ | refine Ext.trans ?_ (by assumption)))) (hb.ext (by repeat (first | exact Ext.refl _ | assumption | refine Ext.alloc ?_ _ | refine Ext.drew ?_ | refine Ext.drewN ?_ _ | refine Ext.setCell ?_ (by first | exact Nat.le_refl _ | (simp; done) | omega) _ | refine Ext.trans ?_ (by assumption))))).mono ?_; rintro e w2 ⟨rfl, hx2⟩
        rw [← HR.out]
        cases hd : sameB W H xs W H ys with
        | true =>
          go_wp2
          go_ret
          exact ⟨by rw [hd]; rfl, (by repeat (first | exact Ext.refl _ | assumption | refine Ext.alloc ?_ _ | refine Ext.drew ?_ | refine Ext.drewN ?_ _ | refine Ext.setCell ?_ (by first | exact Nat.le_refl _ | (simp; done) | omega) _ | refine Ext.trans ?_ (by assumption)))⟩
        | false =>
          go_wp2
          go_ret
          exact ⟨by rw [hd]; rfl, (by repeat (first | exact Ext.refl _ | assumption | refine Ext.alloc ?_ _ | refine Ext.drew ?_ | refine Ext.drewN ?_ _ | refine Ext.setCell ?_ (by first | exact Nat.le_refl _ | (simp; done) | omega) _ | refine Ext.trans ?_ (by assumption)))⟩
      · have HR : Hid (sameB W H xs W H' ys = false) := by show _ = _; unfold sameB; simp [h4]
        have b4 : (H == H') = false := by simpa using h4
        clear h1 h4
        go_enter Tryd.func31, Tryd.ntmps31
        go_wp2_with fail
        refine (M1.out _ (ha.ext (by repeat (first | exact Ext.refl _ | assumption | refine Ext.alloc ?_ _ | refine Ext.drew ?_ | refine Ext.drewN ?_ _ | refine Ext.setCell ?_ (by first | exact Nat.le_refl _ | (simp; done) | omega) _ | refine Ext.trans ?_ (by assumption))))).mono ?_; rintro e w1 ⟨rfl, hx1⟩
        rw [decide_eq_true H1.out]
        have p0 : w1.cell? ⟨w.heap.size, 0, none⟩ = some (.int .i64 W) := hx1.cell (by simp)
        have p1 : w1.cell? ⟨w.heap.size, 1, none⟩ = some (.int .i64 H) := hx1.cell (by simp)
        have q0 : w1.cell? ⟨w.heap.size + 1, 0, none⟩ = some (.int .i64 W) := hx1.cell (by simp)
        have q1 : w1.cell? ⟨w.heap.size + 1, 1, none⟩ = some (.int .i64 H') := hx1.cell (by simp)
        go_wp2
        go_ret
        exact ⟨by rw [HR.out]; rfl, (by repeat (first | exact Ext.refl _ | assumption | refine Ext.alloc ?_ _ | refine Ext.drew ?_ | refine Ext.drewN ?_ _ | refine Ext.setCell ?_ (by first | exact Nat.le_refl _ | (simp; done) | omega) _ | refine Ext.trans ?_ (by assumption)))⟩
    · have HR : Hid (sameB W H xs W' H' ys = false) := by show _ = _; unfold sameB; simp [h3]
      have b3 : (W == W') = false := by simpa using h3
      clear h1 h3
      go_enter Tryd.func31, Tryd.ntmps31
      go_wp2_with fail
      refine (M1.out _ (ha.ext (by repeat (first | exact Ext.refl _ | assumption | refine Ext.alloc ?_ _ | refine Ext.drew ?_ | refine Ext.drewN ?_ _ | refine Ext.setCell ?_ (by first | exact Nat.le_refl _ | (simp; done) | omega) _ | refine Ext.trans ?_ (by assumption))))).mono ?_; rintro e w1 ⟨rfl, hx1⟩
      rw [decide_eq_true H1.out]
      have p0 : w1.cell? ⟨w.heap.size, 0, none⟩ = some (.int .i64 W) := hx1.cell (by simp)
      have q0 : w1.cell? ⟨w.heap.size + 1, 0, none⟩ = some (.int .i64 W') := hx1.cell (by simp)
      go_wp2
      go_ret
      exact ⟨by rw [HR.out]; rfl, (by repeat (first | exact Ext.refl _ | assumption | refine Ext.alloc ?_ _ | refine Ext.drew ?_ | refine Ext.drewN ?_ _ | refine Ext.setCell ?_ (by first | exact Nat.le_refl _ | (simp; done) | omega) _ | refine Ext.trans ?_ (by assumption)))⟩
  · have HR : Hid (sameB W H xs W' H' ys = false) := by show _ = _; unfold sameB; simp [h1]
    have H1 := Lib.hid h1
    clear h1
    go_enter Tryd.func31, Tryd.ntmps31
    go_wp2_with fail
    refine (M1.out _ (ha.ext (by repeat (first | exact Ext.refl _ | assumption | refine Ext.alloc ?_ _ | refine Ext.drew ?_ | refine Ext.drewN ?_ _ | refine Ext.setCell ?_ (by first | exact Nat.le_refl _ | (simp; done) | omega) _ | refine Ext.trans ?_ (by assumption))))).mono ?_; rintro e w1 ⟨rfl, hx1⟩
    rw [decide_eq_false H1.out]
    go_wp2
    go_ret
    exact ⟨by rw [HR.out]; rfl, (by repeat (first | exact Ext.refl _ | assumption | refine Ext.alloc ?_ _ | refine Ext.drew ?_ | refine Ext.drewN ?_ _ | refine Ext.setCell ?_ (by first | exact Nat.le_refl _ | (simp; done) | omega) _ | refine Ext.trans ?_ (by assumption)))⟩
theorem few_any (W H : Int) (a : Option Addr) (n cap : Nat) (w : World) :
    Calls Tryd.prog 16 #[.agg #[.int .i64 W, .int .i64 H, .slice a n cap]] w fun e w' => e = .returned (.bool (decide ((n : Int) ≤ 5000))) ∧ Ext w w' := by
  have E1 : Ext w (w.alloc (.cells #[.int .i64 W, .int .i64 H, .slice a n cap] 24)) := (Ext.refl w).alloc _
  go_enter Tryd.func16, Tryd.ntmps16
  go_wp2
  go_ret
  exact ⟨rfl, E1⟩
/-- the nearest place inside -/
def clampI (v n : Int) : Int := max 0 (min v (n - 1))
theorem clampI_in {v n : Int} (h : 1 ≤ n) : 0 ≤ clampI v n ∧ clampI v n < n := by unfold clampI; omega
/-- the sample at a place; beyond an edge, the one at the edge -/
def atV (W H : Int) (zs : List Int) (x y : Int) : Int := zs.getD (clampI y H * W + clampI x W).toNat 0
theorem at_place {W H : Int} {zs : List Int} (h : may W H zs) (x y : Int) : ∃ k : Nat, clampI y H * W + clampI x W = (k : Int) ∧ k < zs.length ∧ 0 ≤ clampI y H * W ∧ clampI y H * W ≤ 100000 ∧ (k : Int) ≤ 100000 ∧ 0 ≤ clampI x W ∧ clampI x W ≤ 31 := by
  have hW := sideB_true h.1
  have hH := sideB_true h.2.1
  have c1 := clampI_in (v := x) (n := W) (by omega)
  have c2 := clampI_in (v := y) (n := H) (by omega)
  obtain ⟨a1, a2, a3⟩ := place_in hW.2.1 hH.2.1 h.2.2.1 c1.2 c2.2 c1.1 c2.1
  have hml := may_len h
  exact ⟨(clampI y H * W + clampI x W).toNat, by omega, by omega, a1, a2, by omega, c1.1, by omega⟩
set_option maxRecDepth 20000 in
set_option maxHeartbeats 2000000 in
theorem at_any (W H x y : Int) (zs : List Int) (a : Option Addr) (n cap : Nat) (w : World) (h : Ints w (.slice a n cap) zs) (hm : may W H zs) :
    Calls Tryd.prog 63 #[.agg #[.int .i64 W, .int .i64 H, .slice a n cap], .int .i64 x, .int .i64 y] w fun e w' => e = .returned (.int .i64 (atV W H zs x y)) ∧ Ext w w' := by
  obtain ⟨k, hk, hk1, b1, b2, b3, b4, b5⟩ := at_place hm x y
  have hW := sideB_true hm.1
  have hH := sideB_true hm.2.1
  have hl := h.len
  obtain ⟨g, off, rfl⟩ := h.had (by omega)
  have E1 : Ext w (w.alloc (.cells #[.int .i64 W, .int .i64 H, .slice (some ⟨g, off, none⟩) n cap] 24)) := (Ext.refl w).alloc _
  have c1 := E1.cell (h.at (get_of_lt hk1))
  have p0 : (w.alloc (.cells #[.int .i64 W, .int .i64 H, .slice (some ⟨g, off, none⟩) n cap] 24)).cell? ⟨w.heap.size, 0, none⟩ = some (.int .i64 W) := by simp
  have p1 : (w.alloc (.cells #[.int .i64 W, .int .i64 H, .slice (some ⟨g, off, none⟩) n cap] 24)).cell? ⟨w.heap.size, 1, none⟩ = some (.int .i64 H) := by simp
  have p2 : (w.alloc (.cells #[.int .i64 W, .int .i64 H, .slice (some ⟨g, off, none⟩) n cap] 24)).cell? ⟨w.heap.size, 2, none⟩ = some (.slice (some ⟨g, off, none⟩) n cap) := by simp
  have HR : Hid (atV W H zs x y = zs.getD k 0) := by show _ = _; unfold atV; rw [hk]; rfl
  revert c1 HR
  generalize zs.getD k 0 = z
  intro c1 HR
  have r1 := mx2
  have r2 := mn2
  obtain ⟨cx, hcx⟩ : ∃ cx, cx = clampI x W := ⟨_, rfl⟩
  obtain ⟨cy, hcy⟩ : ∃ cy, cy = clampI y H := ⟨_, rfl⟩
  rw [← hcx, ← hcy] at hk
  rw [← hcy] at b1 b2
  rw [← hcx] at b4 b5
  have f1 : max 0 (min y (H - 1)) = cy := by rw [hcy]; unfold clampI; omega
  have f2 : max 0 (min x (W - 1)) = cx := by rw [hcx]; unfold clampI; omega
  have e1 : IntKind.i64.wrap (W - 1) = W - 1 := by rw [IntKind.wrap_i64]; omega
  have e2 : IntKind.i64.wrap (H - 1) = H - 1 := by rw [IntKind.wrap_i64]; omega
  have e3 : IntKind.i64.wrap (cy * W) = cy * W := by rw [IntKind.wrap_i64]; omega
  have e4 : IntKind.i64.wrap (cy * W + cx) = (k : Int) := by rw [IntKind.wrap_i64]; omega
  have k1 : (0 : Int) ≤ (k : Int) ∧ (k : Int) < (n : Int) := by omega
  clear hcx hcy hk hm hl hk1 hW hH b1 b2 b3 b4 b5
  go_enter Tryd.func63, Tryd.ntmps63
  go_wp2
  go_region
  all_goals go_wp2
  all_goals go_ret
  all_goals exact ⟨by rw [HR.out]; rfl, E1.drew⟩
set_option maxRecDepth 20000 in
set_option maxHeartbeats 2000000 in
theorem rat_any (W H x y : Int) (zs : List Int) (a : Option Addr) (n cap : Nat) (w : World) (h : Ints w (.slice a n cap) zs) (hm : may W H zs) :
    Calls Tryd.prog 64 #[.agg #[.int .i64 W, .int .i64 H, .slice a n cap], .int .i64 x, .int .i64 y] w fun e w' => e = .returned (.int .i64 (atV W H zs x y)) ∧ Ext w w' := by
  obtain ⟨k, hk, hk1, b1, b2, b3, b4, b5⟩ := at_place hm x y
  have hW := sideB_true hm.1
  have hH := sideB_true hm.2.1
  have hl := h.len
  obtain ⟨g, off, rfl⟩ := h.had (by omega)
  have E1 : Ext w (w.alloc (.cells #[.int .i64 W, .int .i64 H, .slice (some ⟨g, off, none⟩) n cap] 24)) := (Ext.refl w).alloc _
  have c1 := E1.cell (h.at (get_of_lt hk1))
  have p0 : (w.alloc (.cells #[.int .i64 W, .int .i64 H, .slice (some ⟨g, off, none⟩) n cap] 24)).cell? ⟨w.heap.size, 0, none⟩ = some (.int .i64 W) := by simp
  have p1 : (w.alloc (.cells #[.int .i64 W, .int .i64 H, .slice (some ⟨g, off, none⟩) n cap] 24)).cell? ⟨w.heap.size, 1, none⟩ = some (.int .i64 H) := by simp
  have p2 : (w.alloc (.cells #[.int .i64 W, .int .i64 H, .slice (some ⟨g, off, none⟩) n cap] 24)).cell? ⟨w.heap.size, 2, none⟩ = some (.slice (some ⟨g, off, none⟩) n cap) := by simp
  have HR : Hid (atV W H zs x y = zs.getD k 0) := by show _ = _; unfold atV; rw [hk]; rfl
  revert c1 HR
  generalize zs.getD k 0 = z
  intro c1 HR
  have r1 := mx2
  have r2 := mn2
  obtain ⟨cx, hcx⟩ : ∃ cx, cx = clampI x W := ⟨_, rfl⟩
  obtain ⟨cy, hcy⟩ : ∃ cy, cy = clampI y H := ⟨_, rfl⟩
  rw [← hcx, ← hcy] at hk
  rw [← hcy] at b1 b2
  rw [← hcx] at b4 b5
  have f1 : min (max y 0) (H - 1) = cy := by rw [hcy]; unfold clampI; omega
  have f2 : min (max x 0) (W - 1) = cx := by rw [hcx]; unfold clampI; omega
  have e1 : IntKind.i64.wrap (W - 1) = W - 1 := by rw [IntKind.wrap_i64]; omega
  have e2 : IntKind.i64.wrap (H - 1) = H - 1 := by rw [IntKind.wrap_i64]; omega
  have e3 : IntKind.i64.wrap (cy * W) = cy * W := by rw [IntKind.wrap_i64]; omega
  have e4 : IntKind.i64.wrap (cy * W + cx) = (k : Int) := by rw [IntKind.wrap_i64]; omega
  have k1 : (0 : Int) ≤ (k : Int) ∧ (k : Int) < (n : Int) := by omega
  clear hcx hcy hk hm hl hk1 hW hH b1 b2 b3 b4 b5
  go_enter Tryd.func64, Tryd.ntmps64
  go_wp2
  go_ret
  exact ⟨by rw [HR.out]; rfl, E1⟩
def atA (W H : Int) (zs : List Int) (x y : Int) : Int := if may W H zs then atV W H zs x y else 0
set_option maxRecDepth 20000 in
theorem At_any (W H x y : Int) (zs : List Int) (a : Option Addr) (n cap : Nat) (w : World) (h : Ints w (.slice a n cap) zs) :
    Calls Tryd.prog 29 #[.agg #[.int .i64 W, .int .i64 H, .slice a n cap], .int .i64 x, .int .i64 y] w fun e w' => e = .returned (.int .i64 (atA W H zs x y)) ∧ Ext w w' := by
  have M1 := Lib.hid (fun w h => may_any W H zs a n cap w h)
  by_cases h1 : may W H zs
  · have H1 := Lib.hid h1
    have A1 := Lib.hid (fun w h => at_any W H x y zs a n cap w h h1)
    have HR : Hid (atA W H zs x y = atV W H zs x y) := by show _ = _; unfold atA; rw [if_pos h1]
    clear h1
    go_enter Tryd.func29, Tryd.ntmps29
    go_wp2_with fail
    refine (M1.out _ (h.ext (by repeat (first | exact Ext.refl _ | assumption | refine Ext.alloc ?_ _ | refine Ext.drew ?_ | refine Ext.drewN ?_ _ | refine Ext.setCell ?_ (by first | exact Nat.le_refl _ | (simp; done) | omega) _ | refine Ext.trans ?_ (by assumption))))).mono ?_; rintro e w1 ⟨rfl, hx1⟩
    rw [decide_eq_true H1.out]
    have p0 : w1.cell? ⟨w.heap.size, 0, none⟩ = some (.int .i64 W) := hx1.cell (by simp)
    have p1 : w1.cell? ⟨w.heap.size, 1, none⟩ = some (.int .i64 H) := hx1.cell (by simp)
    have p2 : w1.cell? ⟨w.heap.size, 2, none⟩ = some (.slice a n cap) := hx1.cell (by simp)
    go_wp2_with fail
    refine (A1.out _ (h.ext (by repeat (first | exact Ext.refl _ | assumption | refine Ext.alloc ?_ _ | refine Ext.drew ?_ | refine Ext.drewN ?_ _ | refine Ext.setCell ?_ (by first | exact Nat.le_refl _ | (simp; done) | omega) _ | refine Ext.trans ?_ (by assumption))))).mono ?_; rintro e w2 ⟨rfl, hx2⟩
    go_wp2
    go_ret
    exact ⟨by rw [HR.out]; rfl, (by repeat (first | exact Ext.refl _ | assumption | refine Ext.alloc ?_ _ | refine Ext.drew ?_ | refine Ext.drewN ?_ _ | refine Ext.setCell ?_ (by first | exact Nat.le_refl _ | (simp; done) | omega) _ | refine Ext.trans ?_ (by assumption)))⟩
  · have H1 := Lib.hid h1
    have HR : Hid (atA W H zs x y = 0) := by show _ = _; unfold atA; rw [if_neg h1]
    clear h1
    go_enter Tryd.func29, Tryd.ntmps29
    go_wp2_with fail
    refine (M1.out _ (h.ext (by repeat (first | exact Ext.refl _ | assumption | refine Ext.alloc ?_ _ | refine Ext.drew ?_ | refine Ext.drewN ?_ _ | refine Ext.setCell ?_ (by first | exact Nat.le_refl _ | (simp; done) | omega) _ | refine Ext.trans ?_ (by assumption))))).mono ?_; rintro e w1 ⟨rfl, hx1⟩
    rw [decide_eq_false H1.out]
    go_wp2
    go_ret
    exact ⟨by rw [HR.out]; rfl, (by repeat (first | exact Ext.refl _ | assumption | refine Ext.alloc ?_ _ | refine Ext.drew ?_ | refine Ext.drewN ?_ _ | refine Ext.setCell ?_ (by first | exact Nat.le_refl _ | (simp; done) | omega) _ | refine Ext.trans ?_ (by assumption)))⟩
set_option maxRecDepth 20000 in
theorem rAt_any (W H x y : Int) (zs : List Int) (a : Option Addr) (n cap : Nat) (w : World) (h : Ints w (.slice a n cap) zs) :
    Calls Tryd.prog 30 #[.agg #[.int .i64 W, .int .i64 H, .slice a n cap], .int .i64 x, .int .i64 y] w fun e w' => e = .returned (.int .i64 (atA W H zs x y)) ∧ Ext w w' := by
  have M1 := Lib.hid (fun w h => rmay_any W H zs a n cap w h)
  by_cases h1 : may W H zs
  · have H1 := Lib.hid h1
    have A1 := Lib.hid (fun w h => rat_any W H x y zs a n cap w h h1)
    have HR : Hid (atA W H zs x y = atV W H zs x y) := by show _ = _; unfold atA; rw [if_pos h1]
    clear h1
    go_enter Tryd.func30, Tryd.ntmps30
    go_wp2_with fail
    refine (M1.out _ (h.ext (by repeat (first | exact Ext.refl _ | assumption | refine Ext.alloc ?_ _ | refine Ext.drew ?_ | refine Ext.drewN ?_ _ | refine Ext.setCell ?_ (by first | exact Nat.le_refl _ | (simp; done) | omega) _ | refine Ext.trans ?_ (by assumption))))).mono ?_; rintro e w1 ⟨rfl, hx1⟩
    rw [decide_eq_true H1.out]
    have p0 : w1.cell? ⟨w.heap.size, 0, none⟩ = some (.int .i64 W) := hx1.cell (by simp)
    have p1 : w1.cell? ⟨w.heap.size, 1, none⟩ = some (.int .i64 H) := hx1.cell (by simp)
    have p2 : w1.cell? ⟨w.heap.size, 2, none⟩ = some (.slice a n cap) := hx1.cell (by simp)
    go_wp2_with fail
    refine (A1.out _ (h.ext (by repeat (first | exact Ext.refl _ | assumption | refine Ext.alloc ?_ _ | refine Ext.drew ?_ | refine Ext.drewN ?_ _ | refine Ext.setCell ?_ (by first | exact Nat.le_refl _ | (simp; done) | omega) _ | refine Ext.trans ?_ (by assumption))))).mono ?_; rintro e w2 ⟨rfl, hx2⟩
    go_wp2
    go_ret
    exact ⟨by rw [HR.out]; rfl, (by repeat (first | exact Ext.refl _ | assumption | refine Ext.alloc ?_ _ | refine Ext.drew ?_ | refine Ext.drewN ?_ _ | refine Ext.setCell ?_ (by first | exact Nat.le_refl _ | (simp; done) | omega) _ | refine Ext.trans ?_ (by assumption)))⟩
  · have H1 := Lib.hid h1
    have HR : Hid (atA W H zs x y = 0) := by show _ = _; unfold atA; rw [if_neg h1]
    clear h1
    go_enter Tryd.func30, Tryd.ntmps30
    go_wp2_with fail
    refine (M1.out _ (h.ext (by repeat (first | exact Ext.refl _ | assumption | refine Ext.alloc ?_ _ | refine Ext.drew ?_ | refine Ext.drewN ?_ _ | refine Ext.setCell ?_ (by first | exact Nat.le_refl _ | (simp; done) | omega) _ | refine Ext.trans ?_ (by assumption))))).mono ?_; rintro e w1 ⟨rfl, hx1⟩
    rw [decide_eq_false H1.out]
    go_wp2
    go_ret
    exact ⟨by rw [HR.out]; rfl, (by repeat (first | exact Ext.refl _ | assumption | refine Ext.alloc ?_ _ | refine Ext.drew ?_ | refine Ext.drewN ?_ _ | refine Ext.setCell ?_ (by first | exact Nat.le_refl _ | (simp; done) | omega) _ | refine Ext.trans ?_ (by assumption)))⟩
end Go.Proofs.YtkighedghgcdjaaDoor
