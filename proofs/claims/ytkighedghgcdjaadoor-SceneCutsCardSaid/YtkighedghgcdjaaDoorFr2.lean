/- plane.matched, Sum, Peak: contracts over this seat's translation. -/
import Derived.Test.YtkighedghgcdjaaDoorFr
import Derived.Test.YtkighedghgcdjaaDoorBlk
namespace Go.Proofs.YtkighedghgcdjaaDoor
set_option linter.unusedVariables false
set_option linter.unusedSimpArgs false
open Go.RowKit Go.Extern.Stop Go.Stop Go.Extern

def form : Fall := some ([], 2)
/-- what forbids to hold two frames against one another -/
def frAns (W H : Int) (xs : List Int) (W' H' : Int) (ys : List Int) : Fall := if may W H xs ∧ may W' H' ys then (if W = W' ∧ H = H' then none else fit) else form
theorem frAns_none {W H W' H' : Int} {xs ys : List Int} (h : frAns W H xs W' H' ys = none) : may W H xs ∧ may W' H' ys ∧ W = W' ∧ H = H' := by
  unfold frAns at h
  split at h
  · rename_i h1
    split at h
    · rename_i h2
      exact ⟨h1.1, h1.2, h2.1, h2.2⟩
    · cases h
  · cases h
theorem frAns_comm (W H : Int) (xs : List Int) (W' H' : Int) (ys : List Int) : frAns W H xs W' H' ys = frAns W' H' ys W H xs := by
  unfold frAns
  by_cases h : may W H xs ∧ may W' H' ys
  · rw [if_pos h, if_pos h.symm]
    by_cases k : W = W' ∧ H = H'
    · rw [if_pos k, if_pos ⟨k.1.symm, k.2.symm⟩]
    · rw [if_neg k, if_neg (fun e => k ⟨e.1.symm, e.2.symm⟩)]
  · rw [if_neg h, if_neg (fun e => h e.symm)]
theorem may_getD {W H : Int} {zs : List Int} (h : may W H zs) (j : Nat) : 0 ≤ zs.getD j 0 ∧ zs.getD j 0 ≤ 255 := by
  by_cases hj : j < zs.length
  · exact h.2.2.2.at (get_of_lt hj)
  · simp [List.getD, List.getElem?_eq_none (Nat.not_lt.1 hj)]
theorem may_len {W H : Int} {zs : List Int} (h : may W H zs) : zs.length ≤ 1024 := by have := may_area h; have := h.2.2.1; omega
theorem frAns_len {W H W' H' : Int} {xs ys : List Int} (h : frAns W H xs W' H' ys = none) : xs.length = ys.length := by
  obtain ⟨h1, h2, rfl, rfl⟩ := frAns_none h
  have := h1.2.2.1
  have := h2.2.2.1
  omega

set_option maxRecDepth 20000 in
set_option maxHeartbeats 1000000 in
theorem matched_plane (W H W' H' : Int) (xs ys : List Int) (a b : Option Addr) (n m ca cb : Nat) (w : World) (ha : Ints w (.slice a n ca) xs) (hb : Ints w (.slice b m cb) ys) :
    Calls Tryd.prog 60 #[.agg #[.int .i64 W, .int .i64 H, .slice a n ca], .agg #[.int .i64 W', .int .i64 H', .slice b m cb]] w (EPost w (frAns W H xs W' H' ys)) := by
  have M1 := Lib.hid (fun w h => may_any W H xs a n ca w h)
  have M2 := Lib.hid (fun w h => may_any W' H' ys b m cb w h)
  by_cases h1 : may W H xs
  · have H1 := Lib.hid h1
    by_cases h2 : may W' H' ys
    · have H2 := Lib.hid h2
      by_cases h3 : W = W'
      · subst h3
        by_cases h4 : H = H'
        · subst h4
          have HR : Hid (frAns W H xs W H ys = none) := by show _ = _; unfold frAns; rw [if_pos ⟨h1, h2⟩, if_pos ⟨rfl, rfl⟩]
          clear h1 h2
          go_enter Tryd.func60, Tryd.ntmps60
          go_wp2_with fail
          refine (M1.out _ (ha.ext (by repeat (first | exact Ext.refl _ | assumption | refine Ext.alloc ?_ _ | refine Ext.drew ?_ | refine Ext.drewN ?_ _ | refine Ext.setCell ?_ (by first | exact Nat.le_refl _ | (simp; done) | omega) _ | refine Ext.trans ?_ (by assumption))))).mono ?_; rintro e w1 ⟨rfl, hx1⟩
          rw [decide_eq_true H1.out]
          have p0 : w1.cell? ⟨w.heap.size, 0, none⟩ = some (.int .i64 W) := hx1.cell (by simp)
          have p1 : w1.cell? ⟨w.heap.size, 1, none⟩ = some (.int .i64 H) := hx1.cell (by simp)
          have q0 : w1.cell? ⟨w.heap.size + 1, 0, none⟩ = some (.int .i64 W) := hx1.cell (by simp)
          have q1 : w1.cell? ⟨w.heap.size + 1, 1, none⟩ = some (.int .i64 H) := hx1.cell (by simp)
          have q2 : w1.cell? ⟨w.heap.size + 1, 2, none⟩ = some (.slice b m cb) := hx1.cell (by simp)
          go_wp2_with fail
          refine (M2.out _ (hb.ext (by repeat (first | exact Ext.refl _ | assumption | refine Ext.alloc ?_ _ | refine Ext.drew ?_ | refine Ext.drewN ?_ _ | refine Ext.setCell ?_ (by first | exact Nat.le_refl _ | (simp; done) | omega) _ | refine Ext.trans ?_ (by assumption))))).mono ?_; rintro e w2 ⟨rfl, hx2⟩
          rw [decide_eq_true H2.out]
          have P0 := hx2.cell p0
          have P1 := hx2.cell p1
          have Q0 := hx2.cell q0
          have Q1 := hx2.cell q1
          clear p0 p1 q0 q1 q2
          go_wp2
          go_ret
          exact ⟨_, rfl, (by repeat (first | exact Ext.refl _ | assumption | refine Ext.alloc ?_ _ | refine Ext.drew ?_ | refine Ext.drewN ?_ _ | refine Ext.setCell ?_ (by first | exact Nat.le_refl _ | (simp; done) | omega) _ | refine Ext.trans ?_ (by assumption))), by rw [HR.out]; rfl⟩
        · have HR : Hid (frAns W H xs W H' ys = fit) := by show _ = _; unfold frAns; rw [if_pos ⟨h1, h2⟩, if_neg (fun e => h4 e.2)]
          have b4 : (H != H') = true := by simpa using h4
          clear h1 h2 h4
          go_enter Tryd.func60, Tryd.ntmps60
          go_wp2_with fail
          refine (M1.out _ (ha.ext (by repeat (first | exact Ext.refl _ | assumption | refine Ext.alloc ?_ _ | refine Ext.drew ?_ | refine Ext.drewN ?_ _ | refine Ext.setCell ?_ (by first | exact Nat.le_refl _ | (simp; done) | omega) _ | refine Ext.trans ?_ (by assumption))))).mono ?_; rintro e w1 ⟨rfl, hx1⟩
          rw [decide_eq_true H1.out]
          have p0 : w1.cell? ⟨w.heap.size, 0, none⟩ = some (.int .i64 W) := hx1.cell (by simp)
          have p1 : w1.cell? ⟨w.heap.size, 1, none⟩ = some (.int .i64 H) := hx1.cell (by simp)
          have q0 : w1.cell? ⟨w.heap.size + 1, 0, none⟩ = some (.int .i64 W) := hx1.cell (by simp)
          have q1 : w1.cell? ⟨w.heap.size + 1, 1, none⟩ = some (.int .i64 H') := hx1.cell (by simp)
          have q2 : w1.cell? ⟨w.heap.size + 1, 2, none⟩ = some (.slice b m cb) := hx1.cell (by simp)
          go_wp2_with fail
          refine (M2.out _ (hb.ext (by repeat (first | exact Ext.refl _ | assumption | refine Ext.alloc ?_ _ | refine Ext.drew ?_ | refine Ext.drewN ?_ _ | refine Ext.setCell ?_ (by first | exact Nat.le_refl _ | (simp; done) | omega) _ | refine Ext.trans ?_ (by assumption))))).mono ?_; rintro e w2 ⟨rfl, hx2⟩
          rw [decide_eq_true H2.out]
          have P0 := hx2.cell p0
          have P1 := hx2.cell p1
          have Q0 := hx2.cell q0
          have Q1 := hx2.cell q1
          clear p0 p1 q0 q1 q2
          go_wp2
          go_ret
          exact ⟨_, rfl, (by repeat (first | exact Ext.refl _ | assumption | refine Ext.alloc ?_ _ | refine Ext.drew ?_ | refine Ext.drewN ?_ _ | refine Ext.setCell ?_ (by first | exact Nat.le_refl _ | (simp; done) | omega) _ | refine Ext.trans ?_ (by assumption))), by rw [HR.out]; exact ErrIs.code (by decide)⟩
      · have HR : Hid (frAns W H xs W' H' ys = fit) := by show _ = _; unfold frAns; rw [if_pos ⟨h1, h2⟩, if_neg (fun e => h3 e.1)]
        have b3 : (W != W') = true := by simpa using h3
        clear h1 h2 h3
        go_enter Tryd.func60, Tryd.ntmps60
        go_wp2_with fail
        refine (M1.out _ (ha.ext (by repeat (first | exact Ext.refl _ | assumption | refine Ext.alloc ?_ _ | refine Ext.drew ?_ | refine Ext.drewN ?_ _ | refine Ext.setCell ?_ (by first | exact Nat.le_refl _ | (simp; done) | omega) _ | refine Ext.trans ?_ (by assumption))))).mono ?_; rintro e w1 ⟨rfl, hx1⟩
        rw [decide_eq_true H1.out]
        have p0 : w1.cell? ⟨w.heap.size, 0, none⟩ = some (.int .i64 W) := hx1.cell (by simp)
        have q0 : w1.cell? ⟨w.heap.size + 1, 0, none⟩ = some (.int .i64 W') := hx1.cell (by simp)
        have q1 : w1.cell? ⟨w.heap.size + 1, 1, none⟩ = some (.int .i64 H') := hx1.cell (by simp)
        have q2 : w1.cell? ⟨w.heap.size + 1, 2, none⟩ = some (.slice b m cb) := hx1.cell (by simp)
        go_wp2_with fail
        refine (M2.out _ (hb.ext (by repeat (first | exact Ext.refl _ | assumption | refine Ext.alloc ?_ _ | refine Ext.drew ?_ | refine Ext.drewN ?_ _ | refine Ext.setCell ?_ (by first | exact Nat.le_refl _ | (simp; done) | omega) _ | refine Ext.trans ?_ (by assumption))))).mono ?_; rintro e w2 ⟨rfl, hx2⟩
        rw [decide_eq_true H2.out]
        have P0 := hx2.cell p0
        have Q0 := hx2.cell q0
        clear p0 q0 q1 q2
        go_wp2
        go_ret
        exact ⟨_, rfl, (by repeat (first | exact Ext.refl _ | assumption | refine Ext.alloc ?_ _ | refine Ext.drew ?_ | refine Ext.drewN ?_ _ | refine Ext.setCell ?_ (by first | exact Nat.le_refl _ | (simp; done) | omega) _ | refine Ext.trans ?_ (by assumption))), by rw [HR.out]; exact ErrIs.code (by decide)⟩
    · have HR : Hid (frAns W H xs W' H' ys = form) := by show _ = _; unfold frAns; rw [if_neg (fun e => h2 e.2)]
      have H2 := Lib.hid h2
      clear h1 h2
      go_enter Tryd.func60, Tryd.ntmps60
      go_wp2_with fail
      refine (M1.out _ (ha.ext (by repeat (first | exact Ext.refl _ | assumption | refine Ext.alloc ?_ _ | refine Ext.drew ?_ | refine Ext.drewN ?_ _ | refine Ext.setCell ?_ (by first | exact Nat.le_refl _ | (simp; done) | omega) _ | refine Ext.trans ?_ (by assumption))))).mono ?_; rintro e w1 ⟨rfl, hx1⟩
      rw [decide_eq_true H1.out]
      have q0 : w1.cell? ⟨w.heap.size + 1, 0, none⟩ = some (.int .i64 W') := hx1.cell (by simp)
      have q1 : w1.cell? ⟨w.heap.size + 1, 1, none⟩ = some (.int .i64 H') := hx1.cell (by simp)
      have q2 : w1.cell? ⟨w.heap.size + 1, 2, none⟩ = some (.slice b m cb) := hx1.cell (by simp)
      go_wp2_with fail
      refine (M2.out _ (hb.ext (by repeat (first | exact Ext.refl _ | assumption | refine Ext.alloc ?_ _ | refine Ext.drew ?_ | refine Ext.drewN ?_ _ | refine Ext.setCell ?_ (by first | exact Nat.le_refl _ | (simp; done) | omega) _ | refine Ext.trans ?_ (by assumption))))).mono ?_; rintro e w2 ⟨rfl, hx2⟩
      rw [decide_eq_false H2.out]
      clear q0 q1 q2
      go_wp2
      go_ret
      exact ⟨_, rfl, (by repeat (first | exact Ext.refl _ | assumption | refine Ext.alloc ?_ _ | refine Ext.drew ?_ | refine Ext.drewN ?_ _ | refine Ext.setCell ?_ (by first | exact Nat.le_refl _ | (simp; done) | omega) _ | refine Ext.trans ?_ (by assumption))), by rw [HR.out]; exact ErrIs.code (by decide)⟩
  · have HR : Hid (frAns W H xs W' H' ys = form) := by show _ = _; unfold frAns; rw [if_neg (fun e => h1 e.1)]
    have H1 := Lib.hid h1
    clear h1
    go_enter Tryd.func60, Tryd.ntmps60
    go_wp2_with fail
    refine (M1.out _ (ha.ext (by repeat (first | exact Ext.refl _ | assumption | refine Ext.alloc ?_ _ | refine Ext.drew ?_ | refine Ext.drewN ?_ _ | refine Ext.setCell ?_ (by first | exact Nat.le_refl _ | (simp; done) | omega) _ | refine Ext.trans ?_ (by assumption))))).mono ?_; rintro e w1 ⟨rfl, hx1⟩
    rw [decide_eq_false H1.out]
    go_wp2
    go_ret
    exact ⟨_, rfl, (by repeat (first | exact Ext.refl _ | assumption | refine Ext.alloc ?_ _ | refine Ext.drew ?_ | refine Ext.drewN ?_ _ | refine Ext.setCell ?_ (by first | exact Nat.le_refl _ | (simp; done) | omega) _ | refine Ext.trans ?_ (by assumption))), by rw [HR.out]; exact ErrIs.code (by decide)⟩
theorem size_any (x : Int) (w : World) (h : -100000 ≤ x ∧ x ≤ 100000) : Calls Tryd.prog 61 #[.int .i64 x] w fun e w' => e = .returned (.int .i64 (max x (-x))) ∧ w = w' := by
  have r1 := mx2
  go_enter Tryd.func61, Tryd.ntmps61
  go_wp2
  go_ret
  exact ⟨rfl, rfl⟩
def sumV (W H : Int) (xs : List Int) (W' H' : Int) (ys : List Int) : Int := match frAns W H xs W' H' ys with
  | none => sadF (fun i => xs.getD i 0) (fun i => ys.getD i 0) xs.length
  | some _ => 0
def peakF (f g : Nat → Int) : Nat → Int
  | 0 => 0
  | j + 1 => max (peakF f g j) (max (f j - g j) (g j - f j))
def peakV (W H : Int) (xs : List Int) (W' H' : Int) (ys : List Int) : Int := match frAns W H xs W' H' ys with
  | none => peakF (fun i => xs.getD i 0) (fun i => ys.getD i 0) xs.length
  | some _ => 0
def stepOfsum (s x y : Int) : Int := s + max (x - y) (y - x)
def stepOfpeak (s x y : Int) : Int := max s (max (x - y) (y - x))
theorem peakF_pos (f g : Nat → Int) (n : Nat) : 0 ≤ peakF f g n := by
  induction n with
  | zero => simp [peakF]
  | succ n ih => unfold peakF; omega
theorem peakF_le {f g : Nat → Int} (hf : ∀ j, 0 ≤ f j ∧ f j ≤ 255) (hg : ∀ j, 0 ≤ g j ∧ g j ≤ 255) (n : Nat) : peakF f g n ≤ 255 := by
  induction n with
  | zero => simp [peakF]
  | succ n ih => have := hf n; have := hg n; unfold peakF; omega
theorem sadF_le {f g : Nat → Int} (hf : ∀ j, 0 ≤ f j ∧ f j ≤ 255) (hg : ∀ j, 0 ≤ g j ∧ g j ≤ 255) (n : Nat) : sadF f g n ≤ 255 * n := by
  induction n with
  | zero => simp [sadF]
  | succ n ih => have := hf n; have := hg n; unfold sadF; push_cast; omega
set_option maxRecDepth 20000 in
set_option maxHeartbeats 1000000 in
theorem sum_any (W H W' H' : Int) (xs ys : List Int) (a b : Option Addr) (n m ca cb : Nat) (w : World) (ha : Ints w (.slice a n ca) xs) (hb : Ints w (.slice b m cb) ys) :
    Calls Tryd.prog 27 #[.agg #[.int .i64 W, .int .i64 H, .slice a n ca], .agg #[.int .i64 W', .int .i64 H', .slice b m cb]] w (IPost w (sumV W H xs W' H' ys) (frAns W H xs W' H' ys)) := by
  have M := Lib.hid (fun w h k => matched_plane W H W' H' xs ys a b n m ca cb w h k)
  cases hm : frAns W H xs W' H' ys with
  | some f =>
    have HV : Hid (sumV W H xs W' H' ys = 0) := by show _ = _; unfold sumV; rw [hm]
    rw [hm] at M
    clear hm
    go_enter Tryd.func27, Tryd.ntmps27
    go_wp2_with fail
    refine (M.out _ (ha.ext (by repeat (first | exact Ext.refl _ | assumption | refine Ext.alloc ?_ _ | refine Ext.drew ?_ | refine Ext.drewN ?_ _ | refine Ext.setCell ?_ (by first | exact Nat.le_refl _ | (simp; done) | omega) _ | refine Ext.trans ?_ (by assumption)))) (hb.ext (by repeat (first | exact Ext.refl _ | assumption | refine Ext.alloc ?_ _ | refine Ext.drew ?_ | refine Ext.drewN ?_ _ | refine Ext.setCell ?_ (by first | exact Nat.le_refl _ | (simp; done) | omega) _ | refine Ext.trans ?_ (by assumption))))).mono ?_; rintro e w1 ⟨x, rfl, hx, he⟩
    obtain ⟨t, y, rfl⟩ := he.ne
    go_wp2
    go_ret2
    exact ⟨_, by rw [HV.out]; rfl, (by repeat (first | exact Ext.refl _ | assumption | refine Ext.alloc ?_ _ | refine Ext.drew ?_ | refine Ext.drewN ?_ _ | refine Ext.setCell ?_ (by first | exact Nat.le_refl _ | (simp; done) | omega) _ | refine Ext.trans ?_ (by assumption))), he⟩
  | none =>
    obtain ⟨h1, h2, rfl, rfl⟩ := frAns_none hm
    have hl := frAns_len hm
    have hlen := may_len h1
    have HX := Lib.hid (may_getD h1)
    have HY := Lib.hid (may_getD h2)
    have HV : Hid (sumV W H xs W H ys = sadF (fun i => xs.getD i 0) (fun i => ys.getD i 0) xs.length) := by show _ = _; unfold sumV; rw [hm]
    rw [hm] at M
    have hn := ha.len
    have hm' := hb.len
    rw [← hn] at HV hlen hl
    rw [← hm'] at hl
    subst hl
    have HN := Lib.hid hn
    have HL := Lib.hid hm'
    have AG := Lib.hid ha.had
    have BG := Lib.hid hb.had
    clear hm h1 h2 hn hm'
    go_enter Tryd.func27, Tryd.ntmps27
    go_wp2_with fail
    refine (M.out _ (ha.ext (by repeat (first | exact Ext.refl _ | assumption | refine Ext.alloc ?_ _ | refine Ext.drew ?_ | refine Ext.drewN ?_ _ | refine Ext.setCell ?_ (by first | exact Nat.le_refl _ | (simp; done) | omega) _ | refine Ext.trans ?_ (by assumption)))) (hb.ext (by repeat (first | exact Ext.refl _ | assumption | refine Ext.alloc ?_ _ | refine Ext.drew ?_ | refine Ext.drewN ?_ _ | refine Ext.setCell ?_ (by first | exact Nat.le_refl _ | (simp; done) | omega) _ | refine Ext.trans ?_ (by assumption))))).mono ?_; rintro e w1 ⟨x, rfl, hx, he⟩
    obtain rfl : x = .nilIface := he
    have p2 : w1.cell? ⟨w.heap.size, 2, none⟩ = some (.slice a n ca) := hx.cell (by simp)
    have q2 : w1.cell? ⟨w.heap.size + 1, 2, none⟩ = some (.slice b n cb) := hx.cell (by simp)
    have E1 : Ext w w1 := (by repeat (first | exact Ext.refl _ | assumption | refine Ext.alloc ?_ _ | refine Ext.drew ?_ | refine Ext.drewN ?_ _ | refine Ext.setCell ?_ (by first | exact Nat.le_refl _ | (simp; done) | omega) _ | refine Ext.trans ?_ (by assumption)))
    go_wp2
    go_loop [7, 19] (fun sv iv => ∃ k : Nat, k ≤ n ∧ iv = .int .i64 k ∧ sv = .int .i64 (sadF (fun i => xs.getD i 0) (fun i => ys.getD i 0) k)) (fun _ iv => n - (intOf iv).toNat)
    case atStart => exact ⟨0, Nat.zero_le _, rfl, rfl⟩
    case round =>
      obtain ⟨k, hk, rfl, rfl⟩ := hrel
      by_cases hlt : k < n
      · obtain ⟨x, hx'⟩ : ∃ x, xs.getD k 0 = x := ⟨_, rfl⟩
        obtain ⟨y, hy'⟩ : ∃ y, ys.getD k 0 = y := ⟨_, rfl⟩
        obtain ⟨g, off, rfl⟩ := AG.out (by omega)
        obtain ⟨g', off', rfl⟩ := BG.out (by omega)
        have cx := E1.cell (ha.at (get_of_lt (by rw [← HN.out]; exact hlt)))
        have cy := E1.cell (hb.at (get_of_lt (by rw [← HL.out]; exact hlt)))
        have bx := HX.out k
        have by' := HY.out k
        have b0 := sadF_le HX.out HY.out k
        have b1 := sadF_pos (fun i => xs.getD i 0) (fun i => ys.getD i 0) k
        have HS2 : Hid (sadF (fun i => xs.getD i 0) (fun i => ys.getD i 0) (k + 1) = stepOfsum (sadF (fun i => xs.getD i 0) (fun i => ys.getD i 0) k) x y) := by show _ = _; rw [← hx', ← hy']; rfl
        rw [hx'] at cx bx
        rw [hy'] at cy by'
        clear hx' hy'
        revert b0 b1 HS2
        generalize sadF (fun i => xs.getD i 0) (fun i => ys.getD i 0) k = s
        intro b0 b1 HS2
        have r1 := mx2
        go_wp2_with fail
        refine (size_any _ _ (by omega)).mono ?_; rintro e w3 ⟨rfl, rfl⟩
        go_wp2
        go_round
        case rel => exact ⟨k + 1, by omega, by go_num, by rw [HS2.out]; unfold stepOfsum; congr 1; omega⟩
        case measure => simp [intOf]; omega
      · obtain rfl : k = n := by omega
        go_wp2
        go_ret2
        exact ⟨_, by rw [HV.out]; rfl, (by repeat (first | exact Ext.refl _ | assumption | refine Ext.alloc ?_ _ | refine Ext.drew ?_ | refine Ext.drewN ?_ _ | refine Ext.setCell ?_ (by first | exact Nat.le_refl _ | (simp; done) | omega) _ | refine Ext.trans ?_ (by assumption))), rfl⟩
set_option maxRecDepth 20000 in
set_option maxHeartbeats 1000000 in
theorem peak_any (W H W' H' : Int) (xs ys : List Int) (a b : Option Addr) (n m ca cb : Nat) (w : World) (ha : Ints w (.slice a n ca) xs) (hb : Ints w (.slice b m cb) ys) :
    Calls Tryd.prog 25 #[.agg #[.int .i64 W, .int .i64 H, .slice a n ca], .agg #[.int .i64 W', .int .i64 H', .slice b m cb]] w (IPost w (peakV W H xs W' H' ys) (frAns W H xs W' H' ys)) := by
  have M := Lib.hid (fun w h k => matched_plane W H W' H' xs ys a b n m ca cb w h k)
  cases hm : frAns W H xs W' H' ys with
  | some f =>
    have HV : Hid (peakV W H xs W' H' ys = 0) := by show _ = _; unfold peakV; rw [hm]
    rw [hm] at M
    clear hm
    go_enter Tryd.func25, Tryd.ntmps25
    go_wp2_with fail
    refine (M.out _ (ha.ext (by repeat (first | exact Ext.refl _ | assumption | refine Ext.alloc ?_ _ | refine Ext.drew ?_ | refine Ext.drewN ?_ _ | refine Ext.setCell ?_ (by first | exact Nat.le_refl _ | (simp; done) | omega) _ | refine Ext.trans ?_ (by assumption)))) (hb.ext (by repeat (first | exact Ext.refl _ | assumption | refine Ext.alloc ?_ _ | refine Ext.drew ?_ | refine Ext.drewN ?_ _ | refine Ext.setCell ?_ (by first | exact Nat.le_refl _ | (simp; done) | omega) _ | refine Ext.trans ?_ (by assumption))))).mono ?_; rintro e w1 ⟨x, rfl, hx, he⟩
    obtain ⟨t, y, rfl⟩ := he.ne
    go_wp2
    go_ret2
    exact ⟨_, by rw [HV.out]; rfl, (by repeat (first | exact Ext.refl _ | assumption | refine Ext.alloc ?_ _ | refine Ext.drew ?_ | refine Ext.drewN ?_ _ | refine Ext.setCell ?_ (by first | exact Nat.le_refl _ | (simp; done) | omega) _ | refine Ext.trans ?_ (by assumption))), he⟩
  | none =>
    obtain ⟨h1, h2, rfl, rfl⟩ := frAns_none hm
    have hl := frAns_len hm
    have hlen := may_len h1
    have HX := Lib.hid (may_getD h1)
    have HY := Lib.hid (may_getD h2)
    have HV : Hid (peakV W H xs W H ys = peakF (fun i => xs.getD i 0) (fun i => ys.getD i 0) xs.length) := by show _ = _; unfold peakV; rw [hm]
    rw [hm] at M
    have hn := ha.len
    have hm' := hb.len
    rw [← hn] at HV hlen hl
    rw [← hm'] at hl
    subst hl
    have HN := Lib.hid hn
    have HL := Lib.hid hm'
    have AG := Lib.hid ha.had
    have BG := Lib.hid hb.had
    clear hm h1 h2 hn hm'
    go_enter Tryd.func25, Tryd.ntmps25
    go_wp2_with fail
    refine (M.out _ (ha.ext (by repeat (first | exact Ext.refl _ | assumption | refine Ext.alloc ?_ _ | refine Ext.drew ?_ | refine Ext.drewN ?_ _ | refine Ext.setCell ?_ (by first | exact Nat.le_refl _ | (simp; done) | omega) _ | refine Ext.trans ?_ (by assumption)))) (hb.ext (by repeat (first | exact Ext.refl _ | assumption | refine Ext.alloc ?_ _ | refine Ext.drew ?_ | refine Ext.drewN ?_ _ | refine Ext.setCell ?_ (by first | exact Nat.le_refl _ | (simp; done) | omega) _ | refine Ext.trans ?_ (by assumption))))).mono ?_; rintro e w1 ⟨x, rfl, hx, he⟩
    obtain rfl : x = .nilIface := he
    have p2 : w1.cell? ⟨w.heap.size, 2, none⟩ = some (.slice a n ca) := hx.cell (by simp)
    have q2 : w1.cell? ⟨w.heap.size + 1, 2, none⟩ = some (.slice b n cb) := hx.cell (by simp)
    have E1 : Ext w w1 := (by repeat (first | exact Ext.refl _ | assumption | refine Ext.alloc ?_ _ | refine Ext.drew ?_ | refine Ext.drewN ?_ _ | refine Ext.setCell ?_ (by first | exact Nat.le_refl _ | (simp; done) | omega) _ | refine Ext.trans ?_ (by assumption)))
    go_wp2
    go_loop [7, 19] (fun sv iv => ∃ k : Nat, k ≤ n ∧ iv = .int .i64 k ∧ sv = .int .i64 (peakF (fun i => xs.getD i 0) (fun i => ys.getD i 0) k)) (fun _ iv => n - (intOf iv).toNat)
    case atStart => exact ⟨0, Nat.zero_le _, rfl, rfl⟩
    case round =>
      obtain ⟨k, hk, rfl, rfl⟩ := hrel
      by_cases hlt : k < n
      · obtain ⟨x, hx'⟩ : ∃ x, xs.getD k 0 = x := ⟨_, rfl⟩
        obtain ⟨y, hy'⟩ : ∃ y, ys.getD k 0 = y := ⟨_, rfl⟩
        obtain ⟨g, off, rfl⟩ := AG.out (by omega)
        obtain ⟨g', off', rfl⟩ := BG.out (by omega)
        have cx := E1.cell (ha.at (get_of_lt (by rw [← HN.out]; exact hlt)))
        have cy := E1.cell (hb.at (get_of_lt (by rw [← HL.out]; exact hlt)))
        have bx := HX.out k
        have by' := HY.out k
        have b0 := peakF_le HX.out HY.out k
        have b1 := peakF_pos (fun i => xs.getD i 0) (fun i => ys.getD i 0) k
        have HS2 : Hid (peakF (fun i => xs.getD i 0) (fun i => ys.getD i 0) (k + 1) = stepOfpeak (peakF (fun i => xs.getD i 0) (fun i => ys.getD i 0) k) x y) := by show _ = _; rw [← hx', ← hy']; rfl
        rw [hx'] at cx bx
        rw [hy'] at cy by'
        clear hx' hy'
        revert b0 b1 HS2
        generalize peakF (fun i => xs.getD i 0) (fun i => ys.getD i 0) k = s
        intro b0 b1 HS2
        have r1 := mx2
        go_wp2_with fail
        refine (size_any _ _ (by omega)).mono ?_; rintro e w3 ⟨rfl, rfl⟩
        go_wp2
        go_round
        case rel => exact ⟨k + 1, by omega, by go_num, by rw [HS2.out]; unfold stepOfpeak; congr 1; omega⟩
        case measure => simp [intOf]; omega
      · obtain rfl : k = n := by omega
        go_wp2
        go_ret2
        exact ⟨_, by rw [HV.out]; rfl, (by repeat (first | exact Ext.refl _ | assumption | refine Ext.alloc ?_ _ | refine Ext.drew ?_ | refine Ext.drewN ?_ _ | refine Ext.setCell ?_ (by first | exact Nat.le_refl _ | (simp; done) | omega) _ | refine Ext.trans ?_ (by assumption))), rfl⟩
end Go.Proofs.YtkighedghgcdjaaDoor
