/- kinref7.Sad: its contract over this seat's translation. -/
import Derived.Test.YtbhlbiandelimaaDoorR7
namespace Go.Proofs.YtbhlbiandelimaaDoor
set_option linter.unusedVariables false
set_option linter.unusedSimpArgs false
open Go.RowKit Go.Extern.Stop Go.Stop Go.Extern

set_option maxRecDepth 20000 in
set_option maxHeartbeats 2000000 in
theorem rsad_any (xs ys : List Int) (v u : Value) (w : World) (ha : Ints w v xs) (hb : Ints w u ys) (hN : xs.length ≤ 1000000) :
    Calls Tryd.prog 54 #[v, u] w (RIPost w (sadV xs ys) (matAns xs ys)) := by
  have RT := Lib.hid (rtwo_any xs ys)
  obtain ⟨a, cap, rfl⟩ := ha.form
  obtain ⟨b, cap', rfl⟩ := hb.form
  cases hm : matAns xs ys with
  | some f =>
    obtain ⟨p, k⟩ := f
    have HV : Hid (sadV xs ys = 0) := by show _ = _; unfold sadV; rw [hm]
    rw [hm] at RT
    clear hm
    go_enter Tryd.func54, Tryd.ntmps54
    go_wp2_with fail
    refine (RT.out _ _ _ (ha.ext (by repeat (first | exact Ext.refl _ | assumption | refine Ext.alloc ?_ _ | refine Ext.drew ?_ | refine Ext.drewN ?_ _ | refine Ext.setCell ?_ (by first | exact Nat.le_refl _ | (simp; done) | omega) _ | refine Ext.trans ?_ (by assumption)))) (hb.ext (by repeat (first | exact Ext.refl _ | assumption | refine Ext.alloc ?_ _ | refine Ext.drew ?_ | refine Ext.drewN ?_ _ | refine Ext.setCell ?_ (by first | exact Nat.le_refl _ | (simp; done) | omega) _ | refine Ext.trans ?_ (by assumption))))).mono ?_; rintro e w1 ⟨c, rfl, hx1, hr1⟩
    have E1 : Ext w (w1.alloc (.cells #[.int .i64 c, .slice none 0 0] 40)) := (by repeat (first | exact Ext.refl _ | assumption | refine Ext.alloc ?_ _ | refine Ext.drew ?_ | refine Ext.drewN ?_ _ | refine Ext.setCell ?_ (by first | exact Nat.le_refl _ | (simp; done) | omega) _ | refine Ext.trans ?_ (by assumption)))
    have RV := (ResAt.new w).ext (hx1.alloc (.cells #[.int .i64 c, .slice none 0 0] 40))
    have p0 : (w1.alloc (.cells #[.int .i64 c, .slice none 0 0] 40)).cell? ⟨w1.heap.size, 0, none⟩ = some (.int .i64 c) := by simp
    have p1 : (w1.alloc (.cells #[.int .i64 c, .slice none 0 0] 40)).cell? ⟨w1.heap.size, 1, none⟩ = some (.slice none 0 0) := by simp
    go_wp2_with fail
    obtain ⟨B, hB⟩ : ∃ B, B = w1.heap.size := ⟨_, rfl⟩
    rw [← hB] at p0 p1 ⊢
    clear hB
    revert E1 RV p0 p1
    generalize w1.alloc (.cells #[.int .i64 c, .slice none 0 0] 40) = wS
    intro E1 RV p0 p1
    clear hx1
    obtain ⟨rfl, hc, hrow⟩ := hr1
    have hc0 : (c == 0) = false := by simpa using hc
    have HC := Lib.hid hc
    clear hc
    refine wp_loop_rounds 1 ?_
    rw [rounds_succ]
    go_wp2_with fail
    refine (ok_any c _ _).mono ?_; rintro e wA ⟨rfl, hxA⟩
    rw [hc0]
    obtain ⟨r0, r1, f0, f1⟩ := RV.ext hxA
    have q0 := hxA.cell p0
    have q1 := hxA.cell p1
    have hrow := hrow
    clear RV p0 p1
    go_wp2
    go_region
    go_wp2
    obtain ⟨e0, e1⟩ := res_cells (c := c) r0 r1 (.slice none 0 0)
    exact bodyPost_ret (v := .tuple #[.int .i64 0, .agg #[.int .i64 c, .slice none 0 0]]) (by simp [results, Tryd.results54, go_sem, e0, e1]) rfl ⟨_, _, _, _, by rw [HV.out], (by repeat (first | exact Ext.refl _ | assumption | refine Ext.alloc ?_ _ | refine Ext.drew ?_ | refine Ext.drewN ?_ _ | refine Ext.setCell ?_ (by first | exact Nat.le_refl _ | (simp; done) | omega) _ | refine Ext.trans ?_ (by assumption))), rfl, HC.out, by
      have hp : p = [] := by
        have := hrow.form
        obtain ⟨a, cap, e⟩ := this
        simp only [Value.slice.injEq] at e
        exact List.eq_nil_of_length_eq_zero e.2.1.symm
      subst hp
      exact Row.nil _⟩
  | none =>
    obtain ⟨hl, hX, hY⟩ := matAns_none hm
    have HV : Hid (sadV xs ys = sadF (fun i => xs.getD i 0) (fun i => ys.getD i 0) xs.length) := by show _ = _; unfold sadV; rw [hm]
    rw [hm] at RT
    obtain ⟨n, hn⟩ : ∃ n, n = xs.length := ⟨_, rfl⟩
    rw [← hn] at ha hN HV hl ⊢
    rw [← hl] at hb ⊢
    have AG := Lib.hid ha.had
    have BG := Lib.hid hb.had
    have HN := Lib.hid hn
    have HL := Lib.hid hl
    have HX := Lib.hid hX
    have HY := Lib.hid hY
    clear hm hl hX hY hn
    go_enter Tryd.func54, Tryd.ntmps54
    go_wp2_with fail
    refine (RT.out _ _ _ (ha.ext (by repeat (first | exact Ext.refl _ | assumption | refine Ext.alloc ?_ _ | refine Ext.drew ?_ | refine Ext.drewN ?_ _ | refine Ext.setCell ?_ (by first | exact Nat.le_refl _ | (simp; done) | omega) _ | refine Ext.trans ?_ (by assumption)))) (hb.ext (by repeat (first | exact Ext.refl _ | assumption | refine Ext.alloc ?_ _ | refine Ext.drew ?_ | refine Ext.drewN ?_ _ | refine Ext.setCell ?_ (by first | exact Nat.le_refl _ | (simp; done) | omega) _ | refine Ext.trans ?_ (by assumption))))).mono ?_; rintro e w1 ⟨c, rfl, hx1, hr1⟩
    have E1 : Ext w (w1.alloc (.cells #[.int .i64 c, .slice none 0 0] 40)) := (by repeat (first | exact Ext.refl _ | assumption | refine Ext.alloc ?_ _ | refine Ext.drew ?_ | refine Ext.drewN ?_ _ | refine Ext.setCell ?_ (by first | exact Nat.le_refl _ | (simp; done) | omega) _ | refine Ext.trans ?_ (by assumption)))
    have RV := (ResAt.new w).ext (hx1.alloc (.cells #[.int .i64 c, .slice none 0 0] 40))
    have p0 : (w1.alloc (.cells #[.int .i64 c, .slice none 0 0] 40)).cell? ⟨w1.heap.size, 0, none⟩ = some (.int .i64 c) := by simp
    have p1 : (w1.alloc (.cells #[.int .i64 c, .slice none 0 0] 40)).cell? ⟨w1.heap.size, 1, none⟩ = some (.slice none 0 0) := by simp
    go_wp2_with fail
    obtain ⟨B, hB⟩ : ∃ B, B = w1.heap.size := ⟨_, rfl⟩
    rw [← hB] at p0 p1 ⊢
    clear hB
    revert E1 RV p0 p1
    generalize w1.alloc (.cells #[.int .i64 c, .slice none 0 0] 40) = wS
    intro E1 RV p0 p1
    clear hx1
    obtain ⟨rfl, -⟩ := hr1
    go_loopw [7, 8] (fun sv iv wr => ∃ k : Nat, k ≤ n ∧ iv = .int .i64 k ∧ sv = .int .i64 (sadF (fun i => xs.getD i 0) (fun i => ys.getD i 0) k) ∧ Ext wS wr) (fun _ iv _ => n - (intOf iv).toNat)
    case atStart => exact ⟨0, Nat.zero_le _, rfl, rfl, Ext.refl _⟩
    case round =>
      obtain ⟨k, hk, rfl, rfl, hE⟩ := hrel
      have q0 := hE.cell p0
      have q1 := hE.cell p1
      go_wp2_with fail
      refine (ok_any 0 _ _).mono ?_; rintro e wA ⟨rfl, hxA⟩
      rw [show ((0 : Int) == 0) = true from rfl]
      have hE : Ext wS wA := hE.trans hxA
      clear hxA q0 q1
      by_cases hlt : k < n
      · obtain ⟨x, hx'⟩ : ∃ x, xs.getD k 0 = x := ⟨_, rfl⟩
        obtain ⟨y, hy'⟩ : ∃ y, ys.getD k 0 = y := ⟨_, rfl⟩
        obtain ⟨g, off, rfl⟩ := AG.out (by omega)
        obtain ⟨g', off', rfl⟩ := BG.out (by omega)
        have cx := (E1.trans hE).cell (ha.at (get_of_lt (by rw [← HN.out]; exact hlt)))
        have cy := (E1.trans hE).cell (hb.at (get_of_lt (by rw [← HL.out]; exact hlt)))
        have bx := HX.out k
        have by' := HY.out k
        have b0 := sadF_bound HX.out HY.out k
        have b1 := sadF_pos (fun i => xs.getD i 0) (fun i => ys.getD i 0) k
        have HS : Hid (sadF (fun i => xs.getD i 0) (fun i => ys.getD i 0) (k + 1) = sadF (fun i => xs.getD i 0) (fun i => ys.getD i 0) k + max (x - y) (y - x)) := by show _ = _; rw [← hx', ← hy']; rfl
        rw [hx'] at cx bx
        rw [hy'] at cy by'
        clear hx' hy'
        revert b0 b1 HS
        generalize sadF (fun i => xs.getD i 0) (fun i => ys.getD i 0) k = s
        intro b0 b1 HS
        have r1 := mx2
        have e1 : IntKind.i64.wrap (x - y) = x - y := by rw [IntKind.wrap_i64]; omega
        have e2 : IntKind.i64.wrap (y - x) = y - x := by rw [IntKind.wrap_i64]; omega
        have e3 : IntKind.i64.wrap (s + max (x - y) (y - x)) = s + max (x - y) (y - x) := by rw [IntKind.wrap_i64]; omega
        go_wp2
        go_quiet (fail)
        go_wp2
        go_roundw
        case rel => exact ⟨k + 1, by omega, by go_num, by rw [HS.out], hE.drewN _⟩
        case measure => simp [intOf]; omega
      · obtain rfl : k = n := by omega
        obtain ⟨r0, r1, f0, f1⟩ := RV.ext hE
        have q0 := hE.cell p0
        have q1 := hE.cell p1
        clear p0 p1 RV
        go_wp2
        go_region
        go_wp2
        obtain ⟨e0, e1⟩ := res_cells (c := 0) r0 r1 (.slice none 0 0)
        exact bodyPost_ret (v := .tuple #[.int .i64 (sadF (fun i => xs.getD i 0) (fun i => ys.getD i 0) k), .agg #[.int .i64 0, .slice none 0 0]]) (by simp [results, Tryd.results54, go_sem, e0, e1]) rfl ⟨_, _, _, _, by rw [HV.out], (by repeat (first | exact Ext.refl _ | assumption | refine Ext.alloc ?_ _ | refine Ext.drew ?_ | refine Ext.drewN ?_ _ | refine Ext.setCell ?_ (by first | exact Nat.le_refl _ | (simp; done) | omega) _ | refine Ext.trans ?_ (by assumption))), RErrIs.zero⟩
end Go.Proofs.YtbhlbiandelimaaDoor
