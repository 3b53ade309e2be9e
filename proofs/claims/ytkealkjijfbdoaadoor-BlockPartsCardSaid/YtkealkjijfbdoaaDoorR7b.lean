/- kinref7.Sub: its contract over this seat's translation. -/
import Derived.Test.YtkealkjijfbdoaaDoorR7s
import Derived.StillTailTactics
namespace Go.Proofs.YtkealkjijfbdoaaDoor
set_option linter.unusedVariables false
set_option linter.unusedSimpArgs false
open Go.RowKit Go.Extern.Stop Go.Stop Go.Extern

theorem rowL_succb (k : Nat) (f : Nat → Int) : rowL (k + 1) f = rowL k f ++ [f k] := by
  unfold rowL
  rw [List.range_succ, List.map_append]
  rfl
theorem rfall_code {w : World} {p : List (ByteArray × Int)} {k c : Int} (h : RErrIs w (some (p, k)) c (.slice none 0 0)) : p = [] ∧ c = k ∧ k ≠ 0 := by
  obtain ⟨h1, h2, h3⟩ := h
  obtain ⟨a, cap, e⟩ := h3.form
  simp only [Value.slice.injEq] at e
  exact ⟨List.eq_nil_of_length_eq_zero e.2.1.symm, h1, h2⟩
set_option maxRecDepth 20000 in
set_option maxHeartbeats 2000000 in
theorem rsub_any (xs ys : List Int) (v u : Value) (w : World) (ha : Ints w v xs) (hb : Ints w u ys) (hN : xs.length ≤ 1000000) :
    Calls Tryd.prog 41 #[v, u] w (RZPost w (twoV subF xs ys) (matAns xs ys)) := by
  have RT := Lib.hid (rtwo_any xs ys)
  obtain ⟨a, cap, rfl⟩ := ha.form
  obtain ⟨b, cap', rfl⟩ := hb.form
  cases hm : matAns xs ys with
  | some f =>
    obtain ⟨p, k⟩ := f
    have HV : Hid (twoV subF xs ys = []) := by show _ = _; unfold twoV; rw [hm]
    rw [hm] at RT
    clear hm
    go_enter Tryd.func41, Tryd.ntmps41
    go_wp2_with fail
    refine (RT.out _ _ _ (ha.ext (by repeat (first | exact Ext.refl _ | assumption | refine Ext.alloc ?_ _ | refine Ext.drew ?_ | refine Ext.drewN ?_ _ | refine Ext.setCell ?_ (by first | exact Nat.le_refl _ | (simp; done) | omega) _ | refine Ext.trans ?_ (by assumption)))) (hb.ext (by repeat (first | exact Ext.refl _ | assumption | refine Ext.alloc ?_ _ | refine Ext.drew ?_ | refine Ext.drewN ?_ _ | refine Ext.setCell ?_ (by first | exact Nat.le_refl _ | (simp; done) | omega) _ | refine Ext.trans ?_ (by assumption))))).mono ?_; rintro e w1 ⟨c, rfl, hx1, hr1⟩
    have E1 : Ext w (w1.alloc (.cells #[.int .i64 c, .slice none 0 0] 34)) := (by repeat (first | exact Ext.refl _ | assumption | refine Ext.alloc ?_ _ | refine Ext.drew ?_ | refine Ext.drewN ?_ _ | refine Ext.setCell ?_ (by first | exact Nat.le_refl _ | (simp; done) | omega) _ | refine Ext.trans ?_ (by assumption)))
    have RV := (ResAt.new w).ext (hx1.alloc (.cells #[.int .i64 c, .slice none 0 0] 34))
    have p0 : (w1.alloc (.cells #[.int .i64 c, .slice none 0 0] 34)).cell? ⟨w1.heap.size, 0, none⟩ = some (.int .i64 c) := by simp
    have p1 : (w1.alloc (.cells #[.int .i64 c, .slice none 0 0] 34)).cell? ⟨w1.heap.size, 1, none⟩ = some (.slice none 0 0) := by simp
    go_wp2_with fail
    obtain ⟨B, hB⟩ : ∃ B, B = w1.heap.size := ⟨_, rfl⟩
    rw [← hB] at p0 p1 ⊢
    clear hB
    revert E1 RV p0 p1
    generalize w1.alloc (.cells #[.int .i64 c, .slice none 0 0] 34) = wS
    intro E1 RV p0 p1
    clear hx1
    obtain ⟨rfl, rfl, hc⟩ := rfall_code hr1
    have hc0 : (c == 0) = false := by simpa using hc
    have HC := Lib.hid hc
    clear hc
    refine wp_loop_rounds 1 ?_
    rw [rounds_succ]
    go_wp2_with fail
    refine (ok_any c _ _).mono ?_; rintro e wA ⟨rfl, hxA⟩
    rw [hc0]
    obtain ⟨r0, r1, f0, f1⟩ := RV.ext hxA
    have q0 := hxA.cell p0
    have q1 := hxA.cell p1
    clear RV p0 p1
    go_wp2
    go_region
    go_wp2
    obtain ⟨e0, e1⟩ := res_cells (c := c) r0 r1 (.slice none 0 0)
    exact bodyPost_ret (v := .tuple #[.slice none 0 0, .agg #[.int .i64 c, .slice none 0 0]]) (by simp [results, Tryd.results41, go_sem, e0, e1]) rfl ⟨_, _, _, _, _, rfl, (by repeat (first | exact Ext.refl _ | assumption | refine Ext.alloc ?_ _ | refine Ext.drew ?_ | refine Ext.drewN ?_ _ | refine Ext.setCell ?_ (by first | exact Nat.le_refl _ | (simp; done) | omega) _ | refine Ext.trans ?_ (by assumption))), by rw [HV.out]; exact Ints.nil _, RErrIs.code HC.out⟩
  | none =>
    obtain ⟨hl, hX, hY⟩ := matAns_none hm
    have HV : Hid (twoV subF xs ys = rowL xs.length fun i => subF (xs.getD i 0) (ys.getD i 0)) := by show _ = _; unfold twoV; rw [hm]
    rw [hm] at RT
    obtain ⟨n, hn⟩ : ∃ n, n = xs.length := ⟨_, rfl⟩
    rw [← hn] at ha hN HV hl ⊢
    rw [← hl] at hb ⊢
    have AG := Lib.hid ha.had
    have BG := Lib.hid hb.had
    have HN := Lib.hid hn
    have HL := Lib.hid hl
    have HX := Lib.hid hX
    have HY := Lib.hid hY
    clear hm hl hX hY hn
    go_enter Tryd.func41, Tryd.ntmps41
    go_wp2_with fail
    refine (RT.out _ _ _ (ha.ext (by repeat (first | exact Ext.refl _ | assumption | refine Ext.alloc ?_ _ | refine Ext.drew ?_ | refine Ext.drewN ?_ _ | refine Ext.setCell ?_ (by first | exact Nat.le_refl _ | (simp; done) | omega) _ | refine Ext.trans ?_ (by assumption)))) (hb.ext (by repeat (first | exact Ext.refl _ | assumption | refine Ext.alloc ?_ _ | refine Ext.drew ?_ | refine Ext.drewN ?_ _ | refine Ext.setCell ?_ (by first | exact Nat.le_refl _ | (simp; done) | omega) _ | refine Ext.trans ?_ (by assumption))))).mono ?_; rintro e w1 ⟨c, rfl, hx1, hr1⟩
    have E1 : Ext w (w1.alloc (.cells #[.int .i64 c, .slice none 0 0] 34)) := (by repeat (first | exact Ext.refl _ | assumption | refine Ext.alloc ?_ _ | refine Ext.drew ?_ | refine Ext.drewN ?_ _ | refine Ext.setCell ?_ (by first | exact Nat.le_refl _ | (simp; done) | omega) _ | refine Ext.trans ?_ (by assumption)))
    have RV := (ResAt.new w).ext (hx1.alloc (.cells #[.int .i64 c, .slice none 0 0] 34))
    have p0 : (w1.alloc (.cells #[.int .i64 c, .slice none 0 0] 34)).cell? ⟨w1.heap.size, 0, none⟩ = some (.int .i64 c) := by simp
    have p1 : (w1.alloc (.cells #[.int .i64 c, .slice none 0 0] 34)).cell? ⟨w1.heap.size, 1, none⟩ = some (.slice none 0 0) := by simp
    go_wp2_with fail
    obtain ⟨B, hB⟩ : ∃ B, B = w1.heap.size := ⟨_, rfl⟩
    rw [← hB] at p0 p1 ⊢
    clear hB
    revert E1 RV p0 p1
    generalize w1.alloc (.cells #[.int .i64 c, .slice none 0 0] 34) = wS
    intro E1 RV p0 p1
    clear hx1
    obtain ⟨rfl, -⟩ := hr1
    have hsz := E1.size
    go_loopw [7, 8] (fun sv iv wr => ∃ k : Nat, k ≤ n ∧ iv = .int .i64 k ∧ Hid (wr.ownsRow wS.heap.size 3 1 sv k ((rowL k fun i => subF (xs.getD i 0) (ys.getD i 0)).map (Value.int .i64))) ∧ Ext wS wr) (fun _ iv _ => n - (intOf iv).toNat)
    case atStart => exact ⟨0, Nat.zero_le _, rfl, World.ownsRow_nil _ _ _ _, Ext.refl _⟩
    case round =>
      obtain ⟨k, hk, rfl, HO, hE⟩ := hrel
      have q0 := hE.cell p0
      have q1 := hE.cell p1
      go_wp2_with fail
      refine (ok_any 0 _ _).mono ?_; rintro e wA ⟨rfl, hxA⟩
      rw [show ((0 : Int) == 0) = true from rfl]
      have hE : Ext wS wA := hE.trans hxA
      have HO : Hid (wA.ownsRow wS.heap.size 3 1 _ k ((rowL k fun i => subF (xs.getD i 0) (ys.getD i 0)).map (Value.int .i64))) := own_ext HO.out hxA
      have hBB := hE.size
      clear hxA q0 q1
      by_cases hlt : k < n
      · obtain ⟨x, hx'⟩ : ∃ x, xs.getD k 0 = x := ⟨_, rfl⟩
        obtain ⟨y, hy'⟩ : ∃ y, ys.getD k 0 = y := ⟨_, rfl⟩
        obtain ⟨g, off, rfl⟩ := AG.out (by omega)
        obtain ⟨g', off', rfl⟩ := BG.out (by omega)
        have cx := (E1.trans hE).cell (ha.at (get_of_lt (by rw [← HN.out]; exact hlt)))
        have cy := (E1.trans hE).cell (hb.at (get_of_lt (by rw [← HL.out]; exact hlt)))
        have bx := HX.out k
        have by' := HY.out k
        rw [hx'] at cx bx
        rw [hy'] at cy by'
        have HS : Hid ((rowL (k + 1) fun i => subF (xs.getD i 0) (ys.getD i 0)).map (Value.int .i64) = (rowL k fun i => subF (xs.getD i 0) (ys.getD i 0)).map (Value.int .i64) ++ [.int .i64 (x - y)]) := by
          show _ = _
          rw [rowL_succb, List.map_append, hx', hy']
          rfl
        clear hx' hy'
        have e1 : IntKind.i64.wrap (x - y) = x - y := by rw [IntKind.wrap_i64]; omega
        have lx : g < wS.heap.size := Nat.lt_of_lt_of_le (Ext.lt (ha.at (get_of_lt (by rw [← HN.out]; exact hlt)))) hsz
        have ly : g' < wS.heap.size := Nat.lt_of_lt_of_le (Ext.lt (hb.at (get_of_lt (by rw [← HL.out]; exact hlt)))) hsz
        go_wp2
        go_region_held3 (fun w' => w'.cell? ⟨g, off + k, none⟩ = some (.int .i64 x) ∧ w'.cell? ⟨g', off' + k, none⟩ = some (.int .i64 y))
          (first | go_keep | (exact ⟨Below.cellv h2 cx lx, Below.cellv h2 cy ly⟩))
          ((refine step_push (by rfl) _ _ 22 (by rfl) Tryd.underlying22 _ k _ (x - y) (by rfl) HO.out (by rfl) hBB (by omega) ?_; intro ng ncap w7 h1 h2 h3))
        have hE7 := hE.of_below h2 (Nat.le_refl _)
        have HO7 := Lib.hid h1
        clear h1 h2 h3
        go_wp2
        go_roundw
        case rel => exact ⟨k + 1, by omega, by go_num, by show World.ownsRow _ _ _ _ _ _ _; rw [HS.out]; exact HO7.out, hE7⟩
        case measure => simp [intOf]; omega
      · obtain rfl : k = n := by omega
        obtain ⟨r0, r1, f0, f1⟩ := RV.ext hE
        have q0 := hE.cell p0
        have q1 := hE.cell p1
        have lB : w.heap.size < wS.heap.size := Ext.lt RV.1
        clear p0 p1 RV
        have ho2 := own_ext (ownsRow_setCell_below (ownsRow_setCell_below HO.out (a := ⟨w.heap.size, 0, none⟩) lB (.int .i64 0)) (a := ⟨w.heap.size, 1, none⟩) lB (.slice none 0 0)) ((Ext.refl _).drew)
        go_wp2
        go_region
        go_wp2
        obtain ⟨e0, e1⟩ := res_cells (c := 0) r0 r1 (.slice none 0 0)
        exact bodyPost_ret (v := .tuple #[_, .agg #[.int .i64 0, .slice none 0 0]]) (by simp [results, Tryd.results41, go_sem, e0, e1]; rfl) rfl ⟨_, _, _, _, _, rfl, (by repeat (first | exact Ext.refl _ | assumption | refine Ext.alloc ?_ _ | refine Ext.drew ?_ | refine Ext.drewN ?_ _ | refine Ext.setCell ?_ (by first | exact Nat.le_refl _ | (simp; done) | omega) _ | refine Ext.trans ?_ (by assumption))), by rw [HV.out]; exact Ints.of_row ho2 (by omega), RErrIs.zero⟩
end Go.Proofs.YtkealkjijfbdoaaDoor
