/- kinref7.Clip, Add: contracts over this seat's translation. -/
import Derived.Test.YtkealkjijfbdoaaDoorR7b
import Derived.Deep.RegionWith
namespace Go.Proofs.YtkealkjijfbdoaaDoor
set_option linter.unusedVariables false
set_option linter.unusedSimpArgs false
open Go.RowKit Go.Extern.Stop Go.Stop Go.Extern

set_option maxRecDepth 20000 in
set_option maxHeartbeats 2000000 in
theorem rclip7_any (xs ys : List Int) (v u : Value) (w : World) (ha : Ints w v xs) (hb : Ints w u ys) (hl : xs.length = ys.length) (hN : xs.length ≤ 1000000) (hX : ∀ j, -1048576 ≤ xs.getD j 0 ∧ xs.getD j 0 ≤ 1048576) (hY : ∀ j, -1048576 ≤ ys.getD j 0 ∧ ys.getD j 0 ≤ 1048576) :
    Calls Tryd.prog 77 #[v, u] w fun e w' => ∃ u, e = .returned u ∧ Ext w w' ∧ w'.ownsRow w.heap.size 3 1 u xs.length ((rowL xs.length fun i => addF (xs.getD i 0) (ys.getD i 0)).map (Value.int .i64)) := by
  obtain ⟨a, cap, rfl⟩ := ha.form
  obtain ⟨b, cap', rfl⟩ := hb.form
  obtain ⟨n, hn⟩ : ∃ n, n = xs.length := ⟨_, rfl⟩
  rw [← hn] at ha hN hl ⊢
  rw [← hl] at hb ⊢
  have AG := Lib.hid ha.had
  have BG := Lib.hid hb.had
  have HN := Lib.hid hn
  have HL := Lib.hid hl
  have HX := Lib.hid hX
  have HY := Lib.hid hY
  clear hl hX hY hn
  go_enter Tryd.func77, Tryd.ntmps77
  go_wp2
  go_loopw [5, 6] (fun sv iv wr => ∃ k : Nat, k ≤ n ∧ iv = .int .i64 k ∧ Hid (wr.ownsRow w.heap.size 3 1 sv k ((rowL k fun i => addF (xs.getD i 0) (ys.getD i 0)).map (Value.int .i64))) ∧ Ext w wr) (fun _ iv _ => n - (intOf iv).toNat)
  case atStart => exact ⟨0, Nat.zero_le _, rfl, World.ownsRow_nil _ _ _ _, Ext.refl _⟩
  case round =>
    obtain ⟨k, hk, rfl, HO, hE⟩ := hrel
    have hBB := hE.size
    by_cases hlt : k < n
    · obtain ⟨x, hx'⟩ : ∃ x, xs.getD k 0 = x := ⟨_, rfl⟩
      obtain ⟨y, hy'⟩ : ∃ y, ys.getD k 0 = y := ⟨_, rfl⟩
      obtain ⟨g, off, rfl⟩ := AG.out (by omega)
      obtain ⟨g', off', rfl⟩ := BG.out (by omega)
      have cx := hE.cell (ha.at (get_of_lt (by rw [← HN.out]; exact hlt)))
      have cy := hE.cell (hb.at (get_of_lt (by rw [← HL.out]; exact hlt)))
      have lx : g < w.heap.size := Ext.lt (ha.at (get_of_lt (by rw [← HN.out]; exact hlt)))
      have ly : g' < w.heap.size := Ext.lt (hb.at (get_of_lt (by rw [← HL.out]; exact hlt)))
      have bx := HX.out k
      have by' := HY.out k
      rw [hx'] at cx bx
      rw [hy'] at cy by'
      obtain ⟨z, hz⟩ : ∃ z, clipI (x + y) = z := ⟨_, rfl⟩
      have HF := Lib.hid (fun W => rclip_any (x + y) W)
      rw [hz] at HF
      have HS : Hid ((rowL (k + 1) fun i => addF (xs.getD i 0) (ys.getD i 0)).map (Value.int .i64) = (rowL k fun i => addF (xs.getD i 0) (ys.getD i 0)).map (Value.int .i64) ++ [.int .i64 z]) := by
        show _ = _
        rw [rowL_succb, List.map_append, hx', hy', ← hz]
        rfl
      clear hx' hy' hz
      have e1 : IntKind.i64.wrap (x + y) = x + y := by rw [IntKind.wrap_i64]; omega
      go_wp2
      go_region_held3 (fun w' => w'.cell? ⟨g, off + k, none⟩ = some (.int .i64 x) ∧ w'.cell? ⟨g', off' + k, none⟩ = some (.int .i64 y))
        (first | go_keep | (exact ⟨Below.cellv h2 cx lx, Below.cellv h2 cy ly⟩))
        (first | (go_at_call 24; refine (HF.out _).mono ?_; rintro e w' ⟨rfl, rfl⟩) | (refine step_push (by rfl) _ _ 22 (by rfl) Tryd.underlying22 _ k _ z (by rfl) HO.out (by rfl) hBB (by omega) ?_; intro ng ncap w7 h1 h2 h3))
      have hE7 := hE.of_below h2 (Nat.le_refl _)
      have HO7 := Lib.hid h1
      clear h1 h2 h3
      go_wp2
      go_roundw
      case rel => exact ⟨k + 1, by omega, by go_num, by show World.ownsRow _ _ _ _ _ _ _; rw [HS.out]; exact HO7.out, hE7⟩
      case measure => simp [intOf]; omega
    · obtain rfl : k = n := by omega
      go_wp2
      go_ret
      exact ⟨_, rfl, hE, HO.out⟩
set_option maxRecDepth 20000 in
set_option maxHeartbeats 2000000 in
theorem radd_any (xs ys : List Int) (v u : Value) (w : World) (ha : Ints w v xs) (hb : Ints w u ys) (hN : xs.length ≤ 1000000) :
    Calls Tryd.prog 43 #[v, u] w (RZPost w (twoV addF xs ys) (matAns xs ys)) := by
  have RT := Lib.hid (rtwo_any xs ys)
  have RC := Lib.hid (fun h1 h2 h3 v u w h k => rclip7_any xs ys v u w h k h1 hN h2 h3)
  obtain ⟨a, cap, rfl⟩ := ha.form
  obtain ⟨b, cap', rfl⟩ := hb.form
  cases hm : matAns xs ys with
  | some f =>
    obtain ⟨p, k⟩ := f
    have HV : Hid (twoV addF xs ys = []) := by show _ = _; unfold twoV; rw [hm]
    rw [hm] at RT
    clear hm
    go_enter Tryd.func43, Tryd.ntmps43
    go_wp2_with fail
    refine (RT.out _ _ _ (ha.ext (by repeat (first | exact Ext.refl _ | assumption | refine Ext.alloc ?_ _ | refine Ext.drew ?_ | refine Ext.drewN ?_ _ | refine Ext.setCell ?_ (by first | exact Nat.le_refl _ | (simp; done) | omega) _ | refine Ext.trans ?_ (by assumption)))) (hb.ext (by repeat (first | exact Ext.refl _ | assumption | refine Ext.alloc ?_ _ | refine Ext.drew ?_ | refine Ext.drewN ?_ _ | refine Ext.setCell ?_ (by first | exact Nat.le_refl _ | (simp; done) | omega) _ | refine Ext.trans ?_ (by assumption))))).mono ?_; rintro e w1 ⟨c, rfl, hx1, hr1⟩
    have E1 : Ext w (w1.alloc (.cells #[.int .i64 c, .slice none 0 0] 34)) := (by repeat (first | exact Ext.refl _ | assumption | refine Ext.alloc ?_ _ | refine Ext.drew ?_ | refine Ext.drewN ?_ _ | refine Ext.setCell ?_ (by first | exact Nat.le_refl _ | (simp; done) | omega) _ | refine Ext.trans ?_ (by assumption)))
    have RV := (ResAt.new w).ext (hx1.alloc (.cells #[.int .i64 c, .slice none 0 0] 34))
    have p0 : (w1.alloc (.cells #[.int .i64 c, .slice none 0 0] 34)).cell? ⟨w1.heap.size, 0, none⟩ = some (.int .i64 c) := by simp
    have p1 : (w1.alloc (.cells #[.int .i64 c, .slice none 0 0] 34)).cell? ⟨w1.heap.size, 1, none⟩ = some (.slice none 0 0) := by simp
    go_wp2_with fail
    refine (ok_any c _ _).mono ?_; rintro e wA ⟨rfl, hxA⟩
    have EA : Ext w wA := E1.trans hxA
    have RA := RV.ext hxA
    have P0 := hxA.cell p0
    have P1 := hxA.cell p1
    clear E1 RV p0 p1
    obtain ⟨B, hB⟩ : ∃ B, B = w1.heap.size := ⟨_, rfl⟩
    rw [← hB] at P0 P1 ⊢
    clear hB hx1 hxA
    obtain ⟨rfl, rfl, hc⟩ := rfall_code hr1
    have hc0 : (c == 0) = false := by simpa using hc
    have HC := Lib.hid hc
    clear hc
    rw [hc0]
    obtain ⟨r0, r1, f0, f1⟩ := RA
    go_wp2
    go_region
    go_wp2
    obtain ⟨e0, e1⟩ := res_cells (c := c) r0 r1 (.slice none 0 0)
    exact bodyPost_ret (v := .tuple #[.slice none 0 0, .agg #[.int .i64 c, .slice none 0 0]]) (by simp [results, Tryd.results43, go_sem, e0, e1]) rfl ⟨_, _, _, _, _, rfl, (by repeat (first | exact Ext.refl _ | assumption | refine Ext.alloc ?_ _ | refine Ext.drew ?_ | refine Ext.drewN ?_ _ | refine Ext.setCell ?_ (by first | exact Nat.le_refl _ | (simp; done) | omega) _ | refine Ext.trans ?_ (by assumption))), by rw [HV.out]; exact Ints.nil _, RErrIs.code HC.out⟩
  | none =>
    obtain ⟨hl, hX, hY⟩ := matAns_none hm
    have HV : Hid (twoV addF xs ys = rowL xs.length fun i => addF (xs.getD i 0) (ys.getD i 0)) := by show _ = _; unfold twoV; rw [hm]
    rw [hm] at RT
    have HC := Lib.hid (fun v u w h k => RC.out hl hX hY v u w h k)
    clear RC hm hl hX hY
    go_enter Tryd.func43, Tryd.ntmps43
    go_wp2_with fail
    refine (RT.out _ _ _ (ha.ext (by repeat (first | exact Ext.refl _ | assumption | refine Ext.alloc ?_ _ | refine Ext.drew ?_ | refine Ext.drewN ?_ _ | refine Ext.setCell ?_ (by first | exact Nat.le_refl _ | (simp; done) | omega) _ | refine Ext.trans ?_ (by assumption)))) (hb.ext (by repeat (first | exact Ext.refl _ | assumption | refine Ext.alloc ?_ _ | refine Ext.drew ?_ | refine Ext.drewN ?_ _ | refine Ext.setCell ?_ (by first | exact Nat.le_refl _ | (simp; done) | omega) _ | refine Ext.trans ?_ (by assumption))))).mono ?_; rintro e w1 ⟨c, rfl, hx1, hr1⟩
    have E1 : Ext w (w1.alloc (.cells #[.int .i64 c, .slice none 0 0] 34)) := (by repeat (first | exact Ext.refl _ | assumption | refine Ext.alloc ?_ _ | refine Ext.drew ?_ | refine Ext.drewN ?_ _ | refine Ext.setCell ?_ (by first | exact Nat.le_refl _ | (simp; done) | omega) _ | refine Ext.trans ?_ (by assumption)))
    have RV := (ResAt.new w).ext (hx1.alloc (.cells #[.int .i64 c, .slice none 0 0] 34))
    have p0 : (w1.alloc (.cells #[.int .i64 c, .slice none 0 0] 34)).cell? ⟨w1.heap.size, 0, none⟩ = some (.int .i64 c) := by simp
    have p1 : (w1.alloc (.cells #[.int .i64 c, .slice none 0 0] 34)).cell? ⟨w1.heap.size, 1, none⟩ = some (.slice none 0 0) := by simp
    go_wp2_with fail
    refine (ok_any c _ _).mono ?_; rintro e wA ⟨rfl, hxA⟩
    have EA : Ext w wA := E1.trans hxA
    have RA := RV.ext hxA
    have P0 := hxA.cell p0
    have P1 := hxA.cell p1
    clear E1 RV p0 p1
    obtain ⟨B, hB⟩ : ∃ B, B = w1.heap.size := ⟨_, rfl⟩
    rw [← hB] at P0 P1 ⊢
    clear hB hx1 hxA
    obtain ⟨rfl, -⟩ := hr1
    rw [show ((0 : Int) == 0) = true from rfl]
    have RW := Lib.hid RA
    clear RA
    go_wp2
    go_region_with ((go_at_call 77; refine (HC.out _ _ _ (ha.ext (by repeat (first | exact Ext.refl _ | assumption | refine Ext.alloc ?_ _ | refine Ext.drew ?_ | refine Ext.drewN ?_ _ | refine Ext.setCell ?_ (by first | exact Nat.le_refl _ | (simp; done) | omega) _ | refine Ext.trans ?_ (by assumption)))) (hb.ext (by repeat (first | exact Ext.refl _ | assumption | refine Ext.alloc ?_ _ | refine Ext.drew ?_ | refine Ext.drewN ?_ _ | refine Ext.setCell ?_ (by first | exact Nat.le_refl _ | (simp; done) | omega) _ | refine Ext.trans ?_ (by assumption))))).mono ?_; rintro e w9 ⟨u9, rfl, hx9, hz9⟩; have s0 := hx9.cell (show wA.drew.cell? _ = _ from P0); have s1 := hx9.cell (show wA.drew.cell? _ = _ from P1); have RB := ResAt.ext (show ResAt wA.drew _ from RW.out) hx9; obtain ⟨b0, b1, b2, b3⟩ := RB))
    all_goals
      have hsz : w.heap.size < wA.drew.heap.size := Ext.lt RW.out.1
      have ho2 := ownsRow_setCell_below (ownsRow_setCell_below hz9 (a := ⟨w.heap.size, 0, none⟩) hsz (.int .i64 0)) (a := ⟨w.heap.size, 1, none⟩) hsz (.slice none 0 0)
      go_wp2
      obtain ⟨e0, e1⟩ := res_cells (c := 0) b0 b1 (.slice none 0 0)
      exact bodyPost_ret (v := .tuple #[_, .agg #[.int .i64 0, .slice none 0 0]]) (by simp [results, Tryd.results43, go_sem, e0, e1]; rfl) rfl ⟨_, _, _, _, _, rfl, (by repeat (first | exact Ext.refl _ | assumption | refine Ext.alloc ?_ _ | refine Ext.drew ?_ | refine Ext.drewN ?_ _ | refine Ext.setCell ?_ (by first | exact Nat.le_refl _ | (simp; done) | omega) _ | refine Ext.trans ?_ (by assumption))), by rw [HV.out]; exact Ints.of_row ho2 hN, RErrIs.zero⟩
end Go.Proofs.YtkealkjijfbdoaaDoor
