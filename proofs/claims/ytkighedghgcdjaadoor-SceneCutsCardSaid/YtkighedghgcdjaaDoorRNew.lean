/- kinref6.New: its contract over this seat's translation. -/
import Derived.Test.YtkighedghgcdjaaDoorPlN
import Derived.Test.YtkighedghgcdjaaDoorRes
namespace Go.Proofs.YtkighedghgcdjaaDoor
set_option linter.unusedVariables false
set_option linter.unusedSimpArgs false
open Go.RowKit Go.Extern.Stop Go.Stop Go.Extern

theorem frr_cells {w : World} {B C : Nat} (W H c : Int) (v l : Value) (hBC : B ≠ C) (h : w.cell? ⟨B, 0, none⟩ = some (.int .i64 0) ∧ w.cell? ⟨B, 1, none⟩ = some (.int .i64 0) ∧ w.cell? ⟨B, 2, none⟩ = some (.slice none 0 0)) (k0 : w.cell? ⟨C, 0, none⟩ = some (.int .i64 0)) (k1 : w.cell? ⟨C, 1, none⟩ = some (.slice none 0 0)) :
    (((((w.setCell ⟨B, 0, none⟩ (.int .i64 W)).setCell ⟨B, 1, none⟩ (.int .i64 H)).setCell ⟨B, 2, none⟩ v).setCell ⟨C, 0, none⟩ (.int .i64 c)).setCell ⟨C, 1, none⟩ l).cell? ⟨B, 0, none⟩ = some (.int .i64 W) ∧
    (((((w.setCell ⟨B, 0, none⟩ (.int .i64 W)).setCell ⟨B, 1, none⟩ (.int .i64 H)).setCell ⟨B, 2, none⟩ v).setCell ⟨C, 0, none⟩ (.int .i64 c)).setCell ⟨C, 1, none⟩ l).cell? ⟨B, 1, none⟩ = some (.int .i64 H) ∧
    (((((w.setCell ⟨B, 0, none⟩ (.int .i64 W)).setCell ⟨B, 1, none⟩ (.int .i64 H)).setCell ⟨B, 2, none⟩ v).setCell ⟨C, 0, none⟩ (.int .i64 c)).setCell ⟨C, 1, none⟩ l).cell? ⟨B, 2, none⟩ = some v ∧
    (((((w.setCell ⟨B, 0, none⟩ (.int .i64 W)).setCell ⟨B, 1, none⟩ (.int .i64 H)).setCell ⟨B, 2, none⟩ v).setCell ⟨C, 0, none⟩ (.int .i64 c)).setCell ⟨C, 1, none⟩ l).cell? ⟨C, 0, none⟩ = some (.int .i64 c) ∧
    (((((w.setCell ⟨B, 0, none⟩ (.int .i64 W)).setCell ⟨B, 1, none⟩ (.int .i64 H)).setCell ⟨B, 2, none⟩ v).setCell ⟨C, 0, none⟩ (.int .i64 c)).setCell ⟨C, 1, none⟩ l).cell? ⟨C, 1, none⟩ = some l := by
  obtain ⟨a0, a1, a2⟩ := fr_cells W H v h.1 h.2.1 h.2.2
  have o : ∀ (w : World) (i j : Nat) (x : Value), (w.setCell ⟨C, i, none⟩ x).cell? ⟨B, j, none⟩ = w.cell? ⟨B, j, none⟩ := fun w i j x => World.cell?_setCell_other w ⟨C, i, none⟩ ⟨B, j, none⟩ x (by simp [hBC, Ne.symm hBC])
  have o' : ∀ (w : World) (i j : Nat) (x : Value), (w.setCell ⟨B, i, none⟩ x).cell? ⟨C, j, none⟩ = w.cell? ⟨C, j, none⟩ := fun w i j x => World.cell?_setCell_other w ⟨B, i, none⟩ ⟨C, j, none⟩ x (by simp [hBC, Ne.symm hBC])
  obtain ⟨e0, e1⟩ := res_cells (c := c) (w := ((w.setCell ⟨B, 0, none⟩ (.int .i64 W)).setCell ⟨B, 1, none⟩ (.int .i64 H)).setCell ⟨B, 2, none⟩ v) (((o' _ _ _ _).trans ((o' _ _ _ _).trans (o' _ _ _ _))).trans k0) (((o' _ _ _ _).trans ((o' _ _ _ _).trans (o' _ _ _ _))).trans k1) l
  exact ⟨((o _ _ _ _).trans (o _ _ _ _)).trans a0, ((o _ _ _ _).trans (o _ _ _ _)).trans a1, ((o _ _ _ _).trans (o _ _ _ _)).trans a2, e0, e1⟩
/-- a frame's three cells, that may be written -/
def FrHas (w : World) (B : Nat) (W H : Int) (v : Value) : Prop := (w.cell? ⟨B, 0, none⟩ = some (.int .i64 W) ∧ w.cell? ⟨B, 1, none⟩ = some (.int .i64 H) ∧ w.cell? ⟨B, 2, none⟩ = some v) ∧ w.frozen? ⟨B, 0, none⟩ = false ∧ w.frozen? ⟨B, 1, none⟩ = false ∧ w.frozen? ⟨B, 2, none⟩ = false
theorem FrHas.new (w : World) (W H : Int) (v : Value) : FrHas (w.alloc (.cells #[.int .i64 W, .int .i64 H, v] 24)) w.heap.size W H v := by
  refine ⟨⟨by simp, by simp, by simp⟩, by simp, by simp, by simp⟩
theorem FrHas.under {w w' : World} {B D : Nat} {W H : Int} {v : Value} (h : FrHas w B W H v) (k : Below D w w') (hb : B < D) : FrHas w' B W H v := by
  obtain ⟨⟨h0, h1, h2⟩, f0, f1, f2⟩ := h
  exact ⟨⟨(Below.cell k (p := ⟨B, 0, none⟩) hb).trans h0, (Below.cell k (p := ⟨B, 1, none⟩) hb).trans h1, (Below.cell k (p := ⟨B, 2, none⟩) hb).trans h2⟩, (Below.frozen k (p := ⟨B, 0, none⟩) hb).trans f0, (Below.frozen k (p := ⟨B, 1, none⟩) hb).trans f1, (Below.frozen k (p := ⟨B, 2, none⟩) hb).trans f2⟩
theorem FrHas.ext {w w' : World} {B : Nat} {W H : Int} {v : Value} (h : FrHas w B W H v) (k : Ext w w') : FrHas w' B W H v := h.under k (Ext.lt h.1.1)
theorem FrHas.set {w : World} {B : Nat} {W H : Int} {v : Value} (h : FrHas w B W H v) (u : Value) : FrHas (w.setCell ⟨B, 2, none⟩ u) B W H u := by
  obtain ⟨⟨h0, h1, h2⟩, f0, f1, f2⟩ := h
  refine ⟨⟨(World.cell?_setCell_other w ⟨B, 2, none⟩ ⟨B, 0, none⟩ u (by simp)).trans h0, (World.cell?_setCell_other w ⟨B, 2, none⟩ ⟨B, 1, none⟩ u (by simp)).trans h1, World.cell?_setCell_same _ _ u h2⟩, ?_, ?_, ?_⟩
  · simpa using f0
  · simpa using f1
  · simpa using f2
set_option maxRecDepth 20000 in
set_option maxHeartbeats 2000000 in
theorem rnew_no (W H v : Int) (w : World) (h : newOk W H v = false) :
    Calls Tryd.prog 18 #[.int .i64 W, .int .i64 H, .int .i64 v] w (RFPost w 0 0 [] range) := by
  unfold newOk at h
  cases s1 : sideB W with
  | false =>
    clear h
    have FA0 : FrHas ((w.alloc (.cells #[.int .i64 0, .int .i64 0, .slice none 0 0] 24)).alloc (.cells #[.int .i64 0, .slice none 0 0] 34)) w.heap.size 0 0 (.slice none 0 0) := (FrHas.new w 0 0 (.slice none 0 0)).ext ((Ext.refl _).alloc _)
    have RA0 : ResAt ((w.alloc (.cells #[.int .i64 0, .int .i64 0, .slice none 0 0] 24)).alloc (.cells #[.int .i64 0, .slice none 0 0] 34)) (w.heap.size + 1) := by
      have := ResAt.new (w.alloc (.cells #[.int .i64 0, .int .i64 0, .slice none 0 0] 24))
      simpa using this
    have E0 : Ext w ((w.alloc (.cells #[.int .i64 0, .int .i64 0, .slice none 0 0] 24)).alloc (.cells #[.int .i64 0, .slice none 0 0] 34)) := (by repeat (first | exact Ext.refl _ | assumption | refine Ext.alloc ?_ _ | refine Ext.drew ?_ | refine Ext.drewN ?_ _ | refine Ext.setCell ?_ (by first | exact Nat.le_refl _ | (simp; done) | omega) _ | refine Ext.trans ?_ (by assumption)))
    go_enter Tryd.func18, Tryd.ntmps18
    go_wp2_with fail
    revert FA0 RA0 E0
    generalize (w.alloc (.cells #[.int .i64 0, .int .i64 0, .slice none 0 0] 24)).alloc (.cells #[.int .i64 0, .slice none 0 0] 34) = w0
    intro FA0 RA0 E0
    have HF := Lib.hid FA0
    have HRA := Lib.hid RA0
    clear FA0 RA0
    go_wp2_with (go_at_call 55; refine (rside_any _ _).mono ?_; rintro e w' ⟨rfl, rfl⟩)
    refine (fail_any 3 _).mono ?_; rintro e w1 ⟨rfl, hx1⟩
    obtain ⟨hf, f0, f1, f2⟩ := HF.out.ext hx1
    obtain ⟨r0, r1, g0, g1⟩ := HRA.out.ext hx1
    have E9 := E0.trans hx1
    have HE := frr_cells 0 0 3 (.slice none 0 0) (.slice none 0 0) (show w.heap.size ≠ w.heap.size + 1 by omega) hf r0 r1
    obtain ⟨h0, h1, h2⟩ := hf
    clear hx1
    go_wp2
    obtain ⟨e0, e1, e2, e3, e4⟩ := HE
    exact bodyPost_ret (v := .tuple #[.agg #[.int .i64 0, .int .i64 0, .slice none 0 0], .agg #[.int .i64 3, .slice none 0 0]]) (by simp [results, Tryd.results18, go_sem, e0, e1, e2, e3, e4]) rfl
      ⟨_, _, _, _, _, _, _, rfl, ((((E9.setCell (p := ⟨w.heap.size, 0, none⟩) (Nat.le_refl _) _).setCell (p := ⟨w.heap.size, 1, none⟩) (Nat.le_refl _) _).setCell (p := ⟨w.heap.size, 2, none⟩) (Nat.le_refl _) _).setCell (p := ⟨w.heap.size + 1, 0, none⟩) (Nat.le_add_right _ 1) _).setCell (p := ⟨w.heap.size + 1, 1, none⟩) (Nat.le_add_right _ 1) _, Ints.nil _, RErrIs.code (by decide)⟩
  | true =>
    cases s2 : sideB H with
    | false =>
      clear h
      have FA0 : FrHas ((w.alloc (.cells #[.int .i64 0, .int .i64 0, .slice none 0 0] 24)).alloc (.cells #[.int .i64 0, .slice none 0 0] 34)) w.heap.size 0 0 (.slice none 0 0) := (FrHas.new w 0 0 (.slice none 0 0)).ext ((Ext.refl _).alloc _)
      have RA0 : ResAt ((w.alloc (.cells #[.int .i64 0, .int .i64 0, .slice none 0 0] 24)).alloc (.cells #[.int .i64 0, .slice none 0 0] 34)) (w.heap.size + 1) := by
        have := ResAt.new (w.alloc (.cells #[.int .i64 0, .int .i64 0, .slice none 0 0] 24))
        simpa using this
      have E0 : Ext w ((w.alloc (.cells #[.int .i64 0, .int .i64 0, .slice none 0 0] 24)).alloc (.cells #[.int .i64 0, .slice none 0 0] 34)) := (by repeat (first | exact Ext.refl _ | assumption | refine Ext.alloc ?_ _ | refine Ext.drew ?_ | refine Ext.drewN ?_ _ | refine Ext.setCell ?_ (by first | exact Nat.le_refl _ | (simp; done) | omega) _ | refine Ext.trans ?_ (by assumption)))
      go_enter Tryd.func18, Tryd.ntmps18
      go_wp2_with fail
      revert FA0 RA0 E0
      generalize (w.alloc (.cells #[.int .i64 0, .int .i64 0, .slice none 0 0] 24)).alloc (.cells #[.int .i64 0, .slice none 0 0] 34) = w0
      intro FA0 RA0 E0
      have HF := Lib.hid FA0
      have HRA := Lib.hid RA0
      clear FA0 RA0
      go_wp2_with (go_at_call 55; refine (rside_any _ _).mono ?_; rintro e w' ⟨rfl, rfl⟩)
      refine (fail_any 3 _).mono ?_; rintro e w1 ⟨rfl, hx1⟩
      obtain ⟨hf, f0, f1, f2⟩ := HF.out.ext hx1
      obtain ⟨r0, r1, g0, g1⟩ := HRA.out.ext hx1
      have E9 := E0.trans hx1
      have HE := frr_cells 0 0 3 (.slice none 0 0) (.slice none 0 0) (show w.heap.size ≠ w.heap.size + 1 by omega) hf r0 r1
      obtain ⟨h0, h1, h2⟩ := hf
      clear hx1
      go_wp2
      obtain ⟨e0, e1, e2, e3, e4⟩ := HE
      exact bodyPost_ret (v := .tuple #[.agg #[.int .i64 0, .int .i64 0, .slice none 0 0], .agg #[.int .i64 3, .slice none 0 0]]) (by simp [results, Tryd.results18, go_sem, e0, e1, e2, e3, e4]) rfl
        ⟨_, _, _, _, _, _, _, rfl, ((((E9.setCell (p := ⟨w.heap.size, 0, none⟩) (Nat.le_refl _) _).setCell (p := ⟨w.heap.size, 1, none⟩) (Nat.le_refl _) _).setCell (p := ⟨w.heap.size, 2, none⟩) (Nat.le_refl _) _).setCell (p := ⟨w.heap.size + 1, 0, none⟩) (Nat.le_add_right _ 1) _).setCell (p := ⟨w.heap.size + 1, 1, none⟩) (Nat.le_add_right _ 1) _, Ints.nil _, RErrIs.code (by decide)⟩
    | true =>
      have s3 : smpB v = false := by rw [s1, s2] at h; simpa using h
      unfold smpB at s3
      have s4 : ¬ (0 ≤ v ∧ v ≤ 255) := by simpa using s3
      clear h s3
      by_cases s5 : v < 0
      · clear s4
        have FA0 : FrHas ((w.alloc (.cells #[.int .i64 0, .int .i64 0, .slice none 0 0] 24)).alloc (.cells #[.int .i64 0, .slice none 0 0] 34)) w.heap.size 0 0 (.slice none 0 0) := (FrHas.new w 0 0 (.slice none 0 0)).ext ((Ext.refl _).alloc _)
        have RA0 : ResAt ((w.alloc (.cells #[.int .i64 0, .int .i64 0, .slice none 0 0] 24)).alloc (.cells #[.int .i64 0, .slice none 0 0] 34)) (w.heap.size + 1) := by
          have := ResAt.new (w.alloc (.cells #[.int .i64 0, .int .i64 0, .slice none 0 0] 24))
          simpa using this
        have E0 : Ext w ((w.alloc (.cells #[.int .i64 0, .int .i64 0, .slice none 0 0] 24)).alloc (.cells #[.int .i64 0, .slice none 0 0] 34)) := (by repeat (first | exact Ext.refl _ | assumption | refine Ext.alloc ?_ _ | refine Ext.drew ?_ | refine Ext.drewN ?_ _ | refine Ext.setCell ?_ (by first | exact Nat.le_refl _ | (simp; done) | omega) _ | refine Ext.trans ?_ (by assumption)))
        go_enter Tryd.func18, Tryd.ntmps18
        go_wp2_with fail
        revert FA0 RA0 E0
        generalize (w.alloc (.cells #[.int .i64 0, .int .i64 0, .slice none 0 0] 24)).alloc (.cells #[.int .i64 0, .slice none 0 0] 34) = w0
        intro FA0 RA0 E0
        have HF := Lib.hid FA0
        have HRA := Lib.hid RA0
        clear FA0 RA0
        go_wp2_with (go_at_call 55; refine (rside_any _ _).mono ?_; rintro e w' ⟨rfl, rfl⟩)
        refine (fail_any 3 _).mono ?_; rintro e w1 ⟨rfl, hx1⟩
        obtain ⟨hf, f0, f1, f2⟩ := HF.out.ext hx1
        obtain ⟨r0, r1, g0, g1⟩ := HRA.out.ext hx1
        have E9 := E0.trans hx1
        have HE := frr_cells 0 0 3 (.slice none 0 0) (.slice none 0 0) (show w.heap.size ≠ w.heap.size + 1 by omega) hf r0 r1
        obtain ⟨h0, h1, h2⟩ := hf
        clear hx1
        go_wp2
        obtain ⟨e0, e1, e2, e3, e4⟩ := HE
        exact bodyPost_ret (v := .tuple #[.agg #[.int .i64 0, .int .i64 0, .slice none 0 0], .agg #[.int .i64 3, .slice none 0 0]]) (by simp [results, Tryd.results18, go_sem, e0, e1, e2, e3, e4]) rfl
          ⟨_, _, _, _, _, _, _, rfl, ((((E9.setCell (p := ⟨w.heap.size, 0, none⟩) (Nat.le_refl _) _).setCell (p := ⟨w.heap.size, 1, none⟩) (Nat.le_refl _) _).setCell (p := ⟨w.heap.size, 2, none⟩) (Nat.le_refl _) _).setCell (p := ⟨w.heap.size + 1, 0, none⟩) (Nat.le_add_right _ 1) _).setCell (p := ⟨w.heap.size + 1, 1, none⟩) (Nat.le_add_right _ 1) _, Ints.nil _, RErrIs.code (by decide)⟩
      · have s6 : 255 < v := by omega
        clear s4
        have FA0 : FrHas ((w.alloc (.cells #[.int .i64 0, .int .i64 0, .slice none 0 0] 24)).alloc (.cells #[.int .i64 0, .slice none 0 0] 34)) w.heap.size 0 0 (.slice none 0 0) := (FrHas.new w 0 0 (.slice none 0 0)).ext ((Ext.refl _).alloc _)
        have RA0 : ResAt ((w.alloc (.cells #[.int .i64 0, .int .i64 0, .slice none 0 0] 24)).alloc (.cells #[.int .i64 0, .slice none 0 0] 34)) (w.heap.size + 1) := by
          have := ResAt.new (w.alloc (.cells #[.int .i64 0, .int .i64 0, .slice none 0 0] 24))
          simpa using this
        have E0 : Ext w ((w.alloc (.cells #[.int .i64 0, .int .i64 0, .slice none 0 0] 24)).alloc (.cells #[.int .i64 0, .slice none 0 0] 34)) := (by repeat (first | exact Ext.refl _ | assumption | refine Ext.alloc ?_ _ | refine Ext.drew ?_ | refine Ext.drewN ?_ _ | refine Ext.setCell ?_ (by first | exact Nat.le_refl _ | (simp; done) | omega) _ | refine Ext.trans ?_ (by assumption)))
        go_enter Tryd.func18, Tryd.ntmps18
        go_wp2_with fail
        revert FA0 RA0 E0
        generalize (w.alloc (.cells #[.int .i64 0, .int .i64 0, .slice none 0 0] 24)).alloc (.cells #[.int .i64 0, .slice none 0 0] 34) = w0
        intro FA0 RA0 E0
        have HF := Lib.hid FA0
        have HRA := Lib.hid RA0
        clear FA0 RA0
        go_wp2_with (go_at_call 55; refine (rside_any _ _).mono ?_; rintro e w' ⟨rfl, rfl⟩)
        refine (fail_any 3 _).mono ?_; rintro e w1 ⟨rfl, hx1⟩
        obtain ⟨hf, f0, f1, f2⟩ := HF.out.ext hx1
        obtain ⟨r0, r1, g0, g1⟩ := HRA.out.ext hx1
        have E9 := E0.trans hx1
        have HE := frr_cells 0 0 3 (.slice none 0 0) (.slice none 0 0) (show w.heap.size ≠ w.heap.size + 1 by omega) hf r0 r1
        obtain ⟨h0, h1, h2⟩ := hf
        clear hx1
        go_wp2
        obtain ⟨e0, e1, e2, e3, e4⟩ := HE
        exact bodyPost_ret (v := .tuple #[.agg #[.int .i64 0, .int .i64 0, .slice none 0 0], .agg #[.int .i64 3, .slice none 0 0]]) (by simp [results, Tryd.results18, go_sem, e0, e1, e2, e3, e4]) rfl
          ⟨_, _, _, _, _, _, _, rfl, ((((E9.setCell (p := ⟨w.heap.size, 0, none⟩) (Nat.le_refl _) _).setCell (p := ⟨w.heap.size, 1, none⟩) (Nat.le_refl _) _).setCell (p := ⟨w.heap.size, 2, none⟩) (Nat.le_refl _) _).setCell (p := ⟨w.heap.size + 1, 0, none⟩) (Nat.le_add_right _ 1) _).setCell (p := ⟨w.heap.size + 1, 1, none⟩) (Nat.le_add_right _ 1) _, Ints.nil _, RErrIs.code (by decide)⟩
theorem own_slice {w : World} {base n : Nat} {e : TypeId} {s : Nat} {v : Value} {xs : List Value} (h : w.ownsRow base e s v n xs) : ∃ a cap, v = .slice a n cap := by
  obtain ⟨hl, h⟩ := h
  rcases h with ⟨h1, h2⟩ | ⟨g, cap, cur, e, -⟩
  · exact ⟨none, 0, by rw [h1, h2]⟩
  · exact ⟨some ⟨g, 0, none⟩, cap, e⟩
theorem row_setCell {w : World} {base n : Nat} {xs : List Value} {v : Value} (h : w.ownsRow base 3 1 v n xs) (b i : Nat) (hb : b < base) (u : Value) : (w.setCell ⟨b, i, none⟩ u).ownsRow base 3 1 v n xs := ownsRow_setCell_below h (a := ⟨b, i, none⟩) hb u
set_option maxRecDepth 20000 in
set_option maxHeartbeats 2000000 in
theorem rnew_ok (W H v : Int) (w : World) (h : newOk W H v = true) :
    Calls Tryd.prog 18 #[.int .i64 W, .int .i64 H, .int .i64 v] w (RFPost w W H (rowL (W * H).toNat fun _ => v) none) := by
  unfold newOk at h
  simp only [Bool.and_eq_true] at h
  obtain ⟨⟨s1, s2⟩, s3⟩ := h
  have hb := side_area s1 s2
  obtain ⟨N, hN⟩ : ∃ N : Nat, W * H = (N : Int) := ⟨(W * H).toNat, by omega⟩
  have HT : Hid ((W * H).toNat = N) := by show _ = _; omega
  have hN1 : N ≤ 1024 := by omega
  have s4 : 0 ≤ v ∧ v ≤ 255 := by unfold smpB at s3; simpa using s3
  obtain ⟨s5, s6⟩ := s4
  have e1 : IntKind.i64.wrap (W * H) = (N : Int) := by rw [IntKind.wrap_i64]; omega
  clear hN hb s3
  have FA0 : FrHas ((w.alloc (.cells #[.int .i64 0, .int .i64 0, .slice none 0 0] 24)).alloc (.cells #[.int .i64 0, .slice none 0 0] 34)) w.heap.size 0 0 (.slice none 0 0) := (FrHas.new w 0 0 (.slice none 0 0)).ext ((Ext.refl _).alloc _)
  have RA0 : ResAt ((w.alloc (.cells #[.int .i64 0, .int .i64 0, .slice none 0 0] 24)).alloc (.cells #[.int .i64 0, .slice none 0 0] 34)) (w.heap.size + 1) := by
    have := ResAt.new (w.alloc (.cells #[.int .i64 0, .int .i64 0, .slice none 0 0] 24))
    simpa using this
  have E0 : Ext w ((w.alloc (.cells #[.int .i64 0, .int .i64 0, .slice none 0 0] 24)).alloc (.cells #[.int .i64 0, .slice none 0 0] 34)) := (by repeat (first | exact Ext.refl _ | assumption | refine Ext.alloc ?_ _ | refine Ext.drew ?_ | refine Ext.drewN ?_ _ | refine Ext.setCell ?_ (by first | exact Nat.le_refl _ | (simp; done) | omega) _ | refine Ext.trans ?_ (by assumption)))
  go_enter Tryd.func18, Tryd.ntmps18
  go_wp2_with fail
  revert FA0 RA0 E0
  generalize (w.alloc (.cells #[.int .i64 0, .int .i64 0, .slice none 0 0] 24)).alloc (.cells #[.int .i64 0, .slice none 0 0] 34) = w0
  intro FA0 RA0 E0
  have HF := Lib.hid FA0
  have HRA := Lib.hid RA0
  clear FA0 RA0
  go_wp2_with (go_at_call 55; refine (rside_any _ _).mono ?_; rintro e w' ⟨rfl, rfl⟩)
  have hB0 : w.heap.size < w0.heap.size := Ext.lt HF.out.1.1
  have hB1 : w.heap.size + 1 < w0.heap.size := Ext.lt HRA.out.1
  have A1 : Ext w0 (w0.alloc (.cells #[.int .i64 W, .int .i64 H, .slice none 0 0] 24)) := (Ext.refl w0).alloc _
  have HV := Lib.hid (FrHas.new w0 W H (.slice none 0 0))
  have HF := Lib.hid (HF.out.ext A1)
  have HRA := Lib.hid (HRA.out.ext A1)
  have E1 : Ext w (w0.alloc (.cells #[.int .i64 W, .int .i64 H, .slice none 0 0] 24)) := E0.trans A1
  have hS : w0.heap.size + 1 ≤ (w0.alloc (.cells #[.int .i64 W, .int .i64 H, .slice none 0 0] 24)).heap.size := by simp
  clear E0 A1 s1 s2
  go_loopw [9] (fun iv wr => ∃ (k : Nat) (u : Value), k ≤ N ∧ iv = .int .i64 k ∧ Hid (wr.ownsRow (w0.heap.size + 1) 3 1 u k ((rowL k fun _ => v).map (Value.int .i64))) ∧ Hid (FrHas wr w0.heap.size W H u) ∧ Hid (FrHas wr w.heap.size 0 0 (.slice none 0 0)) ∧ Hid (ResAt wr (w.heap.size + 1)) ∧ Ext w wr ∧ w0.heap.size + 1 ≤ wr.heap.size) (fun iv _ => N - (intOf iv).toNat)
  case atStart => exact ⟨0, _, Nat.zero_le _, rfl, World.ownsRow_nil _ _ _ _, HV, HF, HRA, E1, hS⟩
  case round =>
    clear HV HF HRA E1 hS
    obtain ⟨k, u, hk, rfl, HO, HV, HF, HRA, E1, hS⟩ := hrel
    obtain ⟨ua, uc, hu⟩ := (Ints.of_row HO.out (by omega)).form
    rw [rowL_length] at hu
    subst hu
    obtain ⟨⟨p0, p1, p2⟩, f0, f1, f2⟩ := HV.out
    by_cases hlt : k < N
    · go_wp2_with (at_builtin; refine push_int rfl _ _ 22 rfl Tryd.underlying22 _ _ _ _ rfl HO.out (by show Value.slice (some ⟨wr.heap.size, 0, none⟩) 1 1 = _; simp) hS (by omega) ?_; intro v' w7 h1 h2; obtain ⟨va, vc, rfl⟩ := own_slice h1; have HV7 := HV.out.under h2 (Nat.lt_succ_self _); have HF7 := Lib.hid (HF.out.under h2 (by omega)); have HRA7 := Lib.hid (HRA.out.under h2 (by omega)); have HO7 := Lib.hid h1; have E7 : Ext w w7 := E1.of_below h2 (by omega); have hS7 := Nat.le_trans hS h2.size; have HVH := Lib.hid HV7; obtain ⟨⟨c0, c1, c2⟩, j0, j1, j2⟩ := HV7; clear h1 h2)
      go_roundw
      case rel =>
        have sb : Below w0.heap.size w7 (w7.setCell ⟨w0.heap.size, 2, none⟩ (.slice va (k + 1) vc)) := (Below.refl w0.heap.size w7).setCell (p := ⟨w0.heap.size, 2, none⟩) (Nat.le_refl _) _
        refine ⟨k + 1, .slice va (k + 1) vc, by omega, by go_num, ?_, HVH.out.set _, HF7.out.under sb hB0, HRA7.out.under sb hB1, E7.setCell (p := ⟨w0.heap.size, 2, none⟩) (Nat.le_of_lt hB0) _, Nat.le_trans hS7 sb.size⟩
        show World.ownsRow _ _ _ _ _ _ _
        rw [rowL_sn]
        exact row_setCell HO7.out _ _ (Nat.lt_succ_self _) _
      case measure => simp [intOf]; omega
    · obtain rfl : k = N := by omega
      obtain ⟨hf, q0, q1, q2⟩ := HF.out
      obtain ⟨r0, r1, g0, g1⟩ := HRA.out
      have HE := frr_cells W H 0 (.slice ua k uc) (.slice none 0 0) (show w.heap.size ≠ w.heap.size + 1 by omega) hf r0 r1
      have HO9 := Lib.hid (row_setCell (row_setCell (row_setCell (row_setCell (row_setCell HO.out w.heap.size 0 (by omega) (.int .i64 W)) w.heap.size 1 (by omega) (.int .i64 H)) w.heap.size 2 (by omega) (.slice ua k uc)) (w.heap.size + 1) 0 (by omega) (.int .i64 0)) (w.heap.size + 1) 1 (by omega) (.slice none 0 0))
      obtain ⟨h0, h1, h2⟩ := hf
      go_wp2
      obtain ⟨e0, e1, e2, e3, e4⟩ := HE
      exact bodyPost_ret (v := .tuple #[.agg #[.int .i64 W, .int .i64 H, .slice ua k uc], .agg #[.int .i64 0, .slice none 0 0]]) (by simp [results, Tryd.results18, go_sem, e0, e1, e2, e3, e4]) rfl
        ⟨_, _, _, _, _, _, _, rfl, ((((E1.setCell (p := ⟨w.heap.size, 0, none⟩) (Nat.le_refl _) _).setCell (p := ⟨w.heap.size, 1, none⟩) (Nat.le_refl _) _).setCell (p := ⟨w.heap.size, 2, none⟩) (Nat.le_refl _) _).setCell (p := ⟨w.heap.size + 1, 0, none⟩) (Nat.le_add_right _ 1) _).setCell (p := ⟨w.heap.size + 1, 1, none⟩) (Nat.le_add_right _ 1) _, by rw [HT.out]; exact Ints.of_row HO9.out (by omega), RErrIs.zero⟩
end Go.Proofs.YtkighedghgcdjaaDoor
