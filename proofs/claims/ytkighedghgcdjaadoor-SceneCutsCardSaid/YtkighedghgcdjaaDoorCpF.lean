/- kinref.CopyFrame: its contract over this seat's translation. -/
import Derived.Test.YtkighedghgcdjaaDoorEdR
import Derived.Deep.RegionWith
namespace Go.Proofs.YtkighedghgcdjaaDoor
set_option linter.unusedVariables false
set_option linter.unusedSimpArgs false
open Go.RowKit Go.Extern.Stop Go.Stop Go.Extern

theorem fr_cells {w : World} {B : Nat} (W H : Int) (v : Value) (h0 : w.cell? ⟨B, 0, none⟩ = some (.int .i64 0)) (h1 : w.cell? ⟨B, 1, none⟩ = some (.int .i64 0)) (h2 : w.cell? ⟨B, 2, none⟩ = some (.slice none 0 0)) :
    (((w.setCell ⟨B, 0, none⟩ (.int .i64 W)).setCell ⟨B, 1, none⟩ (.int .i64 H)).setCell ⟨B, 2, none⟩ v).cell? ⟨B, 0, none⟩ = some (.int .i64 W) ∧
    (((w.setCell ⟨B, 0, none⟩ (.int .i64 W)).setCell ⟨B, 1, none⟩ (.int .i64 H)).setCell ⟨B, 2, none⟩ v).cell? ⟨B, 1, none⟩ = some (.int .i64 H) ∧
    (((w.setCell ⟨B, 0, none⟩ (.int .i64 W)).setCell ⟨B, 1, none⟩ (.int .i64 H)).setCell ⟨B, 2, none⟩ v).cell? ⟨B, 2, none⟩ = some v := by
  have a0 := World.cell?_setCell_same _ _ (.int .i64 W) h0
  have a1 := (World.cell?_setCell_other w ⟨B, 0, none⟩ ⟨B, 1, none⟩ (.int .i64 W) (by simp)).trans h1
  have a2 := (World.cell?_setCell_other w ⟨B, 0, none⟩ ⟨B, 2, none⟩ (.int .i64 W) (by simp)).trans h2
  have b0 := (World.cell?_setCell_other _ ⟨B, 1, none⟩ ⟨B, 0, none⟩ (.int .i64 H) (by simp)).trans a0
  have b1 := World.cell?_setCell_same _ _ (.int .i64 H) a1
  have b2 := (World.cell?_setCell_other _ ⟨B, 1, none⟩ ⟨B, 2, none⟩ (.int .i64 H) (by simp)).trans a2
  have c0 := (World.cell?_setCell_other _ ⟨B, 2, none⟩ ⟨B, 0, none⟩ v (by simp)).trans b0
  have c1 := (World.cell?_setCell_other _ ⟨B, 2, none⟩ ⟨B, 1, none⟩ v (by simp)).trans b1
  have c2 := World.cell?_setCell_same _ _ v b2
  exact ⟨c0, c1, c2⟩
set_option maxRecDepth 20000 in
theorem copy_own (zs : List Int) (v : Value) (w : World) (ha : Ints w v zs) (hl : zs.length ≤ 1000000) :
    Calls Tryd.prog 66 #[v] w fun e w' => ∃ u, e = .returned u ∧ w'.ownsRow w.heap.size 3 1 u zs.length (zs.map (Value.int .i64)) ∧ Ext w w' := by
  obtain ⟨i0, hi, hz0, hz1, hz2⟩ := info_parts infoInt
  obtain ⟨n, hn⟩ : ∃ n, n = zs.length := ⟨_, rfl⟩
  have E1 : Ext w (w.alloc (.cells #[] 3)) := (Ext.refl w).alloc _
  have hown : (w.alloc (.cells #[] 3)).ownsRow w.heap.size 3 1 (.slice (some ⟨w.heap.size, 0, none⟩) 0 0) 0 [] := World.ownsRow_made w #[] 0 (Nat.le_refl _) (Nat.zero_le _) rfl
  have fin : ∀ (v' : Value) (w' : World), w'.ownsRow w.heap.size 3 1 v' (0 + n) ([] ++ zs.map (Value.int .i64)) → (w.alloc (.cells #[] 3)).grownBy w' (some w.heap.size) → w'.ownsRow w.heap.size 3 1 v' n (zs.map (Value.int .i64)) ∧ Ext w w' := fun v' w' h1 h2 =>
    ⟨by simpa using h1, Below.grown E1 h2 (by simp) (fun k hk => by cases hk; exact Nat.le_refl _)⟩
  have FIN := Lib.hid fin
  clear fin
  by_cases hz : n = 0
  · obtain ⟨a, cap, rfl⟩ := ha.form
    obtain rfl : zs = [] := List.eq_nil_of_length_eq_zero (by omega)
    subst hz
    clear ha hn
    cases a with
    | none =>
      go_enter Tryd.func66, Tryd.ntmps66
      go_wp2
      go_ret
      exact ⟨_, rfl, hown, E1⟩
    | some a =>
      go_enter Tryd.func66, Tryd.ntmps66
      go_wp2_with (at_builtin; refine wpList_append_own _ rfl _ _ 22 rfl w.heap.size 3 i0 (.int .i64 0) 1 8 Tryd.underlying22 hi hz0 hz1 hz2 rfl (by decide) _ 0 [] rfl hown a 0 cap [] rfl rfl (by simp) (by simp) (by decide) (by decide) (by simp) ?_; intro v' w' h1 h2 _)
      go_ret
      exact ⟨_, rfl, FIN.out _ _ h1 h2⟩
  · obtain ⟨g, off, cap, rfl, c1, c2⟩ := ha.addr (by omega)
    rw [← hn] at ha hl c1 ⊢
    have hnews := news_of_ints (ha.ext E1)
    have HN := Lib.hid hn
    have HW := Lib.hid hnews
    clear hn hnews
    go_enter Tryd.func66, Tryd.ntmps66
    go_wp2_with (at_builtin; refine wpList_append_own _ rfl _ _ 22 rfl w.heap.size 3 i0 (.int .i64 0) 1 8 Tryd.underlying22 hi hz0 hz1 hz2 rfl (by decide) _ 0 [] rfl hown ⟨g, off, none⟩ n cap (zs.map (Value.int .i64)) rfl (by simp [HN.out]) HW.out (ints_one zs) (by unfold maxLen; omega) (by omega) (by simp) ?_; intro v' w' h1 h2 _)
    go_ret
    exact ⟨_, rfl, FIN.out _ _ h1 h2⟩
/-- a frame's three cells, nought, that may be written -/
def FrAt (w : World) (B : Nat) : Prop := (w.cell? ⟨B, 0, none⟩ = some (.int .i64 0) ∧ w.cell? ⟨B, 1, none⟩ = some (.int .i64 0) ∧ w.cell? ⟨B, 2, none⟩ = some (.slice none 0 0)) ∧ w.frozen? ⟨B, 0, none⟩ = false ∧ w.frozen? ⟨B, 1, none⟩ = false ∧ w.frozen? ⟨B, 2, none⟩ = false
theorem FrAt.new (w : World) : FrAt (w.alloc (.cells #[.int .i64 0, .int .i64 0, .slice none 0 0] 24)) w.heap.size := by
  refine ⟨⟨by simp, by simp, by simp⟩, by simp, by simp, by simp⟩
theorem FrAt.ext {w w' : World} {B : Nat} (h : FrAt w B) (k : Ext w w') : FrAt w' B := by
  obtain ⟨⟨h0, h1, h2⟩, f0, f1, f2⟩ := h
  have hB := Ext.lt h0
  exact ⟨⟨k.cell h0, k.cell h1, k.cell h2⟩, (k.frozen (Ext.lt h0)).trans f0, (Below.frozen k (Ext.lt h1)).trans f1, (Below.frozen k (Ext.lt h2)).trans f2⟩
set_option maxRecDepth 20000 in
set_option maxHeartbeats 2000000 in
theorem copy_frame (W H : Int) (zs : List Int) (a : Option Addr) (n cap : Nat) (w : World) (h : Ints w (.slice a n cap) zs) (hl : zs.length ≤ 1000000) :
    Calls Tryd.prog 32 #[.agg #[.int .i64 W, .int .i64 H, .slice a n cap]] w fun e w' => ∃ u, e = .returned (.agg #[.int .i64 W, .int .i64 H, u]) ∧ Ints w' u zs ∧ Ext w w' := by
  have C1 := Lib.hid (fun v W k => copy_own zs v W k hl)
  have A1 : Ext w (w.alloc (.cells #[.int .i64 W, .int .i64 H, .slice a n cap] 24)) := (Ext.refl w).alloc _
  have R1 := FrAt.new (w.alloc (.cells #[.int .i64 W, .int .i64 H, .slice a n cap] 24))
  rw [show (w.alloc (.cells #[.int .i64 W, .int .i64 H, .slice a n cap] 24)).heap.size = w.heap.size + 1 by simp] at R1
  have p0 : ((w.alloc (.cells #[.int .i64 W, .int .i64 H, .slice a n cap] 24)).alloc (.cells #[.int .i64 0, .int .i64 0, .slice none 0 0] 24)).cell? ⟨w.heap.size, 0, none⟩ = some (.int .i64 W) := ((Ext.refl _).alloc _).cell (by simp)
  have p1 : ((w.alloc (.cells #[.int .i64 W, .int .i64 H, .slice a n cap] 24)).alloc (.cells #[.int .i64 0, .int .i64 0, .slice none 0 0] 24)).cell? ⟨w.heap.size, 1, none⟩ = some (.int .i64 H) := ((Ext.refl _).alloc _).cell (by simp)
  have p2 : ((w.alloc (.cells #[.int .i64 W, .int .i64 H, .slice a n cap] 24)).alloc (.cells #[.int .i64 0, .int .i64 0, .slice none 0 0] 24)).cell? ⟨w.heap.size, 2, none⟩ = some (.slice a n cap) := ((Ext.refl _).alloc _).cell (by simp)
  have E1 : Ext w ((w.alloc (.cells #[.int .i64 W, .int .i64 H, .slice a n cap] 24)).alloc (.cells #[.int .i64 0, .int .i64 0, .slice none 0 0] 24)) := A1.alloc _
  clear A1
  go_enter Tryd.func32, Tryd.ntmps32
  go_wp2_with fail
  revert R1 p0 p1 p2 E1
  generalize (w.alloc (.cells #[.int .i64 W, .int .i64 H, .slice a n cap] 24)).alloc (.cells #[.int .i64 0, .int .i64 0, .slice none 0 0] 24) = wA
  intro R1 p0 p1 p2 E1
  have RW := Lib.hid R1
  clear R1
  go_region_with ((go_at_call 66; refine (C1.out _ _ (h.ext (by repeat (first | exact Ext.refl _ | assumption | refine Ext.alloc ?_ _ | refine Ext.drew ?_ | refine Ext.drewN ?_ _ | refine Ext.setCell ?_ (by first | exact Nat.le_refl _ | (simp; done) | omega) _ | refine Ext.trans ?_ (by assumption))))).mono ?_; rintro e w9 ⟨u9, rfl, hz9, hx9⟩; have s0 := hx9.cell (show wA.drew.cell? _ = _ from p0); have s1 := hx9.cell (show wA.drew.cell? _ = _ from p1); have s2 := hx9.cell (show wA.drew.cell? _ = _ from p2); have RB := FrAt.ext (show FrAt wA.drew _ from RW.out) hx9; obtain ⟨⟨b0, b1, b2⟩, f0, f1, f2⟩ := RB; obtain ⟨a9, c9, rfl⟩ := (Ints.of_owns hz9 (by omega)).form))
  all_goals
    have hsz : w.heap.size + 1 < wA.drew.heap.size := Ext.lt RW.out.1.1
    have ho := ownsRow_setCell_below (ownsRow_setCell_below (ownsRow_setCell_below hz9 (a := ⟨w.heap.size + 1, 0, none⟩) hsz (.int .i64 W)) (a := ⟨w.heap.size + 1, 1, none⟩) hsz (.int .i64 H)) (a := ⟨w.heap.size + 1, 2, none⟩) hsz (.slice a9 zs.length c9)
    have E9 : Ext w w9 := (by repeat (first | exact Ext.refl _ | assumption | refine Ext.alloc ?_ _ | refine Ext.drew ?_ | refine Ext.drewN ?_ _ | refine Ext.setCell ?_ (by first | exact Nat.le_refl _ | (simp; done) | omega) _ | refine Ext.trans ?_ (by assumption)))
    go_wp2
    obtain ⟨g0, g1, g2⟩ := fr_cells W H (.slice a9 zs.length c9) b0 b1 b2
    exact bodyPost_ret (v := .agg #[.int .i64 W, .int .i64 H, .slice a9 zs.length c9]) (by simp [results, Tryd.results32, go_sem, g0, g1, g2]) rfl ⟨_, rfl, Ints.of_owns ho (by omega), ((E9.setCell (by simp) _).setCell (by simp) _).setCell (by simp) _⟩
end Go.Proofs.YtkighedghgcdjaaDoor
