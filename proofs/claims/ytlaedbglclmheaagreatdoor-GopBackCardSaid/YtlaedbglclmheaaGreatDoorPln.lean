/- kinlaw23.plain. -/
import Derived.Test.YtlaedbglclmheaaGreatDoorOb3
import Derived.Test.YtlaedbglclmheaaGreatDoorZc
import Derived.Laws.Rows
namespace Go.Proofs.YtlaedbglclmheaaGreatDoor
set_option linter.unusedVariables false
set_option linter.unusedSimpArgs false
open Go.RowKit Go.Extern.Stop Go.Stop Go.Extern
def FhB (w : World) (B : Nat) (W H : Int) (v : Value) : Prop := (w.cell? ⟨B, 0, none⟩ = some (.int .i64 W) ∧ w.cell? ⟨B, 1, none⟩ = some (.int .i64 H) ∧ w.cell? ⟨B, 2, none⟩ = some v) ∧ w.frozen? ⟨B, 0, none⟩ = false ∧ w.frozen? ⟨B, 1, none⟩ = false ∧ w.frozen? ⟨B, 2, none⟩ = false
theorem FhB.new (w : World) (W H : Int) (v : Value) : FhB (w.alloc (.cells #[.int .i64 W, .int .i64 H, v] 99)) w.heap.size W H v := by
  refine ⟨⟨by simp, by simp, by simp⟩, by simp, by simp, by simp⟩
theorem FhB.under {w w' : World} {B D : Nat} {W H : Int} {v : Value} (h : FhB w B W H v) (k : Below D w w') (hb : B < D) : FhB w' B W H v := by
  obtain ⟨⟨h0, h1, h2⟩, f0, f1, f2⟩ := h
  exact ⟨⟨(Below.cell k (p := ⟨B, 0, none⟩) hb).trans h0, (Below.cell k (p := ⟨B, 1, none⟩) hb).trans h1, (Below.cell k (p := ⟨B, 2, none⟩) hb).trans h2⟩, (Below.frozen k (p := ⟨B, 0, none⟩) hb).trans f0, (Below.frozen k (p := ⟨B, 1, none⟩) hb).trans f1, (Below.frozen k (p := ⟨B, 2, none⟩) hb).trans f2⟩
theorem FhB.ext {w w' : World} {B : Nat} {W H : Int} {v : Value} (h : FhB w B W H v) (k : Ext w w') : FhB w' B W H v := h.under k (Ext.lt h.1.1)
theorem FhB.set {w : World} {B : Nat} {W H : Int} {v : Value} (h : FhB w B W H v) (u : Value) : FhB (w.setCell ⟨B, 2, none⟩ u) B W H u := by
  obtain ⟨⟨h0, h1, h2⟩, f0, f1, f2⟩ := h
  refine ⟨⟨(World.cell?_setCell_other w ⟨B, 2, none⟩ ⟨B, 0, none⟩ u (by simp)).trans h0, (World.cell?_setCell_other w ⟨B, 2, none⟩ ⟨B, 1, none⟩ u (by simp)).trans h1, World.cell?_setCell_same _ _ u h2⟩, ?_, ?_, ?_⟩
  · simpa using f0
  · simpa using f1
  · simpa using f2
theorem fh_slc {w : World} {base n : Nat} {e : TypeId} {s : Nat} {v : Value} {xs : List Value} (h : w.ownsRow base e s v n xs) : ∃ a cap, v = .slice a n cap := by
  obtain ⟨hl, h⟩ := h
  rcases h with ⟨h1, h2⟩ | ⟨g, cap, cur, e, -⟩
  · exact ⟨none, 0, by rw [h1, h2]⟩
  · exact ⟨some ⟨g, 0, none⟩, cap, e⟩
theorem fh_row {w : World} {base n : Nat} {xs : List Value} {v : Value} (h : w.ownsRow base 3 1 v n xs) (b i : Nat) (hb : b < base) (u : Value) : (w.setCell ⟨b, i, none⟩ u).ownsRow base 3 1 v n xs := ownsRow_setCell_below h (a := ⟨b, i, none⟩) hb u
theorem fh_cells {w : World} {B : Nat} (W H : Int) (v : Value) (h0 : w.cell? ⟨B, 0, none⟩ = some (.int .i64 0)) (h1 : w.cell? ⟨B, 1, none⟩ = some (.int .i64 0)) (h2 : w.cell? ⟨B, 2, none⟩ = some (.slice none 0 0)) :
    (((w.setCell ⟨B, 0, none⟩ (.int .i64 W)).setCell ⟨B, 1, none⟩ (.int .i64 H)).setCell ⟨B, 2, none⟩ v).cell? ⟨B, 0, none⟩ = some (.int .i64 W) ∧
    (((w.setCell ⟨B, 0, none⟩ (.int .i64 W)).setCell ⟨B, 1, none⟩ (.int .i64 H)).setCell ⟨B, 2, none⟩ v).cell? ⟨B, 1, none⟩ = some (.int .i64 H) ∧
    (((w.setCell ⟨B, 0, none⟩ (.int .i64 W)).setCell ⟨B, 1, none⟩ (.int .i64 H)).setCell ⟨B, 2, none⟩ v).cell? ⟨B, 2, none⟩ = some v := by
  have a0 := World.cell?_setCell_same _ _ (.int .i64 W) h0
  have a1 := (World.cell?_setCell_other w ⟨B, 0, none⟩ ⟨B, 1, none⟩ (.int .i64 W) (by simp)).trans h1
  have a2 := (World.cell?_setCell_other w ⟨B, 0, none⟩ ⟨B, 2, none⟩ (.int .i64 W) (by simp)).trans h2
  have b0 := (World.cell?_setCell_other _ ⟨B, 1, none⟩ ⟨B, 0, none⟩ (.int .i64 H) (by simp)).trans a0
  have b1 := World.cell?_setCell_same _ _ (.int .i64 H) a1
  have b2 := (World.cell?_setCell_other _ ⟨B, 1, none⟩ ⟨B, 2, none⟩ (.int .i64 H) (by simp)).trans a2
  have c0 := (World.cell?_setCell_other _ ⟨B, 2, none⟩ ⟨B, 0, none⟩ v (by simp)).trans b0
  have c1 := (World.cell?_setCell_other _ ⟨B, 2, none⟩ ⟨B, 1, none⟩ v (by simp)).trans b1
  have c2 := World.cell?_setCell_same _ _ v b2
  exact ⟨c0, c1, c2⟩
theorem fh_sn (k : Nat) (f : Nat → Int) : (rowL (k + 1) f).map (Value.int .i64) = (rowL k f).map (Value.int .i64) ++ [.int .i64 (f k)] := by
  unfold rowL
  rw [List.range_succ, List.map_append, List.map_append]
  rfl
set_option maxRecDepth 20000 in
set_option maxHeartbeats 2000000 in
theorem plain23_any (v : Int) (w : World) :
    Calls Tryz.prog 45 #[.int .i64 v] w fun e w' => ∃ a cap, e = .returned (.agg #[.int .i64 8, .int .i64 8, .slice a 64 cap]) ∧ Ext w w' ∧ Ints w' (.slice a 64 cap) (rowL 64 fun _ => v) := by
  have FA0 := FhB.new w 0 0 (.slice none 0 0)
  have E0 : Ext w (w.alloc (.cells #[.int .i64 0, .int .i64 0, .slice none 0 0] 99)) := (Ext.refl w).alloc _
  have A1 : Ext (w.alloc (.cells #[.int .i64 0, .int .i64 0, .slice none 0 0] 99)) ((w.alloc (.cells #[.int .i64 0, .int .i64 0, .slice none 0 0] 99)).alloc (.cells #[.int .i64 8, .int .i64 8, .slice none 0 0] 99)) := (Ext.refl _).alloc _
  have FB0 : FhB ((w.alloc (.cells #[.int .i64 0, .int .i64 0, .slice none 0 0] 99)).alloc (.cells #[.int .i64 8, .int .i64 8, .slice none 0 0] 99)) (w.heap.size + 1) 8 8 (.slice none 0 0) := by
    have := FhB.new (w.alloc (.cells #[.int .i64 0, .int .i64 0, .slice none 0 0] 99)) 8 8 (.slice none 0 0)
    simpa using this
  have HF := Lib.hid (FA0.ext A1)
  have HV := Lib.hid FB0
  have E1 := E0.trans A1
  have hS : w.heap.size + 2 ≤ ((w.alloc (.cells #[.int .i64 0, .int .i64 0, .slice none 0 0] 99)).alloc (.cells #[.int .i64 8, .int .i64 8, .slice none 0 0] 99)).heap.size := by simp
  clear FA0 FB0 E0 A1
  go_enter Tryz.func45, Tryz.ntmps45
  go_wp2_with fail
  go_loopw [4] (fun iv wr => ∃ (k : Nat) (u : Value), k ≤ 64 ∧ iv = .int .i64 k ∧ Hid (wr.ownsRow (w.heap.size + 2) 3 1 u k ((rowL k fun _ => v).map (Value.int .i64))) ∧ Hid (FhB wr (w.heap.size + 1) 8 8 u) ∧ Hid (FhB wr w.heap.size 0 0 (.slice none 0 0)) ∧ Ext w wr ∧ w.heap.size + 2 ≤ wr.heap.size) (fun iv _ => 64 - (intOf iv).toNat)
  case atStart => exact ⟨0, _, Nat.zero_le _, rfl, World.ownsRow_nil _ _ _ _, HV, HF, E1, hS⟩
  case round =>
    clear HV HF E1 hS
    obtain ⟨k, u, hk, rfl, HO, HV, HF, E1, hS⟩ := hrel
    obtain ⟨ua, uc, rfl⟩ := fh_slc HO.out
    obtain ⟨⟨p0, p1, p2⟩, f0, f1, f2⟩ := HV.out
    by_cases hlt : k < 64
    · go_wp2_with (at_builtin; refine push_int rfl _ _ 49 rfl Tryz.underlying49 _ _ _ _ rfl HO.out (by show Value.slice (some ⟨wr.heap.size, 0, none⟩) 1 1 = _; simp) hS (by omega) ?_; intro v' w7 h1 h2; obtain ⟨va, vc, rfl⟩ := fh_slc h1; have HV7 := HV.out.under h2 (Nat.lt_succ_self _); have HF7 := Lib.hid (HF.out.under h2 (by omega)); have HO7 := Lib.hid h1; have E7 : Ext w w7 := E1.of_below h2 (by omega); have hS7 := Nat.le_trans hS h2.size; have HVH := Lib.hid HV7; obtain ⟨⟨c0, c1, c2⟩, j0, j1, j2⟩ := HV7; clear h1 h2)
      go_roundw
      case rel =>
        have sb : Below (w.heap.size + 1) w7 (w7.setCell ⟨w.heap.size + 1, 2, none⟩ (.slice va (k + 1) vc)) := (Below.refl (w.heap.size + 1) w7).setCell (p := ⟨w.heap.size + 1, 2, none⟩) (Nat.le_refl _) _
        refine ⟨k + 1, .slice va (k + 1) vc, by omega, by go_num, ?_, HVH.out.set _, HF7.out.under sb (Nat.lt_succ_self _), E7.setCell (p := ⟨w.heap.size + 1, 2, none⟩) (Nat.le_succ _) _, Nat.le_trans hS7 sb.size⟩
        show World.ownsRow _ _ _ _ _ _ _
        rw [fh_sn]
        exact fh_row HO7.out _ _ (Nat.lt_succ_self _) _
      case measure => simp [intOf]; omega
    · obtain rfl : k = 64 := by omega
      obtain ⟨⟨q0, q1, q2⟩, g0, g1, g2⟩ := HF.out
      have HO9 := Lib.hid (fh_row (fh_row (fh_row HO.out w.heap.size 0 (by omega) (.int .i64 8)) w.heap.size 1 (by omega) (.int .i64 8)) w.heap.size 2 (by omega) (.slice ua 64 uc))
      go_wp2
      obtain ⟨e0, e1, e2⟩ := fh_cells 8 8 (.slice ua 64 uc) q0 q1 q2
      exact bodyPost_ret (v := .agg #[.int .i64 8, .int .i64 8, .slice ua 64 uc]) (by simp [results, Tryz.results45, go_sem, e0, e1, e2]) rfl
        ⟨_, _, rfl, ((E1.setCell (p := ⟨w.heap.size, 0, none⟩) (Nat.le_refl _) _).setCell (p := ⟨w.heap.size, 1, none⟩) (Nat.le_refl _) _).setCell (p := ⟨w.heap.size, 2, none⟩) (Nat.le_refl _) _, Ints.of_row HO9.out (by omega)⟩
end Go.Proofs.YtlaedbglclmheaaGreatDoor
