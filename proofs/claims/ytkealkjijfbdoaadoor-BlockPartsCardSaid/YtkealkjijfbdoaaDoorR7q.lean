/- kinref7.Quarter: its contract over this seat's translation. -/
import Derived.Test.YtkealkjijfbdoaaDoorQrt
import Derived.Test.YtkealkjijfbdoaaDoorRes
import Derived.Deep.RegionLaw
import Derived.Deep.RegionHeld3
namespace Go.Proofs.YtkealkjijfbdoaaDoor
set_option linter.unusedVariables false
set_option linter.unusedSimpArgs false
open Go.RowKit Go.Extern.Stop Go.Stop Go.Extern

def RMPost (w : World) (L : List (List Int)) (f : Fall) (e : Ending) (w' : World) : Prop := ∃ u c a m k, e = .returned (.tuple #[u, .agg #[.int .i64 c, .slice a m k]]) ∧ Ext w w' ∧ Mat w' u L ∧ RErrIs w' f c (.slice a m k)
theorem RowsAt.setFar {w : World} {g m base : Nat} {R : Nat → Value} {Z : Nat → List Int} (h : RowsAt w g m base R Z) {p : Addr} {u : Value} (hg : p.block < g) : RowsAt (w.setCell p u) g m base R Z := by
  obtain ⟨r1, r2, r3, r4, r5⟩ := h
  exact ⟨r1.setOther (by omega) u, r2, by simpa [World.setCell] using r3, fun q hq => ownsRow_setCell_below (r4 q hq) (by omega) u, r5⟩
set_option maxHeartbeats 4000000 in
set_option maxRecDepth 20000 in
theorem rquarter_ok (zs : List Int) (v : Value) (w : World) (ha : Ints w v zs) (hN : zs.length = 64) :
    Calls Tryd.prog 47 #[v] w (RMPost w (quarV zs) none) := by
  have HV : Hid (quarV zs = (List.range 4).map (quarL zs 64)) := by show _ = _; unfold quarV; rw [if_pos hN]
  obtain ⟨g, off, cap, rfl, -, -⟩ := ha.addr (by omega)
  rw [hN] at ha ⊢
  have HN := Lib.hid hN
  clear hN
  obtain ⟨i0, hi, hz0, hz1, hz2⟩ := info_parts infoSl
  have RV0 := ResAt.new w
  have EE0 : Ext w (w.alloc (.cells #[.int .i64 0, .slice none 0 0] 34)) := (Ext.refl w).alloc _
  go_enter Tryd.func47, Tryd.ntmps47
  go_wp2_with (at_make; refine wpList_make_row _ rfl _ _ 61 rfl 22 i0 (.slice none 0 0) Tryd.underlying61 hi hz0 hz1 rfl .i64 .i64 4 rfl rfl (by rw [hz2]; omega) (by omega) ?_)
  have R0 : RowsAt ((w.alloc (.cells #[.int .i64 0, .slice none 0 0] 34)).alloc (.cells (madeCells #[.slice none 0 0] 4) 22)) (w.heap.size + 1) 4 (w.heap.size + 2) (fun _ => .slice none 0 0) (quarL zs 0) :=
    ⟨by have := World.rowIs_made (w.alloc (.cells #[.int .i64 0, .slice none 0 0] 34)) (.slice none 0 0) 4 22; simpa using this, Nat.lt_succ_self _, by simp, fun q _ => World.ownsRow_nil _ _ _ _, fun _ _ _ _ _ => Or.inl rfl⟩
  have RV1 := RV0.ext ((Ext.refl _).alloc (.cells (madeCells #[.slice none 0 0] 4) 22))
  have EE1 : Ext w ((w.alloc (.cells #[.int .i64 0, .slice none 0 0] 34)).alloc (.cells (madeCells #[.slice none 0 0] 4) 22)) := (by repeat (first | exact Ext.refl _ | assumption | refine Ext.alloc ?_ _ | refine Ext.drew ?_ | refine Ext.drewN ?_ _ | refine Ext.setCell ?_ (by first | exact Nat.le_refl _ | (simp; done) | omega) _ | refine Ext.trans ?_ (by assumption)))
  clear RV0 EE0 hi hz0 hz1 hz2
  go_wp2_with fail
  obtain ⟨G, hG⟩ : ∃ G, G = w.heap.size + 1 := ⟨_, rfl⟩
  rw [show w.heap.size + 2 = (w.heap.size + 1) + 1 from rfl] at R0
  rw [← hG] at R0 ⊢
  have HG := Lib.hid hG
  have hGw : w.heap.size < G := by omega
  clear hG
  revert R0 RV1 EE1
  generalize (w.alloc (.cells #[.int .i64 0, .slice none 0 0] 34)).alloc (.cells (madeCells #[.slice none 0 0] 4) 22) = w2
  intro RV1 EE1 R0
  go_loopw [5] (fun iv wr => ∃ k : Nat, k ≤ 64 ∧ iv = .int .i64 k ∧ Hid (∃ R, RowsAt wr G 4 (G + 1) R (quarL zs k)) ∧ ResAt wr w.heap.size ∧ Ext w wr) (fun iv _ => 64 - (intOf iv).toNat)
  case atStart => exact ⟨0, by decide, rfl, ⟨_, R0⟩, RV1, EE1⟩
  case round =>
    clear R0 RV1 EE1
    obtain ⟨k, hk, rfl, HO, hRV, hE⟩ := hrel
    by_cases hlt : k < 64
    · obtain ⟨R, hR⟩ := HO.out
      obtain ⟨q, hq⟩ : ∃ q, q = qOf k := ⟨_, rfl⟩
      have hq4 : q < 4 := by have := (qOf_landed k hlt).2.1; omega
      have eq : (k : Int) / 32 * 2 + (k : Int) % 8 / 4 = (q : Int) := by rw [hq]; unfold qOf; omega
      obtain ⟨x, hx⟩ : ∃ x, zs.getD k 0 = x := ⟨_, rfl⟩
      have cx := hE.cell (ha.at (get_of_lt (by rw [HN.out]; exact hlt)))
      rw [hx] at cx
      have cq := hR.1.cell hq4
      have fq := hR.1.frozen q
      have own := hR.2.2.2.1 q hq4
      have hB : G + 1 ≤ wr.heap.size := hR.2.2.1
      obtain ⟨r, hr⟩ : ∃ r, R q = r := ⟨_, rfl⟩
      rw [hr] at cq own
      obtain ⟨ra, rcap, rfl⟩ := (Row.of_owns own).form
      have HR := Lib.hid hR
      have HRQ := Lib.hid hr
      have HX := Lib.hid hx
      have HQ := Lib.hid hq
      have hlen := quarL_len zs k q
      obtain ⟨n, hn⟩ : ∃ n, n = (quarL zs k q).length := ⟨_, rfl⟩
      rw [← hn] at cq own hlen HRQ
      have HNN := Lib.hid hn
      clear hR hr hx hq HO hn
      have gne : some G ≠ Value.ownBlock (.slice ra n rcap) := fun e => by have := (own.lt _ e.symm).1; omega
      have HRV := Lib.hid hRV
      clear hRV
      have q0 : (0 : Int) ≤ (q : Int) := by omega
      have q1 : (q : Int) < 4 := by omega
      have k0 : (0 : Int) ≤ (k : Int) := by omega
      have k1 : (k : Int) < 64 := by omega
      have A1 := (Ext.refl wr).alloc (.cells #[.int .i64 x] 3)
      have cq2 := A1.cell cq
      have cx2 := A1.cell cx
      clear A1
      go_wp2
      go_region_law (refine step_push_at (by rfl) _ _ 22 (by rfl) Tryd.underlying22 _ n _ x (by rfl) own (by rfl) hB (by omega) ?_; intro ng ncap w7 h1 h2 h3; have c7 := h2.cell cq gne; have f7 := (h2.frozen_far ⟨G, q, none⟩ (by simp; omega) gne).trans fq)
      all_goals
        have HR7 : Hid (RowsAt (w7.setCell ⟨G, q, none⟩ (.slice (some ⟨ng, 0, none⟩) (n + 1) ncap)) G 4 (G + 1) (fun j => if j = q then .slice (some ⟨ng, 0, none⟩) (n + 1) ncap else R j) (quarL zs (k + 1))) := by
          have h := RowsAt.push (v' := .slice (some ⟨ng, 0, none⟩) (n + 1) ncap) (x := x) HR.out hq4 (by rw [← HNN.out]; exact h1) (by rw [HRQ.out]; exact h2) (by rw [HRQ.out]; exact h3)
          refine h.congr (fun j hj => ?_)
          rw [quarL_succ, ← HQ.out, HX.out]
          by_cases e : j = q
          · subst e; simp
          · rw [if_neg e, if_neg (fun h => e h.symm)]
        have hb7 : Below G wr (w7.setCell ⟨G, q, none⟩ (.slice (some ⟨ng, 0, none⟩) (n + 1) ncap)) := Below.setCell (Below.grown (Below.refl G wr) h2 (by omega) (fun j hj => by have := (own.lt _ hj).1; omega)) (Nat.le_refl _) _
        have hE7 : Ext w (w7.setCell ⟨G, q, none⟩ (.slice (some ⟨ng, 0, none⟩) (n + 1) ncap)) := hE.of_below hb7 (Nat.le_of_lt hGw)
        have hR7 := HRV.out.under hb7 hGw
        clear h1 h2 h3 own HR HRQ cq2 cx2 hb7
        go_wp2
        go_roundw
        case rel => exact ⟨k + 1, by omega, by go_num, ⟨_, HR7.out⟩, hR7, hE7⟩
        case measure => simp [intOf]; omega
    · obtain rfl : k = 64 := by omega
      obtain ⟨R, hR⟩ := HO.out
      obtain ⟨r0, r1, f0, f1⟩ := hRV
      have hM := RowsAt.mat (RowsAt.setFar (RowsAt.setFar hR (p := ⟨w.heap.size, 0, none⟩) (u := .int .i64 0) hGw) (p := ⟨w.heap.size, 1, none⟩) (u := .slice none 0 0) hGw) (by decide) (fun q _ => by have := quarL_len zs 64 q; omega)
      go_wp2
      obtain ⟨e0, e1⟩ := res_cells (c := 0) r0 r1 (.slice none 0 0)
      exact bodyPost_ret (v := .tuple #[_, .agg #[.int .i64 0, .slice none 0 0]]) (by simp [results, Tryd.results47, go_sem, e0, e1]; rfl) rfl ⟨_, _, _, _, _, rfl, (by repeat (first | exact Ext.refl _ | assumption | refine Ext.alloc ?_ _ | refine Ext.drew ?_ | refine Ext.drewN ?_ _ | refine Ext.setCell ?_ (by first | exact Nat.le_refl _ | (simp; done) | omega) _ | refine Ext.trans ?_ (by assumption))), by rw [HV.out]; exact hM, RErrIs.zero⟩
end Go.Proofs.YtkealkjijfbdoaaDoor
