/- intra.Predict; kinlaw10.first: contracts over this seat's translation. -/
import Derived.Test.YtkighedghgcdjaaDoorIn
namespace Go.Proofs.YtkighedghgcdjaaDoor
set_option linter.unusedVariables false
set_option linter.unusedSimpArgs false
open Go.RowKit Go.Extern.Stop Go.Stop Go.Extern

theorem predict_ok (m : Int) (ts ls : List Int) (c : Int) (v u : Value) (w : World) (ha : Ints w v ts) (hb : Ints w u ls) (hm : 0 ≤ m ∧ m ≤ 3) (h : chkAns ts ls c = none) :
    Calls Tryd.prog 79 #[.int .i64 m, v, u, .int .i64 c] w fun e w' => ∃ u, e = .returned u ∧ Ext w w' ∧ Ints w' u (prdL m ts ls c) := by
  obtain ⟨h1, h2, h3, h4, h5⟩ := chkAns_none h
  rcases h1 with h1 | h1
  · rcases (by omega : m = 0 ∨ m = 1 ∨ m = 2 ∨ m = 3) with rfl | rfl | rfl | rfl
    · exact predict_0_4 ts ls c v u w ha hb h1 (by omega) h3 h4 h5
    · exact predict_1_4 ts ls c v u w ha hb h1 (by omega) h3 h4 h5
    · exact predict_2_4 ts ls c v u w ha hb h1 (by omega) h3 h4 h5
    · exact predict_3_4 ts ls c v u w ha hb h1 (by omega) h3 h4 h5
  · rcases (by omega : m = 0 ∨ m = 1 ∨ m = 2 ∨ m = 3) with rfl | rfl | rfl | rfl
    · exact predict_0_8 ts ls c v u w ha hb h1 (by omega) h3 h4 h5
    · exact predict_1_8 ts ls c v u w ha hb h1 (by omega) h3 h4 h5
    · exact predict_2_8 ts ls c v u w ha hb h1 (by omega) h3 h4 h5
    · exact predict_3_8 ts ls c v u w ha hb h1 (by omega) h3 h4 h5
def prdAns (m : Int) (ts ls : List Int) (c : Int) : Fall := if m < 0 ∨ 4 ≤ m then kind else chkAns ts ls c
def prdV (m : Int) (ts ls : List Int) (c : Int) : List Int := match prdAns m ts ls c with
  | none => prdL m ts ls c
  | some _ => []
theorem prdAns_none {m : Int} {ts ls : List Int} {c : Int} (h : prdAns m ts ls c = none) : (0 ≤ m ∧ m ≤ 3) ∧ chkAns ts ls c = none := by
  unfold prdAns at h
  split at h
  · cases h
  · exact ⟨by omega, h⟩
set_option maxRecDepth 20000 in
set_option maxHeartbeats 1000000 in
theorem Predict_any (m : Int) (ts ls : List Int) (c : Int) (v u : Value) (w : World) (ha : Ints w v ts) (hb : Ints w u ls) :
    Calls Tryd.prog 70 #[.int .i64 m, v, u, .int .i64 c] w (ZPost w (prdV m ts ls c) (prdAns m ts ls c)) := by
  by_cases h1 : m < 0
  · have HA : Hid (prdAns m ts ls c = kind) := by show _ = _; unfold prdAns; rw [if_pos (Or.inl h1)]
    have HV : Hid (prdV m ts ls c = []) := by show _ = _; unfold prdV; rw [HA.out]; rfl
    clear ha hb
    go_enter Tryd.func70, Tryd.ntmps70
    go_wp2
    go_ret2
    exact ⟨_, _, rfl, Ext.refl w, by rw [HV.out]; exact Ints.nil _, by rw [HA.out]; exact ErrIs.code (by decide)⟩
  · by_cases h2 : 4 ≤ m
    · have HA : Hid (prdAns m ts ls c = kind) := by show _ = _; unfold prdAns; rw [if_pos (Or.inr h2)]
      have HV : Hid (prdV m ts ls c = []) := by show _ = _; unfold prdV; rw [HA.out]; rfl
      clear ha hb
      go_enter Tryd.func70, Tryd.ntmps70
      go_wp2
      go_ret2
      exact ⟨_, _, rfl, Ext.refl w, by rw [HV.out]; exact Ints.nil _, by rw [HA.out]; exact ErrIs.code (by decide)⟩
    · have HA : Hid (prdAns m ts ls c = chkAns ts ls c) := by show _ = _; unfold prdAns; rw [if_neg (by omega)]
      have C1 := Lib.hid (check_any ts ls c v u w ha hb)
      cases hc : chkAns ts ls c with
      | some f =>
        have HV : Hid (prdV m ts ls c = []) := by show _ = _; unfold prdV; rw [HA.out, hc]
        rw [hc] at HA C1
        clear ha hb hc
        go_enter Tryd.func70, Tryd.ntmps70
        go_wp2_with fail
        refine (C1.out).mono ?_; rintro e w1 ⟨x, rfl, hx, he⟩
        obtain ⟨t, y, rfl⟩ := he.ne
        go_wp2
        go_ret2
        exact ⟨_, _, rfl, hx, by rw [HV.out]; exact Ints.nil _, by rw [HA.out]; exact he⟩
      | none =>
        have HV : Hid (prdV m ts ls c = prdL m ts ls c) := by show _ = _; unfold prdV; rw [HA.out, hc]
        have C2 := Lib.hid (fun W h k => predict_ok m ts ls c v u W h k (by omega) hc)
        rw [hc] at HA C1
        clear hc
        go_enter Tryd.func70, Tryd.ntmps70
        go_wp2_with fail
        refine (C1.out).mono ?_; rintro e w1 ⟨x, rfl, hx, he⟩
        obtain rfl : x = .nilIface := he
        go_wp2_with fail
        refine (C2.out _ (ha.ext (by repeat (first | exact Ext.refl _ | assumption | refine Ext.alloc ?_ _ | refine Ext.drew ?_ | refine Ext.drewN ?_ _ | refine Ext.setCell ?_ (by first | exact Nat.le_refl _ | (simp; done) | omega) _ | refine Ext.trans ?_ (by assumption)))) (hb.ext (by repeat (first | exact Ext.refl _ | assumption | refine Ext.alloc ?_ _ | refine Ext.drew ?_ | refine Ext.drewN ?_ _ | refine Ext.setCell ?_ (by first | exact Nat.le_refl _ | (simp; done) | omega) _ | refine Ext.trans ?_ (by assumption))))).mono ?_; rintro e w2 ⟨u2, rfl, hx2, hz2⟩
        go_wp2
        go_ret2
        exact ⟨_, _, rfl, hx.trans hx2, by rw [HV.out]; exact hz2, by rw [HA.out]; rfl⟩
theorem Ints.liti (w : World) (zs : List Int) (h : zs.length ≤ 1000000) : Ints (w.alloc (.cells (zs.map (Value.int .i64)).toArray 3)) (.slice (some ⟨w.heap.size, 0, none⟩) zs.length zs.length) zs := by
  have := World.ownsRow_lit (e := 3) (base := w.heap.size) (size := 1) w (zs.map (Value.int .i64)).toArray zs.length (Nat.le_refl _) (by unfold maxLen; omega) (by simp)
  simp only [List.toList_toArray] at this
  exact Ints.of_owns this (by omega)
theorem lits2i (w : World) (xs ys : List Int) (h : xs.length ≤ 1000000) (k : ys.length ≤ 1000000) :
    Ints ((w.alloc (.cells (xs.map (Value.int .i64)).toArray 3)).alloc (.cells (ys.map (Value.int .i64)).toArray 3)) (.slice (some ⟨w.heap.size, 0, none⟩) xs.length xs.length) xs ∧
    Ints ((w.alloc (.cells (xs.map (Value.int .i64)).toArray 3)).alloc (.cells (ys.map (Value.int .i64)).toArray 3)) (.slice (some ⟨w.heap.size + 1, 0, none⟩) ys.length ys.length) ys := by
  refine ⟨(Ints.liti w xs h).ext ((Ext.refl _).alloc _), ?_⟩
  have := Ints.liti (w.alloc (.cells (xs.map (Value.int .i64)).toArray 3)) ys k
  simpa using this
theorem prd_first : prdAns 0 [0, 0, 0, 0] [8, 8, 8, 8] 0 = none ∧ prdV 0 [0, 0, 0, 0] [8, 8, 8, 8] 0 = [4, 4, 4, 4, 4, 4, 4, 4, 4, 4, 4, 4, 4, 4, 4, 4] ∧
    prdAns 3 [10, 20, 30, 40] [0, 0, 0, 250] 9 = none ∧ prdV 3 [10, 20, 30, 40] [0, 0, 0, 250] 9 = [1, 11, 21, 31, 1, 11, 21, 31, 1, 11, 21, 31, 251, 255, 255, 255] ∧ prdAns 4 [] [] 0 = kind := by decide +kernel
set_option maxHeartbeats 2000000 in
set_option maxRecDepth 20000 in
theorem first10_any (w : World) (hg : EtIs w) : Calls Tryd.prog 38 #[] w fun e w' => e = .returned (.bool true) ∧ Ext w w' := by
  obtain ⟨m1, m2, m3, m4, m5⟩ := prd_first
  have S1 := fun v u W h k => Predict_any 0 [0, 0, 0, 0] [8, 8, 8, 8] 0 v u W h k
  have S2 := fun v u W h k => Predict_any 3 [10, 20, 30, 40] [0, 0, 0, 250] 9 v u W h k
  have S3 := fun v u W h k => Predict_any 4 [] [] 0 v u W h k
  rw [m1, m2] at S1
  rw [m3, m4] at S2
  rw [m5] at S3
  have H1 := Lib.hid S1
  have H2 := Lib.hid S2
  have H3 := Lib.hid S3
  clear m1 m2 m3 m4 m5 S1 S2 S3
  have L1 : Ints ((w.alloc (.cells #[.int .i64 0, .int .i64 0, .int .i64 0, .int .i64 0] 3)).alloc (.cells #[.int .i64 8, .int .i64 8, .int .i64 8, .int .i64 8] 3)) (.slice (some ⟨w.heap.size, 0, none⟩) 4 4) [0, 0, 0, 0] := (lits2i w [0, 0, 0, 0] [8, 8, 8, 8] (by decide) (by decide)).1
  have L2 : Ints ((w.alloc (.cells #[.int .i64 0, .int .i64 0, .int .i64 0, .int .i64 0] 3)).alloc (.cells #[.int .i64 8, .int .i64 8, .int .i64 8, .int .i64 8] 3)) (.slice (some ⟨w.heap.size + 1, 0, none⟩) 4 4) [8, 8, 8, 8] := (lits2i w [0, 0, 0, 0] [8, 8, 8, 8] (by decide) (by decide)).2
  go_enter Tryd.func38, Tryd.ntmps38
  go_wp2_with fail
  refine (H1.out _ _ _ L1 L2).mono ?_; rintro e w1 ⟨u1, x1, rfl, hx1, hz1, he1⟩
  obtain rfl : x1 = .nilIface := he1
  obtain ⟨g1, o1, c1, e1, -, -⟩ := hz1.addr (by decide)
  obtain rfl : u1 = .slice (some ⟨g1, o1, none⟩) 16 c1 := e1
  clear L1 L2
  have L1 : Ints ((w1.alloc (.cells #[.int .i64 10, .int .i64 20, .int .i64 30, .int .i64 40] 3)).alloc (.cells #[.int .i64 0, .int .i64 0, .int .i64 0, .int .i64 250] 3)) (.slice (some ⟨w1.heap.size, 0, none⟩) 4 4) [10, 20, 30, 40] := (lits2i w1 [10, 20, 30, 40] [0, 0, 0, 250] (by decide) (by decide)).1
  have L2 : Ints ((w1.alloc (.cells #[.int .i64 10, .int .i64 20, .int .i64 30, .int .i64 40] 3)).alloc (.cells #[.int .i64 0, .int .i64 0, .int .i64 0, .int .i64 250] 3)) (.slice (some ⟨w1.heap.size + 1, 0, none⟩) 4 4) [0, 0, 0, 250] := (lits2i w1 [10, 20, 30, 40] [0, 0, 0, 250] (by decide) (by decide)).2
  go_wp2_with fail
  refine (H2.out _ _ _ L1 L2).mono ?_; rintro e w2 ⟨u2, x2, rfl, hx2, hz2, he2⟩
  obtain rfl : x2 = .nilIface := he2
  obtain ⟨g2, o2, c2, e2, -, -⟩ := hz2.addr (by decide)
  obtain rfl : u2 = .slice (some ⟨g2, o2, none⟩) 16 c2 := e2
  clear L1 L2
  go_wp2_with fail
  refine (H3.out _ _ _ (Ints.nil _) (Ints.nil _)).mono ?_; rintro e w3 ⟨u3, x3, rfl, hx3, hz3, he3⟩
  have k1 : w3.cell? ⟨g1, o1 + 7, none⟩ = some (.int .i64 4) := (hz1.ext (by repeat (first | exact Ext.refl _ | assumption | refine Ext.alloc ?_ _ | refine Ext.drew ?_ | refine Ext.drewN ?_ _ | refine Ext.setCell ?_ (by first | exact Nat.le_refl _ | (simp; done) | omega) _ | refine Ext.trans ?_ (by assumption)))).at (j := 7) rfl
  have k2 : w3.cell? ⟨g2, o2, none⟩ = some (.int .i64 1) := (hz2.ext (by repeat (first | exact Ext.refl _ | assumption | refine Ext.alloc ?_ _ | refine Ext.drew ?_ | refine Ext.drewN ?_ _ | refine Ext.setCell ?_ (by first | exact Nat.le_refl _ | (simp; done) | omega) _ | refine Ext.trans ?_ (by assumption)))).at (j := 0) rfl
  have k3 : w3.cell? ⟨g2, o2 + 3, none⟩ = some (.int .i64 31) := (hz2.ext (by repeat (first | exact Ext.refl _ | assumption | refine Ext.alloc ?_ _ | refine Ext.drew ?_ | refine Ext.drewN ?_ _ | refine Ext.setCell ?_ (by first | exact Nat.le_refl _ | (simp; done) | omega) _ | refine Ext.trans ?_ (by assumption)))).at (j := 3) rfl
  have k4 : w3.cell? ⟨g2, o2 + 12, none⟩ = some (.int .i64 251) := (hz2.ext (by repeat (first | exact Ext.refl _ | assumption | refine Ext.alloc ?_ _ | refine Ext.drew ?_ | refine Ext.drewN ?_ _ | refine Ext.setCell ?_ (by first | exact Nat.le_refl _ | (simp; done) | omega) _ | refine Ext.trans ?_ (by assumption)))).at (j := 12) rfl
  have k5 : w3.cell? ⟨g2, o2 + 15, none⟩ = some (.int .i64 255) := (hz2.ext (by repeat (first | exact Ext.refl _ | assumption | refine Ext.alloc ?_ _ | refine Ext.drew ?_ | refine Ext.drewN ?_ _ | refine Ext.setCell ?_ (by first | exact Nat.le_refl _ | (simp; done) | omega) _ | refine Ext.trans ?_ (by assumption)))).at (j := 15) rfl
  clear hz1 hz2
  go_wp2_with fail
  refine (fail_any 13 _).mono ?_; rintro e w5 ⟨rfl, hx5⟩
  go_wp2_with fail
  refine (same_fall kind _ _ _ _ (hg.ext (by repeat (first | exact Ext.refl _ | assumption | refine Ext.alloc ?_ _ | refine Ext.drew ?_ | refine Ext.drewN ?_ _ | refine Ext.setCell ?_ (by first | exact Nat.le_refl _ | (simp; done) | omega) _ | refine Ext.trans ?_ (by assumption)))) (he3.ext (by repeat (first | exact Ext.refl _ | assumption | refine Ext.alloc ?_ _ | refine Ext.drew ?_ | refine Ext.drewN ?_ _ | refine Ext.setCell ?_ (by first | exact Nat.le_refl _ | (simp; done) | omega) _ | refine Ext.trans ?_ (by assumption)))) (RErrIs.code (by decide))).mono ?_; rintro e w6 ⟨rfl, hx6⟩
  go_wp2
  go_ret
  exact ⟨rfl, (by repeat (first | exact Ext.refl _ | assumption | refine Ext.alloc ?_ _ | refine Ext.drew ?_ | refine Ext.drewN ?_ _ | refine Ext.setCell ?_ (by first | exact Nat.le_refl _ | (simp; done) | omega) _ | refine Ext.trans ?_ (by assumption)))⟩
end Go.Proofs.YtkighedghgcdjaaDoor
