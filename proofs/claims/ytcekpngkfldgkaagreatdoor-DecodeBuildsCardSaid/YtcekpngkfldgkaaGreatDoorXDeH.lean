/- decode.copyOf, isAhead; a grey frame of the call's own. -/
import Derived.Test.YtcekpngkfldgkaaGreatDoorXTk
import Derived.Test.YtcekpngkfldgkaaGreatDoorXHb
import Derived.Test.YtcekpngkfldgkaaGreatDoorXGj
namespace Go.Proofs.YtcekpngkfldgkaaGreatDoor
set_option linter.unusedVariables false
set_option linter.unusedSimpArgs false
open Go.RowKit Go.Extern.Stop Go.Stop Go.Extern
set_option maxRecDepth 20000 in
set_option maxHeartbeats 2000000 in
theorem dcopy_any (W H : Int) (zs : List Int) (a : Option Addr) (n cap : Nat) (w : World) (h : Ints w (.slice a n cap) zs) (hn0 : 0 < zs.length) (hl : zs.length ≤ 1000000) :
 Calls Tryz.prog 34 #[.agg #[.int .i64 W, .int .i64 H, .slice a n cap]] w fun e w' => ∃ g c, e = .returned (.agg #[.int .i64 W, .int .i64 H, .slice (some ⟨g, 0, none⟩) zs.length c]) ∧ w'.ownsRow w.heap.size 3 1 (.slice (some ⟨g, 0, none⟩) zs.length c) zs.length (zs.map (Value.int .i64)) ∧ Ext w w' := by
 have C1 := Lib.hid (fun v W k => clone_own zs v W k hn0 hl)
 have A1 : Ext w (w.alloc (.cells #[.int .i64 W, .int .i64 H, .slice a n cap] 24)) := (Ext.refl w).alloc _
 have R1 := FrAt.new (w.alloc (.cells #[.int .i64 W, .int .i64 H, .slice a n cap] 24))
 rw [show (w.alloc (.cells #[.int .i64 W, .int .i64 H, .slice a n cap] 24)).heap.size = w.heap.size + 1 by simp] at R1
 have p0 : ((w.alloc (.cells #[.int .i64 W, .int .i64 H, .slice a n cap] 24)).alloc (.cells #[.int .i64 0, .int .i64 0, .slice none 0 0] 24)).cell? ⟨w.heap.size, 0, none⟩ = some (.int .i64 W) := ((Ext.refl _).alloc _).cell (by simp)
 have p1 : ((w.alloc (.cells #[.int .i64 W, .int .i64 H, .slice a n cap] 24)).alloc (.cells #[.int .i64 0, .int .i64 0, .slice none 0 0] 24)).cell? ⟨w.heap.size, 1, none⟩ = some (.int .i64 H) := ((Ext.refl _).alloc _).cell (by simp)
 have p2 : ((w.alloc (.cells #[.int .i64 W, .int .i64 H, .slice a n cap] 24)).alloc (.cells #[.int .i64 0, .int .i64 0, .slice none 0 0] 24)).cell? ⟨w.heap.size, 2, none⟩ = some (.slice a n cap) := ((Ext.refl _).alloc _).cell (by simp)
 have E1 : Ext w ((w.alloc (.cells #[.int .i64 W, .int .i64 H, .slice a n cap] 24)).alloc (.cells #[.int .i64 0, .int .i64 0, .slice none 0 0] 24)) := A1.alloc _
 clear A1
 go_enter Tryz.func34, Tryz.ntmps34
 go_wp2_with fail
 revert R1 p0 p1 p2 E1
 generalize (w.alloc (.cells #[.int .i64 W, .int .i64 H, .slice a n cap] 24)).alloc (.cells #[.int .i64 0, .int .i64 0, .slice none 0 0] 24) = wA
 intro R1 p0 p1 p2 E1
 have RW := Lib.hid R1
 clear R1
 go_region_with ((go_at_call 60; refine (C1.out _ _ (h.ext (by repeat (first | exact Ext.refl _ | assumption | refine Ext.alloc ?_ _ | refine Ext.drew ?_ | refine Ext.drewN ?_ _ | refine Ext.setCell ?_ (by first | exact Nat.le_refl _ | (simp; done) | omega) _ | refine Ext.trans ?_ (by assumption))))).mono ?_; rintro e w9 ⟨g9, c9, rfl, hz9, hx9⟩; have s0 := hx9.cell (show wA.drew.cell? _ = _ from p0); have s1 := hx9.cell (show wA.drew.cell? _ = _ from p1); have s2 := hx9.cell (show wA.drew.cell? _ = _ from p2); have RB := FrAt.ext (show FrAt wA.drew _ from RW.out) hx9; obtain ⟨⟨b0, b1, b2⟩, f0, f1, f2⟩ := RB))
 all_goals
  have hsz : w.heap.size + 1 < wA.drew.heap.size := Ext.lt RW.out.1.1
  have ho := ownsRow_setCell_below (ownsRow_setCell_below (ownsRow_setCell_below hz9 (a := ⟨w.heap.size + 1, 0, none⟩) hsz (.int .i64 W)) (a := ⟨w.heap.size + 1, 1, none⟩) hsz (.int .i64 H)) (a := ⟨w.heap.size + 1, 2, none⟩) hsz (.slice (some ⟨g9, 0, none⟩) zs.length c9)
  have E9 : Ext w w9 := (by repeat (first | exact Ext.refl _ | assumption | refine Ext.alloc ?_ _ | refine Ext.drew ?_ | refine Ext.drewN ?_ _ | refine Ext.setCell ?_ (by first | exact Nat.le_refl _ | (simp; done) | omega) _ | refine Ext.trans ?_ (by assumption)))
  go_wp2
  obtain ⟨g0, g1, g2⟩ := fr_cells W H (.slice (some ⟨g9, 0, none⟩) zs.length c9) b0 b1 b2
  exact bodyPost_ret (v := .agg #[.int .i64 W, .int .i64 H, .slice (some ⟨g9, 0, none⟩) zs.length c9]) (by simp [results, Tryz.results34, go_sem, g0, g1, g2]) rfl ⟨_, _, rfl, own_mono ho (by omega), ((E9.setCell (by simp) _).setCell (by simp) _).setCell (by simp) _⟩
set_option maxRecDepth 20000 in
set_option maxHeartbeats 400000 in
theorem new_own (W H v : Int) (w : World) (h : newOk W H v = true) :
 Calls Tryz.prog 47 #[.int .i64 W, .int .i64 H, .int .i64 v] w fun e w' => ∃ g n cap, e = .returned (.tuple #[.agg #[.int .i64 W, .int .i64 H, .slice (some ⟨g, 0, none⟩) n cap], .nilIface]) ∧ Ext w w' ∧ n = (W * H).toNat ∧ w'.ownsRow w.heap.size 3 1 (.slice (some ⟨g, 0, none⟩) n cap) n ((rowL (W * H).toNat fun _ => v).map (Value.int .i64)) := by
 unfold newOk at h
 simp only [Bool.and_eq_true] at h
 obtain ⟨⟨s1, s2⟩, s3⟩ := h
 obtain ⟨N, hN, hNs⟩ := new_size s1 s2
 have R := Lib.hid (fun u W' k => rep_sz N hNs v u W' k)
 have HT : Hid ((W * H).toNat = N) := by show _ = _; omega
 have hb := side_area s1 s2
 have e1 : IntKind.i64.wrap (W * H) = (N : Int) := by rw [IntKind.wrap_i64]; omega
 have HNl : Hid (N ≤ 1024) := by show _ ≤ _; omega
 have F0 := Lib.hid (FrAt.new w)
 have A0 : Ext w (w.alloc (.cells #[.int .i64 0, .int .i64 0, .slice none 0 0] 24)) := (Ext.refl w).alloc _
 have L1 : Ints ((w.alloc (.cells #[.int .i64 0, .int .i64 0, .slice none 0 0] 24)).alloc (.cells #[.int .i64 v] 3)) (.slice (some ⟨w.heap.size + 1, 0, none⟩) 1 1) [v] := by
  have := Ints.liti (w.alloc (.cells #[.int .i64 0, .int .i64 0, .slice none 0 0] 24)) [v] (by simp)
  simpa using this
 clear hN hNs hb
 go_enter Tryz.func47, Tryz.ntmps47
 go_wp2_with (first | (go_at_call 55; refine (side_any _ _).mono ?_; rintro e w' ⟨rfl, rfl⟩) | (go_at_call 56; refine (smp_any _ _).mono ?_; rintro e w' ⟨rfl, rfl⟩))
 refine (R.out _ _ L1).mono ?_; rintro e w2 ⟨g, rfl, hx2, ho2, hb2, hs2⟩
 have A2 := (((Ext.refl (w.alloc (.cells #[.int .i64 0, .int .i64 0, .slice none 0 0] 24))).alloc (.cells #[.int .i64 v] 3))).trans hx2
 obtain ⟨⟨r0, r1, r2⟩, f0, f1, f2⟩ := F0.out.ext A2
 have E2 : Ext w w2 := A0.trans A2
 have ho3 := own_mono (b := w.heap.size + 1) ho2 (by simp)
 have ho := ownsRow_setCell_below (ownsRow_setCell_below (ownsRow_setCell_below ho3 (a := ⟨w.heap.size, 0, none⟩) (Nat.lt_succ_self _) (.int .i64 W)) (a := ⟨w.heap.size, 1, none⟩) (Nat.lt_succ_self _) (.int .i64 H)) (a := ⟨w.heap.size, 2, none⟩) (Nat.lt_succ_self _) (.slice (some ⟨g, 0, none⟩) N N)
 have HO := Lib.hid ho
 clear ho ho2 ho3 hx2 A0 A2
 go_wp2
 obtain ⟨g0, g1, g2⟩ := fr_cells W H (.slice (some ⟨g, 0, none⟩) N N) r0 r1 r2
 exact bodyPost_ret (v := .tuple #[.agg #[.int .i64 W, .int .i64 H, .slice (some ⟨g, 0, none⟩) N N], .nilIface]) (by simp [results, Tryz.results47, go_sem, g0, g1, g2]) rfl ⟨_, _, _, rfl, ((E2.setCell (p := ⟨w.heap.size, 0, none⟩) (Nat.le_refl _) _).setCell (p := ⟨w.heap.size, 1, none⟩) (Nat.le_refl _) _).setCell (p := ⟨w.heap.size, 2, none⟩) (Nat.le_refl _) _, HT.out.symm, by rw [HT.out]; exact own_mono HO.out (Nat.le_succ _)⟩
def leanP (PW PH : Int) (ps : List Int) (W H : Int) : Prop := may PW PH ps ∧ PW = W ∧ PH = H
noncomputable instance (PW PH : Int) (ps : List Int) (W H : Int) : Decidable (leanP PW PH ps W H) := Classical.propDecidable _
set_option maxRecDepth 20000 in
set_option maxHeartbeats 2000000 in
theorem ahead_any (PW PH W H : Int) (ps : List Int) (pa fa : Option Addr) (pn pc fn fc : Nat) (w : World) (h : Ints w (.slice pa pn pc) ps) :
 Calls Tryz.prog 49 #[.agg #[.int .i64 PW, .int .i64 PH, .slice pa pn pc], .agg #[.int .i64 W, .int .i64 H, .slice fa fn fc]] w fun e w' => e = .returned (.bool (decide (leanP PW PH ps W H))) ∧ Ext w w' := by
 have A0 := (BoxIs.new w #[.int .i64 PW, .int .i64 PH, .slice pa pn pc] 24).ext ((Ext.refl _).alloc (.cells #[.int .i64 W, .int .i64 H, .slice fa fn fc] 24))
 have A1 := BoxIs.new (w.alloc (.cells #[.int .i64 PW, .int .i64 PH, .slice pa pn pc] 24)) #[.int .i64 W, .int .i64 H, .slice fa fn fc] 24
 have E0 := ((Ext.refl w).alloc (.cells #[.int .i64 PW, .int .i64 PH, .slice pa pn pc] 24)).alloc (.cells #[.int .i64 W, .int .i64 H, .slice fa fn fc] 24)
 rw [show (w.alloc (.cells #[.int .i64 PW, .int .i64 PH, .slice pa pn pc] 24)).heap.size = w.heap.size + 1 by simp] at A1
 have M1 := Lib.hid (fun W' k => may_any PW PH ps pa pn pc W' (h.ext k))
 have HD : Hid (decide (leanP PW PH ps W H) = (decide (may PW PH ps) && (decide (PW = W) && decide (PH = H)))) := by show _ = _; rw [Bool.eq_iff_iff]; simp only [Bool.and_eq_true, decide_eq_true_eq]; rfl
 rw [HD.out]
 obtain ⟨mb, hmb⟩ : ∃ b, decide (may PW PH ps) = b := ⟨_, rfl⟩
 rw [hmb] at M1 ⊢
 clear hmb h HD
 go_enter Tryz.func49, Tryz.ntmps49
 go_wp2_with fail
 revert A0 A1 E0
 generalize (w.alloc (.cells #[.int .i64 PW, .int .i64 PH, .slice pa pn pc] 24)).alloc (.cells #[.int .i64 W, .int .i64 H, .slice fa fn fc] 24) = u
 intro A0 A1 E0
 refine (M1.out _ E0).mono ?_; rintro e w2 ⟨rfl, hx2⟩
 have B0 := A0.ext hx2
 have B1 := A1.ext hx2
 have p0 := B0.cell (i := 0) (v := .int .i64 PW) rfl
 have p1 := B0.cell (i := 1) (v := .int .i64 PH) rfl
 have q0 := B1.cell (i := 0) (v := .int .i64 W) rfl
 have q1 := B1.cell (i := 1) (v := .int .i64 H) rfl
 have E2 := E0.trans hx2
 clear A0 A1 E0 hx2 B0 B1 M1
 cases mb with
 | false =>
   go_wp2
   go_ret
   exact ⟨rfl, E2⟩
 | true =>
   by_cases h1 : PW = W
   · have t1 : decide (PW = W) = true := decide_eq_true h1
     have t2 : (PW == W) = true := t1
     go_wp2
     go_ret
     refine ⟨?_, E2⟩
     first | (simp [h1]; done) | (simp [h1]; rfl)
   · have t1 : decide (PW = W) = false := decide_eq_false h1
     have t2 : (PW == W) = false := t1
     go_wp2
     go_ret
     refine ⟨?_, E2⟩
     first | (simp [h1]; done) | (simp [h1]; rfl)
end Go.Proofs.YtcekpngkfldgkaaGreatDoor