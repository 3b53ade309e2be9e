/- kinref.Units: its contract over this seat's translation. -/
import Derived.Test.YtkjllhphpkmaiaaDoorUs2
import Derived.Test.YtkjllhphpkmaiaaDoorUn1
import Derived.Deep.RegionHeld3
namespace Go.Proofs.YtkjllhphpkmaiaaDoor
set_option linter.unusedVariables false
set_option linter.unusedSimpArgs false
open Go.RowKit Go.Extern.Stop Go.Stop Go.Extern

set_option maxHeartbeats 4000000 in
set_option maxRecDepth 20000 in
theorem units_same (L : List Un) (v u : Value) (w : World) (h : Uns w v L) (k : Uns w u L) : Calls Tryd.prog 26 #[v, u] w fun e w' => e = .returned (.bool true) ∧ Ext w w' := by
  obtain ⟨a1, c1, rfl, hc1, hm⟩ := h.form
  obtain ⟨a2, c2, rfl, hc2, -⟩ := k.form
  obtain ⟨n, hn⟩ : ∃ n, L.length = n := ⟨_, rfl⟩
  rw [hn] at h k hc1 hc2 hm ⊢
  have HN := Lib.hid hn
  have H := Lib.hid h
  have K2 := Lib.hid k
  clear h k hn
  go_enter Tryd.func26, Tryd.ntmps26
  go_wp2
  go_loopw [5] (fun iv wr => ∃ i : Nat, i ≤ n ∧ iv = .int .i64 (i : Int) ∧ Hid (Ext w wr)) (fun iv _ => n - (intOf iv).toNat)
  case atStart => exact ⟨0, Nat.zero_le _, rfl, Ext.refl w⟩
  case round =>
    obtain ⟨i, hi, rfl, HE⟩ := hrel
    by_cases hlt : i < n
    · obtain ⟨⟨K, D, A, E⟩, hU⟩ : ∃ U, L[i]? = some U := ⟨_, List.getElem?_eq_getElem (by rw [HN.out]; exact hlt)⟩
      obtain ⟨g1, o1, rfl⟩ := H.out.had (by omega)
      obtain ⟨g2, o2, rfl⟩ := K2.out.had (by omega)
      obtain ⟨d1, e1, p0, p1, p2, p3, p4⟩ := (H.out.at hU).ext HE.out
      obtain ⟨d2, e2, q0, q1, q2, q3, q4⟩ := (K2.out.at hU).ext HE.out
      have HP := Lib.hid p4
      have HQ := Lib.hid q4
      have KS : Hid (∀ w', Ext wr w' → (w'.cell? ⟨g1, o1 + i * 4, none⟩ = some (.int .i64 (K : Int)) ∧ w'.cell? ⟨g1, o1 + i * 4 + 1, none⟩ = some (.slice d1 D.length e1) ∧ w'.cell? ⟨g1, o1 + i * 4 + 2, none⟩ = some (.int .i64 A) ∧ w'.cell? ⟨g1, o1 + i * 4 + 3, none⟩ = some (.int .i64 E)) ∧ (w'.cell? ⟨g2, o2 + i * 4, none⟩ = some (.int .i64 (K : Int)) ∧ w'.cell? ⟨g2, o2 + i * 4 + 1, none⟩ = some (.slice d2 D.length e2) ∧ w'.cell? ⟨g2, o2 + i * 4 + 2, none⟩ = some (.int .i64 A) ∧ w'.cell? ⟨g2, o2 + i * 4 + 3, none⟩ = some (.int .i64 E)) ∧ Ext wr w') := fun w' x => ⟨⟨x.cell p0, x.cell p1, x.cell p2, x.cell p3⟩, ⟨x.cell q0, x.cell q1, x.cell q2, x.cell q3⟩, x⟩
      have US := Lib.hid (fun w' (x : Ext wr w') => unit_same (K : Int) A E D d1 d2 D.length e1 D.length e2 w' (HP.out.ext x) (HQ.out.ext x))
      have x1 : (0 : Int) ≤ (i : Int) := by omega
      have x2 : (i : Int) < (n : Int) := by omega
      clear p4 q4 hU
      go_wp2_with fail
      go_region_held3 (fun w' => (w'.cell? ⟨g1, o1 + i * 4, none⟩ = some (.int .i64 (K : Int)) ∧ w'.cell? ⟨g1, o1 + i * 4 + 1, none⟩ = some (.slice d1 D.length e1) ∧ w'.cell? ⟨g1, o1 + i * 4 + 2, none⟩ = some (.int .i64 A) ∧ w'.cell? ⟨g1, o1 + i * 4 + 3, none⟩ = some (.int .i64 E)) ∧ (w'.cell? ⟨g2, o2 + i * 4, none⟩ = some (.int .i64 (K : Int)) ∧ w'.cell? ⟨g2, o2 + i * 4 + 1, none⟩ = some (.slice d2 D.length e2) ∧ w'.cell? ⟨g2, o2 + i * 4 + 2, none⟩ = some (.int .i64 A) ∧ w'.cell? ⟨g2, o2 + i * 4 + 3, none⟩ = some (.int .i64 E)) ∧ Ext wr w')
        (first | assumption | (exact KS.out _ (by repeat (first | exact Ext.refl _ | assumption | refine Ext.drew ?_ | refine Ext.trans ?_ (by assumption)))) | (go_split_ands; exact KS.out _ (by repeat (first | exact Ext.refl _ | assumption | refine Ext.drew ?_ | refine Ext.trans ?_ (by assumption)))))
        ((go_at_call 23; obtain ⟨_, _, hE1⟩ : _ ∧ _ ∧ Ext wr _ := (by assumption); refine (US.out _ hE1).mono ?_; rintro e w6 ⟨rfl, hx6⟩))
      all_goals obtain ⟨_, _, hE9⟩ : _ ∧ _ ∧ Ext wr _ := by assumption
      all_goals have HE9 := Lib.hid (HE.out.trans hE9)
      all_goals go_wp2
      all_goals go_roundw
      all_goals first
        | exact ⟨i + 1, by omega, by go_num, HE9.out⟩
        | (simp [intOf]; omega)
    · obtain rfl : i = n := by omega
      have hlt : ¬ (i : Int) < (i : Int) := by omega
      go_wp2
      go_ret
      exact ⟨rfl, HE.out⟩
end Go.Proofs.YtkjllhphpkmaiaaDoor
