/- kinref.Codeds of two that are the same. -/
import Derived.Test.YtlaedbglclmheaaGreatDoorZc
import Derived.Test.YtlaedbglclmheaaGreatDoorSy4
import Derived.BigQuiet
import Derived.Deep.QuietTactic
import Derived.Deep.RegionHeld3
namespace Go.Proofs.YtlaedbglclmheaaGreatDoor
set_option linter.unusedVariables false
set_option linter.unusedSimpArgs false
open Go.RowKit Go.Extern.Stop Go.Stop Go.Extern

set_option maxRecDepth 20000 in
set_option maxHeartbeats 4000000 in
theorem codeds_same (L : List Cd) (u v : Value) (w : World) (hu : Cds w u L) (hv : Cds w v L) (hl : L.length ≤ 1000000) (hsm : Hid (∀ (q : Nat) (c : Cd), L[q]? = some c → c.2.length ≤ 1000000)) :
    Calls Tryz.prog 20 #[u, v] w fun e w' => e = .returned (.bool true) ∧ Ext w w' := by
  obtain ⟨a, ca, rfl⟩ := hu.form
  obtain ⟨b, cb, rfl⟩ := hv.form
  obtain ⟨n, hn⟩ : ∃ n, n = L.length := ⟨_, rfl⟩
  have HN := Lib.hid hn
  rw [← hn] at hu hv hl ⊢
  have AG := Lib.hid (fun h => hu.had h)
  have BG := Lib.hid (fun h => hv.had h)
  clear hn
  go_enter Tryz.func20, Tryz.ntmps20
  go_wp2
  go_loopw [5] (fun iv wr => ∃ k : Nat, k ≤ n ∧ iv = .int .i64 k ∧ Ext w wr) (fun iv _ => n - (intOf iv).toNat)
  case atStart => exact ⟨0, Nat.zero_le _, rfl, Ext.refl w⟩
  case round =>
    obtain ⟨k, hk, rfl, hE⟩ := hrel
    by_cases hlt : k < n
    · obtain ⟨f, hf⟩ : ∃ f, L[k]? = some f := ⟨_, List.getElem?_eq_getElem (by rw [← HN.out]; exact hlt)⟩
      obtain ⟨g, o, rfl⟩ := AG.out (by omega)
      obtain ⟨g', o', rfl⟩ := BG.out (by omega)
      obtain ⟨fa, fn, fc, p0, p1, p2, p3⟩ := (hu.at hf).ext hE
      obtain ⟨pa, pn, pc, q0, q1, q2, q3⟩ := (hv.at hf).ext hE
      have H1 : Hid (Bys wr (.slice fa fn fc) f.2) := ⟨p2, p3, Nat.le_trans (hsm.out _ _ hf) (by decide)⟩
      have H2 : Hid (Bys wr (.slice pa pn pc) f.2) := ⟨q2, q3, Nat.le_trans (hsm.out _ _ hf) (by decide)⟩
      clear p2 q2 p3 q3 hf
      go_wp2_with fail
      go_region_held3 (fun w' => w'.cell? ⟨g, o + k * 2, none⟩ = some (.int .i64 f.1) ∧ w'.cell? ⟨g, o + k * 2 + 1, none⟩ = some (.slice fa fn fc) ∧ w'.cell? ⟨g', o' + k * 2, none⟩ = some (.int .i64 f.1) ∧ w'.cell? ⟨g', o' + k * 2 + 1, none⟩ = some (.slice pa pn pc) ∧ Ext wr w')
        (first | assumption | (exact ⟨p0, p1, q0, q1, Ext.refl _⟩) | (exact ⟨p0, p1, q0, q1, (Ext.refl _).drew⟩) | (go_split_ands; exact ⟨hx.cell (by assumption), hx.cell (by assumption), hx.cell (by assumption), hx.cell (by assumption), Ext.trans (by assumption) hx⟩))
        ((go_at_call 60; obtain ⟨_, _, _, _, hE1⟩ : _ ∧ _ ∧ _ ∧ _ ∧ Ext wr _ := (by assumption); refine (coded_same f.1 f.2 _ _ _ (H1.out.ext hE1) (H2.out.ext hE1)).mono ?_; rintro e w' ⟨rfl, hx⟩))
      obtain ⟨_, _, _, _, hE1⟩ : _ ∧ _ ∧ _ ∧ _ ∧ Ext wr _ := by assumption
      have hE9 := hE.trans hE1
      clear p0 p1 q0 q1 H1 H2 hE hE1
      go_wp2
      go_roundw
      case rel => exact ⟨k + 1, by omega, by go_num, hE9⟩
      case measure => simp [intOf]; omega
    · have hkn : ¬ (k : Int) < (n : Int) := by omega
      clear hlt
      go_wp2
      go_ret
      exact ⟨rfl, hE⟩
end Go.Proofs.YtlaedbglclmheaaGreatDoor
