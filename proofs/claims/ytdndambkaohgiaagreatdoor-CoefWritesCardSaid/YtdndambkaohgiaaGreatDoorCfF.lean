/- kinlaw14.few: its contract over this seat's translation. -/
import Derived.Test.YtdndambkaohgiaaGreatDoorZb
namespace Go.Proofs.YtdndambkaohgiaaGreatDoor
set_option linter.unusedVariables false
set_option linter.unusedSimpArgs false
open Go.RowKit Go.Extern.Stop Go.Stop Go.Extern

def fewC (L : List (List Int)) : Nat → Int
  | 0 => 0
  | k + 1 => fewC L k + min (((L.getD k []).length : Nat) : Int) 5001
theorem fewC_bound (L : List (List Int)) (k : Nat) : 0 ≤ fewC L k ∧ fewC L k ≤ 5001 * k := by
  induction k with
  | zero => simp [fewC]
  | succ k ih => unfold fewC; push_cast; omega
theorem fewC_mono (L : List (List Int)) {i k : Nat} (h : i ≤ k) : fewC L i ≤ fewC L k := by
  induction k with
  | zero => have : i = 0 := by omega
            subst this; exact Int.le_refl _
  | succ k ih =>
    by_cases e : i = k + 1
    · subst e; exact Int.le_refl _
    · have := ih (by omega)
      show fewC L i ≤ fewC L k + min (((L.getD k []).length : Nat) : Int) 5001
      omega
def fewCB (L : List (List Int)) : Bool := decide (L.length ≤ 200) && decide (fewC L (min L.length 200) ≤ 5000)
theorem fewC_out {L : List (List Int)} (h : fewCB L = true) : L.length ≤ 200 ∧ fewC L L.length ≤ 5000 := by
  unfold fewCB at h
  rw [Bool.and_eq_true, decide_eq_true_iff, decide_eq_true_iff] at h
  obtain ⟨h1, h2⟩ := h
  rw [show min L.length 200 = L.length by omega] at h2
  exact ⟨h1, h2⟩
set_option maxRecDepth 20000 in
set_option maxHeartbeats 500000 in
theorem fewC_any (L : List (List Int)) (v : Value) (w : World) (h : Mat w v L) :
    Calls Tryz.prog 10 #[v] w fun e w' => e = .returned (.bool (fewCB L)) ∧ w = w' := by
  obtain ⟨a, cap, rfl⟩ := h.form
  obtain ⟨n, hn⟩ : ∃ n, n = L.length := ⟨_, rfl⟩
  have HN := Lib.hid hn
  rw [← hn] at h ⊢
  have AG := Lib.hid h.had
  clear hn
  have r2 := mn2
  go_enter Tryz.func10, Tryz.ntmps10
  go_wp2
  go_loop [3, 4] (fun sv iv => ∃ k : Nat, k ≤ n ∧ k ≤ 200 ∧ iv = .int .i64 k ∧ sv = .int .i64 (fewC L k)) (fun _ iv => n - (intOf iv).toNat)
  case atStart => exact ⟨0, Nat.zero_le _, by omega, rfl, rfl⟩
  case round =>
    obtain ⟨k, hk, hk2, rfl, rfl⟩ := hrel
    have b0 := fewC_bound L k
    by_cases hlt : k < n
    · by_cases h40 : k < 200
      · obtain ⟨g, off, rfl⟩ := AG.out (by omega)
        obtain ⟨f, hf⟩ : ∃ f, L[k]? = some f := ⟨_, List.getElem?_eq_getElem (by rw [← HN.out]; exact hlt)⟩
        obtain ⟨ra, rc, c0, -⟩ := h.row hf
        have HS : Hid (fewC L (k + 1) = fewC L k + min ((f.length : Nat) : Int) 5001) := by show fewC L k + _ = _; rw [List.getD, hf]; rfl
        have bl : (0 : Int) ≤ (f.length : Int) := by omega
        clear hf
        revert HS b0 c0 bl
        generalize fewC L k = s
        generalize f.length = m
        intro b0 c0 HS bl
        have e1 : IntKind.i64.wrap (s + min (m : Int) 5001) = s + min (m : Int) 5001 := by rw [IntKind.wrap_i64]; omega
        go_wp2
        go_roundw
        case rel => exact ⟨k + 1, by omega, by omega, by go_num, by rw [HS.out]⟩
        case measure => simp [intOf]; omega
      · have h41 : ¬ n ≤ 200 := by omega
        have HR : Hid (fewCB L = false) := by show _ = _; unfold fewCB; rw [← HN.out]; simp [h41]
        have k1 : (200 : Int) < (n : Int) := by omega
        clear h41 b0
        go_wp2
        go_ret
        exact ⟨by rw [HR.out]; rfl, rfl⟩
    · have h41 : n ≤ 200 := by omega
      have HR : Hid (fewCB L = decide (fewC L k ≤ 5000)) := by show _ = _; unfold fewCB; rw [← HN.out, show min n 200 = k by omega]; simp [h41]
      have k1 : (n : Int) ≤ 200 := by omega
      revert HR b0
      generalize fewC L k = s
      intro b0 HR
      clear h41
      by_cases hs : s ≤ 5000
      · have t1 : decide (s ≤ 5000) = true := decide_eq_true hs
        go_wp2
        go_ret
        exact ⟨by rw [HR.out, t1]; rfl, rfl⟩
      · have t1 : decide (s ≤ 5000) = false := decide_eq_false hs
        go_wp2
        go_ret
        exact ⟨by rw [HR.out, t1]; rfl, rfl⟩
end Go.Proofs.YtdndambkaohgiaaGreatDoor
