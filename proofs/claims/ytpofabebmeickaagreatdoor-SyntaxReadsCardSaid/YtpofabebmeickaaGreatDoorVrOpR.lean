/- Bytes opened with the reach: how many there may be. -/
import Derived.Test.YtpofabebmeickaaGreatDoorVrOpO
namespace Go.Proofs.YtpofabebmeickaaGreatDoor
set_option linter.unusedVariables false
set_option linter.unusedSimpArgs false
open Go.ChangeShapes Go.WideShapes Go.ChangeAt Go.RowKit Go.Joins Go.Deep

theorem weights_at {H : Type} {P : Program} : ∀ {ts : List TypeId} {ds : List (DataW H)} {j : Nat} {t : TypeId} {d : DataW H}, (DataW.weightsEach P ts ds).all (· ≤ reachBytes) = true → ts[j]? = some t → ds[j]? = some d → (d.weights P t).all (· ≤ reachBytes) = true
  | [], _, _, _, _, _, ht, _ => by simp at ht
  | _ :: _, [], _, _, _, _, _, hd => by simp at hd
  | a :: ts, b :: ds, j, t, d, h, ht, hd => by
    unfold DataW.weightsEach at h
    rw [List.all_append, Bool.and_eq_true] at h
    cases j with
    | zero =>
      simp only [List.getElem?_cons_zero, Option.some.injEq] at ht hd
      subst ht; subst hd
      exact h.1
    | succ j =>
      simp only [List.getElem?_cons_succ] at ht hd
      exact weights_at h.2 ht hd
section
variable {H : Type} {enc : TypeId × Value → H} {w : World}
set_option maxRecDepth 100000 in
theorem bys_reach {v : Value} {d : DataW H} {p : List MemPlace} {bs : List Nat} (h : DataW.Trod enc Tryz.prog w 0 (fun _ => true) true 53 v d p) (hr : Row w v bs.length (bs.map fun x : Nat => Value.int .u8 (x : Int)))
    (hS : (d.weights Tryz.prog 53).all (· ≤ reachBytes) = true) : bs.length ≤ 140737488355328 := by
  obtain ⟨a, cap, e, h1, h2, -, -⟩ := hr
  obtain ⟨fuel, hf⟩ := h
  rcases open_ints Tryz.underlying53 (k := .u8) Tryz.underlying5 (by kernel_rfl) hf with ⟨hc, _⟩ | ⟨a', len, cap', zs, hc, _, hl, hm, hlen, hx, hcell, hw⟩
  · have hv : v = .slice none 0 0 := by rw [e] at hc ⊢; simpa [Value.cells] using hc
    rw [e] at hv
    simp only [Value.slice.injEq] at hv
    omega
  · have hv : v = .slice (some a') len cap' := by rw [e] at hc ⊢; simpa [Value.cells] using hc
    rw [e] at hv
    simp only [Value.slice.injEq] at hv
    simp only [if_true] at hlen
    obtain ⟨rfl, -⟩ := Prod.mk.inj hx
    unfold DataW.weights at hS
    rw [Tryz.underlying53] at hS
    have hb : Tryz.prog.bytesOf 5 = 1 := by kernel_rfl
    simp only [List.all_cons, Bool.and_eq_true, decide_eq_true_eq, hb] at hS
    have h3 : (lits (H := H) .u8 (zs.take len)).length = len := by simp [lits]; omega
    have h4 := hS.1
    rw [h3] at h4
    have : reachBytes ≤ 140737488355328 := by decide
    omega
end
end Go.Proofs.YtpofabebmeickaaGreatDoor

