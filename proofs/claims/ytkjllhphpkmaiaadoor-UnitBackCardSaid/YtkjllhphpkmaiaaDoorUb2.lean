/- Slices of slices of bytes; kinlaw4.few: contracts over this seat's translation. -/
import Derived.Test.YtkjllhphpkmaiaaDoorUb1
namespace Go.Proofs.YtkjllhphpkmaiaaDoor
set_option linter.unusedVariables false
set_option linter.unusedSimpArgs false
open Go.RowKit Go.Extern.Stop Go.Stop Go.Extern

def BmRow (w : World) (g i : Nat) (row : List Nat) : Prop := ∃ ra rc, w.cell? ⟨g, i, none⟩ = some (.slice ra row.length rc) ∧ Row w (.slice ra row.length rc) row.length (row.map fun x : Nat => Value.int .u8 (x : Int)) ∧ (∀ x ∈ row, x < 256) ∧ Plain (.slice ra row.length rc)
/-- a slice value that reads as these slices of bytes -/
def Bmt (w : World) (v : Value) (L : List (List Nat)) : Prop := ∃ (a : Option Addr) (cap : Nat), v = .slice a L.length cap ∧ (0 < L.length → ∃ g off, a = some ⟨g, off, none⟩ ∧ ∀ q row, L[q]? = some row → BmRow w g (off + q) row)
theorem BmRow.ext {w w' : World} {g i : Nat} {row : List Nat} (h : BmRow w g i row) (k : Ext w w') : BmRow w' g i row := by
  obtain ⟨ra, rc, h0, h1, h2⟩ := h
  exact ⟨ra, rc, k.cell h0, h1.ext k, h2⟩
theorem Bmt.ext {w w' : World} {v : Value} {L : List (List Nat)} (h : Bmt w v L) (k : Ext w w') : Bmt w' v L := by
  obtain ⟨a, cap, h0, h1⟩ := h
  refine ⟨a, cap, h0, fun hl => ?_⟩
  obtain ⟨g, off, e, h2⟩ := h1 hl
  exact ⟨g, off, e, fun q row hq => (h2 q row hq).ext k⟩
theorem Bmt.form {w : World} {v : Value} {L : List (List Nat)} (h : Bmt w v L) : ∃ a cap, v = .slice a L.length cap := by
  obtain ⟨a, cap, h0, _⟩ := h
  exact ⟨a, cap, h0⟩
theorem Bmt.nil (w : World) : Bmt w (.slice none 0 0) [] := ⟨none, 0, rfl, fun h => absurd h (Nat.lt_irrefl _)⟩
theorem Bmt.len {w : World} {a : Option Addr} {n cap : Nat} {L : List (List Nat)} (h : Bmt w (.slice a n cap) L) : n = L.length := by
  obtain ⟨a', cap', e, _⟩ := h
  simp only [Value.slice.injEq] at e
  exact e.2.1
theorem Bmt.had {w : World} {a : Option Addr} {n cap : Nat} {L : List (List Nat)} (h : Bmt w (.slice a n cap) L) (hn : 0 < n) : ∃ g off, a = some ⟨g, off, none⟩ := by
  have hl := h.len
  obtain ⟨a', cap', e, h3⟩ := h
  simp only [Value.slice.injEq] at e
  obtain ⟨rfl, -, rfl⟩ := e
  obtain ⟨g, off, e, _⟩ := h3 (by omega)
  exact ⟨g, off, e⟩
theorem Bmt.at {w : World} {g off n cap : Nat} {L : List (List Nat)} (h : Bmt w (.slice (some ⟨g, off, none⟩) n cap) L) {q : Nat} {row : List Nat} (hq : L[q]? = some row) : BmRow w g (off + q) row := by
  have hl := h.len
  obtain ⟨a', cap', e, h3⟩ := h
  simp only [Value.slice.injEq] at e
  obtain ⟨rfl, -, rfl⟩ := e
  obtain ⟨hj, -⟩ := List.getElem?_eq_some_iff.1 hq
  obtain ⟨g', off', e, h4⟩ := h3 (by omega)
  obtain ⟨rfl, rfl⟩ : g = g' ∧ off = off' := by simpa using e
  exact h4 q row hq
/-- the bytes of the first k, as few counts them -/
def fewN (L : List (List Nat)) : Nat → Int
  | 0 => 0
  | k + 1 => fewN L k + min (((L.getD k []).length : Nat) : Int) 20001
theorem fewN_bound (L : List (List Nat)) (k : Nat) : 0 ≤ fewN L k ∧ fewN L k ≤ 20001 * k := by
  induction k with
  | zero => simp [fewN]
  | succ k ih => unfold fewN; push_cast; omega
theorem fewN_mono (L : List (List Nat)) {i k : Nat} (h : i ≤ k) : fewN L i ≤ fewN L k := by
  induction k with
  | zero => have : i = 0 := by omega
            subst this; exact Int.le_refl _
  | succ k ih =>
    by_cases e : i = k + 1
    · subst e; exact Int.le_refl _
    · have := ih (by omega)
      show fewN L i ≤ fewN L k + min (((L.getD k []).length : Nat) : Int) 20001
      omega
def fewB (L : List (List Nat)) : Bool := decide (L.length ≤ 200) && decide (fewN L (min L.length 200) ≤ 20000)
theorem few_out {L : List (List Nat)} (h : fewB L = true) : L.length ≤ 200 ∧ fewN L L.length ≤ 20000 := by
  unfold fewB at h
  rw [Bool.and_eq_true, decide_eq_true_iff, decide_eq_true_iff] at h
  obtain ⟨h1, h2⟩ := h
  rw [show min L.length 200 = L.length by omega] at h2
  exact ⟨h1, h2⟩
set_option maxRecDepth 20000 in
set_option maxHeartbeats 2000000 in
theorem few_any (L : List (List Nat)) (v : Value) (w : World) (h : Bmt w v L) :
    Calls Tryd.prog 27 #[v] w fun e w' => e = .returned (.bool (fewB L)) ∧ w = w' := by
  obtain ⟨a, cap, rfl⟩ := h.form
  obtain ⟨n, hn⟩ : ∃ n, n = L.length := ⟨_, rfl⟩
  have HN := Lib.hid hn
  rw [← hn] at h ⊢
  have AG := Lib.hid h.had
  clear hn
  have r2 := mn2
  go_enter Tryd.func27, Tryd.ntmps27
  go_wp2
  go_loop [3, 4] (fun sv iv => ∃ k : Nat, k ≤ n ∧ k ≤ 200 ∧ iv = .int .i64 k ∧ sv = .int .i64 (fewN L k)) (fun _ iv => n - (intOf iv).toNat)
  case atStart => exact ⟨0, Nat.zero_le _, by omega, rfl, rfl⟩
  case round =>
    obtain ⟨k, hk, hk2, rfl, rfl⟩ := hrel
    have b0 := fewN_bound L k
    by_cases hlt : k < n
    · by_cases h40 : k < 200
      · obtain ⟨g, off, rfl⟩ := AG.out (by omega)
        obtain ⟨f, hf⟩ : ∃ f, L[k]? = some f := ⟨_, List.getElem?_eq_getElem (by rw [← HN.out]; exact hlt)⟩
        obtain ⟨ra, rc, c0, -⟩ := h.at hf
        have HS : Hid (fewN L (k + 1) = fewN L k + min ((f.length : Nat) : Int) 20001) := by show fewN L k + _ = _; rw [List.getD, hf]; rfl
        have bl : (0 : Int) ≤ (f.length : Int) := by omega
        clear hf
        revert HS b0 c0 bl
        generalize fewN L k = s
        generalize f.length = m
        intro b0 c0 HS bl
        have e1 : IntKind.i64.wrap (s + min (m : Int) 20001) = s + min (m : Int) 20001 := by rw [IntKind.wrap_i64]; omega
        go_wp2
        go_roundw
        case rel => exact ⟨k + 1, by omega, by omega, by go_num, by rw [HS.out]⟩
        case measure => simp [intOf]; omega
      · have h41 : ¬ n ≤ 200 := by omega
        have HR : Hid (fewB L = false) := by show _ = _; unfold fewB; rw [← HN.out]; simp [h41]
        have k1 : (200 : Int) < (n : Int) := by omega
        clear h41 b0
        go_wp2
        go_ret
        exact ⟨by rw [HR.out]; rfl, rfl⟩
    · have h41 : n ≤ 200 := by omega
      have HR : Hid (fewB L = decide (fewN L k ≤ 20000)) := by show _ = _; unfold fewB; rw [← HN.out, show min n 200 = k by omega]; simp [h41]
      have k1 : (n : Int) ≤ 200 := by omega
      revert HR b0
      generalize fewN L k = s
      intro b0 HR
      clear h41
      by_cases hs : s ≤ 20000
      · have t1 : decide (s ≤ 20000) = true := decide_eq_true hs
        go_wp2
        go_ret
        exact ⟨by rw [HR.out, t1]; rfl, rfl⟩
      · have t1 : decide (s ≤ 20000) = false := decide_eq_false hs
        go_wp2
        go_ret
        exact ⟨by rw [HR.out, t1]; rfl, rfl⟩
end Go.Proofs.YtkjllhphpkmaiaaDoor
