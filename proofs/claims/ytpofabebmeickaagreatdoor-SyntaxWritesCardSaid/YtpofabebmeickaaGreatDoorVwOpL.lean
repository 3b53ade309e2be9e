/- A list of yes and no opened. -/
import Derived.Test.YtpofabebmeickaaGreatDoorVwZb
namespace Go.Proofs.YtpofabebmeickaaGreatDoor
set_option linter.unusedVariables false
set_option linter.unusedSimpArgs false
open Go.ChangeShapes Go.WideShapes Go.ChangeAt Go.RowKit Go.Joins Go.Deep

section
variable {H : Type} {enc : TypeId × Value → H} {w : World}
set_option maxRecDepth 100000 in
theorem bls_of_reading {r : Reach} {b0 : Nat} {v : Value} {d : DataW H} {p : List MemPlace} (hv : Value.okWide Tryz.prog w r b0 23 v) (h : DataW.Trod enc Tryz.prog w 0 (fun _ => true) true 23 v d p) :
    ∃ L : List Bool, Bls w v L := by
  obtain ⟨a0, l0, c0, rfl⟩ := okWide_slice Tryz.underlying23 hv
  obtain ⟨fuel, hf⟩ := h
  rcases open_bools Tryz.underlying23 Tryz.underlying4 (by kernel_rfl) hf with ⟨hc, _⟩ | ⟨a, len, cap, B, hc, _, hl, hm, _, hx⟩
  · have hv : Value.slice a0 l0 c0 = .slice none 0 0 := by simpa [Value.cells] using hc
    rw [hv]
    exact ⟨[], none, 0, rfl, Nat.zero_le _, fun h => absurd h (Nat.lt_irrefl _)⟩
  · have hv : Value.slice a0 l0 c0 = .slice (some a) len cap := by simpa [Value.cells] using hc
    rw [hv]
    refine ⟨(List.range len).map B, some a, cap, by simp, by simp; omega, fun h0 => ?_⟩
    have h0 : 0 < len := by simpa using h0
    have ha : ∃ g off, a = ⟨g, off, none⟩ := by
      have := hx 0 (by omega)
      obtain ⟨g, off, spot⟩ := a
      have hspot : spot = none := by simpa [Addr.add] using World.cell?_spot this
      subst hspot
      exact ⟨g, off, rfl⟩
    obtain ⟨g, off, rfl⟩ := ha
    refine ⟨g, off, rfl, fun j f hj => ?_⟩
    rw [List.getElem?_map] at hj
    obtain ⟨j', hj', rfl⟩ := Option.map_eq_some_iff.1 hj
    obtain ⟨hlt, e⟩ := List.getElem?_eq_some_iff.1 hj'
    simp at hlt e
    subst e
    have h1 := hx j (by omega)
    rwa [Go.WideShapes.add_plain] at h1
end
end Go.Proofs.YtpofabebmeickaaGreatDoor

