/- An argument opened: a slice of slices of bytes, each nil or with an address. -/
import Derived.Test.YtkjllhphpkmaiaaDoorOpP
import Derived.Test.YtkjllhphpkmaiaaDoorUb2
import Derived.Deep.Matrix
namespace Go.Proofs.YtkjllhphpkmaiaaDoor
set_option linter.unusedVariables false
set_option linter.unusedSimpArgs false
open Go.ChangeShapes Go.WideShapes Go.ChangeAt Go.RowKit Go.Joins Go.Deep

section
variable {H : Type} {enc : TypeId × Value → H} {w : World}
set_option maxRecDepth 100000 in
theorem bysm_of_reading {r : Reach} {b0 : Nat} {v : Value} {d : DataW H} {p : List MemPlace} (hv : Value.okWide Tryd.prog w r b0 60 v) (h : DataW.Trod enc Tryd.prog w 0 (fun _ => true) true 60 v d p) :
    ∃ L : List (List Nat), Bmt w v L := by
  obtain ⟨a0, l0, c0, rfl⟩ := okWide_slice Tryd.underlying60 hv
  obtain ⟨fuel, hf⟩ := h
  rcases open_int_rows Tryd.underlying60 Tryd.underlying22 (k := .u8) Tryd.underlying5 (by kernel_rfl) (by kernel_rfl) hf with ⟨hc, _⟩ | ⟨a, len, cap, A, L, C, Z, hc, _, hl, hm, _, hr⟩
  · have hv : Value.slice a0 l0 c0 = .slice none 0 0 := by simpa [Value.cells] using hc
    rw [hv]
    exact ⟨[], Bmt.nil w⟩
  · have hv : Value.slice a0 l0 c0 = .slice (some a) len cap := by simpa [Value.cells] using hc
    rw [hv]
    refine ⟨(List.range len).map fun q => ((Z q).take (L q)).map Int.toNat, some a, cap, by simp, fun h0 => ?_⟩
    have h0 : 0 < len := by simpa using h0
    have ha : ∃ g off, a = ⟨g, off, none⟩ := by
      have := (hr 0 (by omega)).1
      obtain ⟨g, off, spot⟩ := a
      have hspot : spot = none := by simpa [Addr.add] using World.cell?_spot this
      subst hspot
      exact ⟨g, off, rfl⟩
    obtain ⟨g, off, rfl⟩ := ha
    refine ⟨g, off, rfl, fun q row hq => ?_⟩
    rw [List.getElem?_map] at hq
    obtain ⟨j, hj, rfl⟩ := Option.map_eq_some_iff.1 hq
    obtain ⟨hlt, e⟩ := List.getElem?_eq_some_iff.1 hj
    simp at hlt e
    subst e
    obtain ⟨h1, h2, h3, h4, h5, h6, h7⟩ := hr q (by omega)
    have hl' : (((Z q).take (L q)).map Int.toNat).length = L q := by simp; omega
    have hB : ∀ x ∈ Z q, 0 ≤ x ∧ x < 256 := fun x hx => by
      have h := h5 x hx
      simp [Lit.wf, IntKind.min, IntKind.max, IntKind.signed, IntKind.bits] at h
      omega
    have hcv : (((Z q).take (L q)).map Int.toNat).map (fun x : Nat => Value.int .u8 (x : Int)) = ((Z q).take (L q)).map (Value.int .u8) := by
      rw [List.map_map]
      apply List.map_congr_left
      intro x hx
      have := hB x (List.mem_of_mem_take hx)
      show Value.int .u8 ((x.toNat : Nat) : Int) = _
      rw [Int.toNat_of_nonneg this.1]
    refine ⟨A q, C q, by rw [hl', ← h1, Go.WideShapes.add_plain], ?_, fun x hx => ?_, ?_⟩
    · rw [hcv, hl']
      refine ⟨A q, C q, rfl, h2, h3, fun h0 => ?_, fun g' off' ha j u hu => ?_⟩
      · cases hA : A q with
        | none => have := h6 hA; omega
        | some a' =>
          have := (h7 a' hA).2 0 (by omega)
          obtain ⟨g', off', spot⟩ := a'
          have hspot : spot = none := by simpa [Addr.add] using World.cell?_spot this
          subst hspot
          exact ⟨g', off', rfl⟩
      · obtain ⟨hj, rfl⟩ := lits_cells hu
        have := (h7 _ ha).2 j (by omega)
        rwa [Go.WideShapes.add_plain] at this
    · obtain ⟨z, hz, rfl⟩ := List.mem_map.1 hx
      have := hB z (List.mem_of_mem_take hz)
      omega
    · rw [hl']
      cases hA : A q with
      | none =>
        have h8 := h6 hA
        left
        rw [h8, show L q = 0 by omega]
      | some a' => exact .inr ⟨_, _, _, rfl⟩
end
end Go.Proofs.YtkjllhphpkmaiaaDoor
