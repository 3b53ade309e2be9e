/- Arguments opened: bytes; a list of a writer's or a reader's steps. -/
import Derived.Test.YtpofabebmeickaaGreatDoorVrZb
import Derived.Deep.Slices
namespace Go.Proofs.YtpofabebmeickaaGreatDoor
set_option linter.unusedVariables false
set_option linter.unusedSimpArgs false
open Go.ChangeShapes Go.WideShapes Go.ChangeAt Go.RowKit Go.Joins Go.Deep

section
variable {H : Type} {enc : TypeId × Value → H} {w : World}
set_option maxRecDepth 100000 in
theorem bys_of_reading {r : Reach} {b0 : Nat} {v : Value} {d : DataW H} {p : List MemPlace} (hv : Value.okWide Tryz.prog w r b0 53 v) (h : DataW.Trod enc Tryz.prog w 0 (fun _ => true) true 53 v d p) :
    ∃ bs : List Nat, Row w v bs.length (bs.map fun x : Nat => Value.int .u8 (x : Int)) ∧ ∀ x ∈ bs, x < 256 := by
  obtain ⟨a0, l0, c0, rfl⟩ := okWide_slice Tryz.underlying53 hv
  obtain ⟨fuel, hf⟩ := h
  rcases open_ints Tryz.underlying53 (k := .u8) Tryz.underlying5 (by kernel_rfl) hf with ⟨hc, _⟩ | ⟨a, len, cap, zs, hc, _, hl, hm, hlen, _, hcell, hw⟩
  · have hv : Value.slice a0 l0 c0 = .slice none 0 0 := (List.cons.inj hc).1
    rw [hv]
    exact ⟨[], Row.nil w, by simp⟩
  · have hv : Value.slice a0 l0 c0 = .slice (some a) len cap := (List.cons.inj hc).1
    rw [hv]
    simp only [if_true] at hlen
    have hB : ∀ x ∈ zs, 0 ≤ x ∧ x < 256 := fun x hx => by
      have h := hw x hx
      simp [Lit.wf, IntKind.min, IntKind.max, IntKind.signed, IntKind.bits] at h
      omega
    have hl' : ((zs.take len).map Int.toNat).length = len := by simp; omega
    have hcv : ((zs.take len).map Int.toNat).map (fun x : Nat => Value.int .u8 (x : Int)) = (zs.take len).map (Value.int .u8) := by
      rw [List.map_map]
      apply List.map_congr_left
      intro x hx
      have := hB x (List.mem_of_mem_take hx)
      show Value.int .u8 ((x.toNat : Nat) : Int) = _
      rw [Int.toNat_of_nonneg this.1]
    refine ⟨(zs.take len).map Int.toNat, ?_, fun x hx => ?_⟩
    · rw [hcv]
      refine ⟨some a, cap, by rw [hl'], by rw [hl']; exact hl, hm, fun h0 => ?_, fun g off ha j u hu => ?_⟩
      · have hp : 0 < zs.length := by rw [hl'] at h0; omega
        obtain ⟨b, off, rfl, _⟩ := ints_at hcell hp
        exact ⟨b, off, rfl⟩
      · obtain ⟨hj, rfl⟩ := lits_cells hu
        have := hcell j hj
        obtain rfl := Option.some.inj ha
        rwa [Go.WideShapes.add_plain] at this
    · obtain ⟨z, hz, rfl⟩ := List.mem_map.1 hx
      have := hB z (List.mem_of_mem_take hz)
      omega
end
end Go.Proofs.YtpofabebmeickaaGreatDoor

