/- Arguments opened: bytes; a list of a writer's or a reader's steps. -/
import Derived.Test.YtpofabebmeickaaDoorZb
import Derived.Deep.Slices
namespace Go.Proofs.YtpofabebmeickaaDoor
set_option linter.unusedVariables false
set_option linter.unusedSimpArgs false
open Go.ChangeShapes Go.WideShapes Go.ChangeAt Go.RowKit Go.Joins Go.Deep

/-- what a step is: its kind, two numbers, a bit -/
abbrev Op4 := Int × Int × Int × Bool
def OpIn (w : World) (g i : Nat) (o : Op4) : Prop := w.cell? ⟨g, i, none⟩ = some (.int .i64 o.1) ∧ w.cell? ⟨g, i + 1, none⟩ = some (.int .i64 o.2.1) ∧ w.cell? ⟨g, i + 2, none⟩ = some (.int .i64 o.2.2.1) ∧ w.cell? ⟨g, i + 3, none⟩ = some (.bool o.2.2.2)
def opb (o : Op4) : Prop := (-9223372036854775808 ≤ o.1 ∧ o.1 ≤ 9223372036854775807) ∧ (-9223372036854775808 ≤ o.2.1 ∧ o.2.1 ≤ 9223372036854775807) ∧ -9223372036854775808 ≤ o.2.2.1 ∧ o.2.2.1 ≤ 9223372036854775807
def Ops (w : World) (v : Value) (L : List Op4) : Prop := (∃ a cap, v = .slice a L.length cap ∧ L.length ≤ cap ∧ cap ≤ maxLen ∧ (0 < L.length → ∃ g off, a = some ⟨g, off, none⟩ ∧ ∀ q o, L[q]? = some o → OpIn w g (off + q * 4) o)) ∧ ∀ o ∈ L, opb o
theorem OpIn.ext {w w' : World} {g i : Nat} {o : Op4} (h : OpIn w g i o) (k : Ext w w') : OpIn w' g i o := ⟨k.cell h.1, k.cell h.2.1, k.cell h.2.2.1, k.cell h.2.2.2⟩
theorem Ops.ext {w w' : World} {v : Value} {L : List Op4} (h : Ops w v L) (k : Ext w w') : Ops w' v L := by
  obtain ⟨⟨a, cap, e, h1, h2, h3⟩, hb⟩ := h
  refine ⟨⟨a, cap, e, h1, h2, fun h0 => ?_⟩, hb⟩
  obtain ⟨g, off, ha, hq⟩ := h3 h0
  exact ⟨g, off, ha, fun q o ho => (hq q o ho).ext k⟩
theorem Ops.form {w : World} {v : Value} {L : List Op4} (h : Ops w v L) : ∃ a cap, v = .slice a L.length cap := by
  obtain ⟨⟨a, cap, e, -⟩, -⟩ := h
  exact ⟨a, cap, e⟩
theorem Ops.had {w : World} {a : Option Addr} {n cap : Nat} {L : List Op4} (h : Ops w (.slice a n cap) L) (hn : 0 < L.length) : ∃ g off, a = some ⟨g, off, none⟩ ∧ ∀ q o, L[q]? = some o → OpIn w g (off + q * 4) o := by
  obtain ⟨⟨a', cap', e, -, -, h3⟩, -⟩ := h
  simp only [Value.slice.injEq] at e
  obtain ⟨rfl, -, -⟩ := e
  exact h3 hn
theorem Ops.small {w : World} {v : Value} {L : List Op4} (h : Ops w v L) : L.length ≤ maxLen := by
  obtain ⟨⟨a', cap', e, h1, h2, h3⟩, -⟩ := h
  omega
section
variable {H : Type} {enc : TypeId × Value → H} {w : World}
set_option maxRecDepth 100000 in
theorem bys_of_reading {r : Reach} {b0 : Nat} {v : Value} {d : DataW H} {p : List MemPlace} (hv : Value.okWide Tryd.prog w r b0 22 v) (h : DataW.Trod enc Tryd.prog w 0 (fun _ => true) true 22 v d p) :
    ∃ bs : List Nat, Row w v bs.length (bs.map fun x : Nat => Value.int .u8 (x : Int)) ∧ ∀ x ∈ bs, x < 256 := by
  obtain ⟨a0, l0, c0, rfl⟩ := okWide_slice Tryd.underlying22 hv
  obtain ⟨fuel, hf⟩ := h
  rcases open_ints Tryd.underlying22 (k := .u8) Tryd.underlying5 (by kernel_rfl) hf with ⟨hc, _⟩ | ⟨a, len, cap, zs, hc, _, hl, hm, hlen, _, hcell, hw⟩
  · have hv : Value.slice a0 l0 c0 = .slice none 0 0 := (List.cons.inj hc).1
    rw [hv]
    exact ⟨[], Row.nil w, by simp⟩
  · have hv : Value.slice a0 l0 c0 = .slice (some a) len cap := (List.cons.inj hc).1
    rw [hv]
    simp only [if_true] at hlen
    have hB : ∀ x ∈ zs, 0 ≤ x ∧ x < 256 := fun x hx => by
      have h := hw x hx
      simp [Lit.wf, IntKind.min, IntKind.max, IntKind.signed, IntKind.bits] at h
      omega
    have hl' : ((zs.take len).map Int.toNat).length = len := by simp; omega
    have hcv : ((zs.take len).map Int.toNat).map (fun x : Nat => Value.int .u8 (x : Int)) = (zs.take len).map (Value.int .u8) := by
      rw [List.map_map]
      apply List.map_congr_left
      intro x hx
      have := hB x (List.mem_of_mem_take hx)
      show Value.int .u8 ((x.toNat : Nat) : Int) = _
      rw [Int.toNat_of_nonneg this.1]
    refine ⟨(zs.take len).map Int.toNat, ?_, fun x hx => ?_⟩
    · rw [hcv]
      refine ⟨some a, cap, by rw [hl'], by rw [hl']; exact hl, hm, fun h0 => ?_, fun g off ha j u hu => ?_⟩
      · have hp : 0 < zs.length := by rw [hl'] at h0; omega
        obtain ⟨b, off, rfl, _⟩ := ints_at hcell hp
        exact ⟨b, off, rfl⟩
      · obtain ⟨hj, rfl⟩ := lits_cells hu
        have := hcell j hj
        obtain rfl := Option.some.inj ha
        rwa [Go.WideShapes.add_plain] at this
    · obtain ⟨z, hz, rfl⟩ := List.mem_map.1 hx
      have := hB z (List.mem_of_mem_take hz)
      omega
end
end Go.Proofs.YtpofabebmeickaaDoor
