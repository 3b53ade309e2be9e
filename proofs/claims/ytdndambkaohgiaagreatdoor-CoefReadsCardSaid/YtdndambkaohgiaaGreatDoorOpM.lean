/- A list of kinlaw13's operations opened: three numbers and a yes or no each. -/
import Derived.Test.YtdndambkaohgiaaGreatDoorZb
import Derived.Test.YtdndambkaohgiaaGreatDoorZi
import Derived.Deep.Slices
import Derived.Deep.Grids
namespace Go.Proofs.YtdndambkaohgiaaGreatDoor
set_option linter.unusedVariables false
set_option linter.unusedSimpArgs false
open Go.ChangeShapes Go.WideShapes Go.ChangeAt Go.RowKit Go.Joins Go.Deep

instance : Inhabited Mo := ⟨⟨0, 0, 0, false⟩⟩
def i64ok (x : Int) : Prop := -9223372036854775808 ≤ x ∧ x ≤ 9223372036854775807
def MoIn (w : World) (g i : Nat) (o : Mo) : Prop := w.cell? ⟨g, i, none⟩ = some (.int .i64 o.k) ∧ w.cell? ⟨g, i + 1, none⟩ = some (.int .i64 o.c) ∧ w.cell? ⟨g, i + 2, none⟩ = some (.int .i64 o.v) ∧ w.cell? ⟨g, i + 3, none⟩ = some (.bool o.b)
def Mos (w : World) (v : Value) (L : List Mo) : Prop := (∃ a cap, v = .slice a L.length cap ∧ L.length ≤ cap ∧ cap ≤ maxLen ∧ (0 < L.length → ∃ g off, a = some ⟨g, off, none⟩ ∧ ∀ q o, L[q]? = some o → MoIn w g (off + q * 4) o)) ∧ ∀ o ∈ L, i64ok o.k ∧ i64ok o.c ∧ i64ok o.v
theorem MoIn.ext {w w' : World} {g i : Nat} {o : Mo} (h : MoIn w g i o) (k : Ext w w') : MoIn w' g i o := ⟨k.cell h.1, k.cell h.2.1, k.cell h.2.2.1, k.cell h.2.2.2⟩
theorem Mos.ext {w w' : World} {v : Value} {L : List Mo} (h : Mos w v L) (k : Ext w w') : Mos w' v L := by
  obtain ⟨⟨a, cap, e, h1, h2, h3⟩, hb⟩ := h
  refine ⟨⟨a, cap, e, h1, h2, fun h0 => ?_⟩, hb⟩
  obtain ⟨g, off, ha, hq⟩ := h3 h0
  exact ⟨g, off, ha, fun q o ho => (hq q o ho).ext k⟩
theorem Mos.form {w : World} {v : Value} {L : List Mo} (h : Mos w v L) : ∃ a cap, v = .slice a L.length cap := by
  obtain ⟨⟨a, cap, e, -⟩, -⟩ := h
  exact ⟨a, cap, e⟩
theorem Mos.had {w : World} {a : Option Addr} {n cap : Nat} {L : List Mo} (h : Mos w (.slice a n cap) L) (hn : 0 < L.length) : ∃ g off, a = some ⟨g, off, none⟩ ∧ ∀ q o, L[q]? = some o → MoIn w g (off + q * 4) o := by
  obtain ⟨⟨a', cap', e, -, -, h3⟩, -⟩ := h
  simp only [Value.slice.injEq] at e
  obtain ⟨rfl, -, -⟩ := e
  exact h3 hn
theorem Mos.small {w : World} {v : Value} {L : List Mo} (h : Mos w v L) : L.length ≤ maxLen := by
  obtain ⟨⟨a', cap', e, h1, h2, h3⟩, -⟩ := h
  omega
section
variable {H : Type} {enc : TypeId × Value → H} {w : World}
end
end Go.Proofs.YtdndambkaohgiaaGreatDoor
