/- (*bits.Writer).Align, Put: contracts over this seat's translation. -/
import Derived.Test.YtdpebaheojaihaaDoorBwr
import Derived.Deep.RegionHeld3
import Derived.BigRegion
import Derived.BigQuiet
import Derived.Deep.QuietTactic
namespace Go.Proofs.YtdpebaheojaihaaDoor
set_option linter.unusedVariables false
set_option linter.unusedSimpArgs false
open Go.RowKit Go.Extern.Stop Go.Stop Go.Extern

theorem own_set_lt {w : World} {base : Nat} {e : TypeId} {size : Nat} {v : Value} {n : Nat} {xs : List Value} (h : w.ownsRow base e size v n xs) {p : Addr} (u : Value) (hp : p.block < base) : (w.setCell p u).ownsRow base e size v n xs := by
  obtain ⟨h1, h2⟩ := h
  refine ⟨h1, ?_⟩
  rcases h2 with h2 | ⟨g, cap, cur, hv, hg, hh, r⟩
  · exact Or.inl h2
  · exact Or.inr ⟨g, cap, cur, hv, hg, by rw [Below.heap_setCell _ _ _ _ (by omega)]; exact hh, r⟩
def wpad (l : List Bool) : List Bool := l ++ List.replicate ((8 - l.length % 8) % 8) false
theorem wpad_length (l : List Bool) : (wpad l).length = 8 * ((l.length + 7) / 8) := by
  unfold wpad
  rw [List.length_append, List.length_replicate]
  omega
theorem bL_pad (l : List Bool) (d p : Nat) : bL (l ++ List.replicate d false) p = bL l p := by
  by_cases h : p < l.length
  · exact bL_left h
  · rw [bL_end (l := l) (by omega)]
    obtain ⟨q, rfl⟩ : ∃ q, p = l.length + q := ⟨p - l.length, by omega⟩
    rw [bL_right]
    unfold bL
    rw [List.getD]
    by_cases hq : q < d
    · rw [List.getElem?_replicate, if_pos hq]; rfl
    · rw [List.getElem?_replicate, if_neg hq]; rfl
theorem pkL_pad (l : List Bool) : pkL (wpad l) = pkL l := by
  unfold pkL
  rw [wpad_length, show (8 * ((l.length + 7) / 8) + 7) / 8 = (l.length + 7) / 8 by omega]
  apply List.map_congr_left
  intro j _
  exact nmF_congr fun i _ => bL_pad _ _ _
/-- a call without a result: the writer's bits -/
def WAPost (w : World) (b B : Nat) (l : List Bool) (e : Ending) (w' : World) : Prop := e = .returned (.tuple #[]) ∧ WrAt w' b B l ∧ WKp b B w w'
end Go.Proofs.YtdpebaheojaihaaDoor
