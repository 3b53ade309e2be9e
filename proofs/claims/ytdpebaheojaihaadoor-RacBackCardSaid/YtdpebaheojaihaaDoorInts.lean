/- Slices of ints that are read: kinref.Ints and kinref.Within, their contracts over this seat's translation. -/
import Derived.Test.YtdpebaheojaihaaDoorFail
namespace Go.Proofs.YtdpebaheojaihaaDoor
set_option linter.unusedVariables false
set_option linter.unusedSimpArgs false
open Go.RowKit Go.Extern.Stop Go.Stop Go.Extern

/-- a slice value that reads as these ints -/
def Ints (w : World) (v : Value) (zs : List Int) : Prop := Row w v zs.length (zs.map (Value.int .i64)) ∧ zs.length ≤ 4611686018427387903
theorem Ints.ext {w w' : World} {v : Value} {zs : List Int} (h : Ints w v zs) (k : Ext w w') : Ints w' v zs := ⟨h.1.ext k, h.2⟩
theorem Ints.form {w : World} {v : Value} {zs : List Int} (h : Ints w v zs) : ∃ a cap, v = .slice a zs.length cap := h.1.form
theorem Ints.addr {w : World} {v : Value} {zs : List Int} (h : Ints w v zs) (hn : 0 < zs.length) : ∃ g off cap, v = .slice (some ⟨g, off, none⟩) zs.length cap ∧ zs.length ≤ cap ∧ cap ≤ maxLen := h.1.some hn
theorem Ints.len {w : World} {a : Option Addr} {n cap : Nat} {zs : List Int} (h : Ints w (.slice a n cap) zs) : n = zs.length := by
  obtain ⟨a', cap', e⟩ := h.form
  simp only [Value.slice.injEq] at e
  exact e.2.1
theorem Ints.had {w : World} {a : Option Addr} {n cap : Nat} {zs : List Int} (h : Ints w (.slice a n cap) zs) (hn : 0 < n) : ∃ g off, a = some ⟨g, off, none⟩ := by
  obtain ⟨⟨a', cap', e, _, _, h3, _⟩, _⟩ := h
  simp only [Value.slice.injEq] at e
  obtain ⟨rfl, rfl, rfl⟩ := e
  exact h3 hn
theorem Ints.caps {w : World} {a : Option Addr} {n cap : Nat} {zs : List Int} (h : Ints w (.slice a n cap) zs) : n ≤ cap ∧ cap ≤ maxLen := by
  obtain ⟨⟨a', cap', e, h1, h2, _⟩, _⟩ := h
  simp only [Value.slice.injEq] at e
  obtain ⟨rfl, rfl, rfl⟩ := e
  exact ⟨h1, h2⟩
theorem Ints.at {w : World} {g off n cap : Nat} {zs : List Int} (h : Ints w (.slice (some ⟨g, off, none⟩) n cap) zs) {j : Nat} {x : Int} (hj : zs[j]? = some x) : w.cell? ⟨g, off + j, none⟩ = some (.int .i64 x) := by
  obtain ⟨⟨a, cap', h0, _, _, _, h4⟩, _⟩ := h
  simp only [Value.slice.injEq] at h0
  exact h4 g off h0.1.symm j _ (by simp [hj])
theorem Ints.of_owns {w : World} {base : Nat} {v : Value} {n : Nat} {zs : List Int} (h : w.ownsRow base 3 1 v n (zs.map (Value.int .i64))) (hl : zs.length ≤ 4611686018427387903) : Ints w v zs := by
  have hn : n = zs.length := by have := h.1; simp at this; omega
  subst hn
  exact ⟨Row.of_owns h, hl⟩
theorem Ints.nil (w : World) : Ints w (.slice none 0 0) [] := ⟨Row.nil w, by simp⟩

theorem eq_of_gets {xs ys : List Int} (hl : xs.length = ys.length) (h : ∀ j, j < xs.length → xs[j]? = ys[j]?) : xs = ys := by
  apply List.ext_getElem?
  intro j
  by_cases hj : j < xs.length
  · exact h j hj
  · rw [List.getElem?_eq_none (by omega), List.getElem?_eq_none (by omega)]

def within (lo hi : Int) (zs : List Int) : Prop := ∀ x ∈ zs, lo ≤ x ∧ x ≤ hi
instance (lo hi : Int) (zs : List Int) : Decidable (within lo hi zs) := by unfold within; exact inferInstance
theorem within_of_gets {lo hi : Int} {zs : List Int} (h : ∀ j x, j < zs.length → zs[j]? = some x → lo ≤ x ∧ x ≤ hi) : within lo hi zs := fun x hx => by
  obtain ⟨j, hj, e⟩ := List.mem_iff_getElem.1 hx
  exact h j x hj (by rw [List.getElem?_eq_getElem hj, e])
theorem within.at {lo hi : Int} {zs : List Int} (h : within lo hi zs) {j : Nat} {x : Int} (hj : zs[j]? = some x) : lo ≤ x ∧ x ≤ hi := h x (List.mem_of_getElem? hj)

end Go.Proofs.YtdpebaheojaihaaDoor
