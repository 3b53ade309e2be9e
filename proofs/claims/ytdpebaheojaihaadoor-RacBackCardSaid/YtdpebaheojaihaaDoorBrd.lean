/- Bytes; a bits.Reader; Left, Place, Get: contracts over this seat's translation. -/
import Derived.Test.YtdpebaheojaihaaDoorBiM
import Derived.Test.YtdpebaheojaihaaDoorKp
import Derived.Test.YtdpebaheojaihaaDoorFall
import Derived.BigQuiet
import Derived.Deep.QuietTactic
namespace Go.Proofs.YtdpebaheojaihaaDoor
set_option linter.unusedVariables false
set_option linter.unusedSimpArgs false
open Go.RowKit Go.Extern.Stop Go.Stop Go.Extern
variable {F : Nat → Prop}

/-- a slice of bytes -/
def Bys (w : World) (v : Value) (bs : List Nat) : Prop := Row w v bs.length (bs.map fun x : Nat => Value.int .u8 (x : Int)) ∧ (∀ x ∈ bs, x < 256) ∧ bs.length ≤ 140737488355328
theorem Bys.ext {w w' : World} {v : Value} {bs : List Nat} (h : Bys w v bs) (k : Ext w w') : Bys w' v bs := ⟨h.1.ext k, h.2⟩
theorem Bys.form {w : World} {v : Value} {bs : List Nat} (h : Bys w v bs) : ∃ a cap, v = .slice a bs.length cap := h.1.form
theorem Bys.len {w : World} {a : Option Addr} {n cap : Nat} {bs : List Nat} (h : Bys w (.slice a n cap) bs) : n = bs.length := by
  obtain ⟨a', cap', e, -⟩ := h.1
  simp only [Value.slice.injEq] at e
  exact e.2.1
theorem Bys.had {w : World} {a : Option Addr} {n cap : Nat} {bs : List Nat} (h : Bys w (.slice a n cap) bs) (hn : 0 < n) : ∃ g off, a = some ⟨g, off, none⟩ := by
  have hl := h.len
  obtain ⟨a', cap', e, -, -, h3, -⟩ := h.1
  simp only [Value.slice.injEq] at e
  obtain ⟨rfl, -, -⟩ := e
  exact h3 (by omega)
theorem Bys.at {w : World} {g off n cap : Nat} {bs : List Nat} (h : Bys w (.slice (some ⟨g, off, none⟩) n cap) bs) {j : Nat} {x : Nat} (hj : bs[j]? = some x) : w.cell? ⟨g, off + j, none⟩ = some (.int .u8 (x : Int)) := by
  obtain ⟨a', cap', e, -, -, -, h4⟩ := h.1
  simp only [Value.slice.injEq] at e
  exact h4 g off e.1.symm j _ (by rw [List.getElem?_map, hj]; rfl)
theorem nget_of_lt {bs : List Nat} {j : Nat} (h : j < bs.length) : bs[j]? = some (bs.getD j 0) := by simp [List.getD, h]
theorem Bys.lt {w : World} {v : Value} {bs : List Nat} (h : Bys w v bs) (j : Nat) : bs.getD j 0 < 256 := by
  by_cases hj : j < bs.length
  · exact h.2.1 _ (List.mem_of_getElem? (nget_of_lt hj))
  · rw [List.getD, List.getElem?_eq_none (by omega)]; decide

/-- a reader's two cells, of which the place may be written -/
def RdBox (w : World) (b : Nat) (u : Value) (p : Nat) : Prop := w.cell? ⟨b, 0, none⟩ = some u ∧ w.cell? ⟨b, 1, none⟩ = some (.int .i64 (p : Int)) ∧ w.frozen? ⟨b, 1, none⟩ = false
theorem RdBox.ext {w w' : World} {b : Nat} {u : Value} {p : Nat} (h : RdBox w b u p) (k : Ext w w') : RdBox w' b u p := ⟨k.cell h.1, k.cell h.2.1, (Below.frozen (p := ⟨b, 1, none⟩) k (Ext.lt (p := ⟨b, 0, none⟩) h.1)).trans h.2.2⟩
theorem cell_off_ne {w : World} {b i j : Nat} (u : Value) (h : i ≠ j) : (w.setCell ⟨b, i, none⟩ u).cell? ⟨b, j, none⟩ = w.cell? ⟨b, j, none⟩ :=
  World.cell?_setCell_other w _ _ u (fun e => h (congrArg Addr.off e))
theorem RdBox.set {w : World} {b : Nat} {u : Value} {p : Nat} (h : RdBox w b u p) (q : Nat) : RdBox (w.setCell ⟨b, 1, none⟩ (.int .i64 (q : Int))) b u q :=
  ⟨(cell_off_ne _ (by decide)).trans h.1, World.cell?_setCell_same _ _ _ h.2.1, by simpa using h.2.2⟩
/-- a reader of these bytes at this place, and what it reads lies elsewhere -/
def RdAt (F : Nat → Prop) (w : World) (b : Nat) (bs : List Nat) (p : Nat) : Prop := ∃ a cap, RdBox w b (.slice a bs.length cap) p ∧ Bys w (.slice a bs.length cap) bs ∧ (∀ g off, a = some ⟨g, off, none⟩ → g ≠ b ∧ ¬ F g)
theorem RdAt.ext {w w' : World} {b : Nat} {bs : List Nat} {p : Nat} (h : RdAt F w b bs p) (k : Ext w w') : RdAt F w' b bs p := by
  obtain ⟨a, cap, h1, h2, h3⟩ := h
  exact ⟨a, cap, h1.ext k, h2.ext k, h3⟩
theorem row_kp {w w' : World} {b : Nat} {a : Option Addr} {n cap : Nat} {N : Nat} {xs : List Value} (h : Row w (.slice a n cap) N xs) (k : Kp b w w') (hb : ∀ g off, a = some ⟨g, off, none⟩ → g ≠ b) : Row w' (.slice a n cap) N xs := by
  obtain ⟨a', cap', e, h1, h2, h3, h4⟩ := h
  simp only [Value.slice.injEq] at e
  obtain ⟨rfl, rfl, rfl⟩ := e
  exact ⟨a, cap, rfl, h1, h2, h3, fun g off ha j u hu => k.cell (h4 g off ha j u hu) (hb g off ha)⟩
theorem RdAt.set {w : World} {b : Nat} {bs : List Nat} {p : Nat} (h : RdAt F w b bs p) (q : Nat) : RdAt F (w.setCell ⟨b, 1, none⟩ (.int .i64 (q : Int))) b bs q := by
  obtain ⟨a, cap, h1, h2, h3⟩ := h
  exact ⟨a, cap, h1.set q, ⟨row_kp h2.1 ((Kp.refl b w).set 1 _) (fun g off ha => (h3 g off ha).1), h2.2⟩, h3⟩

theorem RdAt.mono {E : Nat → Prop} {w : World} {b : Nat} {bs : List Nat} {p : Nat} (h : RdAt F w b bs p) (k : ∀ g, E g → F g) : RdAt E w b bs p := by
  obtain ⟨a, cap, h1, h2, h3⟩ := h
  exact ⟨a, cap, h1, h2, fun g off ha => ⟨(h3 g off ha).1, fun e => (h3 g off ha).2 (k g e)⟩⟩
theorem RdAt.kp {w w' : World} {b d : Nat} {bs : List Nat} {p : Nat} (h : RdAt F w b bs p) (k : Kp d w w') (hd : F d) (hb : b ≠ d) : RdAt F w' b bs p := by
  obtain ⟨a, cap, ⟨h0, h1, h2⟩, h3, h4⟩ := h
  have e := k.block (Ext.lt (p := ⟨b, 0, none⟩) h0) hb
  exact ⟨a, cap, ⟨(World.cell?_of_block (a := ⟨b, 0, none⟩) e).trans h0, (World.cell?_of_block (a := ⟨b, 1, none⟩) e).trans h1, (World.frozen?_of_block (a := ⟨b, 1, none⟩) e).trans h2⟩, ⟨row_kp h3.1 k (fun g off ha e => (h4 g off ha).2 (e ▸ hd)), h3.2⟩, h4⟩
end Go.Proofs.YtdpebaheojaihaaDoor
