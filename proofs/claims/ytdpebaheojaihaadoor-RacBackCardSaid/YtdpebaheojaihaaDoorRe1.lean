/- A decoder of bits from one number: plain; a rac.Decoder. -/
import Derived.Test.YtdpebaheojaihaaDoorBwr3
namespace Go.Proofs.YtdpebaheojaihaaDoor
set_option linter.unusedVariables false
set_option linter.unusedSimpArgs false
open Go.RowKit Go.Extern.Stop Go.Stop Go.Extern

structure Dc where
  pos : Nat
  over : Bool
  num : Nat
  wid : Nat
/-- one byte more; until it is wide enough; narrowed -/
def stpD (bs : List Nat) (s : Dc) : Dc := { s with pos := s.pos + 1, num := s.num * 256 % 18446744073709551616 + bs.getD s.pos 0, wid := s.wid * 256 }
def nrmD (bs : List Nat) : Nat → Dc → Dc
  | 0, s => s
  | f + 1, s => if s.wid < 16777216 then nrmD bs f (stpD bs s) else s
def upD (s : Dc) (w : Nat) : Bool := s.over || decide (w ≤ s.num)
def midD (s : Dc) (w : Nat) : Dc := if upD s w then { s with num := (s.num + (18446744073709551616 - w)) % 18446744073709551616, wid := s.wid - w } else { s with wid := w }
def parD (bs : List Nat) (s : Dc) (w : Nat) : Dc := nrmD bs 3 (midD s w)
def okD (N : Nat) (s : Dc) : Prop := s.pos ≤ N ∧ s.num < 18446744073709551616 ∧ s.wid < 4294967296
theorem okD.mono {N M : Nat} {s : Dc} (h : okD N s) (k : N ≤ M) : okD M s := ⟨by have := h.1; omega, h.2⟩
theorem stpD_ok {bs : List Nat} (hb : ∀ x ∈ bs, x < 256) {N : Nat} {s : Dc} (h : okD N s) (hw : s.wid < 16777216) : okD (N + 1) (stpD bs s) := by
  obtain ⟨h1, h2, h3⟩ := h
  have hx : bs.getD s.pos 0 < 256 := by
    rw [List.getD_eq_getElem?_getD]
    cases e : bs[s.pos]? with
    | none => decide
    | some x => exact hb x (List.mem_of_getElem? e)
  refine ⟨by show s.pos + 1 ≤ _; omega, ?_, by show s.wid * 256 < _; omega⟩
  show s.num * 256 % 18446744073709551616 + bs.getD s.pos 0 < 18446744073709551616
  omega
theorem midD_ok {N w : Nat} {s : Dc} (h : okD N s) (hw : w ≤ s.wid) : okD N (midD s w) ∧ (midD s w).wid = if upD s w then s.wid - w else w := by
  obtain ⟨h1, h2, h3⟩ := h
  unfold midD
  split
  · exact ⟨⟨h1, Nat.mod_lt _ (by decide), by show s.wid - w < _; omega⟩, rfl⟩
  · exact ⟨⟨h1, h2, by show w < _; omega⟩, rfl⟩
theorem nrmD_ok {bs : List Nat} (hb : ∀ x ∈ bs, x < 256) {N : Nat} {s : Dc} : ∀ (f : Nat), okD N s → okD (N + f) (nrmD bs f s) := by
  intro f
  induction f generalizing s N with
  | zero => intro h; exact h
  | succ f ih =>
    intro h
    show okD _ (if s.wid < 16777216 then nrmD bs f (stpD bs s) else s)
    split
    · rename_i hw
      have := ih (stpD_ok hb h hw)
      rw [show N + 1 + f = N + (f + 1) by omega] at this
      exact this
    · exact h.mono (by omega)
theorem nrmD_wide {bs : List Nat} {s : Dc} : ∀ (f : Nat), 16777216 ≤ s.wid * 256 ^ f → 16777216 ≤ (nrmD bs f s).wid := by
  intro f
  induction f generalizing s with
  | zero => intro h; have h : 16777216 ≤ s.wid := by simpa using h
            exact h
  | succ f ih =>
    intro h
    show 16777216 ≤ (if s.wid < 16777216 then nrmD bs f (stpD bs s) else s).wid
    split
    · exact ih (s := stpD bs s) (by show 16777216 ≤ s.wid * 256 * 256 ^ f; rw [Nat.mul_assoc, ← Nat.pow_succ']; exact h)
    · omega
theorem parD_ok {bs : List Nat} (hb : ∀ x ∈ bs, x < 256) {N w : Nat} {s : Dc} (h : okD N s) (h1 : 1 ≤ w) (h2 : w < s.wid) : okD (N + 3) (parD bs s w) ∧ 16777216 ≤ (parD bs s w).wid := by
  obtain ⟨k1, k2⟩ := midD_ok h (Nat.le_of_lt h2)
  refine ⟨nrmD_ok hb 3 k1, nrmD_wide 3 ?_⟩
  rw [k2]
  show 16777216 ≤ _ * 16777216
  split <;> omega
/-- a decoder's cells; the last four may be written -/
def DcBox (w : World) (b : Nat) (v : Value) (s : Dc) : Prop := (w.cell? ⟨b, 0, none⟩ = some v ∧ w.cell? ⟨b, 1, none⟩ = some (.int .i64 (s.pos : Int)) ∧ w.cell? ⟨b, 2, none⟩ = some (.bool s.over) ∧ w.cell? ⟨b, 3, none⟩ = some (.int .u64 (s.num : Int)) ∧ w.cell? ⟨b, 4, none⟩ = some (.int .u64 (s.wid : Int))) ∧
  w.frozen? ⟨b, 1, none⟩ = false ∧ w.frozen? ⟨b, 2, none⟩ = false ∧ w.frozen? ⟨b, 3, none⟩ = false ∧ w.frozen? ⟨b, 4, none⟩ = false
section
variable {w w' : World} {b : Nat} {v : Value} {s : Dc}
theorem DcBox.same (x : DcBox w b v s) (k : w'.heap[b]? = w.heap[b]?) : DcBox w' b v s := by
  obtain ⟨⟨c0, c1, c2, c3, c4⟩, f1, f2, f3, f4⟩ := x
  have c : ∀ i, w'.cell? ⟨b, i, none⟩ = w.cell? ⟨b, i, none⟩ := fun i => World.cell?_of_block (a := ⟨b, i, none⟩) k
  have f : ∀ i, w'.frozen? ⟨b, i, none⟩ = w.frozen? ⟨b, i, none⟩ := fun i => World.frozen?_of_block (a := ⟨b, i, none⟩) k
  exact ⟨⟨(c 0).trans c0, (c 1).trans c1, (c 2).trans c2, (c 3).trans c3, (c 4).trans c4⟩, (f 1).trans f1, (f 2).trans f2, (f 3).trans f3, (f 4).trans f4⟩
theorem DcBox.lt (x : DcBox w b v s) : b < w.heap.size := Ext.lt (p := ⟨b, 0, none⟩) x.1.1
theorem DcBox.ext (x : DcBox w b v s) (k : Ext w w') : DcBox w' b v s := x.same (k.block x.lt)
theorem DcBox.set1 (x : DcBox w b v s) (k : Nat) : DcBox (w.setCell ⟨b, 1, none⟩ (.int .i64 (k : Int))) b v { s with pos := k } := by
  obtain ⟨⟨c0, c1, c2, c3, c4⟩, f1, f2, f3, f4⟩ := x
  exact ⟨⟨(cell_off_ne _ (by decide)).trans c0, World.cell?_setCell_same _ _ _ c1, (cell_off_ne _ (by decide)).trans c2, (cell_off_ne _ (by decide)).trans c3, (cell_off_ne _ (by decide)).trans c4⟩, by simpa using f1, by simpa using f2, by simpa using f3, by simpa using f4⟩
theorem DcBox.set2 (x : DcBox w b v s) (k : Bool) : DcBox (w.setCell ⟨b, 2, none⟩ (.bool k)) b v { s with over := k } := by
  obtain ⟨⟨c0, c1, c2, c3, c4⟩, f1, f2, f3, f4⟩ := x
  exact ⟨⟨(cell_off_ne _ (by decide)).trans c0, (cell_off_ne _ (by decide)).trans c1, World.cell?_setCell_same _ _ _ c2, (cell_off_ne _ (by decide)).trans c3, (cell_off_ne _ (by decide)).trans c4⟩, by simpa using f1, by simpa using f2, by simpa using f3, by simpa using f4⟩
theorem DcBox.set3 (x : DcBox w b v s) (k : Nat) : DcBox (w.setCell ⟨b, 3, none⟩ (.int .u64 (k : Int))) b v { s with num := k } := by
  obtain ⟨⟨c0, c1, c2, c3, c4⟩, f1, f2, f3, f4⟩ := x
  exact ⟨⟨(cell_off_ne _ (by decide)).trans c0, (cell_off_ne _ (by decide)).trans c1, (cell_off_ne _ (by decide)).trans c2, World.cell?_setCell_same _ _ _ c3, (cell_off_ne _ (by decide)).trans c4⟩, by simpa using f1, by simpa using f2, by simpa using f3, by simpa using f4⟩
theorem DcBox.set4 (x : DcBox w b v s) (k : Nat) : DcBox (w.setCell ⟨b, 4, none⟩ (.int .u64 (k : Int))) b v { s with wid := k } := by
  obtain ⟨⟨c0, c1, c2, c3, c4⟩, f1, f2, f3, f4⟩ := x
  exact ⟨⟨(cell_off_ne _ (by decide)).trans c0, (cell_off_ne _ (by decide)).trans c1, (cell_off_ne _ (by decide)).trans c2, (cell_off_ne _ (by decide)).trans c3, World.cell?_setCell_same _ _ _ c4⟩, by simpa using f1, by simpa using f2, by simpa using f3, by simpa using f4⟩
end
/-- a decoder of these bytes, which lie elsewhere -/
def DcAt (F : Nat → Prop) (w : World) (b : Nat) (bs : List Nat) (s : Dc) : Prop := ∃ a cap, DcBox w b (.slice a bs.length cap) s ∧ Bys w (.slice a bs.length cap) bs ∧ (∀ g off, a = some ⟨g, off, none⟩ → g ≠ b ∧ ¬ F g)
theorem DcAt.ext {F : Nat → Prop} {w w' : World} {b : Nat} {bs : List Nat} {s : Dc} (h : DcAt F w b bs s) (k : Ext w w') : DcAt F w' b bs s := by
  obtain ⟨a, cap, h1, h2, h3⟩ := h
  exact ⟨a, cap, h1.ext k, h2.ext k, h3⟩
theorem DcAt.mono {F E : Nat → Prop} {w : World} {b : Nat} {bs : List Nat} {s : Dc} (h : DcAt F w b bs s) (k : ∀ g, E g → F g) : DcAt E w b bs s := by
  obtain ⟨a, cap, h1, h2, h3⟩ := h
  exact ⟨a, cap, h1, h2, fun g off ha => ⟨(h3 g off ha).1, fun e => (h3 g off ha).2 (k g e)⟩⟩
theorem DcAt.kp {F : Nat → Prop} {w w' : World} {b d : Nat} {bs : List Nat} {s : Dc} (h : DcAt F w b bs s) (k : Kp d w w') (hd : F d) (hb : b ≠ d) : DcAt F w' b bs s := by
  obtain ⟨a, cap, h1, h3, h4⟩ := h
  exact ⟨a, cap, h1.same (k.block h1.lt hb), ⟨row_kp h3.1 k (fun g off ha e => (h4 g off ha).2 (e ▸ hd)), h3.2⟩, h4⟩
/-- stores into the decoder leave its bytes -/
theorem DcAt.put {F : Nat → Prop} {w : World} {b i : Nat} {x : Value} {bs : List Nat} {s s' : Dc} {a : Option Addr} {cap : Nat} (h2 : Bys w (.slice a bs.length cap) bs) (h3 : ∀ g off, a = some ⟨g, off, none⟩ → g ≠ b ∧ ¬ F g) (h1 : DcBox (w.setCell ⟨b, i, none⟩ x) b (.slice a bs.length cap) s') : DcAt F (w.setCell ⟨b, i, none⟩ x) b bs s' :=
  ⟨a, cap, h1, ⟨row_kp h2.1 ((Kp.refl b w).set i x) (fun g off ha => (h3 g off ha).1), h2.2⟩, h3⟩
end Go.Proofs.YtdpebaheojaihaaDoor
