/- A bits.Writer; NewWriter, Len, Align: contracts over this seat's translation. -/
import Derived.Test.YtdpebaheojaihaaDoorBcl
import Derived.Test.YtdpebaheojaihaaDoorBlk
import Derived.Laws.OwnMore
namespace Go.Proofs.YtdpebaheojaihaaDoor
set_option linter.unusedVariables false
set_option linter.unusedSimpArgs false
open Go.RowKit Go.Extern.Stop Go.Stop Go.Extern

/-- the bytes of bits -/
def pkL (l : List Bool) : List Nat := (List.range ((l.length + 7) / 8)).map (pkB l)
theorem pkL_length (l : List Bool) : (pkL l).length = (l.length + 7) / 8 := by simp [pkL]
theorem pkL_lt (l : List Bool) : ∀ x ∈ pkL l, x < 256 := fun x hx => by
  obtain ⟨j, -, rfl⟩ := List.mem_map.1 hx
  exact pkB_lt l j
theorem pkL_get {l : List Bool} {j : Nat} (h : j < (l.length + 7) / 8) : (pkL l)[j]? = some (pkB l j) := by simp [pkL, h]
def u8Blk (w : World) (k : Nat) : Prop := ∃ cs fr, w.heap[k]? = some (.cells cs 5 fr)
/-- what a writer at b leaves as it was: what lies below B, and what is no block of bytes -/
def WKp (b B : Nat) (w w' : World) : Prop := (w'.os = w.os ∧ w'.tape = w.tape ∧ w'.output = w.output) ∧ w.heap.size ≤ w'.heap.size ∧ ∀ k, k < w.heap.size → k ≠ b → (k < B ∨ ¬ u8Blk w k) → w'.heap[k]? = w.heap[k]?
theorem WKp.refl (b B : Nat) (w : World) : WKp b B w w := ⟨⟨rfl, rfl, rfl⟩, Nat.le_refl _, fun _ _ _ _ => rfl⟩
theorem WKp.trans {b B : Nat} {u v w : World} (h : WKp b B u v) (k : WKp b B v w) : WKp b B u w := by
  obtain ⟨⟨h1, h2, h3⟩, h4, h5⟩ := h
  obtain ⟨⟨k1, k2, k3⟩, k4, k5⟩ := k
  refine ⟨⟨k1.trans h1, k2.trans h2, k3.trans h3⟩, Nat.le_trans h4 k4, fun i hi hb hc => ?_⟩
  have e := h5 i hi hb hc
  refine (k5 i (Nat.lt_of_lt_of_le hi h4) hb ?_).trans e
  rcases hc with hc | hc
  · exact .inl hc
  · exact .inr fun ⟨cs, fr, hh⟩ => hc ⟨cs, fr, by rw [← e]; exact hh⟩
theorem WKp.of_ext {b B : Nat} {w w' : World} (h : Ext w w') : WKp b B w w' := ⟨⟨Below.os h, Below.tape h, Below.output h⟩, h.size, fun _ hi _ _ => h.block hi⟩
theorem WKp.ext {b B : Nat} {u v w : World} (h : WKp b B u v) (k : Ext v w) : WKp b B u w := h.trans (WKp.of_ext k)
theorem WKp.of_kp {b B : Nat} {w w' : World} (h : Kp b w w') : WKp b B w w' := ⟨⟨World.grownBy.os h, World.grownBy.tape h, World.grownBy.output h⟩, h.size, fun _ hi hb _ => h.block hi hb⟩
/-- what was there before the writer stays -/
theorem WKp.out {b B : Nat} {u v w : World} (h : Ext u v) (k : WKp b B v w) (hb : u.heap.size ≤ b) (hB : u.heap.size ≤ B) : Ext u w :=
  Below.trans (c := w) h ⟨k.1.1, k.1.2.1, k.1.2.2, k.2.1, fun i hi => k.2.2 i (Nat.lt_of_lt_of_le hi h.size) (by omega) (.inl (by omega))⟩
theorem WKp.block {b B : Nat} {u v : World} (k : WKp b B u v) {i : Nat} (hi : i < B) (hB : B ≤ u.heap.size) (hb : i ≠ b) : v.heap[i]? = u.heap[i]? := k.2.2 i (Nat.lt_of_lt_of_le hi hB) hb (.inl hi)
theorem WKp.cell {b B : Nat} {u v : World} (k : WKp b B u v) {p : Addr} {x : Value} (hp : u.cell? p = some x) (hi : p.block < B) (hb : p.block ≠ b) : v.cell? p = some x :=
  (World.cell?_of_block (k.2.2 p.block (Ext.lt hp) hb (.inl hi))).trans hp
/-- a writer's two cells, which may be written -/
def WrBox (w : World) (b : Nat) (u : Value) (n : Nat) : Prop := (w.cell? ⟨b, 0, none⟩ = some u ∧ w.cell? ⟨b, 1, none⟩ = some (.int .i64 (n : Int))) ∧ w.frozen? ⟨b, 0, none⟩ = false ∧ w.frozen? ⟨b, 1, none⟩ = false
theorem WrBox.ext {w w' : World} {b : Nat} {u : Value} {n : Nat} (h : WrBox w b u n) (k : Ext w w') : WrBox w' b u n :=
  ⟨⟨k.cell h.1.1, k.cell h.1.2⟩, (Below.frozen (p := ⟨b, 0, none⟩) k (Ext.lt (p := ⟨b, 0, none⟩) h.1.1)).trans h.2.1, (Below.frozen (p := ⟨b, 1, none⟩) k (Ext.lt (p := ⟨b, 0, none⟩) h.1.1)).trans h.2.2⟩
theorem WrBox.same {w w' : World} {b : Nat} {u : Value} {n : Nat} (h : WrBox w b u n) (k : w'.heap[b]? = w.heap[b]?) : WrBox w' b u n :=
  ⟨⟨(World.cell?_of_block (a := ⟨b, 0, none⟩) k).trans h.1.1, (World.cell?_of_block (a := ⟨b, 1, none⟩) k).trans h.1.2⟩, (World.frozen?_of_block (a := ⟨b, 0, none⟩) k).trans h.2.1, (World.frozen?_of_block (a := ⟨b, 1, none⟩) k).trans h.2.2⟩
theorem WrBox.row {w : World} {b : Nat} {u : Value} {n : Nat} (h : WrBox w b u n) (v : Value) : WrBox (w.setCell ⟨b, 0, none⟩ v) b v n :=
  ⟨⟨World.cell?_setCell_same _ _ _ h.1.1, (cell_off_ne _ (by decide)).trans h.1.2⟩, by simpa using h.2.1, by simpa using h.2.2⟩
theorem WrBox.siz {w : World} {b : Nat} {u : Value} {n : Nat} (h : WrBox w b u n) (m : Nat) : WrBox (w.setCell ⟨b, 1, none⟩ (.int .i64 (m : Int))) b u m :=
  ⟨⟨(cell_off_ne _ (by decide)).trans h.1.1, World.cell?_setCell_same _ _ _ h.1.2⟩, by simpa using h.2.1, by simpa using h.2.2⟩
/-- a writer with these bits -/
def WrAt (w : World) (b B : Nat) (l : List Bool) : Prop := ∃ v, WrBox w b v l.length ∧ w.ownsRow B 5 1 v ((l.length + 7) / 8) (byC (pkL l)) ∧ (b < B ∧ B ≤ w.heap.size) ∧ l.length ≤ 1000000000
theorem WrAt.ext {w w' : World} {b B : Nat} {l : List Bool} (h : WrAt w b B l) (k : Ext w w') : WrAt w' b B l := by
  obtain ⟨v, h1, h2, h3, h4⟩ := h
  refine ⟨v, h1.ext k, h2.kept (row := none) ⟨Below.os k, Below.tape k, Below.output k, k.size, fun i hi _ => k.block hi⟩ (by cases hv : v.ownBlock <;> simp), ⟨h3.1, Nat.le_trans h3.2 k.size⟩, h4⟩
/-- a new writer, at any base -/
def NWPost (w : World) (e : Ending) (w' : World) : Prop := ∃ b, e = .returned (.pointer (some ⟨b, 0, none⟩)) ∧ w.heap.size ≤ b ∧ WrBox w' b (.slice none 0 0) 0 ∧ Ext w w'
theorem WrAt.new {w : World} {b B : Nat} (h : WrBox w b (.slice none 0 0) 0) (h1 : b < B) (h2 : B ≤ w.heap.size) : WrAt w b B [] := ⟨_, h, World.ownsRow_nil _ _ _ _, ⟨h1, h2⟩, by simp⟩
end Go.Proofs.YtdpebaheojaihaaDoor
