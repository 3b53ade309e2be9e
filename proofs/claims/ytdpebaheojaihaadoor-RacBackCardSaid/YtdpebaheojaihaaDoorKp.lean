/- A world in which all blocks but one stay. -/
import Derived.Test.YtdpebaheojaihaaDoorPush
import Derived.Lib.Hide
namespace Go.Proofs.YtdpebaheojaihaaDoor
set_option linter.unusedVariables false
set_option linter.unusedSimpArgs false
open Go.RowKit Go.Extern.Stop Go.Stop Go.Extern

/-- all that was there stays, but for one block -/
def Kp (b : Nat) (w w' : World) : Prop := World.grownBy w w' (some b)
theorem Kp.refl (b : Nat) (w : World) : Kp b w w := ⟨rfl, rfl, rfl, Nat.le_refl _, fun _ _ _ => rfl⟩
theorem Kp.size {b : Nat} {w w' : World} (h : Kp b w w') : w.heap.size ≤ w'.heap.size := World.grownBy.size h
theorem Kp.block {b : Nat} {w w' : World} (h : Kp b w w') {k : Nat} (hk : k < w.heap.size) (hb : k ≠ b) : w'.heap[k]? = w.heap[k]? := World.grownBy.block h k hk (fun e => hb (Option.some.inj e))
theorem Kp.trans {b : Nat} {u v w : World} (h : Kp b u v) (k : Kp b v w) : Kp b u w :=
  ⟨(World.grownBy.os k).trans (World.grownBy.os h), (World.grownBy.tape k).trans (World.grownBy.tape h), (World.grownBy.output k).trans (World.grownBy.output h), Nat.le_trans h.size k.size, fun i hi hn => (World.grownBy.block k i (Nat.lt_of_lt_of_le hi h.size) hn).trans (World.grownBy.block h i hi hn)⟩
theorem Kp.of_ext {b : Nat} {w w' : World} (h : Ext w w') : Kp b w w' := ⟨Below.os h, Below.tape h, Below.output h, h.size, fun _ hi _ => h.block hi⟩
theorem Kp.ext {b : Nat} {u v w : World} (h : Kp b u v) (k : Ext v w) : Kp b u w := h.trans (Kp.of_ext k)
theorem Kp.set {b : Nat} {u v : World} (h : Kp b u v) (o : Nat) (x : Value) : Kp b u (v.setCell ⟨b, o, none⟩ x) :=
  h.trans ⟨rfl, rfl, rfl, by simp, fun i _ hn => Below.heap_setCell v ⟨b, o, none⟩ x i (fun e => hn (by rw [e]))⟩
theorem Kp.cell {b : Nat} {w w' : World} (h : Kp b w w') {p : Addr} {v : Value} (hp : w.cell? p = some v) (hb : p.block ≠ b) : w'.cell? p = some v :=
  (World.cell?_of_block (h.block (Ext.lt hp) hb)).trans hp
theorem Kp.frozen {b : Nat} {w w' : World} (h : Kp b w w') {p : Addr} (hp : p.block < w.heap.size) (hb : p.block ≠ b) : w'.frozen? p = w.frozen? p :=
  World.frozen?_of_block (h.block hp hb)
/-- what lay there before the block -/
theorem Kp.out {b : Nat} {u v w : World} (h : Ext u v) (k : Kp b v w) (hb : u.heap.size ≤ b) : Ext u w :=
  Below.trans (c := w) h ⟨World.grownBy.os k, World.grownBy.tape k, World.grownBy.output k, k.size, fun i hi => k.block (Nat.lt_of_lt_of_le hi h.size) (by omega)⟩
end Go.Proofs.YtdpebaheojaihaaDoor
