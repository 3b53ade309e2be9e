/- A rac.Encoder; NewEncoder, Len: contracts over this seat's translation. -/
import Derived.Test.YtdpebaheojaihaaDoorRa1
namespace Go.Proofs.YtdpebaheojaihaaDoor
set_option linter.unusedVariables false
set_option linter.unusedSimpArgs false
open Go.RowKit Go.Extern.Stop Go.Stop Go.Extern

/-- an encoder's five cells, which may be written -/
def EcBox (w : World) (b : Nat) (v : Value) (h : Int) (r l d : Nat) : Prop := (w.cell? ⟨b, 0, none⟩ = some v ∧ w.cell? ⟨b, 1, none⟩ = some (.int .i64 h) ∧ w.cell? ⟨b, 2, none⟩ = some (.int .i64 (r : Int)) ∧ w.cell? ⟨b, 3, none⟩ = some (.int .u64 (l : Int)) ∧ w.cell? ⟨b, 4, none⟩ = some (.int .u64 (d : Int))) ∧
  w.frozen? ⟨b, 0, none⟩ = false ∧ w.frozen? ⟨b, 1, none⟩ = false ∧ w.frozen? ⟨b, 2, none⟩ = false ∧ w.frozen? ⟨b, 3, none⟩ = false ∧ w.frozen? ⟨b, 4, none⟩ = false
section
variable {w w' : World} {b : Nat} {v : Value} {h : Int} {r l d : Nat}
theorem EcBox.same (x : EcBox w b v h r l d) (k : w'.heap[b]? = w.heap[b]?) : EcBox w' b v h r l d := by
  obtain ⟨⟨c0, c1, c2, c3, c4⟩, f0, f1, f2, f3, f4⟩ := x
  have c : ∀ i, w'.cell? ⟨b, i, none⟩ = w.cell? ⟨b, i, none⟩ := fun i => World.cell?_of_block (a := ⟨b, i, none⟩) k
  have f : ∀ i, w'.frozen? ⟨b, i, none⟩ = w.frozen? ⟨b, i, none⟩ := fun i => World.frozen?_of_block (a := ⟨b, i, none⟩) k
  exact ⟨⟨(c 0).trans c0, (c 1).trans c1, (c 2).trans c2, (c 3).trans c3, (c 4).trans c4⟩, (f 0).trans f0, (f 1).trans f1, (f 2).trans f2, (f 3).trans f3, (f 4).trans f4⟩
theorem EcBox.lt (x : EcBox w b v h r l d) : b < w.heap.size := Ext.lt (p := ⟨b, 0, none⟩) x.1.1
theorem EcBox.ext (x : EcBox w b v h r l d) (k : Ext w w') : EcBox w' b v h r l d := x.same (k.block x.lt)
theorem EcBox.set0 (x : EcBox w b v h r l d) (u : Value) : EcBox (w.setCell ⟨b, 0, none⟩ u) b u h r l d := by
  obtain ⟨⟨c0, c1, c2, c3, c4⟩, f0, f1, f2, f3, f4⟩ := x
  exact ⟨⟨World.cell?_setCell_same _ _ _ c0, (cell_off_ne _ (by decide)).trans c1, (cell_off_ne _ (by decide)).trans c2, (cell_off_ne _ (by decide)).trans c3, (cell_off_ne _ (by decide)).trans c4⟩, by simpa using f0, by simpa using f1, by simpa using f2, by simpa using f3, by simpa using f4⟩
theorem EcBox.set1 (x : EcBox w b v h r l d) (k : Int) : EcBox (w.setCell ⟨b, 1, none⟩ (.int .i64 k)) b v k r l d := by
  obtain ⟨⟨c0, c1, c2, c3, c4⟩, f0, f1, f2, f3, f4⟩ := x
  exact ⟨⟨(cell_off_ne _ (by decide)).trans c0, World.cell?_setCell_same _ _ _ c1, (cell_off_ne _ (by decide)).trans c2, (cell_off_ne _ (by decide)).trans c3, (cell_off_ne _ (by decide)).trans c4⟩, by simpa using f0, by simpa using f1, by simpa using f2, by simpa using f3, by simpa using f4⟩
theorem EcBox.set2 (x : EcBox w b v h r l d) (k : Nat) : EcBox (w.setCell ⟨b, 2, none⟩ (.int .i64 (k : Int))) b v h k l d := by
  obtain ⟨⟨c0, c1, c2, c3, c4⟩, f0, f1, f2, f3, f4⟩ := x
  exact ⟨⟨(cell_off_ne _ (by decide)).trans c0, (cell_off_ne _ (by decide)).trans c1, World.cell?_setCell_same _ _ _ c2, (cell_off_ne _ (by decide)).trans c3, (cell_off_ne _ (by decide)).trans c4⟩, by simpa using f0, by simpa using f1, by simpa using f2, by simpa using f3, by simpa using f4⟩
theorem EcBox.set3 (x : EcBox w b v h r l d) (k : Nat) : EcBox (w.setCell ⟨b, 3, none⟩ (.int .u64 (k : Int))) b v h r k d := by
  obtain ⟨⟨c0, c1, c2, c3, c4⟩, f0, f1, f2, f3, f4⟩ := x
  exact ⟨⟨(cell_off_ne _ (by decide)).trans c0, (cell_off_ne _ (by decide)).trans c1, (cell_off_ne _ (by decide)).trans c2, World.cell?_setCell_same _ _ _ c3, (cell_off_ne _ (by decide)).trans c4⟩, by simpa using f0, by simpa using f1, by simpa using f2, by simpa using f3, by simpa using f4⟩
theorem EcBox.set4 (x : EcBox w b v h r l d) (k : Nat) : EcBox (w.setCell ⟨b, 4, none⟩ (.int .u64 (k : Int))) b v h r l k := by
  obtain ⟨⟨c0, c1, c2, c3, c4⟩, f0, f1, f2, f3, f4⟩ := x
  exact ⟨⟨(cell_off_ne _ (by decide)).trans c0, (cell_off_ne _ (by decide)).trans c1, (cell_off_ne _ (by decide)).trans c2, (cell_off_ne _ (by decide)).trans c3, World.cell?_setCell_same _ _ _ c4⟩, by simpa using f0, by simpa using f1, by simpa using f2, by simpa using f3, by simpa using f4⟩
end
/-- an encoder at b, its row at B or above, with these bytes -/
def EcRow (w : World) (b B : Nat) (v : Value) (xs : List Nat) : Prop := w.ownsRow B 5 1 v xs.length (byC xs) ∧ b < B ∧ B ≤ w.heap.size
theorem EcRow.ext {w w' : World} {b B : Nat} {v : Value} {xs : List Nat} (h : EcRow w b B v xs) (k : Ext w w') : EcRow w' b B v xs := ⟨ownsRow_ext h.1 k, h.2.1, Nat.le_trans h.2.2 k.size⟩
theorem EcRow.set {w : World} {b B : Nat} {v : Value} {xs : List Nat} (h : EcRow w b B v xs) (i : Nat) (u : Value) : EcRow (w.setCell ⟨b, i, none⟩ u) b B v xs := ⟨own_set_lt h.1 u h.2.1, h.2.1, by simpa using h.2.2⟩
theorem EcRow.form {w : World} {b B : Nat} {v : Value} {xs : List Nat} (h : EcRow w b B v xs) : ∃ a c, v = .slice a xs.length c := by
  rcases h.1.2 with ⟨rfl, h0⟩ | ⟨g, cap, cur, rfl, -⟩
  · exact ⟨none, 0, by rw [h0]⟩
  · exact ⟨_, _, rfl⟩
def EcAt (w : World) (b B : Nat) (s : Ec) : Prop := ∃ v, EcBox w b v s.held s.run s.low s.wid ∧ EcRow w b B v s.done
theorem EcAt.ext {w w' : World} {b B : Nat} {s : Ec} (h : EcAt w b B s) (k : Ext w w') : EcAt w' b B s := by
  obtain ⟨v, h1, h2⟩ := h
  exact ⟨v, h1.ext k, h2.ext k⟩
/-- one byte more, and the row stored -/
theorem en_push {W w' : World} {b B n : Nat} {v v' : Value} {h : Int} {r l d x : Nat} {xs : List Nat} (hB : EcBox W b v h r l d) (hR : EcRow W b B v xs) (hn : xs.length = n) (h1 : w'.ownsRow B 5 1 v' (n + 1) (byC xs ++ [.int .u8 (x : Int)])) (h2 : W.grownBy w' v.ownBlock) :
    EcBox w' b v h r l d ∧ EcBox (w'.setCell ⟨b, 0, none⟩ v') b v' h r l d ∧ EcRow (w'.setCell ⟨b, 0, none⟩ v') b B v' (xs ++ [x]) ∧ WKp b B W (w'.setCell ⟨b, 0, none⟩ v') := by
  obtain ⟨r1, r2, r3⟩ := hR
  have hbl := own_apart_b r1 h2 r2 hB.lt
  have h3 : w'.ownsRow B 5 1 v' (xs ++ [x]).length (byC (xs ++ [x])) := by
    rw [List.length_append, hn]
    have : byC (xs ++ [x]) = byC xs ++ [.int .u8 (x : Int)] := by simp [byC]
    rw [this]
    exact h1
  exact ⟨hB.same hbl, (hB.same hbl).set0 v', ⟨own_set_lt h3 _ r2, r2, by simpa using Nat.le_trans r3 h2.size⟩, (own_apart (b := b) r1 h2).trans (WKp.of_kp ((Kp.refl b w').set 0 v'))⟩
/-- a new encoder, at any base -/
def NEPost (w : World) (e : Ending) (w' : World) : Prop := ∃ b, e = .returned (.pointer (some ⟨b, 0, none⟩)) ∧ w.heap.size ≤ b ∧ EcBox w' b (.slice none 0 0) (-1) 0 0 4294967295 ∧ Ext w w'
def newE : Ec := ⟨[], -1, 0, 0, 4294967295⟩
theorem EcAt.new {w : World} {b B : Nat} (h : EcBox w b (.slice none 0 0) (-1) 0 0 4294967295) (h1 : b < B) (h2 : B ≤ w.heap.size) : EcAt w b B newE := ⟨_, h, World.ownsRow_nil _ _ _ _, h1, h2⟩
set_option maxRecDepth 20000 in
theorem newen_any (w : World) : Calls Tryd.prog 10 #[] w (NEPost w) := by
  go_enter Tryd.func10, Tryd.ntmps10
  go_wp2
  go_ret
  exact ⟨_, rfl, Nat.le_refl _, ⟨⟨by simp, by simp, by simp, by simp, by simp⟩, by simp, by simp, by simp, by simp, by simp⟩, (Ext.refl w).alloc _⟩
set_option maxRecDepth 20000 in
theorem enlen_any (b B N : Nat) (s : Ec) (w : World) (h : EcAt w b B s) (hk : okE N s) (hN : N ≤ 1000000) : Calls Tryd.prog 17 #[.pointer (some ⟨b, 0, none⟩)] w fun e w' => e = .returned (.int .i64 (lenE s : Int)) ∧ Ext w w' := by
  obtain ⟨v, hB, hR⟩ := h
  obtain ⟨D, hd, r, l, d⟩ := s
  have hR : EcRow w b B v D := hR
  have hB : EcBox w b v hd r l d := hB
  have k1 : D.length + r ≤ N := hk.1
  have k2 : -1 ≤ hd := hk.2.1.1
  obtain ⟨a, c, rfl⟩ := hR.form
  obtain ⟨⟨c0, c1, c2, c3, c4⟩, f0, f1, f2, f3, f4⟩ := hB
  obtain ⟨L, hL⟩ : ∃ L, lenE ⟨D, hd, r, l, d⟩ = L := ⟨_, rfl⟩
  have HL : Hid (L = D.length + r + 4 + if 0 ≤ hd then 1 else 0) := hL.symm
  rw [hL]
  obtain ⟨n, hn⟩ : ∃ n, D.length = n := ⟨_, rfl⟩
  rw [hn] at c0 k1 HL
  clear hL hn hk
  have e1 : IntKind.i64.wrap ((n : Int) + (r : Int)) = (n : Int) + (r : Int) := by rw [IntKind.wrap_i64]; omega
  have e2 : IntKind.i64.wrap ((n : Int) + (r : Int) + 4) = (n : Int) + (r : Int) + 4 := by rw [IntKind.wrap_i64]; omega
  have e3 : IntKind.i64.wrap ((n : Int) + (r : Int) + 4 + 1) = (n : Int) + (r : Int) + 4 + 1 := by rw [IntKind.wrap_i64]; omega
  by_cases h0 : 0 ≤ hd
  · have HL2 : Hid ((L : Int) = (n : Int) + (r : Int) + 4 + 1) := by show _ = _; have := HL.out; rw [if_pos h0] at this; omega
    clear HL hR
    go_enter Tryd.func17, Tryd.ntmps17
    go_wp2_with fail
    go_quiet (fail)
    have c1' := ((Ext.refl w).drewN nq).cell c1
    go_wp2
    go_ret
    exact ⟨by rw [HL2.out]; rfl, (Ext.refl w).drewN _⟩
  · have HL2 : Hid ((L : Int) = (n : Int) + (r : Int) + 4) := by show _ = _; have := HL.out; rw [if_neg h0] at this; omega
    clear HL hR
    go_enter Tryd.func17, Tryd.ntmps17
    go_wp2_with fail
    go_quiet (fail)
    have c1' := ((Ext.refl w).drewN nq).cell c1
    go_wp2
    go_ret
    exact ⟨by rw [HL2.out]; rfl, (Ext.refl w).drewN _⟩
end Go.Proofs.YtdpebaheojaihaaDoor
