/- Contracts of this seat: Bwr, Bwr2, Bwr3, Bwr4, Brd2, Brd3, Brd4, Bnr, Bst. -/
import Derived.Test.YtehmgieocoppjaaDoorZq
import Derived.Laws.OwnMore
import Derived.Deep.RegionHeld3
import Derived.BigRegion
import Derived.BigQuiet
import Derived.Deep.QuietTactic
import Derived.Deep.LoopGhost
import Derived.Laws.BytesArg
/- A bits.Writer; NewWriter, Len, Align: contracts over this seat's translation. -/
namespace Go.Proofs.YtehmgieocoppjaaDoor
set_option linter.unusedVariables false
set_option linter.unusedSimpArgs false
open Go.RowKit Go.Extern.Stop Go.Stop Go.Extern

/-- the bytes of bits -/
def pkL (l : List Bool) : List Nat := (List.range ((l.length + 7) / 8)).map (pkB l)
theorem pkL_length (l : List Bool) : (pkL l).length = (l.length + 7) / 8 := by simp [pkL]
theorem pkL_lt (l : List Bool) : ∀ x ∈ pkL l, x < 256 := fun x hx => by
  obtain ⟨j, -, rfl⟩ := List.mem_map.1 hx
  exact pkB_lt l j
theorem pkL_get {l : List Bool} {j : Nat} (h : j < (l.length + 7) / 8) : (pkL l)[j]? = some (pkB l j) := by simp [pkL, h]
def u8Blk (w : World) (k : Nat) : Prop := ∃ cs fr, w.heap[k]? = some (.cells cs 5 fr)
/-- what a writer at b leaves as it was: what lies below B, and what is no block of bytes -/
def WKp (b B : Nat) (w w' : World) : Prop := (w'.os = w.os ∧ w'.tape = w.tape ∧ w'.output = w.output) ∧ w.heap.size ≤ w'.heap.size ∧ ∀ k, k < w.heap.size → k ≠ b → (k < B ∨ ¬ u8Blk w k) → w'.heap[k]? = w.heap[k]?
theorem WKp.refl (b B : Nat) (w : World) : WKp b B w w := ⟨⟨rfl, rfl, rfl⟩, Nat.le_refl _, fun _ _ _ _ => rfl⟩
theorem WKp.trans {b B : Nat} {u v w : World} (h : WKp b B u v) (k : WKp b B v w) : WKp b B u w := by
  obtain ⟨⟨h1, h2, h3⟩, h4, h5⟩ := h
  obtain ⟨⟨k1, k2, k3⟩, k4, k5⟩ := k
  refine ⟨⟨k1.trans h1, k2.trans h2, k3.trans h3⟩, Nat.le_trans h4 k4, fun i hi hb hc => ?_⟩
  have e := h5 i hi hb hc
  refine (k5 i (Nat.lt_of_lt_of_le hi h4) hb ?_).trans e
  rcases hc with hc | hc
  · exact .inl hc
  · exact .inr fun ⟨cs, fr, hh⟩ => hc ⟨cs, fr, by rw [← e]; exact hh⟩
theorem WKp.of_ext {b B : Nat} {w w' : World} (h : Ext w w') : WKp b B w w' := ⟨⟨Below.os h, Below.tape h, Below.output h⟩, h.size, fun _ hi _ _ => h.block hi⟩
theorem WKp.ext {b B : Nat} {u v w : World} (h : WKp b B u v) (k : Ext v w) : WKp b B u w := h.trans (WKp.of_ext k)
theorem WKp.of_kp {b B : Nat} {w w' : World} (h : Kp b w w') : WKp b B w w' := ⟨⟨World.grownBy.os h, World.grownBy.tape h, World.grownBy.output h⟩, h.size, fun _ hi hb _ => h.block hi hb⟩
/-- what was there before the writer stays -/
theorem WKp.out {b B : Nat} {u v w : World} (h : Ext u v) (k : WKp b B v w) (hb : u.heap.size ≤ b) (hB : u.heap.size ≤ B) : Ext u w :=
  Below.trans (c := w) h ⟨k.1.1, k.1.2.1, k.1.2.2, k.2.1, fun i hi => k.2.2 i (Nat.lt_of_lt_of_le hi h.size) (by omega) (.inl (by omega))⟩
theorem WKp.block {b B : Nat} {u v : World} (k : WKp b B u v) {i : Nat} (hi : i < B) (hB : B ≤ u.heap.size) (hb : i ≠ b) : v.heap[i]? = u.heap[i]? := k.2.2 i (Nat.lt_of_lt_of_le hi hB) hb (.inl hi)
theorem WKp.cell {b B : Nat} {u v : World} (k : WKp b B u v) {p : Addr} {x : Value} (hp : u.cell? p = some x) (hi : p.block < B) (hb : p.block ≠ b) : v.cell? p = some x :=
  (World.cell?_of_block (k.2.2 p.block (Ext.lt hp) hb (.inl hi))).trans hp
/-- a writer's two cells, which may be written -/
def WrBox (w : World) (b : Nat) (u : Value) (n : Nat) : Prop := (w.cell? ⟨b, 0, none⟩ = some u ∧ w.cell? ⟨b, 1, none⟩ = some (.int .i64 (n : Int))) ∧ w.frozen? ⟨b, 0, none⟩ = false ∧ w.frozen? ⟨b, 1, none⟩ = false
theorem WrBox.ext {w w' : World} {b : Nat} {u : Value} {n : Nat} (h : WrBox w b u n) (k : Ext w w') : WrBox w' b u n :=
  ⟨⟨k.cell h.1.1, k.cell h.1.2⟩, (Below.frozen (p := ⟨b, 0, none⟩) k (Ext.lt (p := ⟨b, 0, none⟩) h.1.1)).trans h.2.1, (Below.frozen (p := ⟨b, 1, none⟩) k (Ext.lt (p := ⟨b, 0, none⟩) h.1.1)).trans h.2.2⟩
theorem WrBox.same {w w' : World} {b : Nat} {u : Value} {n : Nat} (h : WrBox w b u n) (k : w'.heap[b]? = w.heap[b]?) : WrBox w' b u n :=
  ⟨⟨(World.cell?_of_block (a := ⟨b, 0, none⟩) k).trans h.1.1, (World.cell?_of_block (a := ⟨b, 1, none⟩) k).trans h.1.2⟩, (World.frozen?_of_block (a := ⟨b, 0, none⟩) k).trans h.2.1, (World.frozen?_of_block (a := ⟨b, 1, none⟩) k).trans h.2.2⟩
theorem WrBox.row {w : World} {b : Nat} {u : Value} {n : Nat} (h : WrBox w b u n) (v : Value) : WrBox (w.setCell ⟨b, 0, none⟩ v) b v n :=
  ⟨⟨World.cell?_setCell_same _ _ _ h.1.1, (cell_off_ne _ (by decide)).trans h.1.2⟩, by simpa using h.2.1, by simpa using h.2.2⟩
theorem WrBox.siz {w : World} {b : Nat} {u : Value} {n : Nat} (h : WrBox w b u n) (m : Nat) : WrBox (w.setCell ⟨b, 1, none⟩ (.int .i64 (m : Int))) b u m :=
  ⟨⟨(cell_off_ne _ (by decide)).trans h.1.1, World.cell?_setCell_same _ _ _ h.1.2⟩, by simpa using h.2.1, by simpa using h.2.2⟩
/-- a writer with these bits -/
def WrAt (w : World) (b B : Nat) (l : List Bool) : Prop := ∃ v, WrBox w b v l.length ∧ w.ownsRow B 5 1 v ((l.length + 7) / 8) (byC (pkL l)) ∧ (b < B ∧ B ≤ w.heap.size) ∧ l.length ≤ 1000000000
theorem WrAt.ext {w w' : World} {b B : Nat} {l : List Bool} (h : WrAt w b B l) (k : Ext w w') : WrAt w' b B l := by
  obtain ⟨v, h1, h2, h3, h4⟩ := h
  refine ⟨v, h1.ext k, h2.kept (row := none) ⟨Below.os k, Below.tape k, Below.output k, k.size, fun i hi _ => k.block hi⟩ (by cases hv : v.ownBlock <;> simp), ⟨h3.1, Nat.le_trans h3.2 k.size⟩, h4⟩
/-- a new writer, at any base -/
def NWPost (w : World) (e : Ending) (w' : World) : Prop := ∃ b, e = .returned (.pointer (some ⟨b, 0, none⟩)) ∧ w.heap.size ≤ b ∧ WrBox w' b (.slice none 0 0) 0 ∧ Ext w w'
theorem WrAt.new {w : World} {b B : Nat} (h : WrBox w b (.slice none 0 0) 0) (h1 : b < B) (h2 : B ≤ w.heap.size) : WrAt w b B [] := ⟨_, h, World.ownsRow_nil _ _ _ _, ⟨h1, h2⟩, by simp⟩
theorem newwr_any (w : World) : Calls Tryd.prog 13 #[] w (NWPost w) := by
  go_enter Tryd.func13, Tryd.ntmps13
  go_wp2
  go_ret
  exact ⟨_, rfl, Nat.le_refl _, ⟨⟨by simp, by simp⟩, by simp, by simp⟩, (Ext.refl w).alloc _⟩
theorem wrlen_any (b B : Nat) (l : List Bool) (w : World) (h : WrAt w b B l) : Calls Tryd.prog 20 #[.pointer (some ⟨b, 0, none⟩)] w fun e w' => e = .returned (.int .i64 (l.length : Int)) ∧ w = w' := by
  obtain ⟨v, ⟨⟨c0, c1⟩, f0, f1⟩, h2, h3, h4⟩ := h
  obtain ⟨n, hn⟩ : ∃ n, l.length = n := ⟨_, rfl⟩
  rw [hn] at c1 ⊢
  clear h2 h4 hn
  go_enter Tryd.func20, Tryd.ntmps20
  go_wp2
  go_ret
  exact ⟨rfl, rfl⟩
end Go.Proofs.YtehmgieocoppjaaDoor

/- (*bits.Writer).Align, Put: contracts over this seat's translation. -/
namespace Go.Proofs.YtehmgieocoppjaaDoor
set_option linter.unusedVariables false
set_option linter.unusedSimpArgs false
open Go.RowKit Go.Extern.Stop Go.Stop Go.Extern

theorem own_set_lt {w : World} {base : Nat} {e : TypeId} {size : Nat} {v : Value} {n : Nat} {xs : List Value} (h : w.ownsRow base e size v n xs) {p : Addr} (u : Value) (hp : p.block < base) : (w.setCell p u).ownsRow base e size v n xs := by
  obtain ⟨h1, h2⟩ := h
  refine ⟨h1, ?_⟩
  rcases h2 with h2 | ⟨g, cap, cur, hv, hg, hh, r⟩
  · exact Or.inl h2
  · exact Or.inr ⟨g, cap, cur, hv, hg, by rw [Below.heap_setCell _ _ _ _ (by omega)]; exact hh, r⟩
def wpad (l : List Bool) : List Bool := l ++ List.replicate ((8 - l.length % 8) % 8) false
theorem wpad_length (l : List Bool) : (wpad l).length = 8 * ((l.length + 7) / 8) := by
  unfold wpad
  rw [List.length_append, List.length_replicate]
  omega
theorem bL_pad (l : List Bool) (d p : Nat) : bL (l ++ List.replicate d false) p = bL l p := by
  by_cases h : p < l.length
  · exact bL_left h
  · rw [bL_end (l := l) (by omega)]
    obtain ⟨q, rfl⟩ : ∃ q, p = l.length + q := ⟨p - l.length, by omega⟩
    rw [bL_right]
    unfold bL
    rw [List.getD]
    by_cases hq : q < d
    · rw [List.getElem?_replicate, if_pos hq]; rfl
    · rw [List.getElem?_replicate, if_neg hq]; rfl
theorem pkL_pad (l : List Bool) : pkL (wpad l) = pkL l := by
  unfold pkL
  rw [wpad_length, show (8 * ((l.length + 7) / 8) + 7) / 8 = (l.length + 7) / 8 by omega]
  apply List.map_congr_left
  intro j _
  exact nmF_congr fun i _ => bL_pad _ _ _
/-- a call without a result: the writer's bits -/
def WAPost (w : World) (b B : Nat) (l : List Bool) (e : Ending) (w' : World) : Prop := e = .returned (.tuple #[]) ∧ WrAt w' b B l ∧ WKp b B w w'
set_option maxRecDepth 20000 in
theorem wralign_any (b B : Nat) (l : List Bool) (w : World) (h : WrAt w b B l) (hl : l.length ≤ 900000000) : Calls Tryd.prog 18 #[.pointer (some ⟨b, 0, none⟩)] w (WAPost w b B (wpad l)) := by
  obtain ⟨v, hbx, ho, h3, h4⟩ := h
  obtain ⟨⟨c0, c1⟩, f0, f1⟩ := id hbx
  obtain ⟨N, hN⟩ : ∃ N, (l.length + 7) / 8 = N := ⟨_, rfl⟩
  have HW : WrAt (w.setCell ⟨b, 1, none⟩ (.int .i64 ((8 * N : Nat) : Int))) b B (wpad l) := by
    refine ⟨v, ?_, ?_, ⟨h3.1, by simpa using h3.2⟩, by rw [wpad_length, hN]; omega⟩
    · rw [wpad_length, hN]; exact hbx.siz _
    · rw [wpad_length, pkL_pad, show (8 * ((l.length + 7) / 8) + 7) / 8 = (l.length + 7) / 8 by omega]
      exact own_set_lt ho _ h3.1
  have HW' := Lib.hid HW
  obtain ⟨a, cap, rfl⟩ : ∃ a cap, v = .slice a N cap := by
    rw [hN] at ho
    rcases ho.2 with ⟨rfl, h0⟩ | ⟨g, cap, cur, rfl, -⟩
    · exact ⟨none, 0, by rw [h0]⟩
    · exact ⟨_, _, rfl⟩
  have e1 : IntKind.i64.wrap (8 * (N : Int)) = ((8 * N : Nat) : Int) := by rw [IntKind.wrap_i64]; omega
  have e2 : 8 * (N : Int) = ((8 * N : Nat) : Int) := by omega
  have hM : 8 * N ≤ 2000000000 := by omega
  generalize 8 * N = M at *
  clear HW hN ho hbx
  go_enter Tryd.func18, Tryd.ntmps18
  go_wp2
  go_end0
  exact ⟨rfl, HW'.out, WKp.of_kp ((Kp.refl b w).set 1 _)⟩
end Go.Proofs.YtehmgieocoppjaaDoor

/- (*bits.Writer).Put where it puts: its contract over this seat's translation. -/
namespace Go.Proofs.YtehmgieocoppjaaDoor
set_option linter.unusedVariables false
set_option linter.unusedSimpArgs false
open Go.RowKit Go.Extern.Stop Go.Stop Go.Extern

/-- an append of one byte to a row of the call's own -/
theorem push_u8 {ops : Array Oper} {rest : List Oper} {o : Oper} {a : Act} {Q : Exit → Act → World → Prop} {W : World} {base : Nat} (hgd : o.guard = none) (s y : Operand) (t : TypeId)
    (ho : o.op = .call { callee := .builtin .append, args := #[s, y], argTypes := #[t, t] }) (ht : Tryd.prog.underlying t = some (.slice 5))
    (v : Value) (n : Nat) (xs : List Value) (x : Int) (hs : a.eval s = v) (hown : W.ownsRow base 5 1 v n xs) (hx : a.eval y = .slice (some ⟨W.heap.size, 0, none⟩) 1 1) (hb : base ≤ W.heap.size) (hn : n ≤ 1000000000000)
    (h : ∀ g cap w', w'.ownsRow base 5 1 (.slice (some ⟨g, 0, none⟩) (n + 1) cap) (n + 1) (xs ++ [.int .u8 x]) → W.grownBy w' v.ownBlock → wpList Tryd.prog ops Q rest (a.put o.dst (.slice (some ⟨g, 0, none⟩) (n + 1) cap)) w') :
    wpList Tryd.prog ops Q (o :: rest) a (W.alloc (.cells #[.int .u8 x] 5)) := by
  obtain ⟨i0, hi, hz0, hz1, hz2⟩ := info_parts infoU8
  refine wpList_append_own _ hgd s y t ho base 5 i0 (.int .u8 0) 1 1 ht hi hz0 hz1 hz2 rfl (by decide) v n xs hs (hown.alloc _) ⟨W.heap.size, 0, none⟩ 1 1 [.int .u8 x] hx rfl (cell_one_new _ _ _) (fun u hu => by obtain rfl := List.mem_singleton.1 hu; rfl) (by unfold maxLen; omega) (by omega) (by simp; omega) ?_
  intro v' w' h1 h2 _
  have g := World.grownBy_alloc W (.cells #[.int .u8 x] 5) v.ownBlock
  have hg : W.grownBy w' v.ownBlock := ⟨h2.os.trans g.os, h2.tape.trans g.tape, h2.output.trans g.output, Nat.le_trans g.size h2.size, fun k hk hne => (h2.block k (Nat.lt_of_lt_of_le hk g.size) hne).trans (g.block k hk hne)⟩
  obtain ⟨gg, cap, rfl⟩ : ∃ gg cap, v' = .slice (some ⟨gg, 0, none⟩) (n + 1) cap := by
    rcases h1.2 with ⟨-, h0⟩ | ⟨gg, cap, cur, e, -⟩
    · omega
    · exact ⟨gg, cap, e⟩
  exact h gg cap w' h1 hg
theorem own_apart {w w' : World} {b B : Nat} {v : Value} {n : Nat} {xs : List Value} (h : w.ownsRow B 5 1 v n xs) (hg : w.grownBy w' v.ownBlock) : WKp b B w w' :=
  ⟨⟨hg.os, hg.tape, hg.output⟩, hg.size, fun k hk _ hc => hg.block k hk (fun e => by
    rcases h.2 with ⟨rfl, -⟩ | ⟨g, cap, cur, rfl, hb, hgg, -⟩
    · simp [Value.ownBlock] at e
    · simp only [Value.ownBlock, Option.some.injEq] at e
      subst e
      rcases hc with hc | hc
      · omega
      · exact hc ⟨cur, (0, 0), hgg⟩)⟩
theorem own_apart_b {w w' : World} {b B : Nat} {v : Value} {n : Nat} {xs : List Value} (h : w.ownsRow B 5 1 v n xs) (hg : w.grownBy w' v.ownBlock) (hb : b < B) (hs : b < w.heap.size) : w'.heap[b]? = w.heap[b]? :=
  hg.block b hs (fun e => by have := h.lt b e.symm; omega)
/-- the bytes of bits, and one more where the last is full -/
def pk1 (l : List Bool) : List Nat := (List.range (l.length / 8 + 1)).map (pkB l)
theorem pk1_full (l : List Bool) (h : l.length % 8 = 0) : pkL l ++ [0] = pk1 l := by
  unfold pkL pk1
  rw [show (l.length + 7) / 8 = l.length / 8 by omega, List.range_succ, List.map_append]
  simp only [List.map_cons, List.map_nil]
  rw [pkB_end (by omega)]
theorem pk1_part (l : List Bool) (h : l.length % 8 ≠ 0) : pkL l = pk1 l := by
  unfold pkL pk1
  rw [show (l.length + 7) / 8 = l.length / 8 + 1 by omega]
theorem pk1_put (l : List Bool) (y t : Nat) (hy : y < 2 ^ t) (h1 : 1 ≤ t) (h : l.length % 8 + t ≤ 8) : (byC (pk1 l)).set (l.length / 8) (.int .u8 ((pkB l (l.length / 8) + y * 2 ^ (8 - l.length % 8 - t) : Nat) : Int)) = byC (pkL (l ++ bsOf y t)) := by
  have hp := pk_put l y t hy h
  have hlen : ((l ++ bsOf y t).length + 7) / 8 = l.length / 8 + 1 := by rw [List.length_append, bsOf_length]; omega
  apply List.ext_getElem?
  intro j
  unfold byC pkL pk1
  rw [hlen, List.getElem?_set, List.getElem?_map, List.getElem?_map, List.getElem?_map, List.getElem?_map]
  by_cases hj : j < l.length / 8 + 1
  · rw [List.getElem?_range hj]
    by_cases e : l.length / 8 = j
    · subst e
      rw [if_pos rfl, if_pos (by simp)]
      show _ = some (Value.int .u8 ((pkB (l ++ bsOf y t) (l.length / 8) : Nat) : Int))
      rw [hp]
    · rw [if_neg e]
      show some (Value.int .u8 ((pkB l j : Nat) : Int)) = some (Value.int .u8 ((pkB (l ++ bsOf y t) j : Nat) : Int))
      rw [pk_old l _ j (by omega)]
  · rw [List.getElem?_eq_none (by simp; omega), if_neg (by omega)]
    rfl
theorem put_list (l : List Bool) (v m t k : Nat) (h : t ≤ m) : (l ++ bsOf (v / 2 ^ m) k) ++ bsOf (v / 2 ^ (m - t) % 2 ^ t) t = l ++ bsOf (v / 2 ^ (m - t)) (k + t) := by
  rw [List.append_assoc, bsOf_mod, bsOf_add, Nat.div_div_eq_div_mul, ← Nat.pow_add, show m - t + t = m by omega]
theorem wput_step {w : World} {b B g cap n I S t Z : Nat} {L L' : List Bool} (hB : WrBox w b (.slice (some ⟨g, 0, none⟩) n cap) S) (hO : w.ownsRow B 5 1 (.slice (some ⟨g, 0, none⟩) n cap) n (byC (pk1 L)))
    (hP : (byC (pk1 L)).set I (.int .u8 (Z : Int)) = byC (pkL L')) (hbB : b < B) (hBs : B ≤ w.heap.size) (hl : L'.length = S + t) (hn : (S + t + 7) / 8 = n) (hs : S + t ≤ 1000000000) :
    WrAt ((w.setCell ⟨g, I, none⟩ (.int .u8 (Z : Int))).setCell ⟨b, 1, none⟩ (.int .i64 ((S : Int) + (t : Int)))).drew b B L' ∧ WKp b B w ((w.setCell ⟨g, I, none⟩ (.int .u8 (Z : Int))).setCell ⟨b, 1, none⟩ (.int .i64 ((S : Int) + (t : Int)))).drew := by
  have e : ((S : Int) + (t : Int)) = ((S + t : Nat) : Int) := by omega
  rw [e]
  have hg := (hO.lt g rfl).1
  obtain ⟨h1, h2⟩ := hO.stored I (.int .u8 (Z : Int))
  rw [hP] at h1
  have hb1 : WrBox (w.setCell ⟨g, I, none⟩ (.int .u8 (Z : Int))) b (.slice (some ⟨g, 0, none⟩) n cap) S := hB.same (Below.heap_setCell _ _ _ _ (show b ≠ g by omega))
  have D : Ext ((w.setCell ⟨g, I, none⟩ (.int .u8 (Z : Int))).setCell ⟨b, 1, none⟩ (.int .i64 ((S + t : Nat) : Int))) ((w.setCell ⟨g, I, none⟩ (.int .u8 (Z : Int))).setCell ⟨b, 1, none⟩ (.int .i64 ((S + t : Nat) : Int))).drew := (Ext.refl _).drew
  have hA : WrAt ((w.setCell ⟨g, I, none⟩ (.int .u8 (Z : Int))).setCell ⟨b, 1, none⟩ (.int .i64 ((S + t : Nat) : Int))) b B L' :=
    ⟨_, by rw [hl]; exact hb1.siz _, by rw [hl, hn]; exact own_set_lt h1 _ hbB, ⟨hbB, by simpa using hBs⟩, by omega⟩
  exact ⟨hA.ext D, ((own_apart (b := b) hO h2).trans (WKp.of_kp ((Kp.refl b _).set 1 _))).ext D⟩
/-- an error, the writer's bits -/
def WPPost (w : World) (b B : Nat) (l : List Bool) (f : Fall) (e : Ending) (w' : World) : Prop := ∃ x, e = .returned x ∧ WrAt w' b B l ∧ WKp b B w w' ∧ ErrIs w' f x
set_option maxHeartbeats 8000000 in
set_option maxRecDepth 20000 in
theorem wput_yes (b B v N : Nat) (l : List Bool) (w : World) (h : WrAt w b B l) (hN : N ≤ 32) (hv : v < 2 ^ N) (hl : l.length + N ≤ 900000000) :
    Calls Tryd.prog 15 #[.pointer (some ⟨b, 0, none⟩), .int .i64 (v : Int), .int .i64 (N : Int)] w (WPPost w b B (l ++ bsOf v N) none) := by
  have HA := Lib.hid h
  have hv32 : v < 4294967296 := Nat.lt_of_lt_of_le hv (Nat.pow_le_pow_right (by decide) hN)
  have hsh : (v : Int) / 2 ^ N = 0 := by
    have : ((v / 2 ^ N : Nat) : Int) = 0 := by rw [Nat.div_eq_of_lt hv]; rfl
    rw [← this]; simp
  have HV := Lib.hid hv
  clear h hv
  go_enter Tryd.func15, Tryd.ntmps15
  go_wp2_with fail
  go_loopw [2] (fun nv wr => ∃ k, k ≤ N ∧ nv = .int .i64 ((N - k : Nat) : Int) ∧ Hid (WrAt wr b B (l ++ bsOf (v / 2 ^ (N - k)) k)) ∧ Hid (WKp b B w wr)) (fun nv _ => (intOf nv).toNat)
  case atStart => exact ⟨0, Nat.zero_le _, by rw [Nat.sub_zero], by show WrAt _ _ _ _; rw [show bsOf (v / 2 ^ (N - 0)) 0 = [] from rfl, List.append_nil]; exact HA.out, WKp.refl _ _ _⟩
  case round =>
    clear HA hsh
    obtain ⟨k, hk, rfl, HR, HK⟩ := hrel
    by_cases hlt : k < N
    · obtain ⟨L, hL⟩ : ∃ L, l ++ bsOf (v / 2 ^ (N - k)) k = L := ⟨_, rfl⟩
      have hLl : L.length = l.length + k := by rw [← hL, List.length_append, bsOf_length]
      rw [hL] at HR
      obtain ⟨vv, hbx, ho, h3, h4⟩ := HR.out
      obtain ⟨S, hS⟩ : ∃ S, L.length = S := ⟨_, rfl⟩
      obtain ⟨r, hr⟩ : ∃ r, S % 8 = r := ⟨_, rfl⟩
      obtain ⟨I, hI⟩ : ∃ I, S / 8 = I := ⟨_, rfl⟩
      obtain ⟨m, hm⟩ : ∃ m, N - k = m := ⟨_, rfl⟩
      obtain ⟨u, hu⟩ : ∃ u, 8 - r = u := ⟨_, rfl⟩
      obtain ⟨t, ht⟩ : ∃ t, min u m = t := ⟨_, rfl⟩
      obtain ⟨d, hd⟩ : ∃ d, u - t = d := ⟨_, rfl⟩
      obtain ⟨m', hm'⟩ : ∃ m', m - t = m' := ⟨_, rfl⟩
      obtain ⟨x, hx⟩ : ∃ x, v / 2 ^ m' = x := ⟨_, rfl⟩
      obtain ⟨y, hy⟩ : ∃ y, x % 2 ^ t = y := ⟨_, rfl⟩
      have hyt : y < 2 ^ t := by rw [← hy]; exact Nat.mod_lt _ (Nat.two_pow_pos t)
      have htb : 1 ≤ t ∧ t ≤ 8 ∧ r + t ≤ 8 ∧ t ≤ m := by omega
      have hput := pk1_put L y t hyt htb.1 (by rw [hS, hr]; omega)
      have hlist := put_list l v m t k htb.2.2.2
      rw [← hm, hL, hm, hm', hx, hy] at hlist
      obtain ⟨q, hq⟩ := pk_free L
      rw [hS, hr, hu, hI] at hq
      rw [hS, hr, hI, show 8 - r - t = d by omega] at hput
      obtain ⟨X, hX⟩ : ∃ X, pkB L I = X := ⟨_, rfl⟩
      have hX8 : X < 256 := by rw [← hX]; exact pkB_lt L I
      rw [hX] at hput hq
      obtain ⟨Y, hY⟩ : ∃ Y, y * 2 ^ d = Y := ⟨_, rfl⟩
      have hYu : Y < 2 ^ u := by
        rw [← hY, show u = t + d by omega, Nat.pow_add]
        exact Nat.mul_lt_mul_of_pos_right hyt (Nat.two_pow_pos d)
      have h2u : q * 2 ^ u + 2 ^ u ≤ 256 := by
        have e : 256 = 2 ^ r * 2 ^ u := by rw [← Nat.pow_add, show r + u = 8 by omega]
        rw [e, ← Nat.succ_mul]
        refine Nat.mul_le_mul_right _ ?_
        rw [hq] at hX8
        rw [e] at hX8
        exact Nat.lt_of_mul_lt_mul_right hX8
      have hor := or_byte q Y u hYu (by omega)
      rw [← hq] at hor
      obtain ⟨n, hn⟩ : ∃ n, I + 1 = n := ⟨_, rfl⟩
      have hxm : x ≤ v := by rw [← hx]; exact Nat.div_le_self _ _
      have hand := and_mask x t (by omega) (by omega)
      rw [hy] at hand
      rw [hY] at hput
      obtain ⟨M, hM⟩ : ∃ M, 2 ^ t = M := ⟨_, rfl⟩
      have hM1 : 1 ≤ M ∧ M ≤ 256 := by rw [← hM]; exact ⟨Nat.two_pow_pos t, Nat.le_trans (Nat.pow_le_pow_right (by decide) htb.2.1) (by decide)⟩
      obtain ⟨M1, hMM⟩ : ∃ M1, M - 1 = M1 := ⟨_, rfl⟩
      rw [hM, hMM] at hand
      rw [hM] at hyt
      have hdp : 1 ≤ 2 ^ d ∧ 2 ^ d ≤ 256 := ⟨Nat.two_pow_pos d, Nat.le_trans (Nat.pow_le_pow_right (by decide) (show d ≤ 8 by omega)) (by decide)⟩
      obtain ⟨Z, hZZ⟩ : ∃ Z, X + Y = Z := ⟨_, rfl⟩
      have hZ : Z < 256 := by omega
      rw [hZZ] at hor hput
      have i1 : (S : Int) % 8 = (r : Int) := by omega
      have i2 : Int.tmod (S : Int) 8 = (r : Int) := by rw [Int.tmod_eq_emod_of_nonneg (by omega)]; exact i1
      have i3 : IntKind.i64.wrap (8 - (r : Int)) = (u : Int) := by rw [IntKind.wrap_i64]; omega
      have i4 : (8 : Int) - (r : Int) = (u : Int) := by omega
      have i5 : min (u : Int) (m : Int) = (t : Int) := by omega
      have i6 : IntKind.i64.wrap ((m : Int) - (t : Int)) = (m' : Int) := by rw [IntKind.wrap_i64]; omega
      have i7 : (m : Int) - (t : Int) = (m' : Int) := by omega
      have i8 : (v : Int) / 2 ^ m' = (x : Int) := by rw [← hx]; simp
      have i9 : (2 : Int) ^ t = (M : Int) := by rw [← hM]; simp
      have j1 : IntKind.i64.wrap (1 * 2 ^ t) = (M : Int) := by rw [i9, IntKind.wrap_i64]; omega
      have j2 : IntKind.i64.wrap (M : Int) = (M : Int) := by rw [IntKind.wrap_i64]; omega
      have j3 : IntKind.i64.wrap ((M : Int) - 1) = (M1 : Int) := by rw [IntKind.wrap_i64]; omega
      have j4 : (M : Int) - 1 = (M1 : Int) := by omega
      have j5 : IntKind.i64.wrap ((u : Int) - (t : Int)) = (d : Int) := by rw [IntKind.wrap_i64]; omega
      have j6 : (u : Int) - (t : Int) = (d : Int) := by omega
      have j7 : (y : Int) * 2 ^ d = (Y : Int) := by rw [← hY]; simp
      have j8 : IntKind.i64.wrap (Y : Int) = (Y : Int) := by rw [IntKind.wrap_i64]; omega
      have j9 : IntKind.u8.wrap (Y : Int) = (Y : Int) := by rw [IntKind.wrap_u8]; omega
      have jA : IntKind.i64.wrap ((n : Int) - 1) = (I : Int) := by rw [IntKind.wrap_i64]; omega
      have jB : (n : Int) - 1 = (I : Int) := by omega
      have jC : IntKind.i64.wrap ((S : Int) + (t : Int)) = ((S + t : Nat) : Int) := by rw [IntKind.wrap_i64]; omega
      have jD : IntKind.i64.wrap (I : Int) = (I : Int) := by rw [IntKind.wrap_i64]; omega
      have m1 : (0 : Int) < (m : Int) := by omega
      have k1 : (0 : Int) ≤ (I : Int) := by omega
      have k2 : (I : Int) < (n : Int) := by omega
      have d9 : (0 : Int) ≤ (d : Int) ∧ (d : Int) ≤ 64 := by omega
      have t9 : (0 : Int) ≤ (t : Int) ∧ (t : Int) ≤ 64 := by omega
      have n9 : (0 : Int) ≤ (m' : Int) ∧ (m' : Int) ≤ 64 := by omega
      have r2 := mn2
      have HE : Hid (k + t ≤ N ∧ N - (k + t) = m' ∧ L ++ bsOf y t = l ++ bsOf (v / 2 ^ (N - (k + t))) (k + t) ∧ m' < N - k ∧ (L ++ bsOf y t).length = S + t ∧ (S + t + 7) / 8 = n ∧ S + t ≤ 1000000000) := ⟨by omega, by omega, by rw [show N - (k + t) = m' by omega, hx]; exact hlist, by omega, by rw [List.length_append, bsOf_length, hS], by omega, by omega⟩
      have HP := Lib.hid hput
      have HXg : Hid ((byC (pk1 L))[I]? = some (.int .u8 (X : Int))) := by
        show _ = _
        unfold byC pk1
        rw [hS, hI, List.getElem?_map, List.getElem?_map, List.getElem?_range (by omega), ← hX]
        rfl
      have HMM := Lib.hid hm
      rw [hm]
      obtain ⟨⟨c0, c1⟩, f0, f1⟩ := id hbx
      rw [hS] at c1
      by_cases h0 : r = 0
      · have u8e : ((u : Int) == 8) = true := by rw [beq_iff_eq]; omega
        have hN0 : (L.length + 7) / 8 = I := by rw [hS]; omega
        have hfull := pk1_full L (by rw [hS, hr]; exact h0)
        rw [hN0] at ho
        obtain ⟨aa, ac, rfl⟩ : ∃ aa ac, vv = .slice aa I ac := by
          rcases ho.2 with ⟨rfl, h0⟩ | ⟨g, cap, cur, rfl, -⟩
          · exact ⟨none, 0, by rw [h0]⟩
          · exact ⟨_, _, rfl⟩
        have HFU : Hid (byC (pkL L) ++ [.int .u8 0] = byC (pk1 L)) := by show _ = _; rw [← hfull]; unfold byC; simp
        have HO := Lib.hid ho
        have HB := Lib.hid (show WrBox wr b (.slice aa I ac) S by rw [← hS]; exact hbx)
        have hbB := h3.1
        have hBS := h3.2
        have hnI : I < n := by omega
        have HNI : Hid (n = I + 1) := hn.symm
        have hIb : I ≤ 1000000000 := by omega
        clear hL hLl hbx ho hS hr hI hm hu ht hd hm' hx hy hyt hlist hq hX hYu h2u hM hMM hput HR h0 hN0 h3 h4 hn hZZ hX8 hfull
        go_wp2_with (at_builtin; refine push_u8 rfl _ _ 43 rfl Tryd.underlying43 _ I _ _ rfl HO.out (by show Value.slice (some ⟨wr.heap.size, 0, none⟩) 1 1 = _; simp) hBS (by omega) ?_; intro g cap w7 h1 h2; have HB7 := Lib.hid (HB.out.same (own_apart_b HO.out h2 hbB (Ext.lt (p := ⟨b, 0, none⟩) HB.out.1.1))); have HK7 := Lib.hid (HK.out.trans (own_apart (b := b) HO.out h2)); have HO7 := Lib.hid h1; have HS7 := Nat.le_trans hBS h2.size; obtain ⟨⟨y0, y1⟩, y2, y3⟩ := HB7.out; clear h1 h2 c0 c1 f0 f1)
        have HB8 := Lib.hid (HB7.out.row (.slice (some ⟨g, 0, none⟩) n cap))
        have HO8 : Hid ((w7.setCell ⟨b, 0, none⟩ (.slice (some ⟨g, 0, none⟩) n cap)).ownsRow B 5 1 (.slice (some ⟨g, 0, none⟩) n cap) n (byC (pk1 L))) := own_set_lt (by have := HO7.out; rw [HFU.out, ← HNI.out] at this; exact this) _ hbB
        have HK8 := Lib.hid (HK7.out.trans (WKp.of_kp ((Kp.refl b w7).set 0 (.slice (some ⟨g, 0, none⟩) n cap))))
        have HS8 : B ≤ (w7.setCell ⟨b, 0, none⟩ (.slice (some ⟨g, 0, none⟩) n cap)).heap.size := by simpa using HS7
        have hbg : b < g := by have := (HO8.out.lt g rfl).1; omega
        rw [← HNI.out]
        clear HB7 HO7 HK7 HS7 y0 y1 y2 y3 HO HB hBS HNI HFU HK
        revert HB8 HO8 HK8 HS8
        generalize w7.setCell ⟨b, 0, none⟩ (.slice (some ⟨g, 0, none⟩) n cap) = w8
        intro HB8 HO8 HK8 HS8
        obtain ⟨⟨a0, a1⟩, a2, a3⟩ := HB8.out
        go_wp2_with fail
        go_quiet (fail)
        have D8 : Ext w8 (w8.drewN nq) := (Ext.refl w8).drewN _
        have HB9 := Lib.hid (HB8.out.ext D8)
        have HO9 := Lib.hid (HO8.out.kept (row := none) ⟨Below.os D8, Below.tape D8, Below.output D8, D8.size, fun i hi _ => D8.block hi⟩ (by cases hv : Value.ownBlock _ <;> simp))
        have HK9 := Lib.hid (HK8.out.ext D8)
        have HS9 : B ≤ (w8.drewN nq).heap.size := Nat.le_trans HS8 D8.size
        clear HB8 HO8 HK8 D8 HS8 a0 a1 a2 a3
        revert HB9 HO9 HK9 HS9
        generalize w8.drewN nq = w9
        intro HB9 HO9 HK9 HS9
        obtain ⟨⟨a0, a1⟩, a2, a3⟩ := HB9.out
        have cx : w9.cell? ⟨g, I, none⟩ = some (.int .u8 (X : Int)) := by
          rw [HO9.out.cellAt I (by omega)]
          exact HXg.out
        have fx := HO9.out.frozenAt I
        go_wp2_with fail
        go_region
        all_goals go_wp2
        go_roundw
        case rel => exact ⟨k + t, HE.out.1, by rw [HE.out.2.1], by show WrAt _ _ _ _; rw [← HE.out.2.2.1]; exact (wput_step HB9.out HO9.out HP.out hbB HS9 HE.out.2.2.2.2.1 HE.out.2.2.2.2.2.1 HE.out.2.2.2.2.2.2).1, HK9.out.trans (wput_step HB9.out HO9.out HP.out hbB HS9 HE.out.2.2.2.2.1 HE.out.2.2.2.2.2.1 HE.out.2.2.2.2.2.2).2⟩
        case measure => simp only [intOf]; have h1 := HE.out.2.2.2.1; have h2 := HMM.out; omega
      · have u8e : ((u : Int) == 8) = false := by rw [beq_eq_false_iff_ne]; omega
        have hN0 : (L.length + 7) / 8 = n := by rw [hS]; omega
        rw [hN0, pk1_part L (by rw [hS, hr]; exact h0)] at ho
        obtain ⟨g, cap, rfl⟩ : ∃ g cap, vv = .slice (some ⟨g, 0, none⟩) n cap := by
          rcases ho.2 with ⟨-, h0⟩ | ⟨gg, cap, cur, e, -⟩
          · omega
          · exact ⟨gg, cap, e⟩
        have HB8 := Lib.hid (show WrBox wr b (.slice (some ⟨g, 0, none⟩) n cap) S by rw [← hS]; exact hbx)
        have HO8 := Lib.hid ho
        have HK8 := Lib.hid HK.out
        have HS8 : B ≤ wr.heap.size := h3.2
        have hbB := h3.1
        have hbg : b < g := by have := (ho.lt g rfl).1; omega
        have hnI : I < n := by omega
        obtain ⟨w8, rfl⟩ : ∃ w8 : World, w8 = wr := ⟨_, rfl⟩
        clear hL hLl hbx ho hS hr hI hm hu ht hd hm' hx hy hyt hlist hq hX hYu h2u hM hMM hput HR HK h0 hN0 h3 h4 hn hZZ hX8
        obtain ⟨a0, a1, a2, a3⟩ : _ ∧ _ ∧ _ ∧ _ := ⟨c0, c1, f0, f1⟩
        clear c0 c1 f0 f1
        go_wp2_with fail
        go_quiet (fail)
        have D8 : Ext w8 (w8.drewN nq) := (Ext.refl w8).drewN _
        have HB9 := Lib.hid (HB8.out.ext D8)
        have HO9 := Lib.hid (HO8.out.kept (row := none) ⟨Below.os D8, Below.tape D8, Below.output D8, D8.size, fun i hi _ => D8.block hi⟩ (by cases hv : Value.ownBlock _ <;> simp))
        have HK9 := Lib.hid (HK8.out.ext D8)
        have HS9 : B ≤ (w8.drewN nq).heap.size := Nat.le_trans HS8 D8.size
        clear HB8 HO8 HK8 D8 HS8 a0 a1 a2 a3
        revert HB9 HO9 HK9 HS9
        generalize w8.drewN nq = w9
        intro HB9 HO9 HK9 HS9
        obtain ⟨⟨a0, a1⟩, a2, a3⟩ := HB9.out
        have cx : w9.cell? ⟨g, I, none⟩ = some (.int .u8 (X : Int)) := by
          rw [HO9.out.cellAt I (by omega)]
          exact HXg.out
        have fx := HO9.out.frozenAt I
        go_wp2_with fail
        go_region
        all_goals go_wp2
        go_roundw
        case rel => exact ⟨k + t, HE.out.1, by rw [HE.out.2.1], by show WrAt _ _ _ _; rw [← HE.out.2.2.1]; exact (wput_step HB9.out HO9.out HP.out hbB HS9 HE.out.2.2.2.2.1 HE.out.2.2.2.2.2.1 HE.out.2.2.2.2.2.2).1, HK9.out.trans (wput_step HB9.out HO9.out HP.out hbB HS9 HE.out.2.2.2.2.1 HE.out.2.2.2.2.2.1 HE.out.2.2.2.2.2.2).2⟩
        case measure => simp only [intOf]; have h1 := HE.out.2.2.2.1; have h2 := HMM.out; omega
    · obtain rfl : k = N := by omega
      have n0 : ((k - k : Nat) : Int) = 0 := by omega
      rw [n0]
      have HF : Hid (WrAt wr b B (l ++ bsOf v k)) := by have := HR.out; rwa [Nat.sub_self, Nat.pow_zero, Nat.div_one] at this
      clear n0 HR
      go_wp2
      go_ret
      exact ⟨_, rfl, HF.out, HK.out, rfl⟩
end Go.Proofs.YtehmgieocoppjaaDoor

/- (*bits.Writer).Put at all arguments; Flag, Bytes: contracts over this seat's translation. -/
namespace Go.Proofs.YtehmgieocoppjaaDoor
set_option linter.unusedVariables false
set_option linter.unusedSimpArgs false
open Go.RowKit Go.Extern.Stop Go.Stop Go.Extern

def putOk (v n : Int) : Prop := (0 ≤ n ∧ n ≤ 32) ∧ 0 ≤ v ∧ v < 2 ^ n.toNat
instance (v n : Int) : Decidable (putOk v n) := by unfold putOk; infer_instance
def wpF (v n : Int) : Fall := if putOk v n then none else range
def wpL (l : List Bool) (v n : Int) : List Bool := if putOk v n then l ++ bsOf v.toNat n.toNat else l
set_option maxHeartbeats 4000000 in
set_option maxRecDepth 20000 in
theorem wput_any (b B : Nat) (v n : Int) (l : List Bool) (w : World) (h : WrAt w b B l) (hl : l.length ≤ 800000000) :
    Calls Tryd.prog 15 #[.pointer (some ⟨b, 0, none⟩), .int .i64 v, .int .i64 n] w (WPPost w b B (wpL l v n) (wpF v n)) := by
  by_cases h1 : n < 0
  · have hno : ¬ putOk v n := fun ⟨k, _⟩ => by omega
    have HF : Hid (wpF v n = range) := by show _ = _; unfold wpF; rw [if_neg hno]
    have HL : Hid (wpL l v n = l) := by show _ = _; unfold wpL; rw [if_neg hno]
    clear hno
    go_enter Tryd.func15, Tryd.ntmps15
    go_wp2
    go_ret
    exact ⟨.iface 36 (.int .i64 3), rfl, by rw [HL.out]; exact h, WKp.refl _ _ _, by rw [HF.out]; exact ErrIs.code (by decide)⟩
  · by_cases h2 : 32 < n
    · have hno : ¬ putOk v n := fun ⟨k, _⟩ => by omega
      have HF : Hid (wpF v n = range) := by show _ = _; unfold wpF; rw [if_neg hno]
      have HL : Hid (wpL l v n = l) := by show _ = _; unfold wpL; rw [if_neg hno]
      clear hno
      go_enter Tryd.func15, Tryd.ntmps15
      go_wp2
      go_ret
      exact ⟨.iface 36 (.int .i64 3), rfl, by rw [HL.out]; exact h, WKp.refl _ _ _, by rw [HF.out]; exact ErrIs.code (by decide)⟩
    · by_cases h3 : v < 0
      · have hno : ¬ putOk v n := fun ⟨_, k⟩ => by omega
        have HF : Hid (wpF v n = range) := by show _ = _; unfold wpF; rw [if_neg hno]
        have HL : Hid (wpL l v n = l) := by show _ = _; unfold wpL; rw [if_neg hno]
        clear hno
        go_enter Tryd.func15, Tryd.ntmps15
        go_wp2
        go_ret
        exact ⟨.iface 36 (.int .i64 3), rfl, by rw [HL.out]; exact h, WKp.refl _ _ _, by rw [HF.out]; exact ErrIs.code (by decide)⟩
      · obtain ⟨N, rfl⟩ : ∃ N : Nat, n = (N : Int) := ⟨n.toNat, by omega⟩
        obtain ⟨V, rfl⟩ : ∃ V : Nat, v = (V : Int) := ⟨v.toNat, by omega⟩
        have ep : ((2 ^ N : Nat) : Int) = (2 : Int) ^ N := by simp
        by_cases h4 : V < 2 ^ N
        · have hok : putOk (V : Int) (N : Int) := ⟨by omega, by omega, by rw [Int.toNat_natCast, ← ep]; omega⟩
          have e1 : wpF (V : Int) (N : Int) = none := by unfold wpF; rw [if_pos hok]
          have e2 : wpL l (V : Int) (N : Int) = l ++ bsOf V N := by unfold wpL; rw [if_pos hok]; rfl
          rw [e1, e2]
          exact wput_yes b B V N l w h (by omega) h4 (by omega)
        · have hno : ¬ putOk (V : Int) (N : Int) := fun ⟨_, _, k⟩ => by rw [Int.toNat_natCast, ← ep] at k; omega
          have hd : 1 ≤ V / 2 ^ N := (Nat.le_div_iff_mul_le (Nat.two_pow_pos N)).2 (by omega)
          obtain ⟨D, hD⟩ : ∃ D, V / 2 ^ N = D := ⟨_, rfl⟩
          have q1 : (V : Int) / 2 ^ N = (D : Int) := by rw [← hD]; simp
          rw [hD] at hd
          have q2 : ((D : Int) != 0) = true := by rw [bne_iff_ne]; omega
          have HF : Hid (wpF (V : Int) (N : Int) = range) := by show _ = _; unfold wpF; rw [if_neg hno]
          have HL : Hid (wpL l (V : Int) (N : Int) = l) := by show _ = _; unfold wpL; rw [if_neg hno]
          clear hno ep h4 hD
          go_enter Tryd.func15, Tryd.ntmps15
          go_wp2
          go_ret
          exact ⟨.iface 36 (.int .i64 3), rfl, by rw [HL.out]; exact h, WKp.refl _ _ _, by rw [HF.out]; exact ErrIs.code (by decide)⟩
set_option maxHeartbeats 4000000 in
set_option maxRecDepth 20000 in
theorem wflag_any (b B : Nat) (x : Bool) (l : List Bool) (w : World) (h : WrAt w b B l) (hl : l.length ≤ 800000000) :
    Calls Tryd.prog 17 #[.pointer (some ⟨b, 0, none⟩), .bool x] w (WAPost w b B (l ++ [x])) := by
  cases x with
  | true =>
    have U := Lib.hid (wput_yes b B 1 1 l w h (by decide) (by decide) (by omega))
    have HB : Hid (bsOf 1 1 = [true]) := by show _ = _; decide
    clear h hl
    go_enter Tryd.func17, Tryd.ntmps17
    go_wp2_with fail
    refine (U.out).mono ?_; rintro e w1 ⟨x1, rfl, h1, k1, -⟩
    go_wp2
    go_end0
    exact ⟨rfl, by rw [← HB.out]; exact h1, k1⟩
  | false =>
    have U := Lib.hid (wput_yes b B 0 1 l w h (by decide) (by decide) (by omega))
    have HB : Hid (bsOf 0 1 = [false]) := by show _ = _; decide
    clear h hl
    go_enter Tryd.func17, Tryd.ntmps17
    go_wp2_with fail
    refine (U.out).mono ?_; rintro e w1 ⟨x1, rfl, h1, k1, -⟩
    go_wp2
    go_end0
    exact ⟨rfl, by rw [← HB.out]; exact h1, k1⟩
set_option maxRecDepth 20000 in
theorem wbytes_any (b B : Nat) (l : List Bool) (w : World) (h : WrAt w b B l) : Calls Tryd.prog 21 #[.pointer (some ⟨b, 0, none⟩)] w (CPost w (pkL l)) := by
  obtain ⟨v, ⟨⟨c0, c1⟩, f0, f1⟩, ho, h3, h4⟩ := h
  have U := Lib.hid (clb_any (pkL l) v w (Bys.of_owns ho (pkL_lt l) (by rw [pkL_length]; omega)))
  obtain ⟨a, cap, rfl⟩ : ∃ a cap, v = .slice a ((l.length + 7) / 8) cap := by
    rcases ho.2 with ⟨rfl, h0⟩ | ⟨g, cap, cur, rfl, -⟩
    · exact ⟨none, 0, by rw [h0]⟩
    · exact ⟨_, _, rfl⟩
  generalize (l.length + 7) / 8 = n at *
  clear ho h3 h4 c1 f0 f1
  go_enter Tryd.func21, Tryd.ntmps21
  go_wp2_with fail
  refine (U.out).mono ?_; rintro e w1 ⟨u, rfl, ho, hx⟩
  go_wp2
  go_ret
  exact ⟨_, rfl, ho, hx⟩
end Go.Proofs.YtehmgieocoppjaaDoor

/- (*bits.Reader).Get: its contract over this seat's translation. -/
namespace Go.Proofs.YtehmgieocoppjaaDoor
set_option linter.unusedVariables false
set_option linter.unusedSimpArgs false
open Go.RowKit Go.Extern.Stop Go.Stop Go.Extern
variable {F : Nat → Prop}

def bitsS : ByteArray := { data := #[98, 105, 116, 115] }
/-- why bits are not read; what is read; where the reader then stands -/
def rdF (bs : List Nat) (p : Nat) (n : Int) : Fall := if 0 ≤ n ∧ n ≤ 32 then (if n ≤ ((8 * bs.length - p : Nat) : Int) then none else some ([(bitsS, (p : Int))], 1)) else range
def rdV (bs : List Nat) (p : Nat) (n : Int) : Int := match rdF bs p n with
  | none => (nmN bs p n.toNat : Nat)
  | some _ => 0
def rdP (bs : List Nat) (p : Nat) (n : Int) : Nat := match rdF bs p n with
  | none => p + n.toNat
  | some _ => p
/-- a number and an error, the reader's place -/
def RgPost (F : Nat → Prop) (w : World) (b : Nat) (bs : List Nat) (v : Int) (q : Nat) (f : Fall) (e : Ending) (w' : World) : Prop := ∃ x, e = .returned (.tuple #[.int .i64 v, x]) ∧ Kp b w w' ∧ RdAt F w' b bs q ∧ ErrIs w' f x
set_option maxHeartbeats 4000000 in
set_option maxRecDepth 20000 in
theorem rget_yes (b p N : Nat) (bs : List Nat) (w : World) (h : RdAt F w b bs p) (hp : p + N ≤ 8 * bs.length) (hN : N ≤ 32) :
    Calls Tryd.prog 45 #[.pointer (some ⟨b, 0, none⟩), .int .i64 (N : Int)] w (RgPost F w b bs (nmN bs p N : Nat) (p + N) none) := by
  have L := Lib.hid (left_any b p bs w h (by omega))
  have HR := Lib.hid h
  have hl : bs.length ≤ 140737488355328 := by obtain ⟨_, _, _, ⟨-, -, hl⟩, -⟩ := h; exact hl
  obtain ⟨D, hD⟩ : ∃ D, 8 * bs.length - p = D := ⟨_, rfl⟩
  rw [hD] at L
  have d1 : (N : Int) ≤ (D : Int) := by omega
  clear h hD
  go_enter Tryd.func45, Tryd.ntmps45
  go_wp2_with fail
  refine (L.out).mono ?_; rintro e w1 ⟨rfl, hx1⟩
  have HR1 := Lib.hid (HR.out.ext hx1)
  have K1 := Lib.hid (Kp.of_ext (b := b) hx1)
  clear HR hx1 L
  go_wp2_with fail
  go_loopw [1, 6] (fun nv vv wr => ∃ k : Nat, k ≤ N ∧ nv = .int .i64 ((N - k : Nat) : Int) ∧ vv = .int .i64 ((nmN bs p k : Nat) : Int) ∧ Hid (RdAt F wr b bs (p + k)) ∧ Hid (Kp b w wr)) (fun nv _ _ => (intOf nv).toNat)
  case atStart => exact ⟨0, Nat.zero_le _, by rw [Nat.sub_zero], rfl, HR1.out, K1.out⟩
  case round =>
    clear HR1 K1
    obtain ⟨k, hk, rfl, rfl, HR, HK⟩ := hrel
    by_cases hlt : k < N
    · obtain ⟨a, cap, ⟨c0, c1, f1⟩, hB, hne⟩ := HR.out
      obtain ⟨P, hP⟩ : ∃ P, P = p + k := ⟨_, rfl⟩
      obtain ⟨q, hq⟩ : ∃ q, q = P / 8 := ⟨_, rfl⟩
      obtain ⟨r, hr⟩ : ∃ r, r = P % 8 := ⟨_, rfl⟩
      obtain ⟨m, hm⟩ : ∃ m, m = N - k := ⟨_, rfl⟩
      obtain ⟨u, hu⟩ : ∃ u, u = 8 - r := ⟨_, rfl⟩
      obtain ⟨t, ht⟩ : ∃ t, t = min u m := ⟨_, rfl⟩
      obtain ⟨d, hd⟩ : ∃ d, d = u - t := ⟨_, rfl⟩
      have hq1 : q < bs.length := by omega
      obtain ⟨g, off, rfl⟩ := hB.had (by omega)
      have cB := hB.at (nget_of_lt hq1)
      have hBl := hB.lt q
      have hin := nmN_in bs P t (by omega)
      have hadd := nmN_add bs p k t
      have hv := nmN_lt bs p k
      have hv2 := nmN_lt bs p (k + t)
      rw [← hP] at hadd c1
      rw [← hq, ← hr, show 8 - r - t = d by omega] at hin
      obtain ⟨B, hBB⟩ : ∃ B, bs.getD q 0 = B := ⟨_, rfl⟩
      rw [hBB] at cB hBl hin
      obtain ⟨x, hx⟩ : ∃ x, B / 2 ^ d = x := ⟨_, rfl⟩
      obtain ⟨y, hy⟩ : ∃ y, x % 2 ^ t = y := ⟨_, rfl⟩
      rw [hx, hy] at hin
      rw [hin] at hadd
      obtain ⟨V, hV⟩ : ∃ V, nmN bs p k = V := ⟨_, rfl⟩
      obtain ⟨V2, hV2⟩ : ∃ V2, nmN bs p (k + t) = V2 := ⟨_, rfl⟩
      rw [hV] at hv hadd ⊢
      rw [hV2] at hv2 hadd
      have hxB : x ≤ B := by rw [← hx]; exact Nat.div_le_self _ _
      have hyt : y < 2 ^ t := by rw [← hy]; exact Nat.mod_lt _ (Nat.two_pow_pos t)
      have ht8 : t ≤ 8 ∧ 1 ≤ t := by omega
      have hM : 2 ^ t ≤ 256 := Nat.le_trans (Nat.pow_le_pow_right (by decide) ht8.1) (by decide)
      have hM0 : 1 ≤ 2 ^ t := Nat.two_pow_pos t
      have hVb : V2 < 2 ^ 32 := Nat.lt_of_lt_of_le hv2 (Nat.pow_le_pow_right (by decide) (by omega))
      have b1 := and_mask x t (by omega) (by omega)
      have b2 := or_low V y t hyt (by omega)
      rw [hy] at b1
      rw [← hadd] at b2
      obtain ⟨M, hMM⟩ : ∃ M, 2 ^ t = M := ⟨_, rfl⟩
      obtain ⟨M1, hM1⟩ : ∃ M1, M - 1 = M1 := ⟨_, rfl⟩
      obtain ⟨Z, hZ⟩ : ∃ Z, V * M = Z := ⟨_, rfl⟩
      rw [hMM] at hM hM0 b1 b2 hyt hadd
      rw [hM1] at b1
      rw [hZ] at b2 hadd
      have i1 : (P : Int) % 8 = (r : Int) := by omega
      have i2 : Int.tmod (P : Int) 8 = (r : Int) := by rw [Int.tmod_eq_emod_of_nonneg (by omega)]; exact i1
      have i3 : Int.tdiv (P : Int) 8 = (q : Int) := by rw [Int.tdiv_eq_ediv_of_nonneg (by omega)]; omega
      have i4 : (P : Int) / 8 = (q : Int) := by omega
      have i5 : IntKind.i64.wrap (8 - (r : Int)) = (u : Int) := by rw [IntKind.wrap_i64]; omega
      have i6 : (8 : Int) - (r : Int) = (u : Int) := by omega
      have i7 : min (u : Int) (m : Int) = (t : Int) := by omega
      have i8 : IntKind.i64.wrap ((u : Int) - (t : Int)) = (d : Int) := by rw [IntKind.wrap_i64]; omega
      have i9 : (u : Int) - (t : Int) = (d : Int) := by omega
      have j1 : (B : Int) / 2 ^ d = (x : Int) := by rw [← hx]; simp
      have jp : (2 : Int) ^ t = (M : Int) := by rw [← hMM]; simp
      have j2 : IntKind.i64.wrap (1 * 2 ^ t) = (M : Int) := by rw [jp, IntKind.wrap_i64]; omega
      have j3 : IntKind.i64.wrap (M : Int) = (M : Int) := by rw [IntKind.wrap_i64]; omega
      have j4 : IntKind.i64.wrap ((M : Int) - 1) = (M1 : Int) := by rw [IntKind.wrap_i64]; omega
      have j5 : (M : Int) - 1 = (M1 : Int) := by omega
      have jz : (V : Int) * (M : Int) = (Z : Int) := by rw [← hZ]; simp
      have j6 : IntKind.i64.wrap ((V : Int) * 2 ^ t) = (Z : Int) := by rw [jp, jz, IntKind.wrap_i64]; omega
      have jy : IntKind.i64.wrap (Z : Int) = (Z : Int) := by rw [IntKind.wrap_i64]; omega
      have j7 : IntKind.i64.wrap ((m : Int) - (t : Int)) = ((N - (k + t) : Nat) : Int) := by rw [IntKind.wrap_i64]; omega
      have j8 : (m : Int) - (t : Int) = ((N - (k + t) : Nat) : Int) := by omega
      have j9 : IntKind.i64.wrap ((P : Int) + (t : Int)) = ((P + t : Nat) : Int) := by rw [IntKind.wrap_i64]; omega
      have jA : IntKind.i64.wrap (B : Int) = (B : Int) := by rw [IntKind.wrap_i64]; omega
      have q1 : (0 : Int) ≤ (q : Int) := by omega
      have q2 : (q : Int) < (bs.length : Int) := by omega
      have m1 : (0 : Int) < (m : Int) := by omega
      have r2 := mn2
      have HE : Hid (V2 = nmN bs p (k + t) ∧ P + t = p + (k + t) ∧ k + t ≤ N ∧ N - (k + t) < N - k) := ⟨hV2.symm, by omega, by omega, by omega⟩
      have d9 : (0 : Int) ≤ (d : Int) ∧ (d : Int) ≤ 64 := by omega
      have t9 : (0 : Int) ≤ (t : Int) ∧ (t : Int) ≤ 64 := by omega
      have hPP := Lib.hid hP.symm
      have hmm := Lib.hid hm.symm
      rw [← hm]
      clear hP hq hr hm hu ht hd hin hadd hv hv2 hx hy hV hV2 hMM hM1 hZ hB hBB hne
      go_wp2_with fail
      go_quiet (fail)
      have D1 : Ext wr (wr.drewN nq) := (Ext.refl wr).drewN _
      have HR2 := Lib.hid (HR.out.ext D1)
      have K2 := Lib.hid (HK.out.ext D1)
      clear HR HK D1 c0 c1 f1 cB
      revert HR2 K2
      generalize wr.drewN nq = wq
      intro HR2 K2
      obtain ⟨a, cap, ⟨c0, c1, f1⟩, -, -⟩ := HR2.out
      rw [hPP.out] at c1
      go_wp2
      go_roundw
      case rel => exact ⟨k + t, HE.out.2.2.1, rfl, by rw [HE.out.1], by rw [← HE.out.2.1]; exact HR2.out.set _, K2.out.set 1 _⟩
      case measure => simp only [intOf]; have h1 := HE.out.2.2.2; have h2 := hmm.out; omega
    · obtain rfl : k = N := by omega
      have n0 : ((k - k : Nat) : Int) = 0 := by omega
      rw [n0]
      clear n0
      go_wp2
      go_ret2
      exact ⟨_, rfl, HK.out, HR.out, rfl⟩
end Go.Proofs.YtehmgieocoppjaaDoor

/- (*bits.Reader).Get at all arguments; Flag: contracts over this seat's translation. -/
namespace Go.Proofs.YtehmgieocoppjaaDoor
set_option linter.unusedVariables false
set_option linter.unusedSimpArgs false
open Go.RowKit Go.Extern.Stop Go.Stop Go.Extern
variable {F : Nat → Prop}

set_option maxHeartbeats 4000000 in
set_option maxRecDepth 20000 in
theorem rdget_any (b p : Nat) (n : Int) (bs : List Nat) (w : World) (h : RdAt F w b bs p) (hp : p ≤ 8 * bs.length) :
    Calls Tryd.prog 45 #[.pointer (some ⟨b, 0, none⟩), .int .i64 n] w (RgPost F w b bs (rdV bs p n) (rdP bs p n) (rdF bs p n)) := by
  by_cases h1 : n < 0
  · have HR : Hid (rdF bs p n = range) := by show _ = _; unfold rdF; rw [if_neg (by omega)]
    have HV : Hid (rdV bs p n = 0 ∧ rdP bs p n = p) := by unfold rdV rdP; rw [HR.out]; exact ⟨rfl, rfl⟩
    go_enter Tryd.func45, Tryd.ntmps45
    go_wp2
    go_ret2
    exact ⟨.iface 36 (.int .i64 3), by rw [HV.out.1]; rfl, Kp.refl _ _, by rw [HV.out.2]; exact h, by rw [HR.out]; exact ErrIs.code (by decide)⟩
  · by_cases h2 : 32 < n
    · have HR : Hid (rdF bs p n = range) := by show _ = _; unfold rdF; rw [if_neg (by omega)]
      have HV : Hid (rdV bs p n = 0 ∧ rdP bs p n = p) := by unfold rdV rdP; rw [HR.out]; exact ⟨rfl, rfl⟩
      go_enter Tryd.func45, Tryd.ntmps45
      go_wp2
      go_ret2
      exact ⟨.iface 36 (.int .i64 3), by rw [HV.out.1]; rfl, Kp.refl _ _, by rw [HV.out.2]; exact h, by rw [HR.out]; exact ErrIs.code (by decide)⟩
    · by_cases h3 : n ≤ ((8 * bs.length - p : Nat) : Int)
      · obtain ⟨N, rfl⟩ : ∃ N : Nat, n = (N : Int) := ⟨n.toNat, by omega⟩
        have hR : rdF bs p (N : Int) = none := by unfold rdF; rw [if_pos (by omega), if_pos h3]
        have hV : rdV bs p (N : Int) = (nmN bs p N : Nat) := by unfold rdV; rw [hR]; rfl
        have hP : rdP bs p (N : Int) = p + N := by unfold rdP; rw [hR]; rfl
        rw [hR, hV, hP]
        exact rget_yes b p N bs w h (by omega) (by omega)
      · have L := Lib.hid (left_any b p bs w h hp)
        have HR : Hid (rdF bs p n = some ([(bitsS, (p : Int))], 1)) := by show _ = _; unfold rdF; rw [if_pos (by omega), if_neg h3]
        have HV : Hid (rdV bs p n = 0 ∧ rdP bs p n = p) := by unfold rdV rdP; rw [HR.out]; exact ⟨rfl, rfl⟩
        obtain ⟨D, hD⟩ : ∃ D, 8 * bs.length - p = D := ⟨_, rfl⟩
        rw [hD] at L h3
        have HA := Lib.hid h
        clear h hD hp
        go_enter Tryd.func45, Tryd.ntmps45
        go_wp2_with fail
        refine (L.out).mono ?_; rintro e w1 ⟨rfl, hx1⟩
        have H1 := Lib.hid (HA.out.ext hx1)
        obtain ⟨a, cap, ⟨c0, c1, f1⟩, -, -⟩ := H1.out
        go_wp2_with fail
        refine (in_err bitsS (p : Int) [] 1 (.iface 36 (.int .i64 1)) _ rfl).mono ?_; rintro e w2 ⟨u, rfl, hx2, he2⟩
        go_wp2
        go_ret2
        exact ⟨u, by rw [HV.out.1]; rfl, Kp.of_ext (hx1.trans hx2), by rw [HV.out.2]; exact H1.out.ext hx2, by rw [HR.out]; exact ⟨he2, by decide, by simp⟩⟩
/-- a bit and an error, the reader's place -/
def RfPost (F : Nat → Prop) (w : World) (b : Nat) (bs : List Nat) (v : Bool) (q : Nat) (f : Fall) (e : Ending) (w' : World) : Prop := ∃ x, e = .returned (.tuple #[.bool v, x]) ∧ Kp b w w' ∧ RdAt F w' b bs q ∧ ErrIs w' f x
set_option maxHeartbeats 4000000 in
set_option maxRecDepth 20000 in
theorem rdflag_any (b p : Nat) (bs : List Nat) (w : World) (h : RdAt F w b bs p) (hp : p ≤ 8 * bs.length) :
    Calls Tryd.prog 44 #[.pointer (some ⟨b, 0, none⟩)] w (RfPost F w b bs (rdV bs p 1 == 1) (rdP bs p 1) (rdF bs p 1)) := by
  have G := Lib.hid (rdget_any b p 1 bs w h hp)
  obtain ⟨v, hv⟩ : ∃ v, rdV bs p 1 = v := ⟨_, rfl⟩
  rw [hv] at G ⊢
  clear h hp hv
  go_enter Tryd.func44, Tryd.ntmps44
  go_wp2_with fail
  refine (G.out).mono ?_; rintro e w1 ⟨x, rfl, k1, r1, e1⟩
  go_wp2
  go_ret2
  exact ⟨_, rfl, k1, r1, e1⟩
end Go.Proofs.YtehmgieocoppjaaDoor

/- (*bits.Reader).Align: its contract over this seat's translation. -/
namespace Go.Proofs.YtehmgieocoppjaaDoor
set_option linter.unusedVariables false
set_option linter.unusedSimpArgs false
open Go.RowKit Go.Extern.Stop Go.Stop Go.Extern
variable {F : Nat → Prop}

theorem IsErr.kp {w w' : World} {b : Nat} {a : Option Addr} {n cap : Nat} (k : Kp b w w') (hb : w.cell? ⟨b, 0, none⟩ = some (.slice a n cap)) : ∀ {p : List (ByteArray × Int)} {c : Int} {v : Value}, IsErr w p c v → IsErr w' p c v
  | [], _, _, hv => hv
  | (_, _) :: _, _, _, ⟨g, u, hv, h0, h1, h2, hu⟩ => by
    have hg : g ≠ b := fun e => by subst e; rw [hb] at h0; cases h0
    exact ⟨g, u, hv, k.cell h0 hg, k.cell h1 hg, k.cell h2 hg, IsErr.kp k hb hu⟩
theorem ErrIs.kp {w w' : World} {b : Nat} {a : Option Addr} {n cap : Nat} {f : Fall} {x : Value} (h : ErrIs w f x) (k : Kp b w w') (hb : w.cell? ⟨b, 0, none⟩ = some (.slice a n cap)) : ErrIs w' f x := by
  cases f with
  | none => exact h
  | some a => exact ⟨IsErr.kp k hb h.1, h.2⟩
def alF (bs : List Nat) (p : Nat) : Nat → Fall
  | 0 => none
  | k + 1 => match alF bs p k with
    | some f => some f
    | none => if btN bs (p + k) = 1 then some ([(bitsS, ((p + k : Nat) : Int))], 2) else none
def alD (p : Nat) : Nat := (8 - p % 8) % 8
def APost (F : Nat → Prop) (w : World) (b : Nat) (bs : List Nat) (q : Nat) (f : Fall) (e : Ending) (w' : World) : Prop := ∃ x, e = .returned x ∧ Kp b w w' ∧ RdAt F w' b bs q ∧ ErrIs w' f x
theorem rd_bit {bs : List Nat} {p : Nat} (h : p + 1 ≤ 8 * bs.length) : rdF bs p 1 = none ∧ rdV bs p 1 = (btN bs p : Nat) ∧ rdP bs p 1 = p + 1 := by
  have hR : rdF bs p 1 = none := by unfold rdF; rw [if_pos (by decide), if_pos (by omega)]
  refine ⟨hR, ?_, ?_⟩
  · unfold rdV; rw [hR]; show ((nmN bs p 1 : Nat) : Int) = _; rw [nmN_one]
  · unfold rdP; rw [hR]; rfl
end Go.Proofs.YtehmgieocoppjaaDoor

/- bits.NewReader: its contract over this seat's translation. -/
namespace Go.Proofs.YtehmgieocoppjaaDoor
set_option linter.unusedVariables false
set_option linter.unusedSimpArgs false
open Go.RowKit Go.Extern.Stop Go.Stop Go.Extern
variable {F : Nat → Prop}

def NPost (w : World) (bs : List Nat) (e : Ending) (w' : World) : Prop := ∃ b, e = .returned (.pointer (some ⟨b, 0, none⟩)) ∧ w.heap.size ≤ b ∧ RdAt (fun g => g < w.heap.size ∨ w'.heap.size ≤ g) w' b bs 0 ∧ Ext w w'
set_option maxRecDepth 20000 in
set_option maxHeartbeats 2000000 in
theorem newrd_any (bs : List Nat) (v : Value) (w : World) (ha : Bys w v bs) : Calls Tryd.prog 26 #[v] w (NPost w bs) := by
  have U := Lib.hid (clb_any bs v w ha)
  have hb := ha.2
  have HB := Lib.hid hb
  clear ha hb
  go_enter Tryd.func26, Tryd.ntmps26
  go_wp2_with fail
  refine (U.out).mono ?_; rintro e w1 ⟨u, rfl, ho, hx1⟩
  have HY := Bys.of_owns ho HB.out.1 HB.out.2
  obtain ⟨a, cap, rfl⟩ := HY.form
  have hg : ∀ g off, a = some ⟨g, off, none⟩ → w.heap.size ≤ g ∧ g < w1.heap.size := fun g off ha => by
    subst ha
    exact ho.lt g rfl
  have HY1 := Lib.hid HY
  have HG := Lib.hid hg
  clear ho HY hg
  go_wp2
  go_ret
  exact ⟨_, rfl, hx1.size, ⟨a, cap, ⟨by simp, by simp, by simp⟩, HY1.out.ext ((Ext.refl _).alloc _), fun g off ha => ⟨by have := HG.out g off ha; omega, fun e => by have := HG.out g off ha; simp only [World.size_alloc] at e; omega⟩⟩, hx1.alloc _⟩
end Go.Proofs.YtehmgieocoppjaaDoor

/- Bytes as strings; kinref.Bytes: its contract over this seat's translation. -/
namespace Go.Proofs.YtehmgieocoppjaaDoor
set_option linter.unusedVariables false
set_option linter.unusedSimpArgs false
open Go.RowKit Go.Extern.Stop Go.Stop Go.Extern

def strOf (bs : List Nat) : ByteArray := strOfNums (bs.map fun x : Nat => (x : Int))
theorem conv_bys {w : World} {a : Option Addr} {n cap : Nat} {bs : List Nat} (h : Bys w (.slice a n cap) bs) : (convert 43 9 (.slice a n cap)).run Tryd.prog w = .ok (.string (strOf bs)) w := by
  have hl := h.len
  by_cases h0 : n = 0
  · subst h0
    obtain rfl : bs = [] := List.eq_nil_of_length_eq_zero hl.symm
    rw [run_convert_bytes_string w 43 9 5 _ 0 cap Tryd.underlying43 Tryd.underlying5 Tryd.underlying9]
    cases a <;> simp [Conv.bytesToString, loadCells]
    all_goals rfl
  · obtain ⟨g, off, rfl⟩ := h.had (by omega)
    refine run_convert_bytes_arg w 43 5 Tryd.underlying43 Tryd.underlying5 g off n cap (bs.map fun x : Nat => (x : Int)) (by rw [List.length_map, hl]) (fun i hi => ?_) 9 Tryd.underlying9
    rw [h.at (nget_of_lt (j := i) (by omega))]
    have e : (bs.map fun x : Nat => (x : Int)).getD i 0 = ((bs.getD i 0 : Nat) : Int) := by
      rw [List.getD, List.getElem?_map, nget_of_lt (j := i) (by omega)]
      rfl
    rw [e]
theorem strOf_data (bs : List Nat) : (strOf bs).data.toList = bs.map fun x => UInt8.ofNat x := by
  unfold strOf strOfNums
  simp [List.map_map]
theorem strOf_inj {xs ys : List Nat} (hx : ∀ x ∈ xs, x < 256) (hy : ∀ x ∈ ys, x < 256) (h : strOf xs = strOf ys) : xs = ys := by
  have h2 : xs.map (fun x => UInt8.ofNat x) = ys.map fun x => UInt8.ofNat x := by rw [← strOf_data, ← strOf_data, h]
  have h3 := congrArg (List.map UInt8.toNat) h2
  rw [List.map_map, List.map_map] at h3
  have id1 : ∀ zs : List Nat, (∀ x ∈ zs, x < 256) → zs.map (UInt8.toNat ∘ fun x => UInt8.ofNat x) = zs := fun zs hz => by
    conv => rhs; rw [← List.map_id zs]
    apply List.map_congr_left
    intro x hx
    have := hz x hx
    simp [Nat.mod_eq_of_lt this]
  rwa [id1 xs hx, id1 ys hy] at h3
set_option maxRecDepth 20000 in
theorem bytes_same (bs : List Nat) (u v : Value) (w : World) (h : Bys w u bs) (k : Bys w v bs) : Calls Tryd.prog 22 #[u, v] w fun e w' => e = .returned (.bool true) ∧ w = w' := by
  obtain ⟨a, ca, rfl⟩ := h.form
  obtain ⟨b, cb, rfl⟩ := k.form
  have c1 := conv_bys h
  have c2 := conv_bys k
  generalize strOf bs = s at *
  generalize bs.length = n at *
  clear h k
  go_enter Tryd.func22, Tryd.ntmps22
  go_wp2
  go_ret
  exact ⟨rfl, rfl⟩
end Go.Proofs.YtehmgieocoppjaaDoor
