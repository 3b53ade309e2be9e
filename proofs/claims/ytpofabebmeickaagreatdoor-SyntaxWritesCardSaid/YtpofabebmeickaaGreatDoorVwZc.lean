/- Contracts of this seat: Pa2, Pa3, Pa4, Pa5, Pa6. -/
import Derived.Test.YtpofabebmeickaaGreatDoorVwZb
import Derived.Deep.RegionLaw
/- A rac.Encoder; NewEncoder, Len: contracts over this seat's translation. -/
namespace Go.Proofs.YtpofabebmeickaaGreatDoor
set_option linter.unusedVariables false
set_option linter.unusedSimpArgs false
open Go.RowKit Go.Extern.Stop Go.Stop Go.Extern

/-- an encoder's five cells, which may be written -/
def EcBox (w : World) (b : Nat) (v : Value) (h : Int) (r l d : Nat) : Prop := (w.cell? ⟨b, 0, none⟩ = some v ∧ w.cell? ⟨b, 1, none⟩ = some (.int .i64 h) ∧ w.cell? ⟨b, 2, none⟩ = some (.int .i64 (r : Int)) ∧ w.cell? ⟨b, 3, none⟩ = some (.int .u64 (l : Int)) ∧ w.cell? ⟨b, 4, none⟩ = some (.int .u64 (d : Int))) ∧
  w.frozen? ⟨b, 0, none⟩ = false ∧ w.frozen? ⟨b, 1, none⟩ = false ∧ w.frozen? ⟨b, 2, none⟩ = false ∧ w.frozen? ⟨b, 3, none⟩ = false ∧ w.frozen? ⟨b, 4, none⟩ = false
section
variable {w w' : World} {b : Nat} {v : Value} {h : Int} {r l d : Nat}
theorem EcBox.same (x : EcBox w b v h r l d) (k : w'.heap[b]? = w.heap[b]?) : EcBox w' b v h r l d := by
  obtain ⟨⟨c0, c1, c2, c3, c4⟩, f0, f1, f2, f3, f4⟩ := x
  have c : ∀ i, w'.cell? ⟨b, i, none⟩ = w.cell? ⟨b, i, none⟩ := fun i => World.cell?_of_block (a := ⟨b, i, none⟩) k
  have f : ∀ i, w'.frozen? ⟨b, i, none⟩ = w.frozen? ⟨b, i, none⟩ := fun i => World.frozen?_of_block (a := ⟨b, i, none⟩) k
  exact ⟨⟨(c 0).trans c0, (c 1).trans c1, (c 2).trans c2, (c 3).trans c3, (c 4).trans c4⟩, (f 0).trans f0, (f 1).trans f1, (f 2).trans f2, (f 3).trans f3, (f 4).trans f4⟩
theorem EcBox.lt (x : EcBox w b v h r l d) : b < w.heap.size := Ext.lt (p := ⟨b, 0, none⟩) x.1.1
theorem EcBox.ext (x : EcBox w b v h r l d) (k : Ext w w') : EcBox w' b v h r l d := x.same (k.block x.lt)
theorem EcBox.set0 (x : EcBox w b v h r l d) (u : Value) : EcBox (w.setCell ⟨b, 0, none⟩ u) b u h r l d := by
  obtain ⟨⟨c0, c1, c2, c3, c4⟩, f0, f1, f2, f3, f4⟩ := x
  exact ⟨⟨World.cell?_setCell_same _ _ _ c0, (cell_off_ne _ (by decide)).trans c1, (cell_off_ne _ (by decide)).trans c2, (cell_off_ne _ (by decide)).trans c3, (cell_off_ne _ (by decide)).trans c4⟩, by simpa using f0, by simpa using f1, by simpa using f2, by simpa using f3, by simpa using f4⟩
theorem EcBox.set1 (x : EcBox w b v h r l d) (k : Int) : EcBox (w.setCell ⟨b, 1, none⟩ (.int .i64 k)) b v k r l d := by
  obtain ⟨⟨c0, c1, c2, c3, c4⟩, f0, f1, f2, f3, f4⟩ := x
  exact ⟨⟨(cell_off_ne _ (by decide)).trans c0, World.cell?_setCell_same _ _ _ c1, (cell_off_ne _ (by decide)).trans c2, (cell_off_ne _ (by decide)).trans c3, (cell_off_ne _ (by decide)).trans c4⟩, by simpa using f0, by simpa using f1, by simpa using f2, by simpa using f3, by simpa using f4⟩
theorem EcBox.set2 (x : EcBox w b v h r l d) (k : Nat) : EcBox (w.setCell ⟨b, 2, none⟩ (.int .i64 (k : Int))) b v h k l d := by
  obtain ⟨⟨c0, c1, c2, c3, c4⟩, f0, f1, f2, f3, f4⟩ := x
  exact ⟨⟨(cell_off_ne _ (by decide)).trans c0, (cell_off_ne _ (by decide)).trans c1, World.cell?_setCell_same _ _ _ c2, (cell_off_ne _ (by decide)).trans c3, (cell_off_ne _ (by decide)).trans c4⟩, by simpa using f0, by simpa using f1, by simpa using f2, by simpa using f3, by simpa using f4⟩
theorem EcBox.set3 (x : EcBox w b v h r l d) (k : Nat) : EcBox (w.setCell ⟨b, 3, none⟩ (.int .u64 (k : Int))) b v h r k d := by
  obtain ⟨⟨c0, c1, c2, c3, c4⟩, f0, f1, f2, f3, f4⟩ := x
  exact ⟨⟨(cell_off_ne _ (by decide)).trans c0, (cell_off_ne _ (by decide)).trans c1, (cell_off_ne _ (by decide)).trans c2, World.cell?_setCell_same _ _ _ c3, (cell_off_ne _ (by decide)).trans c4⟩, by simpa using f0, by simpa using f1, by simpa using f2, by simpa using f3, by simpa using f4⟩
theorem EcBox.set4 (x : EcBox w b v h r l d) (k : Nat) : EcBox (w.setCell ⟨b, 4, none⟩ (.int .u64 (k : Int))) b v h r l k := by
  obtain ⟨⟨c0, c1, c2, c3, c4⟩, f0, f1, f2, f3, f4⟩ := x
  exact ⟨⟨(cell_off_ne _ (by decide)).trans c0, (cell_off_ne _ (by decide)).trans c1, (cell_off_ne _ (by decide)).trans c2, (cell_off_ne _ (by decide)).trans c3, World.cell?_setCell_same _ _ _ c4⟩, by simpa using f0, by simpa using f1, by simpa using f2, by simpa using f3, by simpa using f4⟩
end

/-- what an encoder at b leaves as it was: what B protects, and what is no block of bytes -/
def PKp (b : Nat) (B : Nat → Prop) (w w' : World) : Prop := (w'.os = w.os ∧ w'.tape = w.tape ∧ w'.output = w.output) ∧ w.heap.size ≤ w'.heap.size ∧ ∀ k, k < w.heap.size → k ≠ b → (B k ∨ ¬ u8Blk w k) → w'.heap[k]? = w.heap[k]?
theorem PKp.refl (b : Nat) (B : Nat → Prop) (w : World) : PKp b B w w := ⟨⟨rfl, rfl, rfl⟩, Nat.le_refl _, fun _ _ _ _ => rfl⟩
theorem PKp.trans {b : Nat} {B : Nat → Prop} {u v w : World} (h : PKp b B u v) (k : PKp b B v w) : PKp b B u w := by
  obtain ⟨⟨h1, h2, h3⟩, h4, h5⟩ := h
  obtain ⟨⟨k1, k2, k3⟩, k4, k5⟩ := k
  refine ⟨⟨k1.trans h1, k2.trans h2, k3.trans h3⟩, Nat.le_trans h4 k4, fun i hi hb hc => ?_⟩
  have e := h5 i hi hb hc
  refine (k5 i (Nat.lt_of_lt_of_le hi h4) hb ?_).trans e
  rcases hc with hc | hc
  · exact .inl hc
  · exact .inr fun ⟨cs, fr, hh⟩ => hc ⟨cs, fr, by rw [← e]; exact hh⟩
theorem PKp.of_ext {b : Nat} {B : Nat → Prop} {w w' : World} (h : Ext w w') : PKp b B w w' := ⟨⟨Below.os h, Below.tape h, Below.output h⟩, h.size, fun _ hi _ _ => h.block hi⟩
theorem PKp.ext {b : Nat} {B : Nat → Prop} {u v w : World} (h : PKp b B u v) (k : Ext v w) : PKp b B u w := h.trans (PKp.of_ext k)
theorem PKp.of_kp {b : Nat} {B : Nat → Prop} {w w' : World} (h : Kp b w w') : PKp b B w w' := ⟨⟨World.grownBy.os h, World.grownBy.tape h, World.grownBy.output h⟩, h.size, fun _ hi hb _ => h.block hi hb⟩
theorem PKp.out {b : Nat} {B : Nat → Prop} {u v w : World} (h : Ext u v) (k : PKp b B v w) (hb : u.heap.size ≤ b) (hB : ∀ i, i < u.heap.size → B i) : Ext u w :=
  Below.trans (c := w) h ⟨k.1.1, k.1.2.1, k.1.2.2, k.2.1, fun i hi => k.2.2 i (Nat.lt_of_lt_of_le hi h.size) (by omega) (.inl (hB i hi))⟩
theorem PKp.block {b : Nat} {B : Nat → Prop} {u v : World} (k : PKp b B u v) {i : Nat} (hi : i < u.heap.size) (hB : B i) (hb : i ≠ b) : v.heap[i]? = u.heap[i]? := k.2.2 i hi hb (.inl hB)
theorem PKp.cell {b : Nat} {B : Nat → Prop} {u v : World} (k : PKp b B u v) {p : Addr} {x : Value} (hp : u.cell? p = some x) (hi : B p.block) (hb : p.block ≠ b) : v.cell? p = some x :=
  (World.cell?_of_block (k.2.2 p.block (Ext.lt hp) hb (.inl hi))).trans hp
theorem own_set_ne {w : World} {base : Nat} {e : TypeId} {size : Nat} {v : Value} {n : Nat} {xs : List Value} (h : w.ownsRow base e size v n xs) {p : Addr} (u : Value) (hp : v.ownBlock ≠ some p.block) : (w.setCell p u).ownsRow base e size v n xs := by
  obtain ⟨h1, h2⟩ := h
  refine ⟨h1, ?_⟩
  rcases h2 with h2 | ⟨g, cap, cur, rfl, hg, hh, r⟩
  · exact Or.inl h2
  · refine Or.inr ⟨g, cap, cur, rfl, hg, ?_, r⟩
    rw [Below.heap_setCell _ _ _ _ (fun e => hp (by simp [Value.ownBlock, e]))]; exact hh
/-- an encoder's row: no block that B protects, with these bytes -/
def EcRow (w : World) (b : Nat) (B : Nat → Prop) (v : Value) (xs : List Nat) : Prop := w.ownsRow 0 5 1 v xs.length (byC xs) ∧ (∀ g, v.ownBlock = some g → ¬ B g) ∧ B b ∧ ∀ g, B g → g < w.heap.size
theorem EcRow.ext {w w' : World} {b : Nat} {B : Nat → Prop} {v : Value} {xs : List Nat} (h : EcRow w b B v xs) (k : Ext w w') : EcRow w' b B v xs := ⟨ownsRow_ext h.1 k, h.2.1, h.2.2.1, fun g hg => Nat.lt_of_lt_of_le (h.2.2.2 g hg) k.size⟩
theorem EcRow.set {w : World} {b : Nat} {B : Nat → Prop} {v : Value} {xs : List Nat} (h : EcRow w b B v xs) (i : Nat) (u : Value) : EcRow (w.setCell ⟨b, i, none⟩ u) b B v xs := ⟨own_set_ne h.1 u (fun e => h.2.1 _ e h.2.2.1), h.2.1, h.2.2.1, by simpa using h.2.2.2⟩
theorem EcRow.form {w : World} {b : Nat} {B : Nat → Prop} {v : Value} {xs : List Nat} (h : EcRow w b B v xs) : ∃ a c, v = .slice a xs.length c := by
  rcases h.1.2 with ⟨rfl, h0⟩ | ⟨g, cap, cur, rfl, -⟩
  · exact ⟨none, 0, by rw [h0]⟩
  · exact ⟨_, _, rfl⟩
def EcAt (w : World) (b : Nat) (B : Nat → Prop) (s : Ec) : Prop := ∃ v, EcBox w b v s.held s.run s.low s.wid ∧ EcRow w b B v s.done
theorem EcAt.ext {w w' : World} {b : Nat} {B : Nat → Prop} {s : Ec} (h : EcAt w b B s) (k : Ext w w') : EcAt w' b B s := by
  obtain ⟨v, h1, h2⟩ := h
  exact ⟨v, h1.ext k, h2.ext k⟩
theorem own_apartP {w w' : World} {b : Nat} {B : Nat → Prop} {v : Value} {n : Nat} {xs : List Value} (h : w.ownsRow 0 5 1 v n xs) (hv : ∀ g, v.ownBlock = some g → ¬ B g) (hg : w.grownBy w' v.ownBlock) : PKp b B w w' :=
  ⟨⟨hg.os, hg.tape, hg.output⟩, hg.size, fun k hk _ hc => hg.block k hk (fun e => by
    rcases h.2 with ⟨rfl, -⟩ | ⟨g, cap, cur, rfl, hb, hgg, -⟩
    · simp [Value.ownBlock] at e
    · simp only [Value.ownBlock, Option.some.injEq] at e
      subst e
      rcases hc with hc | hc
      · exact hv _ rfl hc
      · exact hc ⟨cur, (0, 0), hgg⟩)⟩
/-- one byte more, and the row stored -/
theorem en_push {W w' : World} {b n : Nat} {B : Nat → Prop} {v v' : Value} {h : Int} {r l d x : Nat} {xs : List Nat} (hB : EcBox W b v h r l d) (hR : EcRow W b B v xs) (hn : xs.length = n) (h1 : w'.ownsRow 0 5 1 v' (n + 1) (byC xs ++ [.int .u8 (x : Int)])) (h2 : W.grownBy w' v.ownBlock) (hf : ∀ g, v'.ownBlock = some g → v.ownBlock = some g ∨ W.heap.size ≤ g) :
    EcBox w' b v h r l d ∧ EcBox (w'.setCell ⟨b, 0, none⟩ v') b v' h r l d ∧ EcRow (w'.setCell ⟨b, 0, none⟩ v') b B v' (xs ++ [x]) ∧ PKp b B W (w'.setCell ⟨b, 0, none⟩ v') := by
  obtain ⟨r1, r2, r3, r4⟩ := hR
  have hbl : w'.heap[b]? = W.heap[b]? := h2.block b hB.lt (fun e => r2 _ e.symm r3)
  have hv : ∀ g, v'.ownBlock = some g → ¬ B g := fun g hg hb => (hf g hg).elim (fun h => r2 g h hb) (fun h => by have := r4 g hb; omega)
  have h3 : w'.ownsRow 0 5 1 v' (xs ++ [x]).length (byC (xs ++ [x])) := by
    rw [List.length_append, hn]
    have : byC (xs ++ [x]) = byC xs ++ [.int .u8 (x : Int)] := by simp [byC]
    rw [this]
    exact h1
  exact ⟨hB.same hbl, (hB.same hbl).set0 v', ⟨own_set_ne h3 _ (fun e => hv _ e r3), hv, r3, fun g hg => by simpa using Nat.lt_of_lt_of_le (r4 g hg) h2.size⟩, (own_apartP (b := b) r1 r2 h2).trans (PKp.of_kp ((Kp.refl b w').set 0 v'))⟩
theorem push_u8f {ops : Array Oper} {rest : List Oper} {o : Oper} {a : Act} {Q : Exit → Act → World → Prop} {W : World} (hgd : o.guard = none) (s y : Operand) (t : TypeId)
    (ho : o.op = .call { callee := .builtin .append, args := #[s, y], argTypes := #[t, t] }) (ht : Tryz.prog.underlying t = some (.slice 5))
    (v : Value) (n : Nat) (xs : List Value) (x : Int) (hs : a.eval s = v) (hown : W.ownsRow 0 5 1 v n xs) (hx : a.eval y = .slice (some ⟨W.heap.size, 0, none⟩) 1 1) (hn : n ≤ 1000000000000)
    (h : ∀ g cap w', w'.ownsRow 0 5 1 (.slice (some ⟨g, 0, none⟩) (n + 1) cap) (n + 1) (xs ++ [.int .u8 x]) → W.grownBy w' v.ownBlock → (∀ g', Value.ownBlock (.slice (some ⟨g, 0, none⟩) (n + 1) cap) = some g' → v.ownBlock = some g' ∨ W.heap.size ≤ g') → wpList Tryz.prog ops Q rest (a.put o.dst (.slice (some ⟨g, 0, none⟩) (n + 1) cap)) w') :
    wpList Tryz.prog ops Q (o :: rest) a (W.alloc (.cells #[.int .u8 x] 5)) := by
  obtain ⟨i0, hi, hz0, hz1, hz2⟩ := info_parts infoU8
  refine wpList_append_own_at _ hgd s y t ho 0 5 i0 (.int .u8 0) 1 1 ht hi hz0 hz1 hz2 rfl (by decide) v n xs hs (hown.alloc _) ⟨W.heap.size, 0, none⟩ 1 1 [.int .u8 x] hx rfl (cell_one_new _ _ _) (fun u hu => by obtain rfl := List.mem_singleton.1 hu; rfl) (by unfold maxLen; omega) (by omega) (Nat.zero_le _) ?_
  intro v' w' h1 h2 _ hat
  have g := World.grownBy_alloc W (.cells #[.int .u8 x] 5) v.ownBlock
  have hg : W.grownBy w' v.ownBlock := ⟨h2.os.trans g.os, h2.tape.trans g.tape, h2.output.trans g.output, Nat.le_trans g.size h2.size, fun k hk hne => (h2.block k (Nat.lt_of_lt_of_le hk g.size) hne).trans (g.block k hk hne)⟩
  obtain ⟨gg, cap, rfl⟩ : ∃ gg cap, v' = .slice (some ⟨gg, 0, none⟩) (n + 1) cap := by
    rcases h1.2 with ⟨-, h0⟩ | ⟨gg, cap, cur, e, -⟩
    · omega
    · exact ⟨gg, cap, e⟩
  refine h gg cap w' h1 hg (fun g' hg' => ?_)
  rcases hat with e | e
  · exact .inl (e ▸ hg')
  · right
    rw [hg'] at e
    have := Option.some.inj e
    rw [this]
    exact g.size
/-- a new encoder, at any base -/
def NEPost (w : World) (e : Ending) (w' : World) : Prop := ∃ b, e = .returned (.pointer (some ⟨b, 0, none⟩)) ∧ w.heap.size ≤ b ∧ EcBox w' b (.slice none 0 0) (-1) 0 0 4294967295 ∧ Ext w w'
def newE : Ec := ⟨[], -1, 0, 0, 4294967295⟩
theorem EcAt.new {w : World} {b : Nat} {B : Nat → Prop} (h : EcBox w b (.slice none 0 0) (-1) 0 0 4294967295) (h1 : B b) (h2 : ∀ g, B g → g < w.heap.size) : EcAt w b B newE := ⟨_, h, World.ownsRow_nil _ _ _ _, (fun g hg => by simp [Value.ownBlock] at hg), h1, h2⟩
set_option maxRecDepth 20000 in
theorem newen_any (w : World) : Calls Tryz.prog 30 #[] w (NEPost w) := by
  go_enter Tryz.func30, Tryz.ntmps30
  go_wp2
  go_ret
  exact ⟨_, rfl, Nat.le_refl _, ⟨⟨by simp, by simp, by simp, by simp, by simp⟩, by simp, by simp, by simp, by simp, by simp⟩, (Ext.refl w).alloc _⟩
end Go.Proofs.YtpofabebmeickaaGreatDoor

/- (*rac.Encoder).carry, shift: contracts over this seat's translation. -/
namespace Go.Proofs.YtpofabebmeickaaGreatDoor
set_option linter.unusedVariables false
set_option linter.unusedSimpArgs false
open Go.RowKit Go.Extern.Stop Go.Stop Go.Extern

theorem step_push_u8f {ops : Array Oper} {o : Oper} {a : Act} {K : Act → World → Prop} {Q : Exit → Act → World → Prop} {X : Prop} {W : World} (hgd : o.guard = none) (s y : Operand) (t : TypeId)
    (ho : o.op = .call { callee := .builtin .append, args := #[s, y], argTypes := #[t, t] }) (ht : Tryz.prog.underlying t = some (.slice 5))
    (v : Value) (n : Nat) (xs : List Value) (x : Int) (hs : a.eval s = v) (hown : W.ownsRow 0 5 1 v n xs) (hx : a.eval y = .slice (some ⟨W.heap.size, 0, none⟩) 1 1) (hn : n ≤ 1000000000)
    (h : ∀ g cap w', w'.ownsRow 0 5 1 (.slice (some ⟨g, 0, none⟩) (n + 1) cap) (n + 1) (xs ++ [.int .u8 x]) → W.grownBy w' v.ownBlock → (∀ g', Value.ownBlock (.slice (some ⟨g, 0, none⟩) (n + 1) cap) = some g' → v.ownBlock = some g' ∨ W.heap.size ≤ g') → K (a.put o.dst (.slice (some ⟨g, 0, none⟩) (n + 1) cap)) w') :
    if Region.wanted o (yielded ops a.tmps) = true then Oper.wp Tryz.prog o a ((W.alloc (.cells #[.int .u8 x] 5)).drew) K Q else X := by
  obtain ⟨i0, hi, hz0, hz1, hz2⟩ := info_parts infoU8
  have hown' : ((W.alloc (.cells #[.int .u8 x] 5)).drew).ownsRow 0 5 1 v n xs := (hown.alloc _).drew
  refine step_append_lies _ hgd s y t ho 0 5 i0 (.int .u8 0) 1 1 ht hi hz0 hz1 hz2 rfl (by decide) v n xs hs hown' ⟨W.heap.size, 0, none⟩ 1 1 [.int .u8 x] hx rfl (World.news_of_block (cs := #[.int .u8 x]) (t := 5) (fr := (0, 0)) (heap_alloc_new W _)) ?_ (by decide) (by unfold maxLen; omega) (by omega) (Nat.zero_le _) (W.heap.size + 1) (by simp) ?_
  · intro u hu
    simp only [List.mem_cons, List.not_mem_nil, or_false] at hu
    subst hu
    rfl
  intro g cap w' h1 h2 h3 _
  refine h g cap w' h1 ⟨h2.os, h2.tape, h2.output, Nat.le_trans (by simp) h2.size, fun k hk hne => ?_⟩ (fun g' hg' => by simp only [Value.ownBlock, Option.some.injEq] at hg'; subst hg'; exact h3.imp id (fun e => by omega))
  exact (h2.block k (by simp; omega) hne).trans (Below.heap_alloc W _ k hk)
def EnPost (w : World) (b : Nat) (B : Nat → Prop) (s : Ec) (e : Ending) (w' : World) : Prop := e = .returned (.tuple #[]) ∧ EcAt w' b B s ∧ PKp b B w w'
set_option maxRecDepth 20000 in
set_option maxHeartbeats 4000000 in
theorem carry_any (b : Nat) (B : Nat → Prop) (N : Nat) (s : Ec) (w : World) (h : EcAt w b B s) (hk : okE N s) (hN : N ≤ 100000000) : Calls Tryz.prog 146 #[.pointer (some ⟨b, 0, none⟩)] w (EnPost w b B (carE s)) := by
  obtain ⟨v, hB, hR⟩ := h
  obtain ⟨k1, ⟨k2, k3⟩, k4, k5, k6⟩ := hk
  obtain ⟨D, hd, r, l, d⟩ := s
  have k1 : D.length + r ≤ N := k1
  have k2 : -1 ≤ hd := k2
  have k3 : hd ≤ 255 + N := k3
  have hB : EcBox w b v hd r l d := hB
  have hR : EcRow w b B v D := hR
  have e1 : IntKind.i64.wrap (hd + 1) = hd + 1 := by rw [IntKind.wrap_i64]; omega
  have HB1 := Lib.hid (hB.set1 (hd + 1))
  have HR1 := Lib.hid (hR.set 1 (.int .i64 (hd + 1)))
  have HK1 := Lib.hid (PKp.of_kp (B := B) ((Kp.refl b w).set 1 (.int .i64 (hd + 1))))
  obtain ⟨⟨c0, c1, c2, c3, c4⟩, f0, f1, f2, f3, f4⟩ := hB
  clear hR k4 k5 k6
  by_cases hr : r = 0
  · subst hr
    have HC : Hid (carE ⟨D, hd, 0, l, d⟩ = ⟨D, hd + 1, 0, l, d⟩) := rfl
    go_enter Tryz.func146, Tryz.ntmps146
    go_wp2
    go_end0
    exact ⟨rfl, by rw [HC.out]; exact ⟨v, HB1.out, HR1.out⟩, HK1.out⟩
  · obtain ⟨X, hX⟩ : ∃ X : Nat, ((hd + 1) % 256).toNat = X := ⟨_, rfl⟩
    obtain ⟨q, hq⟩ : ∃ q, r - 1 = q := ⟨_, rfl⟩
    have HC : Hid (carE ⟨D, hd, r, l, d⟩ = ⟨D ++ [X] ++ List.replicate q 0, 0, 0, l, d⟩) := by
      show (if r = 0 then _ else _) = _
      rw [if_neg hr]
      show (⟨D ++ (((hd + 1) % 256).toNat :: List.replicate (r - 1) 0), 0, 0, l, d⟩ : Ec) = _
      rw [hX, hq, List.append_assoc]
      rfl
    have e2 : IntKind.u8.wrap (hd + 1) = (X : Int) := by rw [IntKind.wrap_u8]; omega
    have e3 : IntKind.i64.wrap ((r : Int) - 1) = (q : Int) := by rw [IntKind.wrap_i64]; omega
    have t1 : ((r : Int) == 0) = false := by rw [beq_eq_false_iff_ne]; omega
    obtain ⟨a, cc, rfl⟩ := HR1.out.form
    have hDn : D.length + q ≤ 100000000 := by omega
    have HX := Lib.hid hX
    clear hX hq hr k1
    go_enter Tryz.func146, Tryz.ntmps146
    go_wp2_with fail
    clear c0 c1 c2 c3 c4 f0 f1 f2 f3 f4 e1
    revert HB1 HR1 HK1
    generalize World.setCell w _ _ = w1
    intro _ _ _
    rename Hid (EcBox _ _ _ _ _ _ _) => HB1
    rename Hid (EcRow _ _ _ _ _) => HR1
    rename Hid (PKp _ _ _ _) => HK1
    obtain ⟨⟨c0, c1, c2, c3, c4⟩, f0, f1, f2, f3, f4⟩ := HB1.out
    have A1 : Ext w1 (w1.alloc (.cells #[.int .u8 (X : Int)] 5)) := (Ext.refl w1).alloc _
    have y0 := A1.cell c0
    have y1 := A1.cell c1
    go_wp2_with fail
    go_region_law (refine step_push_u8f (by rfl) _ _ 53 (by rfl) Tryz.underlying53 _ D.length _ (X : Int) (by rfl) HR1.out.1 (by rfl) (by omega) ?_; intro g8 cp8 w8 h1 h2 hf; obtain ⟨HBa, HBb, HRb, HKb⟩ := en_push HB1.out HR1.out rfl h1 h2 hf; have HBA := Lib.hid HBa; have HBB := Lib.hid HBb; have HRB := Lib.hid HRb; have HKB := Lib.hid HKb; obtain ⟨⟨a0, a1, a2, a3, a4⟩, z0, z1, z2, z3, z4⟩ := HBA.out; clear h1 h2 hf HBa HBb HRb HKb)
    all_goals go_wp2_with fail
    all_goals have HK2 := Lib.hid (HK1.out.trans HKB.out)
    all_goals clear HB1 HR1 HK1 HBA HKB a0 a1 a2 a3 a4 z0 z1 z2 z3 z4 c0 c1 c2 c3 c4 f0 f1 f2 f3 f4 y0 y1 A1
    all_goals revert HBB HRB HK2
    all_goals generalize World.setCell w8 _ _ = w2
    all_goals intro _ _ _
    all_goals rename Hid (EcBox _ _ _ _ _ _ _) => HBB
    all_goals rename Hid (EcRow _ _ _ _ _) => HRB
    all_goals rename Hid (PKp _ _ _ _) => HK2
    all_goals (go_loopw [33] (fun iv wr => ∃ (k : Nat) (u : Value), k ≤ q ∧ iv = .int .i64 (k : Int) ∧ Hid (EcBox wr b u (hd + 1) r l d) ∧ Hid (EcRow wr b B u (D ++ [X] ++ List.replicate k 0)) ∧ Hid (PKp b B w wr)) (fun iv _ => q - (intOf iv).toNat))
    all_goals first
      | exact ⟨0, _, Nat.zero_le _, rfl, HBB.out, by show EcRow _ _ _ _ _; rw [List.replicate_zero, List.append_nil]; exact HRB.out, HK2.out⟩
      | skip
    all_goals (
      obtain ⟨k, u, hk, rfl, HB3, HR3, HK3⟩ := hrel
      by_cases hlt : k < q
      · obtain ⟨E, hE⟩ : ∃ E, D ++ [X] ++ List.replicate k 0 = E := ⟨_, rfl⟩
        have hEl : E.length = D.length + 1 + k := by rw [← hE]; simp; omega
        have HE : Hid (D ++ [X] ++ List.replicate (k + 1) 0 = E ++ [0]) := by show _ = _; rw [← hE, List.replicate_succ', List.append_assoc (D ++ [X])]
        rw [hE] at HR3
        obtain ⟨ua, uc, rfl⟩ := HR3.out.form
        obtain ⟨⟨c0, c1, c2, c3, c4⟩, f0, f1, f2, f3, f4⟩ := HB3.out
        have hEn : E.length ≤ 200000000 := by omega
        clear hE hEl HBB HRB HK2
        go_wp2_with (at_builtin; refine push_u8f rfl _ _ 53 rfl Tryz.underlying53 (.slice ua E.length uc) E.length _ 0 (by rfl) HR3.out.1 (by rfl) (by omega) ?_; intro g8 cp8 w8 h1 h2 hf; obtain ⟨HBa, HBb, HRb, HKb⟩ := en_push HB3.out HR3.out rfl h1 h2 hf; have HBA := Lib.hid HBa; have HBB := Lib.hid HBb; have HRB := Lib.hid HRb; have HKB := Lib.hid HKb; obtain ⟨⟨a0, a1, a2, a3, a4⟩, z0, z1, z2, z3, z4⟩ := HBA.out; clear h1 h2 hf HBa HBb HRb HKb)
        go_roundw
        case rel => exact ⟨k + 1, _, by omega, by go_num, HBB.out, by show EcRow _ _ _ _ _; rw [HE.out]; exact HRB.out, HK3.out.trans HKB.out⟩
        case measure => simp [intOf]; omega
      · obtain rfl : k = q := by omega
        have hlt' : ¬ (k : Int) < (k : Int) := by omega
        obtain ⟨⟨c0, c1, c2, c3, c4⟩, f0, f1, f2, f3, f4⟩ := HB3.out
        have HBf := Lib.hid ((HB3.out.set1 0).set2 0)
        have HRf := Lib.hid ((HR3.out.set 1 (.int .i64 0)).set 2 (.int .i64 ((0 : Nat) : Int)))
        have HKf := Lib.hid (HK3.out.trans (PKp.of_kp (((Kp.refl b wr).set 1 (.int .i64 0)).set 2 (.int .i64 ((0 : Nat) : Int)))))
        go_wp2
        go_end0
        exact ⟨rfl, by rw [HC.out]; exact ⟨u, HBf.out, HRf.out⟩, HKf.out⟩)
end Go.Proofs.YtpofabebmeickaaGreatDoor

/- (*rac.Encoder).shift: its contract over this seat's translation. -/
namespace Go.Proofs.YtpofabebmeickaaGreatDoor
set_option linter.unusedVariables false
set_option linter.unusedSimpArgs false
open Go.RowKit Go.Extern.Stop Go.Stop Go.Extern

theorem and_u64 (x : Nat) (hx : x < 18446744073709551616) : bits .and .u64 (x : Int) 4294967295 = ((x % 4294967296 : Nat) : Int) := by
  have e : (BitVec.ofInt 64 (x : Int) &&& BitVec.ofInt 64 ((4294967295 : Nat) : Int)).toNat = x % 4294967296 := by
    have h2 : (4294967295 : Nat) = 2 ^ 32 - 1 := by decide
    rw [ofInt_nat, ofInt_nat, BitVec.toNat_and, BitVec.toNat_ofNat, BitVec.toNat_ofNat, Nat.mod_eq_of_lt hx, Nat.mod_eq_of_lt (by omega), h2, Nat.and_two_pow_sub_one_eq_mod]
  show IntKind.u64.wrap (((BitVec.ofInt 64 (x : Int) &&& BitVec.ofInt 64 ((4294967295 : Nat) : Int)).toNat : Nat) : Int) = _
  rw [e, IntKind.wrap_u64]
  omega
set_option maxRecDepth 20000 in
set_option maxHeartbeats 4000000 in
theorem shift_any (b : Nat) (B : Nat → Prop) (N : Nat) (s : Ec) (w : World) (h : EcAt w b B s) (hk : okE N s) (hN : N ≤ 100000000) : Calls Tryz.prog 147 #[.pointer (some ⟨b, 0, none⟩)] w (EnPost w b B (shfE s)) := by
  obtain ⟨v, hB, hR⟩ := h
  obtain ⟨k1, ⟨k2, k3⟩, k4, k5, k6⟩ := hk
  obtain ⟨D, hd, r, l, d⟩ := s
  have k1 : D.length + r ≤ N := k1
  have k2 : -1 ≤ hd := k2
  have k3 : hd ≤ 255 + N := k3
  have k4 : l < 4294967296 := k4
  have hB : EcBox w b v hd r l d := hB
  have hR : EcRow w b B v D := hR
  obtain ⟨T, hT⟩ : ∃ T, l / 16777216 = T := ⟨_, rfl⟩
  obtain ⟨L2, hL2⟩ : ∃ L2, l % 16777216 * 256 = L2 := ⟨_, rfl⟩
  obtain ⟨M, hM⟩ : ∃ M, l * 256 = M := ⟨_, rfl⟩
  have s0 : (l : Int) / 16777216 = (T : Int) := by omega
  have s1 : IntKind.i64.wrap (T : Int) = (T : Int) := by rw [IntKind.wrap_i64]; omega
  have s2 : IntKind.u64.wrap ((l : Int) * 256) = (M : Int) := by rw [IntKind.wrap_u64]; omega
  have s3 : bits .and .u64 (M : Int) 4294967295 = (L2 : Int) := by rw [and_u64 M (by omega)]; omega
  have HB1 := Lib.hid (hB.set3 L2)
  have HR1 := Lib.hid (hR.set 3 (.int .u64 (L2 : Int)))
  have HK1 := Lib.hid (PKp.of_kp (B := B) ((Kp.refl b w).set 3 (.int .u64 (L2 : Int))))
  obtain ⟨⟨c0, c1, c2, c3, c4⟩, f0, f1, f2, f3, f4⟩ := hB
  clear hR k5 k6
  by_cases h255 : T = 255
  · have t1 : ((T : Int) == 255) = true := by rw [beq_iff_eq]; omega
    have HC : Hid (shfE ⟨D, hd, r, l, d⟩ = ⟨D, hd, r + 1, L2, d⟩) := by
      show (if l / 16777216 = 255 then _ else _) = _
      rw [if_pos (hT.trans h255)]
      show (⟨D, hd, r + 1, l % 16777216 * 256, d⟩ : Ec) = _
      rw [hL2]
    have s4 : IntKind.i64.wrap ((r : Int) + 1) = ((r + 1 : Nat) : Int) := by rw [IntKind.wrap_i64]; omega
    obtain ⟨r1, hr1⟩ : ∃ r1, r + 1 = r1 := ⟨_, rfl⟩
    rw [hr1] at HC s4
    have HB2 := Lib.hid (HB1.out.set2 r1)
    have HR2 := Lib.hid (HR1.out.set 2 (.int .i64 (r1 : Int)))
    have HK2 := Lib.hid (HK1.out.trans (PKp.of_kp ((Kp.refl b _).set 2 (.int .i64 (r1 : Int)))))
    clear hT hL2 hM hr1 h255
    go_enter Tryz.func147, Tryz.ntmps147
    go_wp2
    go_end0
    exact ⟨rfl, by rw [HC.out]; exact ⟨v, HB2.out, HR2.out⟩, HK2.out⟩
  · have t1 : ((T : Int) == 255) = false := by rw [beq_eq_false_iff_ne]; omega
    have HC0 : Hid (shfE ⟨D, hd, r, l, d⟩ = ⟨D ++ (hdE ⟨D, hd, r, l, d⟩ ++ List.replicate r 255), (T : Int), 0, L2, d⟩) := by
      show (if l / 16777216 = 255 then _ else _) = _
      rw [if_neg (by rw [hT]; exact h255)]
      show (⟨D ++ (hdE ⟨D, hd, r, l, d⟩ ++ List.replicate r 255), ((l / 16777216 : Nat) : Int), 0, l % 16777216 * 256, d⟩ : Ec) = _
      rw [hL2, hT]
    by_cases h0 : 0 ≤ hd
    · obtain ⟨X, hX⟩ : ∃ X : Nat, (hd % 256).toNat = X := ⟨_, rfl⟩
      have e2 : IntKind.u8.wrap hd = (X : Int) := by rw [IntKind.wrap_u8]; omega
      have HC : Hid (shfE ⟨D, hd, r, l, d⟩ = ⟨(D ++ [X]) ++ List.replicate r 255, (T : Int), 0, L2, d⟩) := by
        show _ = _
        rw [HC0.out]
        unfold hdE
        rw [if_pos h0]
        show (⟨D ++ ([(hd % 256).toNat] ++ List.replicate r 255), (T : Int), 0, L2, d⟩ : Ec) = _
        rw [hX, List.append_assoc]
      obtain ⟨a, cc, rfl⟩ := HR1.out.form
      have hDn : D.length + r ≤ 100000000 := by omega
      clear hX hT hL2 hM h255 k1 HC0
      go_enter Tryz.func147, Tryz.ntmps147
      go_wp2_with fail
      clear c0 c1 c2 c3 c4 f0 f1 f2 f3 f4 s0 s1 s2 s3
      revert HB1 HR1 HK1
      generalize World.setCell w _ _ = w1
      intro _ _ _
      rename Hid (EcBox _ _ _ _ _ _ _) => HB1
      rename Hid (EcRow _ _ _ _ _) => HR1
      rename Hid (PKp _ _ _ _) => HK1
      obtain ⟨⟨c0, c1, c2, c3, c4⟩, f0, f1, f2, f3, f4⟩ := HB1.out
      have A1 : Ext w1 (w1.alloc (.cells #[.int .u8 (X : Int)] 5)) := (Ext.refl w1).alloc _
      have y0 := A1.cell c0
      have y1 := A1.cell c1
      go_wp2_with fail
      go_region_law (refine step_push_u8f (by rfl) _ _ 53 (by rfl) Tryz.underlying53 _ D.length _ (X : Int) (by rfl) HR1.out.1 (by rfl) (by omega) ?_; intro g8 cp8 w8 h1 h2 hf; obtain ⟨HBa, HBb, HRb, HKb⟩ := en_push HB1.out HR1.out rfl h1 h2 hf; have HBA := Lib.hid HBa; have HBB := Lib.hid HBb; have HRB := Lib.hid HRb; have HKB := Lib.hid HKb; obtain ⟨⟨a0, a1, a2, a3, a4⟩, z0, z1, z2, z3, z4⟩ := HBA.out; clear h1 h2 hf HBa HBb HRb HKb)
      all_goals go_wp2_with fail
      all_goals have HK2 := Lib.hid (HK1.out.trans HKB.out)
      all_goals clear HB1 HR1 HK1 HBA HKB c0 c1 c2 c3 c4 f0 f1 f2 f3 f4 y0 y1 A1 a0 a1 a2 a3 a4 z0 z1 z2 z3 z4
      all_goals revert HBB HRB HK2
      all_goals generalize World.setCell w8 _ _ = w2
      all_goals intro _ _ _
      all_goals rename Hid (EcBox _ _ _ _ _ _ _) => HB2
      all_goals rename Hid (EcRow _ _ _ _ _) => HR2
      all_goals rename Hid (PKp _ _ _ _) => HK2
      all_goals obtain ⟨⟨c0, c1, c2, c3, c4⟩, f0, f1, f2, f3, f4⟩ := HB2.out
      all_goals obtain ⟨E0, hE0⟩ : ∃ E0, D ++ [X] = E0 := ⟨_, rfl⟩
      all_goals have hE0l : E0.length = D.length + 1 := by rw [← hE0]; simp
      all_goals rw [hE0] at HC HR2
      all_goals clear hE0
      all_goals (
        -- in hand: w2; HB2 : EcBox w2 b v2 hd r L2 d; HR2 : EcRow w2 b B v2 E0; HK2; HC
        go_wp2_with fail
        go_loopw [50] (fun iv wr => ∃ (k : Nat) (u : Value), k ≤ r ∧ iv = .int .i64 (k : Int) ∧ Hid (EcBox wr b u hd r L2 d) ∧ Hid (EcRow wr b B u (E0 ++ List.replicate k 255)) ∧ Hid (PKp b B w wr)) (fun iv _ => r - (intOf iv).toNat)
        case atStart => exact ⟨0, _, Nat.zero_le _, rfl, HB2.out, by show EcRow _ _ _ _ _; rw [List.replicate_zero, List.append_nil]; exact HR2.out, HK2.out⟩
        case round =>
          obtain ⟨k, u, hk, rfl, HB3, HR3, HK3⟩ := hrel
          by_cases hlt : k < r
          · obtain ⟨E, hE⟩ : ∃ E, E0 ++ List.replicate k 255 = E := ⟨_, rfl⟩
            have hEl : E.length = E0.length + k := by rw [← hE]; simp
            have HE : Hid (E0 ++ List.replicate (k + 1) 255 = E ++ [255]) := by show _ = _; rw [← hE, List.replicate_succ', List.append_assoc]
            rw [hE] at HR3
            obtain ⟨ua, uc, rfl⟩ := HR3.out.form
            obtain ⟨⟨c0, c1, c2, c3, c4⟩, f0, f1, f2, f3, f4⟩ := HB3.out
            have hEn : E.length ≤ 200000000 := by omega
            clear hE hEl HB2 HR2 HK2
            go_wp2_with (at_builtin; refine push_u8f rfl _ _ 53 rfl Tryz.underlying53 (.slice ua E.length uc) E.length _ 255 (by rfl) HR3.out.1 (by rfl) (by omega) ?_; intro g8 cp8 w8 h1 h2 hf; obtain ⟨HBa, HBb, HRb, HKb⟩ := en_push HB3.out HR3.out rfl h1 h2 hf; have HBA := Lib.hid HBa; have HBB := Lib.hid HBb; have HRB := Lib.hid HRb; have HKB := Lib.hid HKb; obtain ⟨⟨a0, a1, a2, a3, a4⟩, z0, z1, z2, z3, z4⟩ := HBA.out; clear h1 h2 hf HBa HBb HRb HKb)
            go_roundw
            case rel => exact ⟨k + 1, _, by omega, by go_num, HBB.out, by show EcRow _ _ _ _ _; rw [HE.out]; exact HRB.out, HK3.out.trans HKB.out⟩
            case measure => simp [intOf]; omega
          · obtain rfl : k = r := by omega
            have hlt' : ¬ (k : Int) < (k : Int) := by omega
            obtain ⟨⟨c0, c1, c2, c3, c4⟩, f0, f1, f2, f3, f4⟩ := HB3.out
            have HBf := Lib.hid ((HB3.out.set1 (T : Int)).set2 0)
            have HRf := Lib.hid ((HR3.out.set 1 (.int .i64 (T : Int))).set 2 (.int .i64 ((0 : Nat) : Int)))
            have HKf := Lib.hid (HK3.out.trans (PKp.of_kp (((Kp.refl b wr).set 1 (.int .i64 (T : Int))).set 2 (.int .i64 ((0 : Nat) : Int)))))
            go_wp2
            go_end0
            exact ⟨rfl, by rw [HC.out]; exact ⟨u, HBf.out, HRf.out⟩, HKf.out⟩
        )
    · have HC : Hid (shfE ⟨D, hd, r, l, d⟩ = ⟨D ++ List.replicate r 255, (T : Int), 0, L2, d⟩) := by
        show _ = _
        rw [HC0.out]
        unfold hdE
        rw [if_neg h0]
        rfl
      have h0' : ¬ (0 : Int) ≤ hd := h0
      have hDn : D.length + r ≤ 100000000 := by omega
      clear hT hL2 hM h255 k1 HC0
      go_enter Tryz.func147, Tryz.ntmps147
      go_wp2_with fail
      clear c0 c1 c2 c3 c4 f0 f1 f2 f3 f4 s0 s1 s2 s3
      revert HB1 HR1 HK1
      generalize World.setCell w _ _ = w2
      intro _ _ _
      rename Hid (EcBox _ _ _ _ _ _ _) => HB2
      rename Hid (EcRow _ _ _ _ _) => HR2
      rename Hid (PKp _ _ _ _) => HK2
      obtain ⟨⟨c0, c1, c2, c3, c4⟩, f0, f1, f2, f3, f4⟩ := HB2.out
      rename List Nat => E0
      -- in hand: w2; HB2 : EcBox w2 b v2 hd r L2 d; HR2 : EcRow w2 b B v2 E0; HK2; HC
      go_wp2_with fail
      go_loopw [50] (fun iv wr => ∃ (k : Nat) (u : Value), k ≤ r ∧ iv = .int .i64 (k : Int) ∧ Hid (EcBox wr b u hd r L2 d) ∧ Hid (EcRow wr b B u (E0 ++ List.replicate k 255)) ∧ Hid (PKp b B w wr)) (fun iv _ => r - (intOf iv).toNat)
      case atStart => exact ⟨0, _, Nat.zero_le _, rfl, HB2.out, by show EcRow _ _ _ _ _; rw [List.replicate_zero, List.append_nil]; exact HR2.out, HK2.out⟩
      case round =>
        obtain ⟨k, u, hk, rfl, HB3, HR3, HK3⟩ := hrel
        by_cases hlt : k < r
        · obtain ⟨E, hE⟩ : ∃ E, E0 ++ List.replicate k 255 = E := ⟨_, rfl⟩
          have hEl : E.length = E0.length + k := by rw [← hE]; simp
          have HE : Hid (E0 ++ List.replicate (k + 1) 255 = E ++ [255]) := by show _ = _; rw [← hE, List.replicate_succ', List.append_assoc]
          rw [hE] at HR3
          obtain ⟨ua, uc, rfl⟩ := HR3.out.form
          obtain ⟨⟨c0, c1, c2, c3, c4⟩, f0, f1, f2, f3, f4⟩ := HB3.out
          have hEn : E.length ≤ 200000000 := by omega
          clear hE hEl HB2 HR2 HK2
          go_wp2_with (at_builtin; refine push_u8f rfl _ _ 53 rfl Tryz.underlying53 (.slice ua E.length uc) E.length _ 255 (by rfl) HR3.out.1 (by rfl) (by omega) ?_; intro g8 cp8 w8 h1 h2 hf; obtain ⟨HBa, HBb, HRb, HKb⟩ := en_push HB3.out HR3.out rfl h1 h2 hf; have HBA := Lib.hid HBa; have HBB := Lib.hid HBb; have HRB := Lib.hid HRb; have HKB := Lib.hid HKb; obtain ⟨⟨a0, a1, a2, a3, a4⟩, z0, z1, z2, z3, z4⟩ := HBA.out; clear h1 h2 hf HBa HBb HRb HKb)
          go_roundw
          case rel => exact ⟨k + 1, _, by omega, by go_num, HBB.out, by show EcRow _ _ _ _ _; rw [HE.out]; exact HRB.out, HK3.out.trans HKB.out⟩
          case measure => simp [intOf]; omega
        · obtain rfl : k = r := by omega
          have hlt' : ¬ (k : Int) < (k : Int) := by omega
          obtain ⟨⟨c0, c1, c2, c3, c4⟩, f0, f1, f2, f3, f4⟩ := HB3.out
          have HBf := Lib.hid ((HB3.out.set1 (T : Int)).set2 0)
          have HRf := Lib.hid ((HR3.out.set 1 (.int .i64 (T : Int))).set 2 (.int .i64 ((0 : Nat) : Int)))
          have HKf := Lib.hid (HK3.out.trans (PKp.of_kp (((Kp.refl b wr).set 1 (.int .i64 (T : Int))).set 2 (.int .i64 ((0 : Nat) : Int)))))
          go_wp2
          go_end0
          exact ⟨rfl, by rw [HC.out]; exact ⟨u, HBf.out, HRf.out⟩, HKf.out⟩
end Go.Proofs.YtpofabebmeickaaGreatDoor

/- (*rac.Encoder).part, Flat, Code: contracts over this seat's translation. -/
namespace Go.Proofs.YtpofabebmeickaaGreatDoor
set_option linter.unusedVariables false
set_option linter.unusedSimpArgs false
open Go.RowKit Go.Extern.Stop Go.Stop Go.Extern

theorem EcAt.low {w : World} {b : Nat} {B : Nat → Prop} {s : Ec} (h : EcAt w b B s) (k : Nat) : EcAt (w.setCell ⟨b, 3, none⟩ (.int .u64 (k : Int))) b B { s with low := k } := by
  obtain ⟨v, h1, h2⟩ := h
  exact ⟨v, h1.set3 k, h2.set 3 _⟩
theorem EcAt.wide {w : World} {b : Nat} {B : Nat → Prop} {s : Ec} (h : EcAt w b B s) (k : Nat) : EcAt (w.setCell ⟨b, 4, none⟩ (.int .u64 (k : Int))) b B { s with wid := k } := by
  obtain ⟨v, h1, h2⟩ := h
  exact ⟨v, h1.set4 k, h2.set 4 _⟩
set_option maxRecDepth 20000 in
set_option maxHeartbeats 4000000 in
theorem part_any (b : Nat) (B : Nat → Prop) (N wd : Nat) (up : Bool) (s : Ec) (w : World) (h : EcAt w b B s) (hk : okE N s) (hN : N ≤ 90000000) (h1 : 1 ≤ wd) (h2 : wd < s.wid) : Calls Tryz.prog 145 #[.pointer (some ⟨b, 0, none⟩), .int .u64 (wd : Int), .bool up] w (EnPost w b B (parE s wd up)) := by
  obtain ⟨R, hR⟩ : ∃ R, parE s wd up = R := ⟨_, rfl⟩
  rw [hR]
  have hok := midE_ok (up := up) hk (Nat.le_of_lt h2)
  have hwd : 16777216 ≤ (midE s wd up).wid * 256 ^ 3 := by
    rw [midE_wid]
    show 16777216 ≤ _ * 16777216
    split <;> omega
  have HMK : Hid (okE (N + 1) (midE s wd up) ∧ nrmE 3 (midE s wd up) = R ∧ 16777216 ≤ (midE s wd up).wid * 256 ^ 3) := ⟨hok, hR, hwd⟩
  have k4 : s.low < 4294967296 := hk.2.2.1
  have k5 : s.wid < 4294967296 := hk.2.2.2.1
  clear hok hR hwd
  cases up with
  | false =>
    have HA2 := Lib.hid (h.wide wd)
    have HK2 : Hid (okE (N + 1) { s with wid := wd } ∧ nrmE 3 { s with wid := wd } = R ∧ 16777216 ≤ wd * 256 ^ 3) := HMK.out
    have HW2 := Lib.hid (PKp.of_kp (B := B) ((Kp.refl b w).set 4 (.int .u64 (wd : Int))))
    obtain ⟨v, hB, hR⟩ := h
    obtain ⟨⟨c0, c1, c2, c3, c4⟩, f0, f1, f2, f3, f4⟩ := hB
    obtain ⟨l, hl⟩ : ∃ l, s.low = l := ⟨_, rfl⟩
    rw [hl] at c3 k4
    have x1 : ¬ (4294967296 : Int) ≤ (l : Int) := by omega
    clear hR hk HMK hl k5 h1 h2
    go_enter Tryz.func145, Tryz.ntmps145
    -- in hand: w2, s2; HA2 : EcAt w2 b B s2; HK2 : okE (N + 1) s2, nrmE 3 s2 = R, wide; HW2 : PKp
    go_wp2_with fail
    go_loopg [] (3) (fun f wr => ∃ t : Ec, Hid (EcAt wr b B t) ∧ Hid (f ≤ 3 ∧ okE (N + 1 + (3 - f)) t ∧ nrmE f t = R ∧ 16777216 ≤ t.wid * 256 ^ f) ∧ Hid (PKp b B w wr))
    case atStart => exact ⟨_, HA2.out, ⟨Nat.le_refl _, HK2.out⟩, HW2.out⟩
    case round =>
      clear HA2 HK2 HW2
      obtain ⟨t, HA, HK, HW⟩ := hrel
      obtain ⟨v3, hB3, hR3⟩ := HA.out
      have k3 : t.wid < 4294967296 := HK.out.2.1.2.2.2.1
      obtain ⟨⟨c0, c1, c2, c3, c4⟩, f0, f1, f2, f3, f4⟩ := hB3
      obtain ⟨D, hD⟩ : ∃ D, t.wid = D := ⟨_, rfl⟩
      rw [hD] at c4 k3
      have HD := Lib.hid hD
      clear hR3 hD c0 c1 c2 c3
      by_cases hlt : D < 16777216
      · have x1 : (D : Int) < 16777216 := by omega
        have s1 : IntKind.u64.wrap ((D : Int) * 256) = ((D * 256 : Nat) : Int) := by rw [IntKind.wrap_u64]; omega
        obtain ⟨D2, hD2⟩ : ∃ D2, D * 256 = D2 := ⟨_, rfl⟩
        rw [hD2] at s1
        have HD2 := Lib.hid hD2
        obtain ⟨j1, j2, j3, j4⟩ := HK.out
        have hN4 : N + 1 + (3 - gk) ≤ 100000000 := by omega
        have hg : ∃ g, gk = g + 1 := by
          cases gk with
          | zero => exfalso; have := HD.out; simp at j4; omega
          | succ g => exact ⟨g, rfl⟩
        obtain ⟨g, rfl⟩ := hg
        have j5 : nrmE g (stpE t) = R := by
          rw [← j3]
          show _ = (if t.wid < 16777216 then nrmE g (stpE t) else t)
          rw [if_pos (by rw [HD.out]; exact hlt)]
        have j6 : 16777216 ≤ (stpE t).wid * 256 ^ g := by
          show 16777216 ≤ t.wid * 256 * 256 ^ g
          rw [Nat.mul_assoc, ← Nat.pow_succ']
          exact j4
        have j7 := stpE_ok j2 (by rw [HD.out]; exact hlt)
        have HJ : Hid (g ≤ 3 ∧ okE (N + 1 + (3 - g)) (stpE t) ∧ nrmE g (stpE t) = R ∧ 16777216 ≤ (stpE t).wid * 256 ^ g) := ⟨by omega, by rw [show N + 1 + (3 - g) = N + 1 + (3 - (g + 1)) + 1 by omega]; exact j7, j5, j6⟩
        have US := Lib.hid (shift_any b B _ t _ HA.out j2 hN4)
        have HST : Hid ({ shfE t with wid := D2 } = stpE t) := by show _ = _; unfold stpE; rw [HD.out, hD2]
        have HSW : Hid ((shfE t).wid = D) := by show _ = _; rw [(shfE_ok j2).2]; exact HD.out
        clear hD2 j1 j2 j3 j4 j5 j6 j7
        go_wp2_with fail
        refine (US.out).mono ?_; rintro e w7 ⟨rfl, hA7, hW7⟩
        have HA8 := Lib.hid (hA7.wide D2)
        have HW8 := Lib.hid ((HW.out.trans hW7).trans (PKp.of_kp ((Kp.refl b w7).set 4 (.int .u64 (D2 : Int)))))
        obtain ⟨v7, ⟨⟨d0, d1, d2, d3, d4⟩, e0, e1, e2, e3, e4⟩, -⟩ := hA7
        rw [HSW.out] at d4
        clear hW7 c4 f0 f1 f2 f3 f4 d0 d1 d2 d3
        go_wp2
        go_roundg (g)
        all_goals first
          | exact ⟨stpE t, by show EcAt _ _ _ _; rw [← HST.out]; exact HA8.out, HJ.out, HW8.out⟩
          | omega
      · have x1 : ¬ (D : Int) < 16777216 := by omega
        have HR : Hid (t = R) := by
          show _ = _
          rw [← HK.out.2.2.1]
          cases gk with
          | zero => rfl
          | succ g => show _ = (if t.wid < 16777216 then _ else t); rw [if_neg (by rw [HD.out]; exact hlt)]
        go_wp2
        go_end0
        exact ⟨rfl, by rw [← HR.out]; exact HA.out, HW.out⟩
  | true =>
    have HM : Hid (midE s wd true = upE s wd) := rfl
    obtain ⟨l, hl⟩ : ∃ l, s.low = l := ⟨_, rfl⟩
    obtain ⟨d, hd⟩ : ∃ d, s.wid = d := ⟨_, rfl⟩
    obtain ⟨l1, hl1⟩ : ∃ l1, l + wd = l1 := ⟨_, rfl⟩
    obtain ⟨d1, hd1⟩ : ∃ d1, d - wd = d1 := ⟨_, rfl⟩
    rw [hl] at k4
    rw [hd] at k5 h2
    have s1 : IntKind.u64.wrap ((l : Int) + (wd : Int)) = (l1 : Int) := by rw [IntKind.wrap_u64]; omega
    have s2 : IntKind.u64.wrap ((d : Int) - (wd : Int)) = (d1 : Int) := by rw [IntKind.wrap_u64]; omega
    have HA1 := (h.low l1).wide d1
    have HW1 := PKp.of_kp (B := B) (((Kp.refl b w).set 3 (.int .u64 (l1 : Int))).set 4 (.int .u64 (d1 : Int)))
    by_cases hc : 4294967296 ≤ l1
    · obtain ⟨l2, hl2⟩ : ∃ l2, l1 - 4294967296 = l2 := ⟨_, rfl⟩
      have s3 : IntKind.u64.wrap ((l1 : Int) - 4294967296) = (l2 : Int) := by rw [IntKind.wrap_u64]; omega
      have x1 : (4294967296 : Int) ≤ (l1 : Int) := by omega
      have HUP : midE s wd true = carE { s with low := l2, wid := d1 } := by
        rw [HM.out]
        unfold upE
        rw [if_pos (by rw [hl, hl1]; exact hc), hl, hd, hl1, hd1, hl2]
      have HA3 : Hid (EcAt (((w.setCell ⟨b, 3, none⟩ (.int .u64 (l1 : Int))).setCell ⟨b, 4, none⟩ (.int .u64 (d1 : Int))).setCell ⟨b, 3, none⟩ (.int .u64 (l2 : Int))) b B { s with low := l2, wid := d1 }) := HA1.low l2
      have HW3 := Lib.hid (HW1.trans (PKp.of_kp ((Kp.refl b _).set 3 (.int .u64 (l2 : Int)))))
      have UC := Lib.hid (fun w' (h' : EcAt w' b B { s with low := l2, wid := d1 }) => carry_any b B N { s with low := l2, wid := d1 } w' h' ⟨hk.1, hk.2.1, by show l2 < _; omega, by show d1 < _; omega, hk.2.2.2.2⟩ (by omega))
      have HK2 : Hid (okE (N + 1) (carE { s with low := l2, wid := d1 }) ∧ nrmE 3 (carE { s with low := l2, wid := d1 }) = R ∧ 16777216 ≤ (carE { s with low := l2, wid := d1 }).wid * 256 ^ 3) := by
        rw [← HUP]; exact HMK.out
      obtain ⟨v, ⟨⟨c0, c1, c2, c3, c4⟩, f0, f1, f2, f3, f4⟩, -⟩ := h
      rw [hl] at c3
      rw [hd] at c4
      clear HA1 HW1 hk HMK HM hl hd hl1 hd1 hl2 HUP k5 h1 h2
      go_enter Tryz.func145, Tryz.ntmps145
      go_wp2_with fail
      refine (UC.out _ HA3.out).mono ?_; rintro e w2 ⟨rfl, hA2, hW2⟩
      have HA2 := Lib.hid hA2
      have HW2 := Lib.hid (HW3.out.trans hW2)
      clear hA2 hW2 c0 c1 c2 c3 c4 f0 f1 f2 f3 f4 HA3 HW3
      -- in hand: w2, s2; HA2 : EcAt w2 b B s2; HK2 : okE (N + 1) s2, nrmE 3 s2 = R, wide; HW2 : PKp
      go_wp2_with fail
      go_loopg [] (3) (fun f wr => ∃ t : Ec, Hid (EcAt wr b B t) ∧ Hid (f ≤ 3 ∧ okE (N + 1 + (3 - f)) t ∧ nrmE f t = R ∧ 16777216 ≤ t.wid * 256 ^ f) ∧ Hid (PKp b B w wr))
      case atStart => exact ⟨_, HA2.out, ⟨Nat.le_refl _, HK2.out⟩, HW2.out⟩
      case round =>
        clear HA2 HK2 HW2
        obtain ⟨t, HA, HK, HW⟩ := hrel
        obtain ⟨v3, hB3, hR3⟩ := HA.out
        have k3 : t.wid < 4294967296 := HK.out.2.1.2.2.2.1
        obtain ⟨⟨c0, c1, c2, c3, c4⟩, f0, f1, f2, f3, f4⟩ := hB3
        obtain ⟨D, hD⟩ : ∃ D, t.wid = D := ⟨_, rfl⟩
        rw [hD] at c4 k3
        have HD := Lib.hid hD
        clear hR3 hD c0 c1 c2 c3
        by_cases hlt : D < 16777216
        · have x1 : (D : Int) < 16777216 := by omega
          have s1 : IntKind.u64.wrap ((D : Int) * 256) = ((D * 256 : Nat) : Int) := by rw [IntKind.wrap_u64]; omega
          obtain ⟨D2, hD2⟩ : ∃ D2, D * 256 = D2 := ⟨_, rfl⟩
          rw [hD2] at s1
          have HD2 := Lib.hid hD2
          obtain ⟨j1, j2, j3, j4⟩ := HK.out
          have hN4 : N + 1 + (3 - gk) ≤ 100000000 := by omega
          have hg : ∃ g, gk = g + 1 := by
            cases gk with
            | zero => exfalso; have := HD.out; simp at j4; omega
            | succ g => exact ⟨g, rfl⟩
          obtain ⟨g, rfl⟩ := hg
          have j5 : nrmE g (stpE t) = R := by
            rw [← j3]
            show _ = (if t.wid < 16777216 then nrmE g (stpE t) else t)
            rw [if_pos (by rw [HD.out]; exact hlt)]
          have j6 : 16777216 ≤ (stpE t).wid * 256 ^ g := by
            show 16777216 ≤ t.wid * 256 * 256 ^ g
            rw [Nat.mul_assoc, ← Nat.pow_succ']
            exact j4
          have j7 := stpE_ok j2 (by rw [HD.out]; exact hlt)
          have HJ : Hid (g ≤ 3 ∧ okE (N + 1 + (3 - g)) (stpE t) ∧ nrmE g (stpE t) = R ∧ 16777216 ≤ (stpE t).wid * 256 ^ g) := ⟨by omega, by rw [show N + 1 + (3 - g) = N + 1 + (3 - (g + 1)) + 1 by omega]; exact j7, j5, j6⟩
          have US := Lib.hid (shift_any b B _ t _ HA.out j2 hN4)
          have HST : Hid ({ shfE t with wid := D2 } = stpE t) := by show _ = _; unfold stpE; rw [HD.out, hD2]
          have HSW : Hid ((shfE t).wid = D) := by show _ = _; rw [(shfE_ok j2).2]; exact HD.out
          clear hD2 j1 j2 j3 j4 j5 j6 j7
          go_wp2_with fail
          refine (US.out).mono ?_; rintro e w7 ⟨rfl, hA7, hW7⟩
          have HA8 := Lib.hid (hA7.wide D2)
          have HW8 := Lib.hid ((HW.out.trans hW7).trans (PKp.of_kp ((Kp.refl b w7).set 4 (.int .u64 (D2 : Int)))))
          obtain ⟨v7, ⟨⟨d0, d1, d2, d3, d4⟩, e0, e1, e2, e3, e4⟩, -⟩ := hA7
          rw [HSW.out] at d4
          clear hW7 c4 f0 f1 f2 f3 f4 d0 d1 d2 d3
          go_wp2
          go_roundg (g)
          all_goals first
            | exact ⟨stpE t, by show EcAt _ _ _ _; rw [← HST.out]; exact HA8.out, HJ.out, HW8.out⟩
            | omega
        · have x1 : ¬ (D : Int) < 16777216 := by omega
          have HR : Hid (t = R) := by
            show _ = _
            rw [← HK.out.2.2.1]
            cases gk with
            | zero => rfl
            | succ g => show _ = (if t.wid < 16777216 then _ else t); rw [if_neg (by rw [HD.out]; exact hlt)]
          go_wp2
          go_end0
          exact ⟨rfl, by rw [← HR.out]; exact HA.out, HW.out⟩
    · have x1 : ¬ (4294967296 : Int) ≤ (l1 : Int) := by omega
      have HUP : midE s wd true = { s with low := l1, wid := d1 } := by
        rw [HM.out]
        unfold upE
        rw [if_neg (by rw [hl, hl1]; exact hc), hl, hd, hl1, hd1]
      have HA2 : Hid (EcAt ((w.setCell ⟨b, 3, none⟩ (.int .u64 (l1 : Int))).setCell ⟨b, 4, none⟩ (.int .u64 (d1 : Int))) b B { s with low := l1, wid := d1 }) := HA1
      have HW2 := Lib.hid HW1
      have HK2 : Hid (okE (N + 1) { s with low := l1, wid := d1 } ∧ nrmE 3 { s with low := l1, wid := d1 } = R ∧ 16777216 ≤ d1 * 256 ^ 3) := by
        have := HMK.out
        rw [HUP] at this
        exact this
      obtain ⟨v, ⟨⟨c0, c1, c2, c3, c4⟩, f0, f1, f2, f3, f4⟩, -⟩ := h
      rw [hl] at c3
      rw [hd] at c4
      clear HA1 HW1 hk HMK HM hl hd hl1 hd1 HUP k5 h1 h2
      go_enter Tryz.func145, Tryz.ntmps145
      -- in hand: w2, s2; HA2 : EcAt w2 b B s2; HK2 : okE (N + 1) s2, nrmE 3 s2 = R, wide; HW2 : PKp
      go_wp2_with fail
      go_loopg [] (3) (fun f wr => ∃ t : Ec, Hid (EcAt wr b B t) ∧ Hid (f ≤ 3 ∧ okE (N + 1 + (3 - f)) t ∧ nrmE f t = R ∧ 16777216 ≤ t.wid * 256 ^ f) ∧ Hid (PKp b B w wr))
      case atStart => exact ⟨_, HA2.out, ⟨Nat.le_refl _, HK2.out⟩, HW2.out⟩
      case round =>
        clear HA2 HK2 HW2
        obtain ⟨t, HA, HK, HW⟩ := hrel
        obtain ⟨v3, hB3, hR3⟩ := HA.out
        have k3 : t.wid < 4294967296 := HK.out.2.1.2.2.2.1
        obtain ⟨⟨c0, c1, c2, c3, c4⟩, f0, f1, f2, f3, f4⟩ := hB3
        obtain ⟨D, hD⟩ : ∃ D, t.wid = D := ⟨_, rfl⟩
        rw [hD] at c4 k3
        have HD := Lib.hid hD
        clear hR3 hD c0 c1 c2 c3
        by_cases hlt : D < 16777216
        · have x1 : (D : Int) < 16777216 := by omega
          have s1 : IntKind.u64.wrap ((D : Int) * 256) = ((D * 256 : Nat) : Int) := by rw [IntKind.wrap_u64]; omega
          obtain ⟨D2, hD2⟩ : ∃ D2, D * 256 = D2 := ⟨_, rfl⟩
          rw [hD2] at s1
          have HD2 := Lib.hid hD2
          obtain ⟨j1, j2, j3, j4⟩ := HK.out
          have hN4 : N + 1 + (3 - gk) ≤ 100000000 := by omega
          have hg : ∃ g, gk = g + 1 := by
            cases gk with
            | zero => exfalso; have := HD.out; simp at j4; omega
            | succ g => exact ⟨g, rfl⟩
          obtain ⟨g, rfl⟩ := hg
          have j5 : nrmE g (stpE t) = R := by
            rw [← j3]
            show _ = (if t.wid < 16777216 then nrmE g (stpE t) else t)
            rw [if_pos (by rw [HD.out]; exact hlt)]
          have j6 : 16777216 ≤ (stpE t).wid * 256 ^ g := by
            show 16777216 ≤ t.wid * 256 * 256 ^ g
            rw [Nat.mul_assoc, ← Nat.pow_succ']
            exact j4
          have j7 := stpE_ok j2 (by rw [HD.out]; exact hlt)
          have HJ : Hid (g ≤ 3 ∧ okE (N + 1 + (3 - g)) (stpE t) ∧ nrmE g (stpE t) = R ∧ 16777216 ≤ (stpE t).wid * 256 ^ g) := ⟨by omega, by rw [show N + 1 + (3 - g) = N + 1 + (3 - (g + 1)) + 1 by omega]; exact j7, j5, j6⟩
          have US := Lib.hid (shift_any b B _ t _ HA.out j2 hN4)
          have HST : Hid ({ shfE t with wid := D2 } = stpE t) := by show _ = _; unfold stpE; rw [HD.out, hD2]
          have HSW : Hid ((shfE t).wid = D) := by show _ = _; rw [(shfE_ok j2).2]; exact HD.out
          clear hD2 j1 j2 j3 j4 j5 j6 j7
          go_wp2_with fail
          refine (US.out).mono ?_; rintro e w7 ⟨rfl, hA7, hW7⟩
          have HA8 := Lib.hid (hA7.wide D2)
          have HW8 := Lib.hid ((HW.out.trans hW7).trans (PKp.of_kp ((Kp.refl b w7).set 4 (.int .u64 (D2 : Int)))))
          obtain ⟨v7, ⟨⟨d0, d1, d2, d3, d4⟩, e0, e1, e2, e3, e4⟩, -⟩ := hA7
          rw [HSW.out] at d4
          clear hW7 c4 f0 f1 f2 f3 f4 d0 d1 d2 d3
          go_wp2
          go_roundg (g)
          all_goals first
            | exact ⟨stpE t, by show EcAt _ _ _ _; rw [← HST.out]; exact HA8.out, HJ.out, HW8.out⟩
            | omega
        · have x1 : ¬ (D : Int) < 16777216 := by omega
          have HR : Hid (t = R) := by
            show _ = _
            rw [← HK.out.2.2.1]
            cases gk with
            | zero => rfl
            | succ g => show _ = (if t.wid < 16777216 then _ else t); rw [if_neg (by rw [HD.out]; exact hlt)]
          go_wp2
          go_end0
          exact ⟨rfl, by rw [← HR.out]; exact HA.out, HW.out⟩
end Go.Proofs.YtpofabebmeickaaGreatDoor

/- (*rac.Encoder).Flat, Code: contracts over this seat's translation. -/
namespace Go.Proofs.YtpofabebmeickaaGreatDoor
set_option linter.unusedVariables false
set_option linter.unusedSimpArgs false
open Go.RowKit Go.Extern.Stop Go.Stop Go.Extern

set_option maxRecDepth 20000 in
set_option maxHeartbeats 4000000 in
theorem enflat_any (b : Nat) (B : Nat → Prop) (N : Nat) (up : Bool) (s : Ec) (w : World) (h : EcAt w b B s) (hk : okE N s) (hN : N ≤ 90000000) (hw : 16777216 ≤ s.wid) : Calls Tryz.prog 143 #[.pointer (some ⟨b, 0, none⟩), .bool up] w (EnPost w b B (parE s (s.wid / 2) up)) := by
  have UP := Lib.hid (part_any b B N (s.wid / 2) up s w h hk hN (by omega) (by omega))
  have HA := Lib.hid h
  obtain ⟨v, ⟨⟨c0, c1, c2, c3, c4⟩, f0, f1, f2, f3, f4⟩, -⟩ := h
  obtain ⟨R, hR⟩ : ∃ R, parE s (s.wid / 2) up = R := ⟨_, rfl⟩
  rw [hR] at UP ⊢
  obtain ⟨d, hd⟩ : ∃ d, s.wid = d := ⟨_, rfl⟩
  rw [hd] at c4 UP
  obtain ⟨q, hq⟩ : ∃ q, d / 2 = q := ⟨_, rfl⟩
  have s1 : Int.tdiv (d : Int) 2 = (q : Int) := by rw [← hq, show (2 : Int) = ((2 : Nat) : Int) from rfl, Int.ofNat_tdiv]
  have s2 : IntKind.u64.wrap (q : Int) = (q : Int) := by rw [IntKind.wrap_u64]; have := hk.2.2.2.1; omega
  rw [hq] at UP
  clear hR hd hq hk hw c0 c1 c2 c3
  go_enter Tryz.func143, Tryz.ntmps143
  go_wp2_with fail
  refine (UP.out).mono ?_; rintro e w7 ⟨rfl, hA7, hW7⟩
  go_wp2
  go_end0
  exact ⟨rfl, hA7, hW7⟩
/-- what coding a bit says, and leaves -/
def chance (p : Int) : Bool := decide (1 ≤ p) && decide (p < 2048)
def codE (s : Ec) (p : Int) (up : Bool) : Ec := if chance p then parE s (s.wid / 2048 * p.toNat) up else s
def EcPost (w : World) (b : Nat) (B : Nat → Prop) (p : Int) (s : Ec) (e : Ending) (w' : World) : Prop := ∃ x, e = .returned x ∧ ErrIs w' (if chance p then none else some ([], 3)) x ∧ EcAt w' b B s ∧ PKp b B w w'
set_option maxRecDepth 20000 in
theorem ischance_any (p : Int) (w : World) : Calls Tryz.prog 144 #[.int .i64 p] w fun e w' => e = .returned (.bool (chance p)) ∧ w = w' := by
  by_cases h1 : 1 ≤ p
  · by_cases h2 : p < 2048
    · have HC : Hid (chance p = true) := by show _ = _; unfold chance; rw [decide_eq_true h1, decide_eq_true h2]; rfl
      have t2 : decide (p < 2048) = true := decide_eq_true h2
      go_enter Tryz.func144, Tryz.ntmps144
      go_wp2
      go_ret
      exact ⟨by rw [HC.out]; rfl, rfl⟩
    · have HC : Hid (chance p = false) := by show _ = _; unfold chance; rw [decide_eq_true h1, decide_eq_false h2]; rfl
      have t2 : decide (p < 2048) = false := decide_eq_false h2
      go_enter Tryz.func144, Tryz.ntmps144
      go_wp2
      go_ret
      exact ⟨by rw [HC.out]; rfl, rfl⟩
  · have HC : Hid (chance p = false) := by show _ = _; unfold chance; rw [decide_eq_false h1]; rfl
    go_enter Tryz.func144, Tryz.ntmps144
    go_wp2
    go_ret
    exact ⟨by rw [HC.out]; rfl, rfl⟩
set_option maxRecDepth 20000 in
set_option maxHeartbeats 4000000 in
theorem encode_any (b : Nat) (B : Nat → Prop) (N : Nat) (p : Int) (up : Bool) (s : Ec) (w : World) (h : EcAt w b B s) (hk : okE N s) (hN : N ≤ 90000000) (hw : 16777216 ≤ s.wid) : Calls Tryz.prog 141 #[.pointer (some ⟨b, 0, none⟩), .int .i64 p, .bool up] w (EcPost w b B p (codE s p up)) := by
  by_cases hc : chance p = true
  · have HF : Hid ((if chance p then none else some ([], 3) : Fall) = none) := if_pos hc
    have HS : Hid (codE s p up = parE s (s.wid / 2048 * p.toNat) up) := if_pos hc
    have hc2 := hc
    unfold chance at hc2
    rw [Bool.and_eq_true, decide_eq_true_iff, decide_eq_true_iff] at hc2
    obtain ⟨n, rfl⟩ : ∃ n : Nat, p = (n : Int) := ⟨p.toNat, by omega⟩
    have hn : ((n : Int)).toNat = n := by omega
    rw [hn] at HS
    obtain ⟨d, hd⟩ : ∃ d, s.wid = d := ⟨_, rfl⟩
    obtain ⟨q, hq⟩ : ∃ q, d / 2048 = q := ⟨_, rfl⟩
    obtain ⟨W, hW⟩ : ∃ W, q * n = W := ⟨_, rfl⟩
    have hd4 : d < 4294967296 := by rw [← hd]; exact hk.2.2.2.1
    have h1 : q * n ≤ q * 2047 := Nat.mul_le_mul_left q (by omega)
    have h2 : q * 1 ≤ q * n := Nat.mul_le_mul_left q (by omega)
    have UP := Lib.hid (part_any b B N W up s w h hk hN (by omega) (by omega))
    rw [hd, hq, hW] at HS
    rw [← HS.out] at UP
    have s1 : Int.tdiv (d : Int) 2048 = (q : Int) := by rw [← hq, show (2048 : Int) = ((2048 : Nat) : Int) from rfl, Int.ofNat_tdiv]
    have s2 : IntKind.u64.wrap (q : Int) = (q : Int) := by rw [IntKind.wrap_u64]; omega
    have s3 : IntKind.u64.wrap (n : Int) = (n : Int) := by rw [IntKind.wrap_u64]; omega
    have s4 : IntKind.u64.wrap ((q : Int) * (n : Int)) = (W : Int) := by rw [← Int.natCast_mul, hW, IntKind.wrap_u64]; omega
    obtain ⟨v, ⟨⟨c0, c1, c2, c3, c4⟩, f0, f1, f2, f3, f4⟩, -⟩ := h
    rw [hd] at c4
    have HCH := Lib.hid hc
    obtain ⟨R, hR⟩ : ∃ R, codE s (n : Int) up = R := ⟨_, rfl⟩
    rw [hR] at UP ⊢
    clear hR HS hn hc2 hd hq hW hk hw h1 h2 c0 c1 c2 c3 hc
    go_enter Tryz.func141, Tryz.ntmps141
    go_wp2_with fail
    refine (ischance_any _ _).mono ?_; rintro e w1 ⟨rfl, rfl⟩
    rw [HCH.out]
    go_wp2_with fail
    refine (UP.out).mono ?_; rintro e w7 ⟨rfl, hA7, hW7⟩
    go_wp2
    go_ret
    exact ⟨_, rfl, by rw [HF.out]; rfl, hA7, hW7⟩
  · have hc : chance p = false := by simpa using hc
    have HF : Hid ((if chance p then none else some ([], 3) : Fall) = some ([], 3)) := by show _ = _; rw [hc]; rfl
    have HS : Hid (codE s p up = s) := by show (if chance p then _ else _) = _; rw [hc]; rfl
    have HA := Lib.hid h
    have HCH := Lib.hid hc
    clear h hk hw hc
    go_enter Tryz.func141, Tryz.ntmps141
    go_wp2_with fail
    refine (ischance_any _ _).mono ?_; rintro e w1 ⟨rfl, rfl⟩
    rw [HCH.out]
    go_wp2
    go_ret
    exact ⟨_, rfl, by rw [HF.out]; exact ErrIs.code (by decide), by rw [HS.out]; exact HA.out, PKp.refl _ _ _⟩
end Go.Proofs.YtpofabebmeickaaGreatDoor

