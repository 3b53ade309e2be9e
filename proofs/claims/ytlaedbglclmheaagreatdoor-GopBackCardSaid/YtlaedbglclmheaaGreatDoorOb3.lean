/- A box of any type, a row of any type, as objects; an append of one element to a row (generic). -/
import Derived.Test.YtlaedbglclmheaaGreatDoorZc
namespace Go.Proofs.YtlaedbglclmheaaGreatDoor
set_option linter.unusedVariables false
set_option linter.unusedSimpArgs false
open Go.RowKit Go.Extern.Stop Go.Stop Go.Extern

def BoF (p : Nat) (T : TypeId) (w : World) (F : Nat → Prop) (cs : Array Value) : Prop := BoxIs w p cs T ∧ ∀ k, F k ↔ k = p
theorem BoF.obj (p : Nat) (T : TypeId) : Obj (BoF p T) := ⟨fun h k hk => by rw [(h.2 k).1 hk]; exact h.1.lt, fun h k => ⟨(k p ((h.2 p).2 rfl)).trans h.1, h.2⟩⟩
theorem BoF.new (w : World) (cs : Array Value) (T : TypeId) : BoF w.heap.size T (w.alloc (.cells cs T)) (fun k => k = w.heap.size) cs := ⟨BoxIs.new w cs T, fun _ => Iff.rfl⟩
theorem BoxIs.wset {w : World} {p i : Nat} {cs : Array Value} {T : TypeId} (h : BoxIs w p cs T) (v : Value) : BoxIs (w.setCell ⟨p, i, none⟩ v) p (cs.setIfInBounds i v) T := heap_setCell_same w p i cs T v h
theorem BoxIs.woth {w : World} {b : Nat} {p : Addr} {cs : Array Value} {T : TypeId} (h : BoxIs w b cs T) (hp : p.block ≠ b) (v : Value) : BoxIs (w.setCell p v) b cs T := (Below.heap_setCell w p v b (Ne.symm hp)).trans h
theorem cell3_other {w : World} {p b i : Nat} {x : Value} (h : w.cell? ⟨b, i, none⟩ = some x) (hp : p ≠ b) (v0 v1 v2 : Value) : (((w.setCell ⟨p, 0, none⟩ v0).setCell ⟨p, 1, none⟩ v1).setCell ⟨p, 2, none⟩ v2).cell? ⟨b, i, none⟩ = some x := by
  have o : ∀ (w : World) (j : Nat) (v : Value), (w.setCell ⟨p, j, none⟩ v).cell? ⟨b, i, none⟩ = w.cell? ⟨b, i, none⟩ := fun w j v => World.cell?_setCell_other w _ _ v (fun e => hp (congrArg Addr.block e))
  rw [o, o, o]; exact h
def RwF (e : TypeId) (s : Nat) (w : World) (F : Nat → Prop) (p : Value × Nat × List Value) : Prop := w.ownsRow 0 e s p.1 p.2.1 p.2.2 ∧ ∀ k, F k ↔ p.1.ownBlock = some k
theorem RwF.obj (e : TypeId) (s : Nat) : Obj (RwF e s) := ⟨fun h k hk => (h.1.lt k ((h.2 k).1 hk)).2, fun h k => ⟨own_block h.1 (fun g hg => k g ((h.2 g).2 hg)), h.2⟩⟩
theorem RwF.nil (e : TypeId) (s : Nat) (w : World) : RwF e s w (fun _ => False) (.slice none 0 0, 0, []) := ⟨World.ownsRow_nil _ _ _ _, fun k => ⟨False.elim, fun h => by cases h⟩⟩
section
variable {σ τ : Type} {A : World → (Nat → Prop) → σ → Prop} {w0 w : World}
theorem bo_box {p : Nat} {T : TypeId} {s : σ} {cs : Array Value} (h : Uno (Sep A (BoF p T)) w0 w (s, cs)) : BoxIs w p cs T := by
  obtain ⟨F, ⟨F1, F2, g1, g2, g3, g4⟩, -⟩ := h
  exact g2.1
theorem bo_set (oa : Obj A) {p : Nat} {T : TypeId} {s : σ} {cs : Array Value} (h : Uno (Sep A (BoF p T)) w0 w (s, cs)) (i : Nat) (v : Value) : Uno (Sep A (BoF p T)) w0 (w.setCell ⟨p, i, none⟩ v) (s, cs.setIfInBounds i v) := by
  obtain ⟨F, ⟨F1, F2, g1, g2, g3, g4⟩, h5, h6⟩ := h
  have hp2 : F2 p := (g2.2 p).2 rfl
  have hFp : F p := (g4 p).2 (.inr hp2)
  exact ⟨F, ⟨F1, F2, oa.same g1 (fun k hk => Below.heap_setCell w ⟨p, i, none⟩ v k (fun e => g3 p hp2 ((show k = p from e) ▸ hk))), ⟨g2.1.wset v, g2.2⟩, g3, g4⟩, h5.setCell (p := ⟨p, i, none⟩) (h6 p hFp) _, h6⟩
theorem bo_ge {p : Nat} {T : TypeId} {s : σ} {cs : Array Value} (h : Uno (Sep A (BoF p T)) w0 w (s, cs)) : w0.heap.size ≤ p := by
  obtain ⟨F, ⟨F1, F2, g1, g2, g3, g4⟩, h5, h6⟩ := h
  exact h6 p ((g4 p).2 (.inr ((g2.2 p).2 rfl)))
theorem rw_own {e : TypeId} {z : Nat} {s : σ} {p : Value × Nat × List Value} (h : Uno (Sep A (RwF e z)) w0 w (s, p)) : w.ownsRow 0 e z p.1 p.2.1 p.2.2 := by
  obtain ⟨F, ⟨F1, F2, g1, g2, g3, g4⟩, -⟩ := h
  exact g2.1
/-- the row moved or grown by its owner -/
theorem rw_step (oa : Obj A) {e : TypeId} {z : Nat} {W w' : World} {s : σ} {v v' : Value} {n n' : Nat} {xs xs' : List Value} (h : Uno (Sep A (RwF e z)) w0 W (s, (v, n, xs))) (hw : w'.ownsRow 0 e z v' n' xs') (hg : W.grownBy w' v.ownBlock) (hat : ∀ g, v'.ownBlock = some g → v.ownBlock = some g ∨ W.heap.size ≤ g) :
    Uno (Sep A (RwF e z)) w0 w' (s, (v', n', xs')) := by
  obtain ⟨F, ⟨F1, F2, k1, k2, k3, k4⟩, k5, k6⟩ := h
  have hown2 : ∀ k, F2 k ↔ v.ownBlock = some k := k2.2
  have st : Step F2 W (fun k => v'.ownBlock = some k) w' := ⟨⟨⟨hg.os, hg.tape, hg.output⟩, hg.size, fun k hk hn => hg.block k hk (fun e => hn ((hown2 k).2 e.symm))⟩, fun k hk => (hat k hk).imp (fun e => (hown2 _).2 e) id⟩
  obtain ⟨j1, j2, j3⟩ := st.apart (oa.lt k1) (fun k hk hf => k3 k hf hk)
  have hF2 : ∀ k, F2 k → w0.heap.size ≤ k := fun k hk => k6 k ((k4 k).2 (.inr hk))
  obtain ⟨m1, m2⟩ := st.out k5 hF2
  refine ⟨fun k => F1 k ∨ v'.ownBlock = some k, ⟨F1, fun k => v'.ownBlock = some k, oa.same k1 j1, ⟨hw, fun _ => Iff.rfl⟩, fun k hk hf => j2 k hf hk, fun _ => Iff.rfl⟩, m1, ?_⟩
  rintro k (hk | hk)
  · exact k6 k ((k4 k).2 (.inl hk))
  · exact m2 k hk
end
/-- one element appended, laid into a block of its own first -/
theorem step_push_x {ops : Array Oper} {o : Oper} {a : Act} {K : Act → World → Prop} {Q : Exit → Act → World → Prop} {X : Prop} {W : World} (e : TypeId) {z : Value} {sz by' : Nat} (hinfo : (Tryz.prog.info? e).map (fun i => (i.zero, i.size, i.bytes)) = some (some z, sz, by')) (hzs : z.cells.size = sz) (hsz : 0 < sz) (hby : by' ≤ 1000) (hgd : o.guard = none) (s y : Operand) (t : TypeId)
    (ho : o.op = .call { callee := .builtin .append, args := #[s, y], argTypes := #[t, t] }) (ht : Tryz.prog.underlying t = some (.slice e))
    (v : Value) (n : Nat) (xs cs : List Value) (hcl : cs.length = sz) (hone : ∀ u ∈ cs, u.oneCell' = true) (hs : a.eval s = v) (hown : W.ownsRow 0 e sz v n xs) (hx : a.eval y = .slice (some ⟨W.heap.size, 0, none⟩) 1 1) (hn : n ≤ 1000000)
    (h : ∀ g cap w', w'.ownsRow 0 e sz (.slice (some ⟨g, 0, none⟩) (n + 1) cap) (n + 1) (xs ++ cs) → W.grownBy w' v.ownBlock → (v.ownBlock = some g ∨ g = W.heap.size + 1) → K (a.put o.dst (.slice (some ⟨g, 0, none⟩) (n + 1) cap)) w') :
    if Region.wanted o (yielded ops a.tmps) = true then Oper.wp Tryz.prog o a (W.alloc (.cells cs.toArray e)) K Q else X := by
  obtain ⟨i0, hi, hz0, hz1, hz2⟩ := info_parts hinfo
  refine step_append_lies _ hgd s y t ho 0 e i0 z sz by' ht hi hz0 hz1 hz2 hzs hsz v n xs hs (hown.alloc _) ⟨W.heap.size, 0, none⟩ 1 1 cs hx (by rw [hcl, Nat.one_mul]) (World.news_of_block (cs := cs.toArray) (t := e) (fr := (0, 0)) (heap_alloc_new W _)) hone (by decide) (by unfold maxLen; omega) (Nat.le_trans (Nat.mul_le_mul (Nat.add_le_add_right hn 1) hby) (by decide)) (Nat.zero_le _) (W.heap.size + 1) (by simp) ?_
  intro g cap w' h1 h2 h3 _
  refine h g cap w' h1 ⟨h2.os, h2.tape, h2.output, Nat.le_trans (by simp) h2.size, fun k hk hne => ?_⟩ h3
  exact (h2.block k (by simp; omega) hne).trans (Below.heap_alloc W _ k hk)
end Go.Proofs.YtlaedbglclmheaaGreatDoor
