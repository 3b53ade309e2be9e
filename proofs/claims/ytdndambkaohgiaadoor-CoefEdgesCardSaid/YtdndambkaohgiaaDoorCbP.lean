/- A list of slices of the call's own. -/
import Derived.Test.YtdndambkaohgiaaDoorCfB
import Derived.Test.YtdndambkaohgiaaDoorZb
namespace Go.Proofs.YtdndambkaohgiaaDoor
set_option linter.unusedVariables false
set_option linter.unusedSimpArgs false
open Go.RowKit Go.Extern.Stop Go.Stop Go.Extern

theorem infoSlC : (Tryd.prog.info? 27).map (fun i => (i.zero, i.size, i.bytes)) = some (some (.slice none 0 0), 1, 24) := by kernel_rfl
/-- slices in a row of the call's own -/
def DnF (w : World) (F : Nat → Prop) (p : Value × List Value) : Prop := (w.ownsRow 0 27 1 p.1 p.2.length p.2 ∧ ∀ x ∈ p.2, ∃ a n c, x = .slice a n c) ∧ ∀ k, F k ↔ p.1.ownBlock = some k
theorem DnF.obj : Obj DnF := ⟨fun h k hk => (h.1.1.lt k ((h.2 k).1 hk)).2, fun h k => ⟨⟨own_block h.1.1 (fun g hg => k g ((h.2 g).2 hg)), h.1.2⟩, h.2⟩⟩
theorem DnF.nil (w : World) : DnF w (fun _ => False) (.slice none 0 0, []) := ⟨⟨World.ownsRow_nil _ _ _ _, by simp⟩, fun k => ⟨False.elim, fun h => by simp [Value.ownBlock] at h⟩⟩
theorem DnF.form {w : World} {F : Nat → Prop} {v : Value} {L : List Value} (h : DnF w F (v, L)) : ∃ a c, v = .slice a L.length c := by
  rcases h.1.1.2 with ⟨e, h0⟩ | ⟨g, cap, cur, e, -⟩
  · have e : v = .slice none 0 0 := e
    have h0 : L.length = 0 := h0
    exact ⟨none, 0, by rw [e, h0]⟩
  · exact ⟨_, _, e⟩
theorem DnF.cell {w : World} {F : Nat → Prop} {v : Value} {L : List Value} {q : Nat} {x : Value} (h : DnF w F (v, L)) (hx : L[q]? = some x) : ∃ g cap, v = .slice (some ⟨g, 0, none⟩) L.length cap ∧ w.cell? ⟨g, q, none⟩ = some x := by
  have hq : q < L.length := (List.getElem?_eq_some_iff.1 hx).1
  rcases id h.1.1.2 with ⟨-, h0⟩ | ⟨g, cap, cur, e, -⟩
  · have h0 : L.length = 0 := h0
    omega
  · have e : v = .slice (some ⟨g, 0, none⟩) L.length cap := e
    subst e
    have hc := h.1.1.cells (g := g) rfl q x hx
    have e2 : (⟨g, 0, none⟩ : Addr).add q = ⟨g, q, none⟩ := by unfold Addr.add; split <;> simp_all
    rw [e2] at hc
    exact ⟨g, cap, rfl, hc⟩
theorem push_dn {σ : Type} {A : World → (Nat → Prop) → σ → Prop} (oa : Obj A) {w0 : World} {ops : Array Oper} {rest : List Oper} {o : Oper} {a : Act} {Q : Exit → Act → World → Prop} {W : World} (hgd : o.guard = none) (s y : Operand) (t : TypeId)
    (ho : o.op = .call { callee := .builtin .append, args := #[s, y], argTypes := #[t, t] }) (ht : Tryd.prog.underlying t = some (.slice 27))
    (v : Value) (L : List Value) (n : Nat) (xa : Option Addr) (xn xc : Nat) (u : σ) (hn : L.length = n) (hs : a.eval s = v) (hU : Uno (Sep A DnF) w0 W (u, (v, L))) (hx : a.eval y = .slice (some ⟨W.heap.size, 0, none⟩) 1 1) (hn9 : n ≤ 1000000000)
    (h : ∀ g cap w', Uno (Sep A DnF) w0 w' (u, (.slice (some ⟨g, 0, none⟩) (n + 1) cap, L ++ [.slice xa xn xc])) → wpList Tryd.prog ops Q rest (a.put o.dst (.slice (some ⟨g, 0, none⟩) (n + 1) cap)) w') :
    wpList Tryd.prog ops Q (o :: rest) a (W.alloc (.cells #[.slice xa xn xc] 27)) := by
  obtain ⟨i0, hi, hz0, hz1, hz2⟩ := info_parts infoSlC
  obtain ⟨F, ⟨F1, F2, k1, k2, k3, k4⟩, k5, k6⟩ := hU
  have hown : W.ownsRow 0 27 1 v n L := by have := k2.1.1; rw [hn] at this; exact this
  have hown2 : ∀ k, F2 k ↔ v.ownBlock = some k := k2.2
  refine wpList_append_own_at _ hgd s y t ho 0 27 i0 (.slice none 0 0) 1 24 ht hi hz0 hz1 hz2 rfl (by decide) v n _ hs (hown.alloc _) ⟨W.heap.size, 0, none⟩ 1 1 [.slice xa xn xc] hx rfl (World.news_of_block (cs := #[.slice xa xn xc]) (t := 27) (fr := (0, 0)) (heap_alloc_new W _)) (fun z hz => by rw [List.mem_singleton.1 hz]; rfl) (by unfold maxLen; omega) (by omega) (Nat.zero_le _) ?_
  intro v' w' h1 h2 _ hat
  have g := World.grownBy_alloc W (.cells #[.slice xa xn xc] 27) v.ownBlock
  have hg : W.grownBy w' v.ownBlock := ⟨h2.os.trans g.os, h2.tape.trans g.tape, h2.output.trans g.output, Nat.le_trans g.size h2.size, fun k hk hne => (h2.block k (Nat.lt_of_lt_of_le hk g.size) hne).trans (g.block k hk hne)⟩
  obtain ⟨gg, cap, rfl⟩ : ∃ gg cap, v' = .slice (some ⟨gg, 0, none⟩) (n + 1) cap := by
    rcases h1.2 with ⟨-, h0⟩ | ⟨gg, cap, cur, e, -⟩
    · omega
    · exact ⟨gg, cap, e⟩
  have hf : v.ownBlock = some gg ∨ W.heap.size ≤ gg := by
    rcases hat with e | e
    · exact .inl (e.symm.trans rfl)
    · right
      have e : some gg = _ := e
      have := Option.some.inj e
      rw [this]
      exact g.size
  have st : Step F2 W (fun k => k = gg) w' := ⟨⟨⟨hg.os, hg.tape, hg.output⟩, hg.size, fun k hk hn => hg.block k hk (fun e => hn ((hown2 k).2 e.symm))⟩, fun k hk => by
    subst hk
    exact hf.imp (fun e => (hown2 _).2 e) id⟩
  obtain ⟨j1, j2, j3⟩ := st.apart (oa.lt k1) (fun k hk hf => k3 k hf hk)
  refine h gg cap w' ⟨fun k => F1 k ∨ k = gg, ⟨F1, fun k => k = gg, oa.same k1 j1, ⟨⟨?_, ?_⟩, fun k => ⟨fun e => by rw [e]; rfl, fun e => ?_⟩⟩, fun k hk hf => j2 k hf hk, fun _ => Iff.rfl⟩, ?_⟩
  · show w'.ownsRow _ _ _ _ (L ++ [_]).length _
    rw [List.length_append, hn]
    exact h1
  · intro z hz
    rcases List.mem_append.1 hz with hz | hz
    · exact k2.1.2 z hz
    · exact ⟨xa, xn, xc, List.mem_singleton.1 hz⟩
  · have e : some gg = some k := e
    exact (Option.some.inj e).symm
  · have hF2 : ∀ k, F2 k → w0.heap.size ≤ k := fun k hk => k6 k ((k4 k).2 (.inr hk))
    obtain ⟨m1, m2⟩ := st.out k5 hF2
    refine ⟨m1, ?_⟩
    rintro k (hk | hk)
    · exact k6 k ((k4 k).2 (.inl hk))
    · exact m2 k hk
theorem dn_cell {σ τ : Type} {A : World → (Nat → Prop) → σ → Prop} {w0 w : World} {s : σ} {ta : Option Addr} {i tc q : Nat} {T : List Value} {x : Value} {P : World → Prop} {B : World → (Nat → Prop) → τ → Prop} {t : τ} (h : Uno (Sep (Sep (Sep A DnF) B) HoF) w0 w (((s, (.slice ta i tc, T)), t), P)) (hx : T[q]? = some x) : ∃ g, ta = some ⟨g, 0, none⟩ ∧ w.cell? ⟨g, q, none⟩ = some x := by
  obtain ⟨_, _, _, _, ⟨_, F2, _, h2, _⟩, _⟩ := bag_out h
  obtain ⟨g, cap, e, hc⟩ := h2.cell hx
  simp only [Value.slice.injEq] at e
  exact ⟨g, e.1, hc⟩
end Go.Proofs.YtdndambkaohgiaaDoor
