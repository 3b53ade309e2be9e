/- A list of operations of the call's own beside an encoder, and then beside a decoder. -/
import Derived.Test.YtdpebaheojaihaaDoorRb2
import Derived.Deep.RegionLaw
namespace Go.Proofs.YtdpebaheojaihaaDoor
set_option linter.unusedVariables false
set_option linter.unusedSimpArgs false
open Go.RowKit Go.Extern.Stop Go.Stop Go.Extern

theorem infoOt : (Tryd.prog.info? 29).map (fun i => (i.zero, i.size, i.bytes)) = some (some (.agg #[.int .i64 0, .bool false]), 2, 16) := by kernel_rfl
def otc (o : Ot) : List Value := [.int .i64 o.1, .bool o.2]
def otcs (D : List Ot) : List Value := D.flatMap otc
theorem otcs_app (D : List Ot) (o : Ot) : otcs (D ++ [o]) = otcs D ++ otc o := by simp [otcs]
theorem otcs_get : ∀ (D : List Ot) (q : Nat) (o : Ot), D[q]? = some o → (otcs D)[q * 2]? = some (.int .i64 o.1) ∧ (otcs D)[q * 2 + 1]? = some (.bool o.2)
  | [], q, o, h => by simp at h
  | a :: D, 0, o, h => by
    simp only [List.getElem?_cons_zero, Option.some.injEq] at h
    subst h
    exact ⟨rfl, rfl⟩
  | a :: D, q + 1, o, h => by
    simp only [List.getElem?_cons_succ] at h
    obtain ⟨h1, h2⟩ := otcs_get D q o h
    have e : otcs (a :: D) = otc a ++ otcs D := by simp [otcs]
    have l : (otc a).length = 2 := rfl
    rw [e]
    refine ⟨?_, ?_⟩
    · rw [List.getElem?_append_right (by omega), l, show (q + 1) * 2 - 2 = q * 2 by omega]; exact h1
    · rw [List.getElem?_append_right (by omega), l, show (q + 1) * 2 + 1 - 2 = q * 2 + 1 by omega]; exact h2
theorem push_ot {ops : Array Oper} {rest : List Oper} {o : Oper} {a : Act} {Q : Exit → Act → World → Prop} {Wd : World} {base : Nat} (hgd : o.guard = none) (s y : Operand) (t : TypeId)
    (ho : o.op = .call { callee := .builtin .append, args := #[s, y], argTypes := #[t, t] }) (ht : Tryd.prog.underlying t = some (.slice 29))
    (v : Value) (n : Nat) (xs : List Value) (p : Ot) (hs : a.eval s = v) (hown : Wd.ownsRow base 29 2 v n xs) (hx : a.eval y = .slice (some ⟨Wd.heap.size, 0, none⟩) 1 1) (hb : base ≤ Wd.heap.size) (hn : n ≤ 1000000)
    (h : ∀ v' w', w'.ownsRow base 29 2 v' (n + 1) (xs ++ otc p) → Wd.grownBy w' v.ownBlock → wpList Tryd.prog ops Q rest (a.put o.dst v') w') :
    wpList Tryd.prog ops Q (o :: rest) a (Wd.alloc (.cells #[.int .i64 p.1, .bool p.2] 29)) := by
  obtain ⟨i0, hi, hz0, hz1, hz2⟩ := info_parts infoOt
  refine wpList_append_own _ hgd s y t ho base 29 i0 _ 2 16 ht hi hz0 hz1 hz2 rfl (by decide) v n xs hs (hown.alloc _) ⟨Wd.heap.size, 0, none⟩ 1 1 (otc p) hx rfl (World.news_of_block (cs := #[.int .i64 p.1, .bool p.2]) (t := 29) (fr := (0, 0)) (heap_alloc_new Wd _)) ?_ (by unfold maxLen; omega) (by omega) (by simp; omega) ?_
  · intro x hx
    simp only [otc, List.mem_cons, List.not_mem_nil, or_false] at hx
    rcases hx with rfl | rfl <;> rfl
  intro v' w' h1 h2 _
  refine h v' w' h1 ⟨h2.os, h2.tape, h2.output, Nat.le_trans (by simp) h2.size, fun k hk hne => ?_⟩
  exact (h2.block k (by simp; omega) hne).trans (Below.heap_alloc Wd _ k hk)
theorem ot_own_wkp {w w' : World} {b B : Nat} {v : Value} {n : Nat} {xs : List Value} (h : w.ownsRow B 29 2 v n xs) (k : WKp b B w w') (hb : b < B) : w'.ownsRow B 29 2 v n xs := by
  obtain ⟨hl, h⟩ := h
  refine ⟨hl, ?_⟩
  rcases h with h | ⟨g, cap, cur, rfl, hg, hgg, rest⟩
  · exact Or.inl h
  · refine Or.inr ⟨g, cap, cur, rfl, hg, ?_, rest⟩
    rw [k.2.2 g (Array.getElem?_eq_some_iff.1 hgg).1 (by omega) (.inr ?_)]
    · exact hgg
    · rintro ⟨cs, fr, e⟩
      rw [hgg] at e
      simp only [Option.some.injEq, Obj.cells.injEq] at e
      exact absurd e.2.1 (by decide)
theorem EcAt.grown {w w' : World} {b B : Nat} {s : Ec} {v : Value} {n : Nat} {xs : List Value} (h : EcAt w b B s) (o : w.ownsRow B 29 2 v n xs) (g : w.grownBy w' v.ownBlock) : EcAt w' b B s := by
  obtain ⟨u, h1, h2, h3, h4⟩ := h
  have hbv : some b ≠ v.ownBlock := fun e => by have := (o.lt b e.symm).1; omega
  refine ⟨u, h1.same (g.block b h1.lt hbv), h2.kept g ?_, h3, Nat.le_trans h4 g.size⟩
  rcases h2.2 with ⟨rfl, -⟩ | ⟨g1, c1, cur1, rfl, -, hg1, -⟩
  · exact .inl rfl
  · right
    intro e
    rcases o.2 with ⟨rfl, -⟩ | ⟨g2, c2, cur2, rfl, -, hg2, -⟩
    · simp [Value.ownBlock] at e
    · simp only [Value.ownBlock, Option.some.injEq] at e
      subst e
      rw [hg1] at hg2
      simp only [Option.some.injEq, Obj.cells.injEq] at hg2
      exact absurd hg2.2.1 (by decide)
theorem ot_own_slice {w : World} {base n : Nat} {v : Value} {xs : List Value} (h : w.ownsRow base 29 2 v n xs) : ∃ a cap, v = .slice a n cap := by
  obtain ⟨hl, h⟩ := h
  rcases h with ⟨h1, h2⟩ | ⟨g, cap, cur, e, -⟩
  · exact ⟨none, 0, by rw [h1, h2]⟩
  · exact ⟨some ⟨g, 0, none⟩, cap, e⟩
theorem ot_own_cells {w : World} {base n : Nat} {a : Option Addr} {cap : Nat} {D : List Ot} (h : w.ownsRow base 29 2 (.slice a n cap) n (otcs D)) (hn : 0 < n) : ∃ g, a = some ⟨g, 0, none⟩ ∧ (base ≤ g ∧ g < w.heap.size) ∧ ∀ q o, D[q]? = some o → OtIn w g (q * 2) o := by
  obtain ⟨hl, h' | ⟨g, cap', cur, e', hb, hg, h1, h2, hs, ht⟩⟩ := h
  · omega
  · simp only [Value.slice.injEq] at e'
    obtain ⟨rfl, -, rfl⟩ := e'
    have cell : ∀ j v, (otcs D)[j]? = some v → w.cell? ⟨g, j, none⟩ = some v := by
      intro j v hj
      rw [← ht, List.getElem?_take] at hj
      split at hj
      · simp [World.cell?, hg]
        simpa using hj
      · cases hj
    refine ⟨g, rfl, ⟨hb, (Array.getElem?_eq_some_iff.1 hg).1⟩, fun q o hq => ?_⟩
    obtain ⟨c0, c1⟩ := otcs_get D q o hq
    exact ⟨cell _ _ c0, cell _ _ c1⟩
/-- the operations that were done, in a row of the call's own, not at c -/
def OnAt (w : World) (c : Nat) (oa : Option Addr) (D : List Ot) : Prop := 0 < D.length → ∃ g, oa = some ⟨g, 0, none⟩ ∧ g ≠ c ∧ ∀ q o, D[q]? = some o → OtIn w g (q * 2) o
theorem OnAt.kp {w w' : World} {c : Nat} {oa : Option Addr} {D : List Ot} (h : OnAt w c oa D) (k : Kp c w w') : OnAt w' c oa D := fun h0 => by
  obtain ⟨g, e, hg, hq⟩ := h h0
  refine ⟨g, e, hg, fun q o ho => ?_⟩
  obtain ⟨c0, c1⟩ := hq q o ho
  exact ⟨k.cell c0 hg, k.cell c1 hg⟩
theorem OnAt.of {w w' : World} {base n c cap : Nat} {oa : Option Addr} {D : List Ot} (h : w.ownsRow base 29 2 (.slice oa n cap) n (otcs D)) (hn : D.length = n) (k : Ext w w') (hc : w.heap.size ≤ c) : OnAt w' c oa D := fun h0 => by
  obtain ⟨g, e, hg, hq⟩ := ot_own_cells h (by omega)
  exact ⟨g, e, by omega, fun q o ho => (hq q o ho).ext k⟩
theorem EcBox.kp {w w' : World} {b c : Nat} {v : Value} {h : Int} {r l d : Nat} (x : EcBox w b v h r l d) (k : Kp c w w') (hb : b ≠ c) : EcBox w' b v h r l d := x.same (k.block x.lt hb)
set_option maxRecDepth 20000 in
theorem enlen_box (b N n c : Nat) (a : Option Addr) (s : Ec) (w : World) (hB : EcBox w b (.slice a n c) s.held s.run s.low s.wid) (hn : s.done.length = n) (hk : okE N s) (hN : N ≤ 1000000) : Calls Tryd.prog 17 #[.pointer (some ⟨b, 0, none⟩)] w fun e w' => e = .returned (.int .i64 (lenE s : Int)) ∧ Ext w w' := by
  obtain ⟨D, hd, r, l, d⟩ := s
  have hB : EcBox w b (.slice a n c) hd r l d := hB
  have hn : D.length = n := hn
  have k1 : D.length + r ≤ N := hk.1
  have k2 : -1 ≤ hd := hk.2.1.1
  obtain ⟨⟨c0, c1, c2, c3, c4⟩, f0, f1, f2, f3, f4⟩ := hB
  obtain ⟨L, hL⟩ : ∃ L, lenE ⟨D, hd, r, l, d⟩ = L := ⟨_, rfl⟩
  have HL : Hid (L = D.length + r + 4 + if 0 ≤ hd then 1 else 0) := hL.symm
  rw [hL]
  rw [hn] at k1 HL
  clear hL hn hk
  have e1 : IntKind.i64.wrap ((n : Int) + (r : Int)) = (n : Int) + (r : Int) := by rw [IntKind.wrap_i64]; omega
  have e2 : IntKind.i64.wrap ((n : Int) + (r : Int) + 4) = (n : Int) + (r : Int) + 4 := by rw [IntKind.wrap_i64]; omega
  have e3 : IntKind.i64.wrap ((n : Int) + (r : Int) + 4 + 1) = (n : Int) + (r : Int) + 4 + 1 := by rw [IntKind.wrap_i64]; omega
  by_cases h0 : 0 ≤ hd
  · have HL2 : Hid ((L : Int) = (n : Int) + (r : Int) + 4 + 1) := by show _ = _; have := HL.out; rw [if_pos h0] at this; omega
    clear HL
    go_enter Tryd.func17, Tryd.ntmps17
    go_wp2_with fail
    go_quiet (fail)
    have c1' := ((Ext.refl w).drewN nq).cell c1
    go_wp2
    go_ret
    exact ⟨by rw [HL2.out]; rfl, (Ext.refl w).drewN _⟩
  · have HL2 : Hid ((L : Int) = (n : Int) + (r : Int) + 4) := by show _ = _; have := HL.out; rw [if_neg h0] at this; omega
    clear HL
    go_enter Tryd.func17, Tryd.ntmps17
    go_wp2_with fail
    go_quiet (fail)
    have c1' := ((Ext.refl w).drewN nq).cell c1
    go_wp2
    go_ret
    exact ⟨by rw [HL2.out]; rfl, (Ext.refl w).drewN _⟩
end Go.Proofs.YtdpebaheojaihaaDoor
