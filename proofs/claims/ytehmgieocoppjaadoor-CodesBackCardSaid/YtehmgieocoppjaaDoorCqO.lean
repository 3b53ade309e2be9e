/- A list of kinlaw3's operations of the call's own, and a writer beside it; what was put comes back. -/
import Derived.Test.YtehmgieocoppjaaDoorZu
import Derived.Test.YtehmgieocoppjaaDoorCoP
namespace Go.Proofs.YtehmgieocoppjaaDoor
set_option linter.unusedVariables false
set_option linter.unusedSimpArgs false
open Go.RowKit Go.Extern.Stop Go.Stop Go.Extern

theorem infoOq : (Tryd.prog.info? 50).map (fun i => (i.zero, i.size, i.bytes)) = some (some (.agg #[.int .i64 0, .int .i64 0, .int .i64 0, .int .i64 0]), 4, 32) := by kernel_rfl
def oqc (o : Oq4) : List Value := [.int .i64 o.1, .int .i64 o.2.1, .int .i64 o.2.2.1, .int .i64 o.2.2.2]
def oqcells (D : List Oq4) : List Value := D.flatMap oqc
theorem oqcells_app (D : List Oq4) (o : Oq4) : oqcells (D ++ [o]) = oqcells D ++ oqc o := by simp [oqcells]
theorem oqcells_get : ∀ (D : List Oq4) (q : Nat) (o : Oq4), D[q]? = some o → (oqcells D)[q * 4]? = some (.int .i64 o.1) ∧ (oqcells D)[q * 4 + 1]? = some (.int .i64 o.2.1) ∧ (oqcells D)[q * 4 + 2]? = some (.int .i64 o.2.2.1) ∧ (oqcells D)[q * 4 + 3]? = some (.int .i64 o.2.2.2)
  | [], q, o, h => by simp at h
  | a :: D, 0, o, h => by
    simp only [List.getElem?_cons_zero, Option.some.injEq] at h
    subst h
    exact ⟨rfl, rfl, rfl, rfl⟩
  | a :: D, q + 1, o, h => by
    simp only [List.getElem?_cons_succ] at h
    obtain ⟨h1, h2, h3, h4⟩ := oqcells_get D q o h
    have e : oqcells (a :: D) = oqc a ++ oqcells D := by simp [oqcells]
    have l : (oqc a).length = 4 := rfl
    rw [e]
    refine ⟨?_, ?_, ?_, ?_⟩
    · rw [List.getElem?_append_right (by omega), l, show (q + 1) * 4 - 4 = q * 4 by omega]; exact h1
    · rw [List.getElem?_append_right (by omega), l, show (q + 1) * 4 + 1 - 4 = q * 4 + 1 by omega]; exact h2
    · rw [List.getElem?_append_right (by omega), l, show (q + 1) * 4 + 2 - 4 = q * 4 + 2 by omega]; exact h3
    · rw [List.getElem?_append_right (by omega), l, show (q + 1) * 4 + 3 - 4 = q * 4 + 3 by omega]; exact h4
theorem push_oq {ops : Array Oper} {rest : List Oper} {o : Oper} {a : Act} {Q : Exit → Act → World → Prop} {Wd : World} {base : Nat} (hgd : o.guard = none) (s y : Operand) (t : TypeId)
    (ho : o.op = .call { callee := .builtin .append, args := #[s, y], argTypes := #[t, t] }) (ht : Tryd.prog.underlying t = some (.slice 50))
    (v : Value) (n : Nat) (xs : List Value) (p : Oq4) (hs : a.eval s = v) (hown : Wd.ownsRow base 50 4 v n xs) (hx : a.eval y = .slice (some ⟨Wd.heap.size, 0, none⟩) 1 1) (hb : base ≤ Wd.heap.size) (hn : n ≤ 1000000)
    (h : ∀ v' w', w'.ownsRow base 50 4 v' (n + 1) (xs ++ oqc p) → Wd.grownBy w' v.ownBlock → wpList Tryd.prog ops Q rest (a.put o.dst v') w') :
    wpList Tryd.prog ops Q (o :: rest) a (Wd.alloc (.cells #[.int .i64 p.1, .int .i64 p.2.1, .int .i64 p.2.2.1, .int .i64 p.2.2.2] 50)) := by
  obtain ⟨i0, hi, hz0, hz1, hz2⟩ := info_parts infoOq
  refine wpList_append_own _ hgd s y t ho base 50 i0 _ 4 32 ht hi hz0 hz1 hz2 rfl (by decide) v n xs hs (hown.alloc _) ⟨Wd.heap.size, 0, none⟩ 1 1 (oqc p) hx rfl (World.news_of_block (cs := #[.int .i64 p.1, .int .i64 p.2.1, .int .i64 p.2.2.1, .int .i64 p.2.2.2]) (t := 50) (fr := (0, 0)) (heap_alloc_new Wd _)) ?_ (by unfold maxLen; omega) (by omega) (by simp; omega) ?_
  · intro x hx
    simp only [oqc, List.mem_cons, List.not_mem_nil, or_false] at hx
    rcases hx with rfl | rfl | rfl | rfl <;> rfl
  intro v' w' h1 h2 _
  refine h v' w' h1 ⟨h2.os, h2.tape, h2.output, Nat.le_trans (by simp) h2.size, fun k hk hne => ?_⟩
  exact (h2.block k (by simp; omega) hne).trans (Below.heap_alloc Wd _ k hk)
theorem oq_own_wkp {w w' : World} {b B : Nat} {v : Value} {n : Nat} {xs : List Value} (h : w.ownsRow B 50 4 v n xs) (k : WKp b B w w') (hb : b < B) : w'.ownsRow B 50 4 v n xs := by
  obtain ⟨hl, h⟩ := h
  refine ⟨hl, ?_⟩
  rcases h with h | ⟨g, cap, cur, rfl, hg, hgg, rest⟩
  · exact Or.inl h
  · refine Or.inr ⟨g, cap, cur, rfl, hg, ?_, rest⟩
    rw [k.2.2 g (Array.getElem?_eq_some_iff.1 hgg).1 (by omega) (.inr ?_)]
    · exact hgg
    · rintro ⟨cs, fr, e⟩
      rw [hgg] at e
      simp only [Option.some.injEq, Obj.cells.injEq] at e
      exact absurd e.2.1 (by decide)
theorem WrAt.grownq {w w' : World} {b B : Nat} {l : List Bool} {v : Value} {n : Nat} {xs : List Value} (h : WrAt w b B l) (o : w.ownsRow B 50 4 v n xs) (g : w.grownBy w' v.ownBlock) : WrAt w' b B l := by
  obtain ⟨u, h1, h2, h3, h4⟩ := h
  have hbv : b ≠ v.ownBlock.getD b + 1 := by
    cases hv : v.ownBlock with
    | none => simp
    | some k => have := (o.lt k hv).1; simp; omega
  have hbv : some b ≠ v.ownBlock := fun e => by have := (o.lt b e.symm).1; omega
  refine ⟨u, h1.same (g.block b (Ext.lt (p := ⟨b, 0, none⟩) h1.1.1) hbv), h2.kept g ?_, ⟨h3.1, Nat.le_trans h3.2 g.size⟩, h4⟩
  rcases h2.2 with ⟨rfl, -⟩ | ⟨g1, c1, cur1, rfl, -, hg1, -⟩
  · exact .inl rfl
  · right
    intro e
    rcases o.2 with ⟨rfl, -⟩ | ⟨g2, c2, cur2, rfl, -, hg2, -⟩
    · simp [Value.ownBlock] at e
    · simp only [Value.ownBlock, Option.some.injEq] at e
      subst e
      rw [hg1] at hg2
      simp only [Option.some.injEq, Obj.cells.injEq] at hg2
      exact absurd hg2.2.1 (by decide)
theorem oq_own_slice {w : World} {base n : Nat} {v : Value} {xs : List Value} (h : w.ownsRow base 50 4 v n xs) : ∃ a cap, v = .slice a n cap := by
  obtain ⟨hl, h⟩ := h
  rcases h with ⟨h1, h2⟩ | ⟨g, cap, cur, e, -⟩
  · exact ⟨none, 0, by rw [h1, h2]⟩
  · exact ⟨some ⟨g, 0, none⟩, cap, e⟩
theorem oq_own_cells {w : World} {base n : Nat} {a : Option Addr} {cap : Nat} {D : List Oq4} (h : w.ownsRow base 50 4 (.slice a n cap) n (oqcells D)) (hn : 0 < n) : ∃ g, a = some ⟨g, 0, none⟩ ∧ (base ≤ g ∧ g < w.heap.size) ∧ ∀ q o, D[q]? = some o → OqIn w g (q * 4) o := by
  obtain ⟨hl, h' | ⟨g, cap', cur, e', hb, hg, h1, h2, hs, ht⟩⟩ := h
  · omega
  · simp only [Value.slice.injEq] at e'
    obtain ⟨rfl, -, rfl⟩ := e'
    have cell : ∀ j v, (oqcells D)[j]? = some v → w.cell? ⟨g, j, none⟩ = some v := by
      intro j v hj
      rw [← ht, List.getElem?_take] at hj
      split at hj
      · simp [World.cell?, hg]
        simpa using hj
      · cases hj
    refine ⟨g, rfl, ⟨hb, (Array.getElem?_eq_some_iff.1 hg).1⟩, fun q o hq => ?_⟩
    obtain ⟨c0, c1, c2, c3⟩ := oqcells_get D q o hq
    exact ⟨cell _ _ c0, cell _ _ c1, cell _ _ c2, cell _ _ c3⟩
/-- what may be done; its bits; all of them -/
def okQ (o : Oq4) : Prop := (o.1 = 0 ∧ ueOk o.2.1) ∨ (o.1 = 1 ∧ seOk o.2.1) ∨ (o.1 = 2 ∧ riOk o.2.1 o.2.2.1)
def cdL (o : Oq4) : List Bool := if o.1 = 0 then ueL o.2.1.toNat else if o.1 = 1 then ueL (foldI o.2.1).toNat else riL o.2.1.toNat o.2.2.1.toNat
def eqL (D : List Oq4) : List Bool := D.flatMap cdL
theorem eqL_app (D : List Oq4) (o : Oq4) : eqL (D ++ [o]) = eqL D ++ cdL o := by simp [eqL]
theorem eqL_take {D : List Oq4} {j : Nat} {o : Oq4} (h : D[j]? = some o) : eqL (D.take (j + 1)) = eqL (D.take j) ++ cdL o := by
  rw [List.take_add_one, h]
  exact eqL_app _ _
theorem eqL_pre (D : List Oq4) (j : Nat) : eqL D = eqL (D.take j) ++ eqL (D.drop j) := by
  unfold eqL
  rw [← List.flatMap_append, List.take_append_drop]
theorem cdL_len {o : Oq4} (h : okQ o) : (cdL o).length ≤ 61 := by
  unfold cdL
  rcases h with ⟨h0, h⟩ | ⟨h0, h⟩ | ⟨h0, h⟩
  · rw [if_pos h0]; have := szUe_yes h; omega
  · rw [if_neg (by omega), if_pos h0]; have := szUe_yes (fold_ok h); omega
  · rw [if_neg (by omega), if_neg (by omega)]; have := szRi_yes h; omega
variable {F : Nat → Prop}
theorem back_ue {D : List Oq4} {l : List Bool} {j c : Nat} {o : Oq4} (hl : eqL D = l) (ho : D[j]? = some o) (h0 : o.1 = 0) (hk : ueOk o.2.1) (w : World) (h : RdAt F w c (pkL l) (eqL (D.take j)).length) :
    Calls Tryd.prog 39 #[.pointer (some ⟨c, 0, none⟩), .int .i64 o.2.1] w (RgPost F w c (pkL l) o.2.1 (eqL (D.take (j + 1))).length none) := by
  have e := eqL_pre D (j + 1)
  have e2 := eqL_take ho
  have e3 : cdL o = ueL o.2.1.toNat := by unfold cdL; rw [if_pos h0]
  rw [e2, e3, hl] at e
  rw [e2, e3]
  generalize eqL (D.take j) = l0 at *
  unfold ueOk at hk
  have hI := UeIs.back e (by omega)
  have U := getue_any c l0.length o.2.1 (pkL l) w h (by have := hI.2.2; omega)
  rw [ugG_of hI (by omega) (by omega), Int.toNat_of_nonneg hk.1] at U
  rw [List.length_append]
  exact U
theorem back_se {D : List Oq4} {l : List Bool} {j c : Nat} {o : Oq4} (hl : eqL D = l) (ho : D[j]? = some o) (h0 : o.1 = 1) (hk : seOk o.2.1) (w : World) (h : RdAt F w c (pkL l) (eqL (D.take j)).length) :
    Calls Tryd.prog 40 #[.pointer (some ⟨c, 0, none⟩), .int .i64 (absI o.2.1)] w (RgPost F w c (pkL l) o.2.1 (eqL (D.take (j + 1))).length none) := by
  have e := eqL_pre D (j + 1)
  have e2 := eqL_take ho
  have e3 : cdL o = ueL (foldI o.2.1).toNat := by unfold cdL; rw [if_neg (by omega), if_pos h0]
  rw [e2, e3, hl] at e
  rw [e2, e3]
  generalize eqL (D.take j) = l0 at *
  have hf := fold_ok hk
  unfold ueOk at hf
  have hI := UeIs.back e (by omega)
  have U := getse_any c l0.length (absI o.2.1) (pkL l) w h (by have := hI.2.2; omega)
  rw [sgG_of hk hI (Int.le_refl _)] at U
  rw [List.length_append]
  exact U
theorem back_ri {D : List Oq4} {l : List Bool} {j c : Nat} {o : Oq4} (hl : eqL D = l) (ho : D[j]? = some o) (h0 : o.1 = 2) (hk : riOk o.2.1 o.2.2.1) (w : World) (h : RdAt F w c (pkL l) (eqL (D.take j)).length) :
    Calls Tryd.prog 41 #[.pointer (some ⟨c, 0, none⟩), .int .i64 o.2.2.1, .int .i64 o.2.1] w (RgPost F w c (pkL l) o.2.1 (eqL (D.take (j + 1))).length none) := by
  have e := eqL_pre D (j + 1)
  have e2 := eqL_take ho
  have e3 : cdL o = riL o.2.1.toNat o.2.2.1.toNat := by unfold cdL; rw [if_neg (by omega), if_neg (by omega)]
  rw [e2, e3, hl] at e
  rw [e2, e3]
  generalize eqL (D.take j) = l0 at *
  unfold riOk at hk
  have hI := RiIs.back e (by omega)
  have U := getri_any c l0.length o.2.2.1 o.2.1 (pkL l) w h (by have := hI.2; omega)
  rw [rgG_of hk.2 hI (by omega) (by omega), Int.toNat_of_nonneg hk.1.1] at U
  rw [List.length_append]
  exact U
/-- what was done, in a row of the call's own, not at c -/
def DqAt (w : World) (c : Nat) (oa : Option Addr) (D : List Oq4) : Prop := 0 < D.length → ∃ g, oa = some ⟨g, 0, none⟩ ∧ g ≠ c ∧ ∀ q o, D[q]? = some o → OqIn w g (q * 4) o
theorem DqAt.kp {w w' : World} {c : Nat} {oa : Option Addr} {D : List Oq4} (h : DqAt w c oa D) (k : Kp c w w') : DqAt w' c oa D := fun h0 => by
  obtain ⟨g, e, hg, hq⟩ := h h0
  refine ⟨g, e, hg, fun q o ho => ?_⟩
  obtain ⟨c0, c1, c2, c3⟩ := hq q o ho
  exact ⟨k.cell c0 hg, k.cell c1 hg, k.cell c2 hg, k.cell c3 hg⟩
theorem DqAt.of {w w' : World} {base n c cap : Nat} {oa : Option Addr} {D : List Oq4} (h : w.ownsRow base 50 4 (.slice oa n cap) n (oqcells D)) (hn : D.length = n) (k : Ext w w') (hc : w.heap.size ≤ c) : DqAt w' c oa D := fun h0 => by
  obtain ⟨g, e, hg, hq⟩ := oq_own_cells h (by omega)
  exact ⟨g, e, by omega, fun q o ho => (hq q o ho).ext k⟩
end Go.Proofs.YtehmgieocoppjaaDoor
