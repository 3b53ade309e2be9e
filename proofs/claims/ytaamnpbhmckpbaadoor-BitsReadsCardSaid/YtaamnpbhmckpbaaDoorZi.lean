/- Contracts of this seat: Bo1, Bl4. -/
import Derived.Test.YtaamnpbhmckpbaaDoorZh
import Derived.Deep.RegionLaw
/- A list of steps of the call's own, and a writer beside it; what was put comes back (plain). -/
namespace Go.Proofs.YtaamnpbhmckpbaaDoor
set_option linter.unusedVariables false
set_option linter.unusedSimpArgs false
open Go.RowKit Go.Extern.Stop Go.Stop Go.Extern

theorem infoOp : (Tryd.prog.info? 31).map (fun i => (i.zero, i.size, i.bytes)) = some (some (.agg #[.int .i64 0, .int .i64 0, .int .i64 0, .bool false]), 4, 32) := by kernel_rfl
def oc (o : Op4) : List Value := [.int .i64 o.1, .int .i64 o.2.1, .int .i64 o.2.2.1, .bool o.2.2.2]
def ocells (D : List Op4) : List Value := D.flatMap oc
theorem ocells_app (D : List Op4) (o : Op4) : ocells (D ++ [o]) = ocells D ++ oc o := by simp [ocells]
theorem ocells_get : ∀ (D : List Op4) (q : Nat) (o : Op4), D[q]? = some o → (ocells D)[q * 4]? = some (.int .i64 o.1) ∧ (ocells D)[q * 4 + 1]? = some (.int .i64 o.2.1) ∧ (ocells D)[q * 4 + 2]? = some (.int .i64 o.2.2.1) ∧ (ocells D)[q * 4 + 3]? = some (.bool o.2.2.2)
  | [], q, o, h => by simp at h
  | a :: D, 0, o, h => by
    simp only [List.getElem?_cons_zero, Option.some.injEq] at h
    subst h
    exact ⟨rfl, rfl, rfl, rfl⟩
  | a :: D, q + 1, o, h => by
    simp only [List.getElem?_cons_succ] at h
    obtain ⟨h1, h2, h3, h4⟩ := ocells_get D q o h
    have e : ocells (a :: D) = oc a ++ ocells D := by simp [ocells]
    have l : (oc a).length = 4 := rfl
    rw [e]
    refine ⟨?_, ?_, ?_, ?_⟩
    · rw [List.getElem?_append_right (by omega), l, show (q + 1) * 4 - 4 = q * 4 by omega]; exact h1
    · rw [List.getElem?_append_right (by omega), l, show (q + 1) * 4 + 1 - 4 = q * 4 + 1 by omega]; exact h2
    · rw [List.getElem?_append_right (by omega), l, show (q + 1) * 4 + 2 - 4 = q * 4 + 2 by omega]; exact h3
    · rw [List.getElem?_append_right (by omega), l, show (q + 1) * 4 + 3 - 4 = q * 4 + 3 by omega]; exact h4
theorem push_op {ops : Array Oper} {rest : List Oper} {o : Oper} {a : Act} {Q : Exit → Act → World → Prop} {Wd : World} {base : Nat} (hgd : o.guard = none) (s y : Operand) (t : TypeId)
    (ho : o.op = .call { callee := .builtin .append, args := #[s, y], argTypes := #[t, t] }) (ht : Tryd.prog.underlying t = some (.slice 31))
    (v : Value) (n : Nat) (xs : List Value) (p : Op4) (hs : a.eval s = v) (hown : Wd.ownsRow base 31 4 v n xs) (hx : a.eval y = .slice (some ⟨Wd.heap.size, 0, none⟩) 1 1) (hb : base ≤ Wd.heap.size) (hn : n ≤ 1000000)
    (h : ∀ v' w', w'.ownsRow base 31 4 v' (n + 1) (xs ++ oc p) → Wd.grownBy w' v.ownBlock → wpList Tryd.prog ops Q rest (a.put o.dst v') w') :
    wpList Tryd.prog ops Q (o :: rest) a (Wd.alloc (.cells #[.int .i64 p.1, .int .i64 p.2.1, .int .i64 p.2.2.1, .bool p.2.2.2] 31)) := by
  obtain ⟨i0, hi, hz0, hz1, hz2⟩ := info_parts infoOp
  refine wpList_append_own _ hgd s y t ho base 31 i0 _ 4 32 ht hi hz0 hz1 hz2 rfl (by decide) v n xs hs (hown.alloc _) ⟨Wd.heap.size, 0, none⟩ 1 1 (oc p) hx rfl (World.news_of_block (cs := #[.int .i64 p.1, .int .i64 p.2.1, .int .i64 p.2.2.1, .bool p.2.2.2]) (t := 31) (fr := (0, 0)) (heap_alloc_new Wd _)) ?_ (by unfold maxLen; omega) (by omega) (by simp; omega) ?_
  · intro x hx
    simp only [oc, List.mem_cons, List.not_mem_nil, or_false] at hx
    rcases hx with rfl | rfl | rfl | rfl <;> rfl
  intro v' w' h1 h2 _
  refine h v' w' h1 ⟨h2.os, h2.tape, h2.output, Nat.le_trans (by simp) h2.size, fun k hk hne => ?_⟩
  exact (h2.block k (by simp; omega) hne).trans (Below.heap_alloc Wd _ k hk)
theorem op_own_wkp {w w' : World} {b B : Nat} {v : Value} {n : Nat} {xs : List Value} (h : w.ownsRow B 31 4 v n xs) (k : WKp b B w w') (hb : b < B) : w'.ownsRow B 31 4 v n xs := by
  obtain ⟨hl, h⟩ := h
  refine ⟨hl, ?_⟩
  rcases h with h | ⟨g, cap, cur, rfl, hg, hgg, rest⟩
  · exact Or.inl h
  · refine Or.inr ⟨g, cap, cur, rfl, hg, ?_, rest⟩
    rw [k.2.2 g (Array.getElem?_eq_some_iff.1 hgg).1 (by omega) (.inr ?_)]
    · exact hgg
    · rintro ⟨cs, fr, e⟩
      rw [hgg] at e
      simp only [Option.some.injEq, Obj.cells.injEq] at e
      exact absurd e.2.1 (by decide)
theorem WrAt.grown {w w' : World} {b B : Nat} {l : List Bool} {v : Value} {n : Nat} {xs : List Value} (h : WrAt w b B l) (o : w.ownsRow B 31 4 v n xs) (g : w.grownBy w' v.ownBlock) : WrAt w' b B l := by
  obtain ⟨u, h1, h2, h3, h4⟩ := h
  have hbv : b ≠ v.ownBlock.getD b + 1 := by
    cases hv : v.ownBlock with
    | none => simp
    | some k => have := (o.lt k hv).1; simp; omega
  have hbv : some b ≠ v.ownBlock := fun e => by have := (o.lt b e.symm).1; omega
  refine ⟨u, h1.same (g.block b (Ext.lt (p := ⟨b, 0, none⟩) h1.1.1) hbv), h2.kept g ?_, ⟨h3.1, Nat.le_trans h3.2 g.size⟩, h4⟩
  rcases h2.2 with ⟨rfl, -⟩ | ⟨g1, c1, cur1, rfl, -, hg1, -⟩
  · exact .inl rfl
  · right
    intro e
    rcases o.2 with ⟨rfl, -⟩ | ⟨g2, c2, cur2, rfl, -, hg2, -⟩
    · simp [Value.ownBlock] at e
    · simp only [Value.ownBlock, Option.some.injEq] at e
      subst e
      rw [hg1] at hg2
      simp only [Option.some.injEq, Obj.cells.injEq] at hg2
      exact absurd hg2.2.1 (by decide)
theorem op_own_slice {w : World} {base n : Nat} {v : Value} {xs : List Value} (h : w.ownsRow base 31 4 v n xs) : ∃ a cap, v = .slice a n cap := by
  obtain ⟨hl, h⟩ := h
  rcases h with ⟨h1, h2⟩ | ⟨g, cap, cur, e, -⟩
  · exact ⟨none, 0, by rw [h1, h2]⟩
  · exact ⟨some ⟨g, 0, none⟩, cap, e⟩
theorem op_own_cells {w : World} {base n : Nat} {a : Option Addr} {cap : Nat} {D : List Op4} (h : w.ownsRow base 31 4 (.slice a n cap) n (ocells D)) (hn : 0 < n) : ∃ g, a = some ⟨g, 0, none⟩ ∧ (base ≤ g ∧ g < w.heap.size) ∧ ∀ q o, D[q]? = some o → OpIn w g (q * 4) o := by
  obtain ⟨hl, h' | ⟨g, cap', cur, e', hb, hg, h1, h2, hs, ht⟩⟩ := h
  · omega
  · simp only [Value.slice.injEq] at e'
    obtain ⟨rfl, -, rfl⟩ := e'
    have cell : ∀ j v, (ocells D)[j]? = some v → w.cell? ⟨g, j, none⟩ = some v := by
      intro j v hj
      rw [← ht, List.getElem?_take] at hj
      split at hj
      · simp [World.cell?, hg]
        simpa using hj
      · cases hj
    refine ⟨g, rfl, ⟨hb, (Array.getElem?_eq_some_iff.1 hg).1⟩, fun q o hq => ?_⟩
    obtain ⟨c0, c1, c2, c3⟩ := ocells_get D q o hq
    exact ⟨cell _ _ c0, cell _ _ c1, cell _ _ c2, cell _ _ c3⟩
/-- what a step adds to the bits -/
def stL (l : List Bool) (o : Op4) : List Bool := if o.1 = 0 then l ++ bsOf o.2.1.toNat o.2.2.1.toNat else if o.1 = 1 then l ++ [o.2.2.2] else wpad l
def enL (D : List Op4) : List Bool := D.foldl stL []
def okD (D : List Op4) : Prop := ∀ o ∈ D, o.1 = 0 → putOk o.2.1 o.2.2.1
theorem enL_app (D : List Op4) (o : Op4) : enL (D ++ [o]) = stL (enL D) o := by simp [enL]
theorem stL_pre (l : List Bool) (o : Op4) : ∃ m, stL l o = l ++ m := by
  unfold stL
  split
  · exact ⟨_, rfl⟩
  · split
    · exact ⟨_, rfl⟩
    · exact ⟨_, rfl⟩
theorem fold_pre : ∀ (D : List Op4) (l : List Bool), ∃ m, D.foldl stL l = l ++ m
  | [], l => ⟨[], by simp⟩
  | o :: D, l => by
    obtain ⟨m, hm⟩ := stL_pre l o
    obtain ⟨m', hm'⟩ := fold_pre D (stL l o)
    exact ⟨m ++ m', by rw [List.foldl_cons, hm', hm, List.append_assoc]⟩
theorem enL_step {D : List Op4} {j : Nat} {o : Op4} (h : D[j]? = some o) : enL (D.take (j + 1)) = stL (enL (D.take j)) o := by
  rw [List.take_add_one, h]
  exact enL_app _ _
theorem enL_pre (D : List Op4) (j : Nat) : ∃ m, enL D = enL (D.take j) ++ m := by
  obtain ⟨m, hm⟩ := fold_pre (D.drop j) (enL (D.take j))
  refine ⟨m, ?_⟩
  rw [← hm]
  unfold enL
  rw [← List.foldl_append, List.take_append_drop]
theorem stL_len {l : List Bool} {o : Op4} (h : o.1 = 0 → putOk o.2.1 o.2.2.1) : (stL l o).length ≤ l.length + 32 := by
  unfold stL
  split
  · rename_i h0
    have := (h h0).1
    rw [List.length_append, bsOf_length]
    omega
  · split
    · simp
    · rw [wpad_length]; omega
theorem nmN_pk {l : List Bool} {p k : Nat} (h : p + k ≤ 8 * ((l.length + 7) / 8)) : nmN (pkL l) p k = nmF (bL l) p k := by
  rw [nmN_nmF]
  exact nmF_congr fun i hi => bt_pk l (p + i) (by omega)
theorem get_back {l l0 m : List Bool} {v n : Nat} (e : l = l0 ++ bsOf v n ++ m) (hv : v < 2 ^ n) : nmN (pkL l) l0.length n = v := by
  have hl : l.length = l0.length + n + m.length := by rw [e, List.length_append, List.length_append, bsOf_length]
  rw [nmN_pk (by omega), e]
  exact nmF_of l0 v n m hv
theorem flag_back {l l0 m : List Bool} {b : Bool} (e : l = l0 ++ [b] ++ m) : nmN (pkL l) l0.length 1 = b.toNat := by
  refine get_back (m := m) ?_ (by cases b <;> decide)
  rw [e]
  cases b <;> rfl
theorem align_back {l l0 m : List Bool} (e : l = wpad l0 ++ m) : alF (pkL l) l0.length (alD l0.length) = none := by
  rw [alF_none]
  have hw : wpad l0 = l0 ++ List.replicate (alD l0.length) false := rfl
  have hl : l.length = l0.length + alD l0.length + m.length := by rw [e, hw, List.length_append, List.length_append, List.length_replicate]
  rw [nmN_pk (by omega)]
  refine nmF_zero fun i hi => ?_
  rw [e, bL_left (by rw [hw, List.length_append, List.length_replicate]; omega), hw, bL_pad]
  exact bL_end (by omega)
theorem end_back (l : List Bool) : alF (pkL l) l.length (alD l.length) = none := by
  rw [alF_none, nmN_pk (by unfold alD; omega)]
  exact nmF_zero fun i _ => bL_end (by omega)
variable {F : Nat → Prop}
theorem wrlen_box (b n : Nat) (u : Value) (w : World) (h : WrBox w b u n) : Calls Tryd.prog 23 #[.pointer (some ⟨b, 0, none⟩)] w fun e w' => e = .returned (.int .i64 (n : Int)) ∧ w = w' := by
  obtain ⟨⟨c0, c1⟩, f0, f1⟩ := h
  go_enter Tryd.func23, Tryd.ntmps23
  go_wp2
  go_ret
  exact ⟨rfl, rfl⟩
theorem back_get {D : List Op4} {l : List Bool} {j c : Nat} {o : Op4} (hl : enL D = l) (hD : okD D) (ho : D[j]? = some o) (h0 : o.1 = 0) (w : World) (h : RdAt F w c (pkL l) (enL (D.take j)).length) :
    Calls Tryd.prog 29 #[.pointer (some ⟨c, 0, none⟩), .int .i64 o.2.2.1] w fun e w' => e = .returned (.tuple #[.int .i64 o.2.1, .nilIface]) ∧ Kp c w w' ∧ RdAt F w' c (pkL l) (enL (D.take (j + 1))).length := by
  obtain ⟨m, hm⟩ := enL_pre D (j + 1)
  obtain ⟨⟨n1, n2⟩, v1, v2⟩ := hD o (List.mem_of_getElem? ho) h0
  have e2 := enL_step ho
  generalize enL (D.take j) = l0 at *
  have e3 : stL l0 o = l0 ++ bsOf o.2.1.toNat o.2.2.1.toNat := by unfold stL; rw [if_pos h0]
  rw [e2, e3, hl] at hm
  rw [e2, e3]
  clear ho e2 e3
  generalize o.2.2.1 = N0 at *
  generalize o.2.1 = V0 at *
  obtain ⟨N, rfl⟩ : ∃ N : Nat, N0 = (N : Int) := ⟨N0.toNat, by omega⟩
  obtain ⟨V, rfl⟩ : ∃ V : Nat, V0 = (V : Int) := ⟨V0.toNat, by omega⟩
  simp only [Int.toNat_natCast] at *
  have ep : ((2 ^ N : Nat) : Int) = (2 : Int) ^ N := by simp
  have hb := get_back hm (by rw [← ep] at v2; omega)
  have hlen : l.length = l0.length + N + m.length := by rw [hm, List.length_append, List.length_append, bsOf_length]
  have hpl := pkL_length l
  obtain ⟨g1, g2, g3⟩ := rd_good (bs := pkL l) (p := l0.length) (N := N) (by omega) (by omega)
  have U := rdget_any c l0.length (N : Int) (pkL l) w h (by omega)
  rw [g1, g2, g3, hb] at U
  refine U.mono fun e w' ⟨x, k1, k2, k3, k4⟩ => ?_
  obtain rfl : x = .nilIface := k4
  exact ⟨k1, k2, by rw [List.length_append, bsOf_length]; exact k3⟩
theorem back_flag {D : List Op4} {l : List Bool} {j c : Nat} {o : Op4} (hl : enL D = l) (ho : D[j]? = some o) (h1 : o.1 = 1) (w : World) (h : RdAt F w c (pkL l) (enL (D.take j)).length) :
    Calls Tryd.prog 31 #[.pointer (some ⟨c, 0, none⟩)] w fun e w' => e = .returned (.tuple #[.bool o.2.2.2, .nilIface]) ∧ Kp c w w' ∧ RdAt F w' c (pkL l) (enL (D.take (j + 1))).length := by
  obtain ⟨m, hm⟩ := enL_pre D (j + 1)
  have e2 := enL_step ho
  generalize enL (D.take j) = l0 at *
  have e3 : stL l0 o = l0 ++ [o.2.2.2] := by unfold stL; rw [if_neg (by omega), if_pos h1]
  rw [e2, e3, hl] at hm
  rw [e2, e3]
  have hb := flag_back hm
  have hlen : l.length = l0.length + 1 + m.length := by rw [hm, List.length_append, List.length_append]; rfl
  have hpl := pkL_length l
  obtain ⟨g1, g2, g3⟩ := rd_good (bs := pkL l) (p := l0.length) (N := 1) (by omega) (by omega)
  have U := rdflag_any c l0.length (pkL l) w h (by omega)
  have hv : (rdV (pkL l) l0.length 1 == 1) = o.2.2.2 := by
    rw [show rdV (pkL l) l0.length 1 = _ from g2, hb]
    cases o.2.2.2 <;> rfl
  rw [show rdF (pkL l) l0.length 1 = none from g1, hv, show rdP (pkL l) l0.length 1 = l0.length + 1 from g3] at U
  refine U.mono fun e w' ⟨x, k1, k2, k3, k4⟩ => ?_
  obtain rfl : x = .nilIface := k4
  exact ⟨k1, k2, by rw [List.length_append]; exact k3⟩
theorem back_align {D : List Op4} {l : List Bool} {j c : Nat} {o : Op4} (hl : enL D = l) (ho : D[j]? = some o) (h0 : ¬ o.1 = 0) (h1 : ¬ o.1 = 1) (w : World) (h : RdAt F w c (pkL l) (enL (D.take j)).length) :
    Calls Tryd.prog 32 #[.pointer (some ⟨c, 0, none⟩)] w fun e w' => e = .returned .nilIface ∧ Kp c w w' ∧ RdAt F w' c (pkL l) (enL (D.take (j + 1))).length := by
  obtain ⟨m, hm⟩ := enL_pre D (j + 1)
  have e2 := enL_step ho
  generalize enL (D.take j) = l0 at *
  have e3 : stL l0 o = wpad l0 := by unfold stL; rw [if_neg h0, if_neg h1]
  rw [e2, e3, hl] at hm
  rw [e2, e3]
  have hb := align_back hm
  have hw : (wpad l0).length = l0.length + alD l0.length := by unfold wpad alD; rw [List.length_append, List.length_replicate]
  have hlen : l.length = l0.length + alD l0.length + m.length := by rw [hm, List.length_append, hw]
  have hpl := pkL_length l
  have U := rdalign_any c l0.length (pkL l) w h (by omega)
  rw [hb] at U
  refine U.mono fun e w' ⟨x, k1, k2, k3, k4⟩ => ?_
  obtain rfl : x = .nilIface := k4
  exact ⟨k1, k2, by rw [hw]; exact k3⟩
theorem back_end {l : List Bool} {c : Nat} (w : World) (h : RdAt F w c (pkL l) l.length) :
    Calls Tryd.prog 32 #[.pointer (some ⟨c, 0, none⟩)] w fun e w' => e = .returned .nilIface ∧ Kp c w w' := by
  have hpl := pkL_length l
  have U := rdalign_any c l.length (pkL l) w h (by omega)
  rw [end_back] at U
  refine U.mono fun e w' ⟨x, k1, k2, k3, k4⟩ => ?_
  obtain rfl : x = .nilIface := k4
  exact ⟨k1, k2⟩
end Go.Proofs.YtaamnpbhmckpbaaDoor

/- kinlaw2.BitsBack: the walk. -/
namespace Go.Proofs.YtaamnpbhmckpbaaDoor
set_option linter.unusedVariables false
set_option linter.unusedSimpArgs false
open Go.RowKit Go.Extern.Stop Go.Stop Go.Extern

theorem okD_app {D : List Op4} {o : Op4} (h : okD D) (k : o.1 = 0 → putOk o.2.1 o.2.2.1) : okD (D ++ [o]) := fun x hx => by
  rcases List.mem_append.1 hx with hx | hx
  · exact h x hx
  · rw [List.mem_singleton.1 hx]; exact k
theorem done_app {D : List Op4} {o : Op4} {k : Nat} (h : okD D ∧ D.length = k ∧ (enL D).length ≤ 32 * k) (hk : o.1 = 0 → putOk o.2.1 o.2.2.1) : okD (D ++ [o]) ∧ (D ++ [o]).length = k + 1 ∧ (enL (D ++ [o])).length ≤ 32 * (k + 1) := by
  obtain ⟨h1, h2, h3⟩ := h
  refine ⟨okD_app h1 hk, by simp [h2], ?_⟩
  rw [enL_app]
  have := stL_len (l := enL D) hk
  omega
/-- the steps that were done, in a row of the call's own, not at c -/
def DnAt (w : World) (c : Nat) (oa : Option Addr) (D : List Op4) : Prop := 0 < D.length → ∃ g, oa = some ⟨g, 0, none⟩ ∧ g ≠ c ∧ ∀ q o, D[q]? = some o → OpIn w g (q * 4) o
theorem DnAt.kp {w w' : World} {c : Nat} {oa : Option Addr} {D : List Op4} (h : DnAt w c oa D) (k : Kp c w w') : DnAt w' c oa D := fun h0 => by
  obtain ⟨g, e, hg, hq⟩ := h h0
  refine ⟨g, e, hg, fun q o ho => ?_⟩
  obtain ⟨c0, c1, c2, c3⟩ := hq q o ho
  exact ⟨k.cell c0 hg, k.cell c1 hg, k.cell c2 hg, k.cell c3 hg⟩
theorem DnAt.of {w w' : World} {base n c cap : Nat} {oa : Option Addr} {D : List Op4} (h : w.ownsRow base 31 4 (.slice oa n cap) n (ocells D)) (hn : D.length = n) (k : Ext w w') (hc : w.heap.size ≤ c) : DnAt w' c oa D := fun h0 => by
  obtain ⟨g, e, hg, hq⟩ := op_own_cells h (by omega)
  exact ⟨g, e, by omega, fun q o ho => (hq q o ho).ext k⟩
theorem WrBox.kp {w w' : World} {b c n : Nat} {u : Value} (h : WrBox w b u n) (k : Kp c w w') (hb : b ≠ c) : WrBox w' b u n := h.same (k.block (Ext.lt (p := ⟨b, 0, none⟩) h.1.1) hb)
set_option maxHeartbeats 8000000 in
set_option maxRecDepth 20000 in
theorem back_law (L : List Op4) (u : Value) (w : World) (hg : EtIs w) (ho : Ops w u L) :
    Calls Tryd.prog 5 #[u] w fun e w' => e = .returned (.bool true) ∧ Ext w w' := by
  have hm := ho.small
  obtain ⟨b0, cb, rfl⟩ := ho.form
  have HO := Lib.hid ho
  obtain ⟨m, hm'⟩ : ∃ m, m = L.length := ⟨_, rfl⟩
  rw [← hm'] at HO hm ⊢
  have HM := Lib.hid hm'
  unfold maxLen at hm
  clear ho hm'
  go_enter Tryd.func5, Tryd.ntmps5
  go_wp2_with fail
  refine (first2_any _ hg).mono ?_; rintro e w1 ⟨rfl, hx1⟩
  go_wp2_with fail
  refine (newwr_any _).mono ?_; rintro e w2 ⟨b, rfl, hb, hw2, hx2⟩
  have hbB : b < w2.heap.size := Ext.lt (p := ⟨b, 0, none⟩) hw2.1.1
  have HW2 := Lib.hid (WrAt.new (B := w2.heap.size) hw2 hbB (Nat.le_refl _))
  have HE2 := Lib.hid (hx1.trans hx2)
  have hwB : w.heap.size ≤ w2.heap.size := HE2.out.size
  have hwb : w.heap.size ≤ b := Nat.le_trans hx1.size hb
  clear hw2 hx1 hx2 hb
  obtain ⟨B, hB⟩ : ∃ B, w2.heap.size = B := ⟨_, rfl⟩
  rw [hB] at HW2 hbB hwB
  clear hB
  have HBS : Hid (∀ (wr : World) {l : List Bool}, WrAt wr b B l → B ≤ wr.heap.size) := fun wr l h => by obtain ⟨_, _, _, h3, _⟩ := h; exact h3.2
  go_wp2_with fail
  go_loopw [4, 5] (fun ov iv wr => ∃ (i k : Nat) (D : List Op4), ((i ≤ m ∧ i ≤ 2000) ∧ k ≤ i) ∧ iv = .int .i64 (i : Int) ∧ Hid (okD D ∧ D.length = k ∧ (enL D).length ≤ 32 * k) ∧ Hid (wr.ownsRow B 31 4 ov k (ocells D)) ∧ Hid (WrAt wr b B (enL D)) ∧ Hid (Ext w wr)) (fun _ iv _ => 2000 - (intOf iv).toNat)
  case atStart => exact ⟨0, 0, [], ⟨⟨Nat.zero_le _, Nat.zero_le _⟩, Nat.le_refl _⟩, rfl, ⟨fun _ h => (by cases h), rfl, Nat.le_refl _⟩, World.ownsRow_nil _ _ _ _, HW2.out, HE2.out⟩
  case round =>
    clear HW2 HE2
    obtain ⟨i, k, D, ⟨⟨hi, hi2⟩, hk⟩, rfl, HD, HOW, HWR, HE⟩ := hrel
    obtain ⟨oa, ocp, rfl⟩ := op_own_slice HOW.out
    have hlen := HD.out.2.2
    obtain ⟨l, hl⟩ : ∃ l, enL D = l := ⟨_, rfl⟩
    rw [hl] at HWR hlen
    have hl8 : l.length ≤ 800000000 := by omega
    have HL := Lib.hid hl
    clear hl hlen
    by_cases hlt : i < m
    · by_cases hlt2 : i < 2000
      · obtain ⟨g, off, ha, hq⟩ := HO.out.had (by have := HM.out; omega)
        subst ha
        obtain ⟨o, ho⟩ : ∃ o, L[i]? = some o := ⟨_, List.getElem?_eq_getElem (by rw [← HM.out]; exact hlt)⟩
        have HOP := Lib.hid (hq i o ho)
        have x1 : (0 : Int) ≤ (i : Int) := by omega
        have x2 : (i : Int) < (m : Int) := by omega
        have x3 : (i : Int) < 2000 := by omega
        clear hq ho
        obtain ⟨c0, c1, c2, c3⟩ := HOP.out.ext HE.out
        by_cases h0 : o.1 = 0
        · rw [h0] at c0
          have HED := Lib.hid HE.out.drew
          have hwd := HWR.out.ext (Ext.refl wr).drew
          have HOD := Lib.hid (op_own_wkp HOW.out (WKp.of_ext (Ext.refl wr).drew) hbB)
          obtain ⟨d0, d1, d2, d3⟩ := HOP.out.ext HED.out
          by_cases hok : putOk o.2.1 o.2.2.1
          · have hF : wpF o.2.1 o.2.2.1 = none := by unfold wpF; rw [if_pos hok]
            have HOK : Hid (o.1 = 0 → putOk o.2.1 o.2.2.1) := fun _ => hok
            have hL2 : wpL l o.2.1 o.2.2.1 = stL l o := by unfold wpL stL; rw [if_pos hok, if_pos h0]
            have HST : Hid (stL (enL D) o = stL l o) := by show _ = _; rw [HL.out]
            have UP := Lib.hid (wput_any b B o.2.1 o.2.2.1 l wr.drew hwd hl8)
            rw [hF, hL2] at UP
            clear hwd hF hL2 hok h0 HWR HOW
            go_wp2_with fail
            go_region_law (go_simp; go_at_call 18; refine UP.out.mono ?_; rintro e wc ⟨x5, rfl, q5, k5, he5⟩; obtain rfl : x5 = .nilIface := he5; have HWC := Lib.hid q5; have HOC := Lib.hid (op_own_wkp HOD.out k5 hbB); have HEC := Lib.hid (WKp.out HED.out k5 hwb hwB))
            all_goals clear c0 c1 c2 c3 d0 d1 d2 d3 HE q5 k5
            all_goals
              -- in hand: the world wc behind the writer's call, HOC, HWC (its bits), HEC
              have hBC := HEC.out.size
              obtain ⟨q0, q1, q2, q3⟩ := HOP.out.ext HEC.out
              have hBs := HBS.out wc HWC.out
              go_wp2_with (at_builtin; refine push_op rfl _ _ 22 rfl Tryd.underlying22 _ k _ o rfl HOC.out (by show Value.slice (some ⟨wc.heap.size, 0, none⟩) 1 1 = _; simp) hBs (by omega) ?_; intro v8 w8 h1 h2; have HO8 := Lib.hid h1; have HW8 := Lib.hid (HWC.out.grown HOC.out h2); have HE8 := Lib.hid (HEC.out.of_below (Below.grown (Below.refl _ _) h2 (Nat.le_trans hwB hBs) (fun k hk => Nat.le_trans hwB (HOC.out.lt k hk).1)) (Nat.le_refl _)); clear h1 h2)
              go_roundw
              case rel =>
                refine ⟨i + 1, k + 1, D ++ [o], ⟨⟨by omega, by omega⟩, by omega⟩, by go_num, done_app HD.out HOK.out, ?_, ?_, HE8.out⟩
                · show World.ownsRow _ _ _ _ _ _ _
                  rw [ocells_app]; exact HO8.out
                · show WrAt _ _ _ _
                  rw [enL_app, HST.out]; exact HW8.out
              case measure => simp [intOf]; omega
          · have hF : wpF o.2.1 o.2.2.1 = range := by unfold wpF; rw [if_neg hok]
            have hL2 : wpL l o.2.1 o.2.2.1 = l := by unfold wpL; rw [if_neg hok]
            have UP := Lib.hid (wput_any b B o.2.1 o.2.2.1 l wr.drew hwd hl8)
            rw [hF, hL2] at UP
            clear hwd hF hL2 hok h0 HWR HOW
            go_wp2_with fail
            go_region_law (go_simp; go_at_call 18; refine UP.out.mono ?_; rintro e wc ⟨x5, rfl, q5, k5, he5⟩; obtain ⟨t5, y5, rfl⟩ := he5.ne; have HWC := Lib.hid q5; have HOC := Lib.hid (op_own_wkp HOD.out k5 hbB); have HEC := Lib.hid (WKp.out HED.out k5 hwb hwB))
            all_goals clear c0 c1 c2 c3 d0 d1 d2 d3 HE q5 k5 he5
            all_goals go_wp2
            all_goals go_roundw
            all_goals first
              | exact ⟨i + 1, k, D, ⟨⟨by omega, by omega⟩, by omega⟩, by go_num, HD.out, HOC.out, by show WrAt _ _ _ _; rw [HL.out]; exact HWC.out, HEC.out⟩
              | (simp [intOf]; omega)
        · have hk0 : ¬ o.1 = 0 := h0
          have HOK : Hid (o.1 = 0 → putOk o.2.1 o.2.2.1) := fun h => absurd h h0
          by_cases h1 : o.1 = 1
          · have HST : Hid (stL (enL D) o = l ++ [o.2.2.2]) := by show _ = _; rw [HL.out]; unfold stL; rw [if_neg h0, if_pos h1]
            rw [h1] at c0
            go_wp2_with fail
            refine (wflag_any b B o.2.2.2 l _ HWR.out hl8).mono ?_; rintro e wc ⟨rfl, q5, k5⟩
            have HWC := Lib.hid q5
            have HOC := Lib.hid (op_own_wkp HOW.out k5 hbB)
            have HEC := Lib.hid (WKp.out HE.out k5 hwb hwB)
            clear q5 k5 c0 c1 c2 c3 HWR HOW HE h0 h1 hk0
            -- in hand: the world wc behind the writer's call, HOC, HWC (its bits), HEC
            have hBC := HEC.out.size
            obtain ⟨q0, q1, q2, q3⟩ := HOP.out.ext HEC.out
            have hBs := HBS.out wc HWC.out
            go_wp2_with (at_builtin; refine push_op rfl _ _ 22 rfl Tryd.underlying22 _ k _ o rfl HOC.out (by show Value.slice (some ⟨wc.heap.size, 0, none⟩) 1 1 = _; simp) hBs (by omega) ?_; intro v8 w8 h1 h2; have HO8 := Lib.hid h1; have HW8 := Lib.hid (HWC.out.grown HOC.out h2); have HE8 := Lib.hid (HEC.out.of_below (Below.grown (Below.refl _ _) h2 (Nat.le_trans hwB hBs) (fun k hk => Nat.le_trans hwB (HOC.out.lt k hk).1)) (Nat.le_refl _)); clear h1 h2)
            go_roundw
            case rel =>
              refine ⟨i + 1, k + 1, D ++ [o], ⟨⟨by omega, by omega⟩, by omega⟩, by go_num, done_app HD.out HOK.out, ?_, ?_, HE8.out⟩
              · show World.ownsRow _ _ _ _ _ _ _
                rw [ocells_app]; exact HO8.out
              · show WrAt _ _ _ _
                rw [enL_app, HST.out]; exact HW8.out
            case measure => simp [intOf]; omega
          · have HST : Hid (stL (enL D) o = wpad l) := by show _ = _; rw [HL.out]; unfold stL; rw [if_neg h0, if_neg h1]
            go_wp2_with fail
            refine (wralign_any b B l _ HWR.out (by omega)).mono ?_; rintro e wc ⟨rfl, q5, k5⟩
            have HWC := Lib.hid q5
            have HOC := Lib.hid (op_own_wkp HOW.out k5 hbB)
            have HEC := Lib.hid (WKp.out HE.out k5 hwb hwB)
            clear q5 k5 c0 c1 c2 c3 HWR HOW HE h0 h1 hk0
            -- in hand: the world wc behind the writer's call, HOC, HWC (its bits), HEC
            have hBC := HEC.out.size
            obtain ⟨q0, q1, q2, q3⟩ := HOP.out.ext HEC.out
            have hBs := HBS.out wc HWC.out
            go_wp2_with (at_builtin; refine push_op rfl _ _ 22 rfl Tryd.underlying22 _ k _ o rfl HOC.out (by show Value.slice (some ⟨wc.heap.size, 0, none⟩) 1 1 = _; simp) hBs (by omega) ?_; intro v8 w8 h1 h2; have HO8 := Lib.hid h1; have HW8 := Lib.hid (HWC.out.grown HOC.out h2); have HE8 := Lib.hid (HEC.out.of_below (Below.grown (Below.refl _ _) h2 (Nat.le_trans hwB hBs) (fun k hk => Nat.le_trans hwB (HOC.out.lt k hk).1)) (Nat.le_refl _)); clear h1 h2)
            go_roundw
            case rel =>
              refine ⟨i + 1, k + 1, D ++ [o], ⟨⟨by omega, by omega⟩, by omega⟩, by go_num, done_app HD.out HOK.out, ?_, ?_, HE8.out⟩
              · show World.ownsRow _ _ _ _ _ _ _
                rw [ocells_app]; exact HO8.out
              · show WrAt _ _ _ _
                rw [enL_app, HST.out]; exact HW8.out
            case measure => simp [intOf]; omega
      · obtain rfl : i = 2000 := by omega
        obtain ⟨uv, hbx, -, -, -⟩ := id HWR.out
        go_wp2_with fail
        refine (wbytes_any b B l _ HWR.out).mono ?_; rintro e w3 ⟨u3, rfl, ho3, hx3⟩
        have HY3 := Lib.hid (Bys.of_owns ho3 (pkL_lt l) (by rw [pkL_length]; omega))
        obtain ⟨ua, ucp, rfl⟩ := HY3.out.form
        obtain ⟨n8, hn8⟩ : ∃ n8, (pkL l).length = n8 := ⟨_, rfl⟩
        rw [hn8] at HY3 ⊢
        have HN8 : Hid (n8 = (l.length + 7) / 8) := by show _ = _; rw [← hn8, pkL_length]
        have HN9 := Lib.hid hn8
        clear hn8 ho3
        go_wp2_with fail
        refine (newrd_any (pkL l) _ _ HY3.out).mono ?_; rintro e w4 ⟨c, rfl, hc4, r4, hx4⟩
        have hx34 := hx3.trans hx4
        have hcr : wr.heap.size ≤ c := Nat.le_trans hx3.size hc4
        have HR4 := Lib.hid (r4.mono (E := fun _ => False) (fun g h => h.elim))
        have HDN := Lib.hid (DnAt.of HOW.out HD.out.2.1 hx34 hcr)
        have hbwr := Ext.lt (p := ⟨b, 0, none⟩) hbx.1.1
        have hbc : b ≠ c := by have : b < wr.heap.size := hbwr; omega
        have HBX := Lib.hid (hbx.ext hx34)
        have HE4 := Lib.hid (HE.out.trans hx34)
        have hwc : w.heap.size ≤ c := Nat.le_trans HE.out.size hcr
        clear hbx hx3 hx4 hx34 hc4 r4 hbwr hcr HWR HOW HE HY3
        go_wp2_with fail
        go_loopw [7] (fun iv wr => ∃ j, j ≤ k ∧ iv = .int .i64 (j : Int) ∧ Hid (RdAt (fun _ => False) wr c (pkL l) (enL (D.take j)).length) ∧ Hid (DnAt wr c oa D) ∧ Hid (WrBox wr b uv l.length) ∧ Hid (Ext w wr)) (fun iv _ => k - (intOf iv).toNat)
        case atStart => exact ⟨0, Nat.zero_le _, rfl, HR4.out, HDN.out, HBX.out, HE4.out⟩
        case round =>
          clear HR4 HDN HBX HE4
          obtain ⟨j, hj, rfl, HR, HDN, HBX, HE⟩ := hrel
          by_cases hjk : j < k
          · obtain ⟨g2, hg2, hgc, hq2⟩ := HDN.out (by have := HD.out.2.1; omega)
            subst hg2
            obtain ⟨o, ho⟩ : ∃ o, D[j]? = some o := ⟨_, List.getElem?_eq_getElem (by rw [HD.out.2.1]; exact hjk)⟩
            have HOP := Lib.hid (hq2 j o ho)
            have x4 : (0 : Int) ≤ (j : Int) := by omega
            have x5 : (j : Int) < (k : Int) := by omega
            obtain ⟨c0, c1, c2, c3⟩ := HOP.out
            have hcw : c < wr.heap.size := by obtain ⟨_, _, hb4, _⟩ := HR.out; exact Ext.lt (p := ⟨c, 0, none⟩) hb4.1
            have HO9 := Lib.hid ho
            clear ho hq2
            by_cases h0 : o.1 = 0
            · rw [h0] at c0
              have H0 := Lib.hid h0
              clear h0
              go_wp2_with fail
              refine (back_get HL.out HD.out.1 HO9.out H0.out _ (HR.out.ext ((Ext.refl wr).alloc _))).mono ?_; rintro e w5 ⟨rfl, k5, r5⟩
              have hv := k5.cell (p := ⟨wr.heap.size, 1, none⟩) (v := .int .i64 o.2.1) (by simp) (by show wr.heap.size ≠ c; omega)
              have K5 := Lib.hid ((Kp.of_ext ((Ext.refl wr).alloc _)).trans k5)
              have HR5 := Lib.hid r5
              clear k5 r5
              go_wp2
              go_roundw
              case rel => exact ⟨j + 1, by omega, by go_num, HR5.out, HDN.out.kp K5.out, HBX.out.kp K5.out hbc, Kp.out HE.out K5.out hwc⟩
              case measure => simp [intOf]; omega
            · by_cases h1 : o.1 = 1
              · rw [h1] at c0
                have H1 := Lib.hid h1
                clear h0 h1
                go_wp2_with fail
                refine (back_flag HL.out HO9.out H1.out _ (HR.out.ext ((Ext.refl wr).alloc _))).mono ?_; rintro e w5 ⟨rfl, k5, r5⟩
                have hv := k5.cell (p := ⟨wr.heap.size, 3, none⟩) (v := .bool o.2.2.2) (by simp) (by show wr.heap.size ≠ c; omega)
                have K5 := Lib.hid ((Kp.of_ext ((Ext.refl wr).alloc _)).trans k5)
                have HR5 := Lib.hid r5
                clear k5 r5
                go_wp2
                go_roundw
                case rel => exact ⟨j + 1, by omega, by go_num, HR5.out, HDN.out.kp K5.out, HBX.out.kp K5.out hbc, Kp.out HE.out K5.out hwc⟩
                case measure => simp [intOf]; omega
              · have H0 : Hid (¬ o.1 = 0) := h0
                have H1 : Hid (¬ o.1 = 1) := h1
                go_wp2_with fail
                refine (back_align HL.out HO9.out H0.out H1.out _ (HR.out.ext ((Ext.refl wr).alloc _))).mono ?_; rintro e w5 ⟨rfl, k5, r5⟩
                have K5 := Lib.hid ((Kp.of_ext ((Ext.refl wr).alloc _)).trans k5)
                have HR5 := Lib.hid r5
                clear k5 r5
                go_wp2
                go_roundw
                case rel => exact ⟨j + 1, by omega, by go_num, HR5.out, HDN.out.kp K5.out, HBX.out.kp K5.out hbc, Kp.out HE.out K5.out hwc⟩
                case measure => simp [intOf]; omega
          · obtain rfl : j = k := by omega
            have hend : RdAt (fun _ => False) wr c (pkL l) l.length := by
              have := HR.out
              rwa [List.take_of_length_le (by rw [HD.out.2.1]; exact Nat.le_refl _), HL.out] at this
            obtain ⟨D9, hD9⟩ : ∃ D9, 8 * (pkL l).length - l.length = D9 := ⟨_, rfl⟩
            have UL := Lib.hid (fun w (h : RdAt (fun _ => False) w c (pkL l) l.length) => left_any c l.length (pkL l) w h (by have := HN8.out; have := HN9.out; omega))
            rw [hD9] at UL
            have y9 : (D9 : Int) < 8 := by have := HN8.out; have := HN9.out; omega
            have HEND := Lib.hid hend
            clear hend HR HDN hD9
            go_wp2_with fail
            refine (first2_any _ (hg.ext HE.out)).mono ?_; rintro e w5 ⟨rfl, hx5⟩
            have HEND5 := Lib.hid (HEND.out.ext hx5)
            go_wp2_with fail
            refine (place_any c l.length (pkL l) _ HEND5.out).mono ?_; rintro e w6 ⟨rfl, rfl⟩
            go_wp2_with fail
            refine (wrlen_box b l.length uv _ (HBX.out.ext hx5)).mono ?_; rintro e w6 ⟨rfl, rfl⟩
            go_wp2_with fail
            refine (UL.out _ HEND5.out).mono ?_; rintro e w6 ⟨rfl, hx6⟩
            go_wp2_with fail
            refine (back_end _ (HEND5.out.ext hx6)).mono ?_; rintro e w7 ⟨rfl, k7⟩
            go_wp2
            go_ret
            exact ⟨rfl, Kp.out ((HE.out.trans hx5).trans hx6) k7 hwc⟩
    · obtain rfl : i = m := by omega
      obtain ⟨uv, hbx, -, -, -⟩ := id HWR.out
      go_wp2_with fail
      refine (wbytes_any b B l _ HWR.out).mono ?_; rintro e w3 ⟨u3, rfl, ho3, hx3⟩
      have HY3 := Lib.hid (Bys.of_owns ho3 (pkL_lt l) (by rw [pkL_length]; omega))
      obtain ⟨ua, ucp, rfl⟩ := HY3.out.form
      obtain ⟨n8, hn8⟩ : ∃ n8, (pkL l).length = n8 := ⟨_, rfl⟩
      rw [hn8] at HY3 ⊢
      have HN8 : Hid (n8 = (l.length + 7) / 8) := by show _ = _; rw [← hn8, pkL_length]
      have HN9 := Lib.hid hn8
      clear hn8 ho3
      go_wp2_with fail
      refine (newrd_any (pkL l) _ _ HY3.out).mono ?_; rintro e w4 ⟨c, rfl, hc4, r4, hx4⟩
      have hx34 := hx3.trans hx4
      have hcr : wr.heap.size ≤ c := Nat.le_trans hx3.size hc4
      have HR4 := Lib.hid (r4.mono (E := fun _ => False) (fun g h => h.elim))
      have HDN := Lib.hid (DnAt.of HOW.out HD.out.2.1 hx34 hcr)
      have hbwr := Ext.lt (p := ⟨b, 0, none⟩) hbx.1.1
      have hbc : b ≠ c := by have : b < wr.heap.size := hbwr; omega
      have HBX := Lib.hid (hbx.ext hx34)
      have HE4 := Lib.hid (HE.out.trans hx34)
      have hwc : w.heap.size ≤ c := Nat.le_trans HE.out.size hcr
      clear hbx hx3 hx4 hx34 hc4 r4 hbwr hcr HWR HOW HE HY3
      go_wp2_with fail
      go_loopw [7] (fun iv wr => ∃ j, j ≤ k ∧ iv = .int .i64 (j : Int) ∧ Hid (RdAt (fun _ => False) wr c (pkL l) (enL (D.take j)).length) ∧ Hid (DnAt wr c oa D) ∧ Hid (WrBox wr b uv l.length) ∧ Hid (Ext w wr)) (fun iv _ => k - (intOf iv).toNat)
      case atStart => exact ⟨0, Nat.zero_le _, rfl, HR4.out, HDN.out, HBX.out, HE4.out⟩
      case round =>
        clear HR4 HDN HBX HE4
        obtain ⟨j, hj, rfl, HR, HDN, HBX, HE⟩ := hrel
        by_cases hjk : j < k
        · obtain ⟨g2, hg2, hgc, hq2⟩ := HDN.out (by have := HD.out.2.1; omega)
          subst hg2
          obtain ⟨o, ho⟩ : ∃ o, D[j]? = some o := ⟨_, List.getElem?_eq_getElem (by rw [HD.out.2.1]; exact hjk)⟩
          have HOP := Lib.hid (hq2 j o ho)
          have x4 : (0 : Int) ≤ (j : Int) := by omega
          have x5 : (j : Int) < (k : Int) := by omega
          obtain ⟨c0, c1, c2, c3⟩ := HOP.out
          have hcw : c < wr.heap.size := by obtain ⟨_, _, hb4, _⟩ := HR.out; exact Ext.lt (p := ⟨c, 0, none⟩) hb4.1
          have HO9 := Lib.hid ho
          clear ho hq2
          by_cases h0 : o.1 = 0
          · rw [h0] at c0
            have H0 := Lib.hid h0
            clear h0
            go_wp2_with fail
            refine (back_get HL.out HD.out.1 HO9.out H0.out _ (HR.out.ext ((Ext.refl wr).alloc _))).mono ?_; rintro e w5 ⟨rfl, k5, r5⟩
            have hv := k5.cell (p := ⟨wr.heap.size, 1, none⟩) (v := .int .i64 o.2.1) (by simp) (by show wr.heap.size ≠ c; omega)
            have K5 := Lib.hid ((Kp.of_ext ((Ext.refl wr).alloc _)).trans k5)
            have HR5 := Lib.hid r5
            clear k5 r5
            go_wp2
            go_roundw
            case rel => exact ⟨j + 1, by omega, by go_num, HR5.out, HDN.out.kp K5.out, HBX.out.kp K5.out hbc, Kp.out HE.out K5.out hwc⟩
            case measure => simp [intOf]; omega
          · by_cases h1 : o.1 = 1
            · rw [h1] at c0
              have H1 := Lib.hid h1
              clear h0 h1
              go_wp2_with fail
              refine (back_flag HL.out HO9.out H1.out _ (HR.out.ext ((Ext.refl wr).alloc _))).mono ?_; rintro e w5 ⟨rfl, k5, r5⟩
              have hv := k5.cell (p := ⟨wr.heap.size, 3, none⟩) (v := .bool o.2.2.2) (by simp) (by show wr.heap.size ≠ c; omega)
              have K5 := Lib.hid ((Kp.of_ext ((Ext.refl wr).alloc _)).trans k5)
              have HR5 := Lib.hid r5
              clear k5 r5
              go_wp2
              go_roundw
              case rel => exact ⟨j + 1, by omega, by go_num, HR5.out, HDN.out.kp K5.out, HBX.out.kp K5.out hbc, Kp.out HE.out K5.out hwc⟩
              case measure => simp [intOf]; omega
            · have H0 : Hid (¬ o.1 = 0) := h0
              have H1 : Hid (¬ o.1 = 1) := h1
              go_wp2_with fail
              refine (back_align HL.out HO9.out H0.out H1.out _ (HR.out.ext ((Ext.refl wr).alloc _))).mono ?_; rintro e w5 ⟨rfl, k5, r5⟩
              have K5 := Lib.hid ((Kp.of_ext ((Ext.refl wr).alloc _)).trans k5)
              have HR5 := Lib.hid r5
              clear k5 r5
              go_wp2
              go_roundw
              case rel => exact ⟨j + 1, by omega, by go_num, HR5.out, HDN.out.kp K5.out, HBX.out.kp K5.out hbc, Kp.out HE.out K5.out hwc⟩
              case measure => simp [intOf]; omega
        · obtain rfl : j = k := by omega
          have hend : RdAt (fun _ => False) wr c (pkL l) l.length := by
            have := HR.out
            rwa [List.take_of_length_le (by rw [HD.out.2.1]; exact Nat.le_refl _), HL.out] at this
          obtain ⟨D9, hD9⟩ : ∃ D9, 8 * (pkL l).length - l.length = D9 := ⟨_, rfl⟩
          have UL := Lib.hid (fun w (h : RdAt (fun _ => False) w c (pkL l) l.length) => left_any c l.length (pkL l) w h (by have := HN8.out; have := HN9.out; omega))
          rw [hD9] at UL
          have y9 : (D9 : Int) < 8 := by have := HN8.out; have := HN9.out; omega
          have HEND := Lib.hid hend
          clear hend HR HDN hD9
          go_wp2_with fail
          refine (first2_any _ (hg.ext HE.out)).mono ?_; rintro e w5 ⟨rfl, hx5⟩
          have HEND5 := Lib.hid (HEND.out.ext hx5)
          go_wp2_with fail
          refine (place_any c l.length (pkL l) _ HEND5.out).mono ?_; rintro e w6 ⟨rfl, rfl⟩
          go_wp2_with fail
          refine (wrlen_box b l.length uv _ (HBX.out.ext hx5)).mono ?_; rintro e w6 ⟨rfl, rfl⟩
          go_wp2_with fail
          refine (UL.out _ HEND5.out).mono ?_; rintro e w6 ⟨rfl, hx6⟩
          go_wp2_with fail
          refine (back_end _ (HEND5.out.ext hx6)).mono ?_; rintro e w7 ⟨rfl, k7⟩
          go_wp2
          go_ret
          exact ⟨rfl, Kp.out ((HE.out.trans hx5).trans hx6) k7 hwc⟩
end Go.Proofs.YtaamnpbhmckpbaaDoor
