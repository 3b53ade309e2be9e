/- Bytes cut, and put behind bytes of the call's own; unit.Size, Fill. -/
import Derived.Test.YtkjllhphpkmaiaaDoorUcr
import Derived.Test.YtkjllhphpkmaiaaDoorBcl
import Derived.Test.YtkjllhphpkmaiaaDoorMm
import Derived.Laws.AppendOwnNone
import Derived.OwnWalk
namespace Go.Proofs.YtkjllhphpkmaiaaDoor
set_option linter.unusedVariables false
set_option linter.unusedSimpArgs false
open Go.RowKit Go.Extern.Stop Go.Stop Go.Extern

/-- a slice that is nil, or has an address -/
def Plain (v : Value) : Prop := v = .slice none 0 0 ∨ ∃ ad n c, v = .slice (some ad) n c
theorem Plain.of_owns {w : World} {base n : Nat} {v : Value} {e : TypeId} {s : Nat} {xs : List Value} (h : w.ownsRow base e s v n xs) : Plain v := by
  rcases h.2 with ⟨rfl, -⟩ | ⟨g, cap, cur, rfl, -⟩
  · exact .inl rfl
  · exact .inr ⟨_, _, _, rfl⟩
theorem Bys.cut {w : World} {g off n cap : Nat} {bs : List Nat} (h : Bys w (.slice (some ⟨g, off, none⟩) n cap) bs) {lo hi : Nat} (h1 : lo ≤ hi) (h2 : hi ≤ n) : Bys w (.slice (some ⟨g, off + lo, none⟩) (hi - lo) (cap - lo)) ((bs.drop lo).take (hi - lo)) := by
  have hl := h.len
  have hc := h.caps
  have hlen : ((bs.drop lo).take (hi - lo)).length = hi - lo := by rw [List.length_take, List.length_drop]; omega
  refine ⟨⟨some ⟨g, off + lo, none⟩, cap - lo, by rw [hlen], by rw [hlen]; omega, by omega, fun _ => ⟨_, _, rfl⟩, fun g' off' ha j u hu => ?_⟩, fun x hx => h.2.1 x (List.mem_of_mem_drop (List.mem_of_mem_take hx)), by rw [hlen]; have := h.2.2; omega⟩
  simp only [Option.some.injEq, Addr.mk.injEq, and_true] at ha
  obtain ⟨rfl, rfl⟩ := ha
  rw [List.getElem?_map] at hu
  obtain ⟨x, hx, rfl⟩ := Option.map_eq_some_iff.1 hu
  rw [List.getElem?_take] at hx
  split at hx
  · rw [List.getElem?_drop] at hx
    have := h.at hx
    rwa [Nat.add_assoc]
  · cases hx
theorem own_grow {w w' : World} {base n : Nat} {v : Value} {xs : List Value} (h : w.ownsRow base 5 1 v n xs) (g : w.grownBy w' v.ownBlock) {u : World} (hu : Ext u w) (hb : u.heap.size ≤ base) : Ext u w' :=
  Below.grown hu g (Nat.le_trans hu.size (Nat.le_refl _)) (fun k hk => by have := (h.lt k hk).1; omega)
/-- bytes put behind bytes of the call's own -/
theorem app_bys {ops : Array Oper} {rest : List Oper} {o : Oper} {a : Act} {Q : Exit → Act → World → Prop} {W : World} {base : Nat} (hgd : o.guard = none) (s y : Operand) (t : TypeId)
    (ho : o.op = .call { callee := .builtin .append, args := #[s, y], argTypes := #[t, t] }) (ht : Tryd.prog.underlying t = some (.slice 5))
    (v : Value) (n : Nat) (xs ys : List Nat) (u : Value) (hs : a.eval s = v) (hown : W.ownsRow base 5 1 v n (byC xs)) (hy : a.eval y = u) (hu : Bys W u ys) (hp : Plain u) (hb : base ≤ W.heap.size) (hn : 0 < n) (hm : n + ys.length ≤ 1000000000)
    (h : ∀ g cap w', w'.ownsRow base 5 1 (.slice (some ⟨g, 0, none⟩) (n + ys.length) cap) (n + ys.length) (byC (xs ++ ys)) → W.grownBy w' v.ownBlock → wpList Tryd.prog ops Q rest (a.put o.dst (.slice (some ⟨g, 0, none⟩) (n + ys.length) cap)) w') :
    wpList Tryd.prog ops Q (o :: rest) a W := by
  obtain ⟨i0, hi, hz0, hz1, hz2⟩ := info_parts infoU8
  have hbc : byC (xs ++ ys) = byC xs ++ byC ys := by simp [byC]
  rcases hp with rfl | ⟨ad, m, c, rfl⟩
  · have hl := hu.len
    have hnil : ys = [] := List.eq_nil_of_length_eq_zero hl.symm
    subst hnil
    obtain ⟨g, cap, rfl⟩ : ∃ g cap, v = .slice (some ⟨g, 0, none⟩) n cap := by
      rcases hown.2 with ⟨-, h0⟩ | ⟨g, cap, cur, e, -⟩
      · omega
      · exact ⟨g, cap, e⟩
    refine wpList_append_own_none hgd s y t ho base 5 i0 1 ht hi _ n (byC xs) hs hown hy ?_
    have := h g cap W (by simpa using hown) (World.grownBy.refl _ _)
    simpa using this
  · have hl := hu.len
    subst hl
    have hnews : ∀ j u, (byC ys)[j]? = some u → W.cell? (ad.add j) = some u := by
      intro j u hj
      obtain ⟨a', cap', e, h1, h2, h3, h4⟩ := hu.1
      simp only [Value.slice.injEq] at e
      obtain ⟨e1, -, -⟩ := e
      have hj0 : 0 < ys.length := by
        unfold byC at hj
        rw [List.getElem?_map] at hj
        obtain ⟨x, hx, -⟩ := Option.map_eq_some_iff.1 hj
        have := (List.getElem?_eq_some_iff.1 hx).1
        omega
      obtain ⟨g, off, e2⟩ := h3 hj0
      rw [← e1] at e2
      obtain rfl := Option.some.inj e2
      have hadd : (⟨g, off, none⟩ : Addr).add j = ⟨g, off + j, none⟩ := by unfold Addr.add; split <;> simp_all
      rw [hadd]
      exact h4 g off e1.symm j u hj
    refine wpList_append_own _ hgd s y t ho base 5 i0 (.int .u8 0) 1 1 ht hi hz0 hz1 hz2 rfl (by decide) v n (byC xs) hs hown ad ys.length c (byC ys) hy (by rw [byC_length, Nat.mul_one]) hnews (byC_one ys) (by unfold maxLen; omega) (by omega) hb ?_
    intro v' w' h1 h2 _
    obtain ⟨g, cap, rfl⟩ : ∃ g cap, v' = .slice (some ⟨g, 0, none⟩) (n + ys.length) cap := by
      rcases h1.2 with ⟨-, h0⟩ | ⟨g, cap, cur, e, -⟩
      · omega
      · exact ⟨g, cap, e⟩
    exact h g cap w' (by rw [hbc]; exact h1) h2
/-- .. out of a block that was just made -/
theorem app_new {ops : Array Oper} {rest : List Oper} {o : Oper} {a : Act} {Q : Exit → Act → World → Prop} {W : World} {base : Nat} (hgd : o.guard = none) (s y : Operand) (t : TypeId)
    (ho : o.op = .call { callee := .builtin .append, args := #[s, y], argTypes := #[t, t] }) (ht : Tryd.prog.underlying t = some (.slice 5))
    (v : Value) (n : Nat) (xs ys : List Nat) (hs : a.eval s = v) (hown : W.ownsRow base 5 1 v n (byC xs)) (hy : a.eval y = .slice (some ⟨W.heap.size, 0, none⟩) ys.length ys.length) (hl : 0 < ys.length) (hb : base ≤ W.heap.size) (hm : n + ys.length ≤ 1000000000)
    (h : ∀ g cap w', w'.ownsRow base 5 1 (.slice (some ⟨g, 0, none⟩) (n + ys.length) cap) (n + ys.length) (byC (xs ++ ys)) → W.grownBy w' v.ownBlock → wpList Tryd.prog ops Q rest (a.put o.dst (.slice (some ⟨g, 0, none⟩) (n + ys.length) cap)) w') :
    wpList Tryd.prog ops Q (o :: rest) a (W.alloc (.cells (byC ys).toArray 5)) := by
  obtain ⟨i0, hi, hz0, hz1, hz2⟩ := info_parts infoU8
  have hbc : byC (xs ++ ys) = byC xs ++ byC ys := by simp [byC]
  refine wpList_append_own _ hgd s y t ho base 5 i0 (.int .u8 0) 1 1 ht hi hz0 hz1 hz2 rfl (by decide) v n (byC xs) hs (hown.alloc _) ⟨W.heap.size, 0, none⟩ ys.length ys.length (byC ys) hy (by rw [byC_length, Nat.mul_one]) ?_ (byC_one ys) (by unfold maxLen; omega) (by omega) (by simp; omega) ?_
  · intro j u hj
    have hadd : (⟨W.heap.size, 0, none⟩ : Addr).add j = ⟨W.heap.size, j, none⟩ := by unfold Addr.add; split <;> simp_all
    rw [hadd]
    have e : (W.alloc (.cells (byC ys).toArray 5)).heap[W.heap.size]? = some (.cells (byC ys).toArray 5 (0, 0)) := heap_alloc_new W _
    simp only [World.cell?, e]
    simpa using hj
  intro v' w' h1 h2 _
  have g := World.grownBy_alloc W (.cells (byC ys).toArray 5) v.ownBlock
  have hg : W.grownBy w' v.ownBlock := ⟨h2.os.trans g.os, h2.tape.trans g.tape, h2.output.trans g.output, Nat.le_trans g.size h2.size, fun k hk hne => (h2.block k (Nat.lt_of_lt_of_le hk g.size) hne).trans (g.block k hk hne)⟩
  obtain ⟨gg, cap, rfl⟩ : ∃ gg cap, v' = .slice (some ⟨gg, 0, none⟩) (n + ys.length) cap := by
    rcases h1.2 with ⟨-, h0⟩ | ⟨gg, cap, cur, e, -⟩
    · omega
    · exact ⟨gg, cap, e⟩
  exact h gg cap w' (by rw [hbc]; exact h1) hg
theorem size_any (n : Int) (w : World) (h : -4611686018427387904 ≤ n ∧ n ≤ 4611686018427387904) : Calls Tryd.prog 19 #[.int .i64 n] w fun e w' => e = .returned (.int .i64 (n + 8)) ∧ w = w' := by
  have j1 : IntKind.i64.wrap (n + 4) = n + 4 := by rw [IntKind.wrap_i64]; omega
  have j2 : IntKind.i64.wrap (n + 4 + 4) = n + 8 := by rw [IntKind.wrap_i64]; omega
  go_enter Tryd.func19, Tryd.ntmps19
  go_wp2
  go_ret
  exact ⟨rfl, rfl⟩
/-- bytes that are all nought -/
def zeroB (n : Nat) : List Nat := List.replicate n 0
theorem made_zero (n : Nat) : (madeCells (Value.int .u8 0).cells (n * 1)).toList = byC (zeroB n) := by
  apply List.ext_getElem?
  intro i
  simp only [madeCells, byC, zeroB, Value.cells, Nat.mul_one]
  by_cases hi : i < n
  · simp [hi, Nat.mod_one]
  · simp [hi]
theorem fill_any (n : Int) (w : World) : Calls Tryd.prog 14 #[.int .i64 n] w fun e w' => ∃ u, e = .returned u ∧ w'.ownsRow w.heap.size 5 1 u (max 0 (min n 65536)).toNat (byC (zeroB (max 0 (min n 65536)).toNat)) ∧ Ext w w' := by
  obtain ⟨i0, hi, hz0, hz1, hz2⟩ := info_parts infoU8
  obtain ⟨m, hm⟩ : ∃ m : Nat, m = (max 0 (min n 65536)).toNat := ⟨_, rfl⟩
  rw [← hm]
  obtain ⟨a, ha⟩ : ∃ a, min n 65536 = a := ⟨_, rfl⟩
  have hb : max 0 a = (m : Int) := by omega
  have hm6 : m ≤ 65536 := by omega
  have r1 := mn2
  have r2 := mx2
  clear hm
  have ha' := ha
  clear ha'
  go_enter Tryd.func14, Tryd.ntmps14
  go_wp2_with (at_make; refine wpList_make_full _ rfl _ _ 22 rfl w.heap.size 5 i0 (.int .u8 0) 1 Tryd.underlying22 hi hz0 hz1 .i64 .i64 _ _ m rfl rfl rfl rfl (by rw [hz2]; omega) (by unfold maxLen; omega) (Nat.le_refl _) ?_; intro w2 hown hgrow)
  go_ret
  exact ⟨_, rfl, by rw [← made_zero]; exact hown, Below.grown (Ext.refl w) hgrow (Nat.le_refl _) (fun k hk => by cases hk)⟩
end Go.Proofs.YtkjllhphpkmaiaaDoor
