/- Units behind units: plain; bytes put behind any bytes; the code of a result. -/
import Derived.Test.YtkjllhphpkmaiaaDoorUs3
namespace Go.Proofs.YtkjllhphpkmaiaaDoor
set_option linter.unusedVariables false
set_option linter.unusedSimpArgs false
open Go.RowKit Go.Extern.Stop Go.Stop Go.Extern

theorem getD_app {α : Type} (c d : List α) (x : α) {j : Nat} (h : j < c.length) : (c ++ d).getD j x = c.getD j x := by
  simp only [List.getD_eq_getElem?_getD]
  rw [List.getElem?_append_left h]
/-- what reads as a unit reads so with anything behind it -/
theorem rd_more {c d : List Nat} (hc : 0 < c.length) (h : (rdU c).1 = 0) : rdU (c ++ d) = rdU c := by
  have g0 := getD_app c d 0 hc
  unfold rdU at h ⊢
  rw [g0]
  split at h
  · rename_i h0
    rw [if_pos h0, if_pos h0]
  · rename_i h0
    rw [if_neg h0, if_neg h0]
    split at h
    · cases h
    · rename_i h1
      have hl : lnB (c ++ d) = lnB c := by
        unfold lnB
        rw [getD_app c d 0 (by omega), getD_app c d 0 (by omega), getD_app c d 0 (by omega)]
      rw [if_neg (by rw [List.length_append]; omega), if_neg h1, hl]
      split at h
      · cases h
      · rename_i h2
        rw [if_neg h2, if_neg h2]
        split at h
        · cases h
        · rename_i h3
          have hs : smB (c ++ d) (4 + lnB c) = smB c (4 + lnB c) := by
            unfold smB
            rw [getD_app c d 0 (by omega), getD_app c d 0 (by omega), getD_app c d 0 (by omega), getD_app c d 0 (by omega)]
          rw [if_neg (by rw [List.length_append]; omega), if_neg h3, hs]
          rw [List.take_append_of_le_length (by omega), List.drop_append_of_le_length (by omega), List.take_append_of_le_length (by rw [List.length_drop]; omega)]
theorem sp_first (a b : List Nat) : ∀ (f p : Nat), a.length - p < f → p ≤ a.length → (spU a p).1 = none → spU (a ++ b) p = ((spU (a ++ b) a.length).1, (spU a p).2 ++ (spU (a ++ b) a.length).2)
  | 0, _, h, _, _ => absurd h (Nat.not_lt_zero _)
  | f + 1, p, h, hp, hn => by
    by_cases h0 : p < a.length
    · by_cases hc : (rdU (a.drop p)).1 = 0
      · have hd : (a ++ b).drop p = a.drop p ++ b := List.drop_append_of_le_length hp
        have hm := rd_more (d := b) (by rw [List.length_drop]; omega) hc
        have hpos := (rdU_fine _ hc).1
        have hend := rdU_end (a.drop p) (by rw [List.length_drop]; omega)
        rw [List.length_drop] at hend
        obtain ⟨⟨C, K, D, E⟩, hR⟩ : ∃ R, rdU (a.drop p) = R := ⟨_, rfl⟩
        rw [hR] at hc hm hpos hend
        have hc' : C = 0 := hc
        subst hc'
        have hend' : E ≤ a.length - p := hend
        have hpos' : 0 < E := hpos
        have e1 := sp_next h0 hR
        have e2 := sp_next (bs := a ++ b) (a := p) (by rw [List.length_append]; omega) (by rw [hd]; exact hm)
        rw [e1] at hn
        have ih := sp_first a b f (p + E) (by omega) (by omega) hn
        rw [e2, ih, e1]
        rfl
      · rw [sp_none h0 hc] at hn
        cases hn
    · have : p = a.length := by omega
      subst this
      rw [sp_done (bs := a) (Nat.le_refl _)]
      simp
/-- a unit, moved; what ended, moved -/
def shU (n : Nat) (u : Un) : Un := (u.1, u.2.1, u.2.2.1 + (n : Int), u.2.2.2 + (n : Int))
def shF (n : Nat) : Fall → Fall
  | none => none
  | some (l, c) => some (l.map fun s => (s.1, s.2 + (n : Int)), c)
theorem sp_shift (a b : List Nat) : ∀ (f i : Nat), b.length - i < f → spU (a ++ b) (a.length + i) = (shF a.length (spU b i).1, (spU b i).2.map (shU a.length))
  | 0, _, h => absurd h (Nat.not_lt_zero _)
  | f + 1, i, h => by
    have hd : (a ++ b).drop (a.length + i) = b.drop i := by rw [List.drop_append, List.drop_eq_nil_of_le (by omega), List.nil_append]; congr 1; omega
    by_cases h0 : i < b.length
    · by_cases hc : (rdU (b.drop i)).1 = 0
      · have hpos := (rdU_fine _ hc).1
        obtain ⟨⟨C, K, D, E⟩, hR⟩ : ∃ R, rdU (b.drop i) = R := ⟨_, rfl⟩
        rw [hR] at hc hpos
        have hc' : C = 0 := hc
        subst hc'
        have hpos' : 0 < E := hpos
        rw [sp_next (bs := a ++ b) (a := a.length + i) (by rw [List.length_append]; omega) (by rw [hd]; exact hR), sp_next h0 hR, Nat.add_assoc, sp_shift a b f (i + E) (by omega)]
        show (_, (K, D, ((a.length + i : Nat) : Int), (E : Int) + ((a.length + i : Nat) : Int)) :: _) = (_, (K, D, (i : Int) + (a.length : Int), (E : Int) + (i : Int) + (a.length : Int)) :: _)
        rw [show ((a.length + i : Nat) : Int) = (i : Int) + (a.length : Int) by omega, show (E : Int) + ((i : Int) + (a.length : Int)) = (E : Int) + (i : Int) + (a.length : Int) by omega]
      · rw [sp_none (bs := a ++ b) (a := a.length + i) (by rw [List.length_append]; omega) (by rw [hd]; exact hc), sp_none h0 hc, hd]
        show (some ([(unS, ((a.length + i : Nat) : Int))], _), _) = (some ([(unS, (i : Int) + (a.length : Int))], _), _)
        rw [show ((a.length + i : Nat) : Int) = (i : Int) + (a.length : Int) by omega]
        rfl
    · rw [sp_done (by rw [List.length_append]; omega), sp_done (by omega)]
      rfl
theorem sp_join {a b : List Nat} {L M : List Un} {F : Fall} (ha : spU a 0 = (none, L)) (hb : spU b 0 = (F, M)) : spU (a ++ b) 0 = (shF a.length F, L ++ M.map (shU a.length)) := by
  rw [sp_first a b (a.length + 1) 0 (by omega) (Nat.zero_le _) (by rw [ha]), ha]
  have := sp_shift a b (b.length + 1) 0 (by omega)
  rw [Nat.add_zero, hb] at this
  rw [this]
theorem sp_bound (bs : List Nat) : ∀ (f i : Nat), bs.length - i < f → ∀ u ∈ (spU bs i).2, (0 ≤ u.2.2.1 ∧ u.2.2.1 ≤ (bs.length : Int)) ∧ (0 ≤ u.2.2.2 ∧ u.2.2.2 ≤ (bs.length : Int))
  | 0, _, h => absurd h (Nat.not_lt_zero _)
  | f + 1, i, h => by
    by_cases h0 : i < bs.length
    · rcases sp_step bs i h0 with ⟨K, D, E, -, ⟨h1, h2, -⟩, -, h3⟩ | ⟨C, -, -, h3⟩
      · rw [h3]
        intro u hu
        rcases List.mem_cons.1 hu with rfl | hu
        · show (0 ≤ (i : Int) ∧ (i : Int) ≤ _) ∧ (0 ≤ (E : Int) + (i : Int) ∧ (E : Int) + (i : Int) ≤ _)
          omega
        · exact sp_bound bs f (i + E) (by omega) u hu
      · rw [h3]
        intro u hu
        cases hu
    · rw [sp_done (by omega)]
      intro u hu
      cases hu
theorem Uns.take {w : World} {g off n cap : Nat} {L : List Un} (h : Uns w (.slice (some ⟨g, off, none⟩) n cap) L) {k : Nat} (hk : k ≤ n) : Uns w (.slice (some ⟨g, off, none⟩) k cap) (L.take k) := by
  have hl := h.len
  obtain ⟨a', cap', e, hc, -⟩ := id h
  simp only [Value.slice.injEq] at e
  obtain ⟨rfl, -, rfl⟩ := e
  have ht : (L.take k).length = k := by rw [List.length_take]; omega
  refine ⟨_, _, by rw [ht], by rw [ht]; omega, fun _ => ⟨g, off, rfl, fun q u hq => h.at ?_⟩⟩
  rw [List.getElem?_take] at hq
  split at hq
  · exact hq
  · cases hq
/-- bytes put behind bytes of the call's own, of any length -/
theorem app_any {ops : Array Oper} {rest : List Oper} {o : Oper} {a : Act} {Q : Exit → Act → World → Prop} {W : World} {base : Nat} (hgd : o.guard = none) (s y : Operand) (t : TypeId)
    (ho : o.op = .call { callee := .builtin .append, args := #[s, y], argTypes := #[t, t] }) (ht : Tryd.prog.underlying t = some (.slice 5))
    (v : Value) (n : Nat) (xs ys : List Nat) (u : Value) (hs : a.eval s = v) (hown : W.ownsRow base 5 1 v n (byC xs)) (hy : a.eval y = u) (hu : Bys W u ys) (hp : Plain u) (hb : base ≤ W.heap.size) (hm : n + ys.length ≤ 1000000000)
    (h : ∀ v' w', w'.ownsRow base 5 1 v' (n + ys.length) (byC (xs ++ ys)) → W.grownBy w' v.ownBlock → wpList Tryd.prog ops Q rest (a.put o.dst v') w') :
    wpList Tryd.prog ops Q (o :: rest) a W := by
  obtain ⟨i0, hi, hz0, hz1, hz2⟩ := info_parts infoU8
  have hbc : byC (xs ++ ys) = byC xs ++ byC ys := by simp [byC]
  rcases hp with rfl | ⟨ad, m, c, rfl⟩
  · have hl := hu.len
    have hnil : ys = [] := List.eq_nil_of_length_eq_zero hl.symm
    subst hnil
    refine wpList_append_own_none hgd s y t ho base 5 i0 1 ht hi _ n (byC xs) hs hown hy ?_
    have := h v W (by simpa using hown) (World.grownBy.refl _ _)
    simpa using this
  · have hl := hu.len
    subst hl
    have hnews : ∀ j u, (byC ys)[j]? = some u → W.cell? (ad.add j) = some u := by
      intro j u hj
      obtain ⟨a', cap', e, h1, h2, h3, h4⟩ := hu.1
      simp only [Value.slice.injEq] at e
      obtain ⟨e1, -, -⟩ := e
      have hj0 : 0 < ys.length := by
        unfold byC at hj
        rw [List.getElem?_map] at hj
        obtain ⟨x, hx, -⟩ := Option.map_eq_some_iff.1 hj
        have := (List.getElem?_eq_some_iff.1 hx).1
        omega
      obtain ⟨g, off, e2⟩ := h3 hj0
      rw [← e1] at e2
      obtain rfl := Option.some.inj e2
      have hadd : (⟨g, off, none⟩ : Addr).add j = ⟨g, off + j, none⟩ := by unfold Addr.add; split <;> simp_all
      rw [hadd]
      exact h4 g off e1.symm j u hj
    refine wpList_append_own _ hgd s y t ho base 5 i0 (.int .u8 0) 1 1 ht hi hz0 hz1 hz2 rfl (by decide) v n (byC xs) hs hown ad ys.length c (byC ys) hy (by rw [byC_length, Nat.mul_one]) hnews (byC_one ys) (by unfold maxLen; omega) (by omega) hb ?_
    intro v' w' h1 h2 _
    exact h v' w' (by rw [hbc]; exact h1) h2
end Go.Proofs.YtkjllhphpkmaiaaDoor
