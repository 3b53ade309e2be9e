/- (*bits.Writer).Put where it puts: its contract over this seat's translation. -/
import Derived.Test.YtdpebaheojaihaaDoorBwr2
namespace Go.Proofs.YtdpebaheojaihaaDoor
set_option linter.unusedVariables false
set_option linter.unusedSimpArgs false
open Go.RowKit Go.Extern.Stop Go.Stop Go.Extern

/-- an append of one byte to a row of the call's own -/
theorem push_u8 {ops : Array Oper} {rest : List Oper} {o : Oper} {a : Act} {Q : Exit → Act → World → Prop} {W : World} {base : Nat} (hgd : o.guard = none) (s y : Operand) (t : TypeId)
    (ho : o.op = .call { callee := .builtin .append, args := #[s, y], argTypes := #[t, t] }) (ht : Tryd.prog.underlying t = some (.slice 5))
    (v : Value) (n : Nat) (xs : List Value) (x : Int) (hs : a.eval s = v) (hown : W.ownsRow base 5 1 v n xs) (hx : a.eval y = .slice (some ⟨W.heap.size, 0, none⟩) 1 1) (hb : base ≤ W.heap.size) (hn : n ≤ 1000000000000)
    (h : ∀ g cap w', w'.ownsRow base 5 1 (.slice (some ⟨g, 0, none⟩) (n + 1) cap) (n + 1) (xs ++ [.int .u8 x]) → W.grownBy w' v.ownBlock → wpList Tryd.prog ops Q rest (a.put o.dst (.slice (some ⟨g, 0, none⟩) (n + 1) cap)) w') :
    wpList Tryd.prog ops Q (o :: rest) a (W.alloc (.cells #[.int .u8 x] 5)) := by
  obtain ⟨i0, hi, hz0, hz1, hz2⟩ := info_parts infoU8
  refine wpList_append_own _ hgd s y t ho base 5 i0 (.int .u8 0) 1 1 ht hi hz0 hz1 hz2 rfl (by decide) v n xs hs (hown.alloc _) ⟨W.heap.size, 0, none⟩ 1 1 [.int .u8 x] hx rfl (cell_one_new _ _ _) (fun u hu => by obtain rfl := List.mem_singleton.1 hu; rfl) (by unfold maxLen; omega) (by omega) (by simp; omega) ?_
  intro v' w' h1 h2 _
  have g := World.grownBy_alloc W (.cells #[.int .u8 x] 5) v.ownBlock
  have hg : W.grownBy w' v.ownBlock := ⟨h2.os.trans g.os, h2.tape.trans g.tape, h2.output.trans g.output, Nat.le_trans g.size h2.size, fun k hk hne => (h2.block k (Nat.lt_of_lt_of_le hk g.size) hne).trans (g.block k hk hne)⟩
  obtain ⟨gg, cap, rfl⟩ : ∃ gg cap, v' = .slice (some ⟨gg, 0, none⟩) (n + 1) cap := by
    rcases h1.2 with ⟨-, h0⟩ | ⟨gg, cap, cur, e, -⟩
    · omega
    · exact ⟨gg, cap, e⟩
  exact h gg cap w' h1 hg
theorem own_apart {w w' : World} {b B : Nat} {v : Value} {n : Nat} {xs : List Value} (h : w.ownsRow B 5 1 v n xs) (hg : w.grownBy w' v.ownBlock) : WKp b B w w' :=
  ⟨⟨hg.os, hg.tape, hg.output⟩, hg.size, fun k hk _ hc => hg.block k hk (fun e => by
    rcases h.2 with ⟨rfl, -⟩ | ⟨g, cap, cur, rfl, hb, hgg, -⟩
    · simp [Value.ownBlock] at e
    · simp only [Value.ownBlock, Option.some.injEq] at e
      subst e
      rcases hc with hc | hc
      · omega
      · exact hc ⟨cur, (0, 0), hgg⟩)⟩
theorem own_apart_b {w w' : World} {b B : Nat} {v : Value} {n : Nat} {xs : List Value} (h : w.ownsRow B 5 1 v n xs) (hg : w.grownBy w' v.ownBlock) (hb : b < B) (hs : b < w.heap.size) : w'.heap[b]? = w.heap[b]? :=
  hg.block b hs (fun e => by have := h.lt b e.symm; omega)
/-- the bytes of bits, and one more where the last is full -/
def pk1 (l : List Bool) : List Nat := (List.range (l.length / 8 + 1)).map (pkB l)
theorem pk1_full (l : List Bool) (h : l.length % 8 = 0) : pkL l ++ [0] = pk1 l := by
  unfold pkL pk1
  rw [show (l.length + 7) / 8 = l.length / 8 by omega, List.range_succ, List.map_append]
  simp only [List.map_cons, List.map_nil]
  rw [pkB_end (by omega)]
theorem pk1_part (l : List Bool) (h : l.length % 8 ≠ 0) : pkL l = pk1 l := by
  unfold pkL pk1
  rw [show (l.length + 7) / 8 = l.length / 8 + 1 by omega]
theorem pk1_put (l : List Bool) (y t : Nat) (hy : y < 2 ^ t) (h1 : 1 ≤ t) (h : l.length % 8 + t ≤ 8) : (byC (pk1 l)).set (l.length / 8) (.int .u8 ((pkB l (l.length / 8) + y * 2 ^ (8 - l.length % 8 - t) : Nat) : Int)) = byC (pkL (l ++ bsOf y t)) := by
  have hp := pk_put l y t hy h
  have hlen : ((l ++ bsOf y t).length + 7) / 8 = l.length / 8 + 1 := by rw [List.length_append, bsOf_length]; omega
  apply List.ext_getElem?
  intro j
  unfold byC pkL pk1
  rw [hlen, List.getElem?_set, List.getElem?_map, List.getElem?_map, List.getElem?_map, List.getElem?_map]
  by_cases hj : j < l.length / 8 + 1
  · rw [List.getElem?_range hj]
    by_cases e : l.length / 8 = j
    · subst e
      rw [if_pos rfl, if_pos (by simp)]
      show _ = some (Value.int .u8 ((pkB (l ++ bsOf y t) (l.length / 8) : Nat) : Int))
      rw [hp]
    · rw [if_neg e]
      show some (Value.int .u8 ((pkB l j : Nat) : Int)) = some (Value.int .u8 ((pkB (l ++ bsOf y t) j : Nat) : Int))
      rw [pk_old l _ j (by omega)]
  · rw [List.getElem?_eq_none (by simp; omega), if_neg (by omega)]
    rfl
theorem put_list (l : List Bool) (v m t k : Nat) (h : t ≤ m) : (l ++ bsOf (v / 2 ^ m) k) ++ bsOf (v / 2 ^ (m - t) % 2 ^ t) t = l ++ bsOf (v / 2 ^ (m - t)) (k + t) := by
  rw [List.append_assoc, bsOf_mod, bsOf_add, Nat.div_div_eq_div_mul, ← Nat.pow_add, show m - t + t = m by omega]
theorem wput_step {w : World} {b B g cap n I S t Z : Nat} {L L' : List Bool} (hB : WrBox w b (.slice (some ⟨g, 0, none⟩) n cap) S) (hO : w.ownsRow B 5 1 (.slice (some ⟨g, 0, none⟩) n cap) n (byC (pk1 L)))
    (hP : (byC (pk1 L)).set I (.int .u8 (Z : Int)) = byC (pkL L')) (hbB : b < B) (hBs : B ≤ w.heap.size) (hl : L'.length = S + t) (hn : (S + t + 7) / 8 = n) (hs : S + t ≤ 1000000000) :
    WrAt ((w.setCell ⟨g, I, none⟩ (.int .u8 (Z : Int))).setCell ⟨b, 1, none⟩ (.int .i64 ((S : Int) + (t : Int)))).drew b B L' ∧ WKp b B w ((w.setCell ⟨g, I, none⟩ (.int .u8 (Z : Int))).setCell ⟨b, 1, none⟩ (.int .i64 ((S : Int) + (t : Int)))).drew := by
  have e : ((S : Int) + (t : Int)) = ((S + t : Nat) : Int) := by omega
  rw [e]
  have hg := (hO.lt g rfl).1
  obtain ⟨h1, h2⟩ := hO.stored I (.int .u8 (Z : Int))
  rw [hP] at h1
  have hb1 : WrBox (w.setCell ⟨g, I, none⟩ (.int .u8 (Z : Int))) b (.slice (some ⟨g, 0, none⟩) n cap) S := hB.same (Below.heap_setCell _ _ _ _ (show b ≠ g by omega))
  have D : Ext ((w.setCell ⟨g, I, none⟩ (.int .u8 (Z : Int))).setCell ⟨b, 1, none⟩ (.int .i64 ((S + t : Nat) : Int))) ((w.setCell ⟨g, I, none⟩ (.int .u8 (Z : Int))).setCell ⟨b, 1, none⟩ (.int .i64 ((S + t : Nat) : Int))).drew := (Ext.refl _).drew
  have hA : WrAt ((w.setCell ⟨g, I, none⟩ (.int .u8 (Z : Int))).setCell ⟨b, 1, none⟩ (.int .i64 ((S + t : Nat) : Int))) b B L' :=
    ⟨_, by rw [hl]; exact hb1.siz _, by rw [hl, hn]; exact own_set_lt h1 _ hbB, ⟨hbB, by simpa using hBs⟩, by omega⟩
  exact ⟨hA.ext D, ((own_apart (b := b) hO h2).trans (WKp.of_kp ((Kp.refl b _).set 1 _))).ext D⟩
/-- an error, the writer's bits -/
def WPPost (w : World) (b B : Nat) (l : List Bool) (f : Fall) (e : Ending) (w' : World) : Prop := ∃ x, e = .returned x ∧ WrAt w' b B l ∧ WKp b B w w' ∧ ErrIs w' f x
end Go.Proofs.YtdpebaheojaihaaDoor
