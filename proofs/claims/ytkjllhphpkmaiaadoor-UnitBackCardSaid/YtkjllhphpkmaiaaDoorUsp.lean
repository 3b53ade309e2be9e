/- Plain: the units of bytes; lists of units, of the call's own and read. -/
import Derived.Test.YtkjllhphpkmaiaaDoorUnx
namespace Go.Proofs.YtkjllhphpkmaiaaDoor
set_option linter.unusedVariables false
set_option linter.unusedSimpArgs false
open Go.RowKit Go.Extern.Stop Go.Stop Go.Extern

abbrev Un := Nat × List Nat × Int × Int
/-- the units from a place on, and why there are no more -/
def spF : Nat → List Nat → Nat → Fall × List Un
  | 0, _, _ => (none, [])
  | f + 1, bs, a =>
    if bs.length ≤ a then (none, [])
    else if (rdU (bs.drop a)).1 = 0 then
      ((spF f bs (a + (rdU (bs.drop a)).2.2.2)).1, ((rdU (bs.drop a)).2.1, (rdU (bs.drop a)).2.2.1, (a : Int), ((rdU (bs.drop a)).2.2.2 : Int) + (a : Int)) :: (spF f bs (a + (rdU (bs.drop a)).2.2.2)).2)
    else (some ([(unS, (a : Int))], (rdU (bs.drop a)).1), [])
def spU (bs : List Nat) (a : Nat) : Fall × List Un := spF (bs.length + 1) bs a
theorem rdU_fine (c : List Nat) (h : (rdU c).1 = 0) : 0 < (rdU c).2.2.2 ∧ (rdU c).2.2.1.length ≤ 65536 ∧ ∀ x ∈ (rdU c).2.2.1, x ∈ c := by
  unfold rdU at h ⊢
  split at h
  · rename_i h0
    rw [if_pos h0]
    exact ⟨Nat.one_pos, by decide, fun x hx => by cases hx⟩
  · rename_i h0
    rw [if_neg h0]
    split at h
    · cases h
    · rename_i h1
      rw [if_neg h1]
      split at h
      · cases h
      · rename_i h2
        rw [if_neg h2]
        split at h
        · cases h
        · rename_i h3
          rw [if_neg h3]
          split at h
          · cases h
          · rename_i h4
            rw [if_neg h4]
            refine ⟨by show 0 < lnB c + 8; omega, ?_, fun x hx => List.mem_of_mem_drop (List.mem_of_mem_take hx)⟩
            show ((c.drop 4).take (lnB c)).length ≤ 65536
            rw [List.length_take]
            omega
theorem spF_fuel (bs : List Nat) : ∀ (f g a : Nat), bs.length - a < f → bs.length - a < g → spF f bs a = spF g bs a
  | 0, _, _, h, _ => absurd h (Nat.not_lt_zero _)
  | _, 0, _, _, h => absurd h (Nat.not_lt_zero _)
  | f + 1, g + 1, a, h, k => by
    unfold spF
    by_cases h0 : bs.length ≤ a
    · rw [if_pos h0, if_pos h0]
    · rw [if_neg h0, if_neg h0]
      by_cases h1 : (rdU (bs.drop a)).1 = 0
      · have := (rdU_fine _ h1).1
        rw [if_pos h1, if_pos h1, spF_fuel bs f g (a + (rdU (bs.drop a)).2.2.2) (by omega) (by omega)]
      · rw [if_neg h1, if_neg h1]
theorem sp_done {bs : List Nat} {a : Nat} (h : bs.length ≤ a) : spU bs a = (none, []) := by
  unfold spU spF
  exact if_pos h
theorem sp_none {bs : List Nat} {a : Nat} (h : a < bs.length) (hc : (rdU (bs.drop a)).1 ≠ 0) : spU bs a = (some ([(unS, (a : Int))], (rdU (bs.drop a)).1), []) := by
  unfold spU spF
  rw [if_neg (by omega), if_neg hc]
theorem sp_next {bs : List Nat} {a : Nat} (h : a < bs.length) {K : Nat} {D : List Nat} {E : Nat} (hr : rdU (bs.drop a) = (0, K, D, E)) : spU bs a = ((spU bs (a + E)).1, (K, D, (a : Int), (E : Int) + (a : Int)) :: (spU bs (a + E)).2) := by
  have hp := (rdU_fine (bs.drop a) (by rw [hr])).1
  rw [hr] at hp
  have hp' : 0 < E := hp
  unfold spU
  rw [spF, if_neg (by omega), hr, if_pos rfl, spF_fuel bs bs.length (bs.length + 1) (a + E) (by omega) (by omega)]
/-- one step, as the loop sees it -/
theorem sp_step (bs : List Nat) (k : Nat) (h : k < bs.length) : (∃ (K : Nat) (D : List Nat) (E : Nat), nxU bs (k : Int) = (none, K, D, (k : Int), (E : Int) + (k : Int)) ∧ (0 < E ∧ k + E ≤ bs.length ∧ D.length ≤ 65536) ∧ (∀ x ∈ D, x ∈ bs) ∧ spU bs k = ((spU bs (k + E)).1, (K, D, (k : Int), (E : Int) + (k : Int)) :: (spU bs (k + E)).2)) ∨
    (∃ C : Int, C ≠ 0 ∧ nxU bs (k : Int) = (some ([(unS, (k : Int))], C), 0, [], 0, 0) ∧ spU bs k = (some ([(unS, (k : Int))], C), [])) := by
  have hN : nxU bs (k : Int) = if (rdU (bs.drop k)).1 = 0 then (none, (rdU (bs.drop k)).2.1, (rdU (bs.drop k)).2.2.1, (k : Int), ((rdU (bs.drop k)).2.2.2 : Int) + (k : Int)) else (some ([(unS, (k : Int))], (rdU (bs.drop k)).1), 0, [], 0, 0) := by
    unfold nxU
    rw [if_neg (by omega)]
    rfl
  by_cases hc : (rdU (bs.drop k)).1 = 0
  · left
    obtain ⟨f1, f2, f3⟩ := rdU_fine _ hc
    have f4 := rdU_end (bs.drop k) (by rw [List.length_drop]; omega)
    rw [List.length_drop] at f4
    rw [if_pos hc] at hN
    obtain ⟨⟨C, K, D, E⟩, hR⟩ : ∃ R, rdU (bs.drop k) = R := ⟨_, rfl⟩
    rw [hR] at hN f1 f2 f3 f4 hc
    have hc' : C = 0 := hc
    subst hc'
    have f4' : E ≤ bs.length - k := f4
    exact ⟨K, D, E, hN, ⟨f1, by omega, f2⟩, fun x hx => List.mem_of_mem_drop (f3 x hx), sp_next h hR⟩
  · right
    rw [if_neg hc] at hN
    exact ⟨_, hc, hN, sp_none h hc⟩
/-- two slices of the call's own that share no block -/
def Apart (u v : Value) : Prop := ∀ b, u.ownBlock = some b → v.ownBlock ≠ some b
theorem own_kept {w w' : World} {base : Nat} {e : TypeId} {size n : Nat} {v : Value} {xs : List Value} {row : Option Nat} (h : w.ownsRow base e size v n xs) (k : w.grownBy w' row) (hne : v.ownBlock = none ∨ v.ownBlock ≠ row) : w'.ownsRow base e size v n xs := by
  obtain ⟨hl, h⟩ := h
  refine ⟨hl, ?_⟩
  rcases h with h | ⟨g, cap, cur, rfl, hb, hg, h⟩
  · exact Or.inl h
  · have hlt : g < w.heap.size := (Array.getElem?_eq_some_iff.1 hg).1
    have e1 : Value.ownBlock (.slice (some ⟨g, 0, none⟩) n cap) = some g := rfl
    rw [e1] at hne
    refine Or.inr ⟨g, cap, cur, rfl, hb, (k.block g hlt ?_).trans hg, h⟩
    rcases hne with hne | hne
    · cases hne
    · exact hne
theorem push_bys {W W' : World} {base n : Nat} {tv lv v' : Value} {xs : List Value} (hl : W.ownsRow base 5 1 lv n xs) (ap : Apart tv lv) (g : W.grownBy W' tv.ownBlock) (hv : v'.ownBlock = tv.ownBlock ∨ v'.ownBlock = some (W.heap.size + 1)) :
    W'.ownsRow base 5 1 lv n xs ∧ Apart v' lv := by
  refine ⟨own_kept hl g ?_, fun b h1 h2 => ?_⟩
  · cases hb : lv.ownBlock with
    | none => exact Or.inl rfl
    | some b => exact Or.inr (fun e => ap b e.symm hb)
  · rcases hv with hv | hv
    · exact ap b (hv.symm.trans h1) h2
    · have e : b = W.heap.size + 1 := Option.some.inj (h1.symm.trans hv)
      have := (hl.lt b h2).2
      omega
theorem infoUn : (Tryd.prog.info? 44).map (fun i => (i.zero, i.size, i.bytes)) = some (some (.agg #[.int .i64 0, .slice none 0 0, .int .i64 0, .int .i64 0]), 4, 48) := by kernel_rfl
theorem push_un {ops : Array Oper} {rest : List Oper} {o : Oper} {a : Act} {Q : Exit → Act → World → Prop} {Wd : World} {base : Nat} (hgd : o.guard = none) (s y : Operand) (t : TypeId)
    (ho : o.op = .call { callee := .builtin .append, args := #[s, y], argTypes := #[t, t] }) (ht : Tryd.prog.underlying t = some (.slice 44))
    (v : Value) (n : Nat) (xs : List Value) (K A E : Int) (su : Value) (hsu : su.oneCell' = true) (hs : a.eval s = v) (hown : Wd.ownsRow base 44 4 v n xs) (hx : a.eval y = .slice (some ⟨Wd.heap.size, 0, none⟩) 1 1) (hb : base ≤ Wd.heap.size) (hn : n ≤ 1000000)
    (h : ∀ v' w', w'.ownsRow base 44 4 v' (n + 1) (xs ++ [.int .i64 K, su, .int .i64 A, .int .i64 E]) → Wd.grownBy w' v.ownBlock → (v'.ownBlock = v.ownBlock ∨ v'.ownBlock = some (Wd.heap.size + 1)) → wpList Tryd.prog ops Q rest (a.put o.dst v') w') :
    wpList Tryd.prog ops Q (o :: rest) a (Wd.alloc (.cells #[.int .i64 K, su, .int .i64 A, .int .i64 E] 44)) := by
  obtain ⟨i0, hi, hz0, hz1, hz2⟩ := info_parts infoUn
  refine wpList_append_own_at _ hgd s y t ho base 44 i0 _ 4 48 ht hi hz0 hz1 hz2 rfl (by decide) v n xs hs (hown.alloc _) ⟨Wd.heap.size, 0, none⟩ 1 1 [.int .i64 K, su, .int .i64 A, .int .i64 E] hx rfl (World.news_of_block (cs := #[.int .i64 K, su, .int .i64 A, .int .i64 E]) (t := 44) (fr := (0, 0)) (heap_alloc_new Wd _)) ?_ (by unfold maxLen; omega) (by omega) (by simp; omega) ?_
  · intro x hx
    simp only [List.mem_cons, List.not_mem_nil, or_false] at hx
    rcases hx with rfl | rfl | rfl | rfl
    · rfl
    · exact hsu
    · rfl
    · rfl
  intro v' w' h1 h2 h3 h4
  refine h v' w' h1 ⟨h2.os, h2.tape, h2.output, Nat.le_trans (by simp) h2.size, fun k hk hne => ?_⟩ (by simpa using h4)
  exact (h2.block k (by simp; omega) hne).trans (Below.heap_alloc Wd _ k hk)
def unD (L : List Un) (q : Nat) : Un := L.getD q (0, [], 0, 0)
def ucs (L : List Un) (S : Nat → Value) (k : Nat) : List Value := (List.range k).flatMap fun q => [.int .i64 ((unD L q).1 : Int), S q, .int .i64 (unD L q).2.2.1, .int .i64 (unD L q).2.2.2]
theorem ucs_len (L : List Un) (S : Nat → Value) (k : Nat) : (ucs L S k).length = k * 4 := by
  induction k with
  | zero => rfl
  | succ k ih => unfold ucs at ih ⊢; rw [List.range_succ, List.flatMap_append, List.length_append, ih]; simp; omega
theorem ucs_succ (L : List Un) (S : Nat → Value) (k : Nat) : ucs L S (k + 1) = ucs L S k ++ [.int .i64 ((unD L k).1 : Int), S k, .int .i64 (unD L k).2.2.1, .int .i64 (unD L k).2.2.2] := by
  unfold ucs
  rw [List.range_succ, List.flatMap_append]
  simp
theorem ucs_congr {L M : List Un} {S T : Nat → Value} {k : Nat} (h : ∀ q, q < k → S q = T q) (hu : ∀ q, q < k → unD L q = unD M q) : ucs L S k = ucs M T k := by
  induction k with
  | zero => rfl
  | succ k ih => rw [ucs_succ, ucs_succ, ih (fun q hq => h q (by omega)) (fun q hq => hu q (by omega)), h k (by omega), hu k (by omega)]
theorem ucs_get (L : List Un) (S : Nat → Value) (k q : Nat) (hq : q < k) : (ucs L S k)[q * 4]? = some (.int .i64 ((unD L q).1 : Int)) ∧ (ucs L S k)[q * 4 + 1]? = some (S q) ∧ (ucs L S k)[q * 4 + 2]? = some (.int .i64 (unD L q).2.2.1) ∧ (ucs L S k)[q * 4 + 3]? = some (.int .i64 (unD L q).2.2.2) := by
  induction k with
  | zero => omega
  | succ k ih =>
    have hl := ucs_len L S k
    rw [ucs_succ]
    by_cases h : q < k
    · obtain ⟨h1, h2, h3, h4⟩ := ih h
      refine ⟨?_, ?_, ?_, ?_⟩
      · rw [List.getElem?_append_left (by omega)]; exact h1
      · rw [List.getElem?_append_left (by omega)]; exact h2
      · rw [List.getElem?_append_left (by omega)]; exact h3
      · rw [List.getElem?_append_left (by omega)]; exact h4
    · obtain rfl : q = k := by omega
      refine ⟨?_, ?_, ?_, ?_⟩
      · rw [List.getElem?_append_right (by omega), hl, Nat.sub_self]; rfl
      · rw [List.getElem?_append_right (by omega), hl, show q * 4 + 1 - q * 4 = 1 by omega]; rfl
      · rw [List.getElem?_append_right (by omega), hl, show q * 4 + 2 - q * 4 = 2 by omega]; rfl
      · rw [List.getElem?_append_right (by omega), hl, show q * 4 + 3 - q * 4 = 3 by omega]; rfl
/-- the units' data: each of the call's own, none the list itself -/
def UnOwn (w : World) (base : Nat) (L : List Un) (S : Nat → Value) (k : Nat) (ov : Value) : Prop := ∀ q, q < k → w.ownsRow base 5 1 (S q) (unD L q).2.1.length (byC (unD L q).2.1) ∧ (∀ x ∈ (unD L q).2.1, x < 256) ∧ (unD L q).2.1.length ≤ 100000 ∧ Apart ov (S q)
theorem ucell {w : World} {base n cap g j : Nat} {e : TypeId} {s : Nat} {xs : List Value} {v : Value} (h : w.ownsRow base e s (.slice (some ⟨g, 0, none⟩) n cap) n xs) (hj : xs[j]? = some v) : w.cell? ⟨g, j, none⟩ = some v := by
  obtain ⟨hl, h | ⟨g', cap', cur, e', hb, hg, h1, h2, hs, ht⟩⟩ := h
  · cases h.1
  · simp only [Value.slice.injEq, Option.some.injEq, Addr.mk.injEq, and_true, true_and] at e'
    obtain ⟨rfl, rfl⟩ := e'
    rw [← ht, List.getElem?_take] at hj
    split at hj
    · unfold World.cell?
      simp only [hg]
      simpa using hj
    · cases hj
theorem uaddr {w : World} {base n : Nat} {e : TypeId} {s : Nat} {v : Value} {xs : List Value} (h : w.ownsRow base e s v n xs) (hn : 0 < n) : ∃ g cap, v = .slice (some ⟨g, 0, none⟩) n cap ∧ base ≤ g ∧ g < w.heap.size := by
  obtain ⟨hl, h'⟩ := id h
  rcases h' with ⟨h1, h2⟩ | ⟨g, cap, cur, e, hb, hg, -⟩
  · omega
  · exact ⟨g, cap, e, hb, (Array.getElem?_eq_some_iff.1 hg).1⟩
theorem uform {w : World} {base n : Nat} {e : TypeId} {s : Nat} {v : Value} {xs : List Value} (h : w.ownsRow base e s v n xs) : ∃ a cap, v = .slice a n cap := by
  obtain ⟨hl, h⟩ := h
  rcases h with ⟨h1, h2⟩ | ⟨g, cap, cur, e, -⟩
  · exact ⟨none, 0, by rw [h1, h2]⟩
  · exact ⟨some ⟨g, 0, none⟩, cap, e⟩
/-- a unit's cells in a list -/
def UnIn (w : World) (g i : Nat) (u : Un) : Prop := ∃ ra rc, w.cell? ⟨g, i, none⟩ = some (.int .i64 (u.1 : Int)) ∧ w.cell? ⟨g, i + 1, none⟩ = some (.slice ra u.2.1.length rc) ∧ w.cell? ⟨g, i + 2, none⟩ = some (.int .i64 u.2.2.1) ∧ w.cell? ⟨g, i + 3, none⟩ = some (.int .i64 u.2.2.2) ∧ Bys w (.slice ra u.2.1.length rc) u.2.1
/-- a slice value that reads as these units -/
def Uns (w : World) (v : Value) (L : List Un) : Prop := ∃ (a : Option Addr) (cap : Nat), v = .slice a L.length cap ∧ (L.length ≤ cap ∧ L.length ≤ 1000000) ∧ (0 < L.length → ∃ g off, a = some ⟨g, off, none⟩ ∧ ∀ q u, L[q]? = some u → UnIn w g (off + q * 4) u)
theorem UnIn.ext {w w' : World} {g i : Nat} {u : Un} (h : UnIn w g i u) (k : Ext w w') : UnIn w' g i u := by
  obtain ⟨ra, rc, h0, h1, h2, h3, h4⟩ := h
  exact ⟨ra, rc, k.cell h0, k.cell h1, k.cell h2, k.cell h3, h4.ext k⟩
theorem Uns.ext {w w' : World} {v : Value} {L : List Un} (h : Uns w v L) (k : Ext w w') : Uns w' v L := by
  obtain ⟨a, cap, h0, hc, h1⟩ := h
  refine ⟨a, cap, h0, hc, fun hl => ?_⟩
  obtain ⟨g, off, e, h2⟩ := h1 hl
  exact ⟨g, off, e, fun q u hq => (h2 q u hq).ext k⟩
theorem Uns.form {w : World} {v : Value} {L : List Un} (h : Uns w v L) : ∃ a cap, v = .slice a L.length cap ∧ L.length ≤ cap ∧ L.length ≤ 1000000 := by
  obtain ⟨a, cap, h0, hc, _⟩ := h
  exact ⟨a, cap, h0, hc⟩
theorem Uns.len {w : World} {a : Option Addr} {n cap : Nat} {L : List Un} (h : Uns w (.slice a n cap) L) : n = L.length := by
  obtain ⟨a', cap', e, _⟩ := h
  simp only [Value.slice.injEq] at e
  exact e.2.1
theorem Uns.had {w : World} {a : Option Addr} {n cap : Nat} {L : List Un} (h : Uns w (.slice a n cap) L) (hn : 0 < n) : ∃ g off, a = some ⟨g, off, none⟩ := by
  have hl := h.len
  obtain ⟨a', cap', e, -, h3⟩ := h
  simp only [Value.slice.injEq] at e
  obtain ⟨rfl, -, rfl⟩ := e
  obtain ⟨g, off, e, _⟩ := h3 (by omega)
  exact ⟨g, off, e⟩
theorem Uns.at {w : World} {g off n cap : Nat} {L : List Un} (h : Uns w (.slice (some ⟨g, off, none⟩) n cap) L) {q : Nat} {u : Un} (hq : L[q]? = some u) : UnIn w g (off + q * 4) u := by
  have hl := h.len
  obtain ⟨a', cap', e, -, h3⟩ := h
  simp only [Value.slice.injEq] at e
  obtain ⟨rfl, -, rfl⟩ := e
  obtain ⟨hj, -⟩ := List.getElem?_eq_some_iff.1 hq
  obtain ⟨g', off', e, h4⟩ := h3 (by omega)
  obtain ⟨rfl, rfl⟩ : g = g' ∧ off = off' := by simpa using e
  exact h4 q u hq
/-- a list of the call's own whose data read as they should -/
theorem Uns.of_cells {w : World} {base : Nat} {v : Value} {L : List Un} {S : Nat → Value} (h : w.ownsRow base 44 4 v L.length (ucs L S L.length)) (hl : L.length ≤ 1000000) (hS : ∀ q, q < L.length → Bys w (S q) (unD L q).2.1) : Uns w v L := by
  by_cases h0 : 0 < L.length
  · obtain ⟨g, cap, rfl, -, -⟩ := uaddr h h0
    have hcap : L.length ≤ cap := by
      obtain ⟨-, h | ⟨g', cap', cur, e', -, -, h1, -⟩⟩ := h
      · cases h.1
      · simp only [Value.slice.injEq] at e'
        rw [e'.2.2]; exact h1
    refine ⟨_, cap, rfl, ⟨hcap, hl⟩, fun _ => ⟨g, 0, rfl, fun q u hq => ?_⟩⟩
    obtain ⟨hj, -⟩ := List.getElem?_eq_some_iff.1 hq
    have hu : unD L q = u := by unfold unD; rw [List.getD, hq]; rfl
    obtain ⟨c0, c1, c2, c3⟩ := ucs_get L S L.length q hj
    have hb := hS q hj
    rw [hu] at c0 c2 c3 hb
    obtain ⟨ra, rc, e⟩ := hb.form
    rw [e] at c1 hb
    rw [Nat.zero_add]
    exact ⟨ra, rc, ucell h c0, ucell h c1, ucell h c2, ucell h c3, hb⟩
  · have : L = [] := List.eq_nil_of_length_eq_zero (by omega)
    subst this
    obtain ⟨a, cap, rfl⟩ := uform h
    exact ⟨a, cap, rfl, ⟨Nat.zero_le _, hl⟩, fun h => absurd h (by simp)⟩
theorem UnOwn.bys {w : World} {base k : Nat} {L : List Un} {S : Nat → Value} {ov : Value} (h : UnOwn w base L S k ov) {q : Nat} (hq : q < k) : Bys w (S q) (unD L q).2.1 := by
  obtain ⟨h1, h2, h3, -⟩ := h q hq
  exact Bys.of_owns h1 h2 (by omega)
theorem UnOwn.ext {w w' : World} {base k : Nat} {L : List Un} {S : Nat → Value} {ov : Value} (h : UnOwn w base L S k ov) (x : Ext w w') : UnOwn w' base L S k ov := fun q hq => by
  obtain ⟨h1, h2⟩ := h q hq
  exact ⟨ownsRow_ext h1 x, h2⟩
theorem Uns.of_own {w : World} {base : Nat} {v : Value} {L : List Un} {S : Nat → Value} (h : w.ownsRow base 44 4 v L.length (ucs L S L.length)) (hl : L.length ≤ 1000000) (hS : UnOwn w base L S L.length v) : Uns w v L :=
  Uns.of_cells h hl fun _ hq => hS.bys hq
/-- as many units as bytes, at most -/
theorem sp_count (bs : List Nat) : ∀ (f a : Nat), bs.length - a < f → (spU bs a).2.length ≤ bs.length - a
  | 0, _, h => absurd h (Nat.not_lt_zero _)
  | f + 1, a, h => by
    by_cases h0 : a < bs.length
    · rcases sp_step bs a h0 with ⟨K, D, E, -, ⟨h1, -⟩, -, h2⟩ | ⟨C, -, -, h2⟩
      · rw [h2, List.length_cons]
        have := sp_count bs f (a + E) (by omega)
        omega
      · rw [h2]; simp
    · rw [sp_done (by omega)]; simp
theorem drop_cons {α : Type} {L : List α} {k : Nat} {u : α} {T : List α} (h : L.drop k = u :: T) : L[k]? = some u ∧ L.drop (k + 1) = T ∧ k < L.length := by
  have h1 : L[k]? = some u := by rw [← List.head?_drop, h]; rfl
  refine ⟨h1, ?_, (List.getElem?_eq_some_iff.1 h1).1⟩
  rw [← List.tail_drop, h]
  rfl
end Go.Proofs.YtkjllhphpkmaiaaDoor
