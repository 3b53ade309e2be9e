/- An append of a whole slice to one that the call itself made; kinref.In and kinref.Wrap: contracts over this seat's translation. -/
import Derived.Test.YtdndambkaohgiaaGreatDoorZb
import Derived.Deep.AppendLies
namespace Go.Proofs.YtdndambkaohgiaaGreatDoor
set_option linter.unusedVariables false
set_option linter.unusedSimpArgs false
open Go.RowKit

theorem run_append_none {P : Program} {w : World} (base : Nat) (t ty e : TypeId) (i : TypeInfo) (size : Nat) (ht : P.underlying t = some (.slice e)) (hi : P.info? e = some i)
    (v : Value) (n c : Nat) (xs : List Value) (hown : w.ownsRow base e size v n xs) :
    (Builtin.append_ #[t, t] ty #[v, .slice none 0 c]).run P w = .ok v w := by
  rcases hown.2 with ⟨rfl, rfl⟩ | ⟨g, cap, cur, rfl, _, _, hnc, _⟩
  · simp [Builtin.append_, run_underlying ht, sizeOf, typeInfo, hi, Builtin.lenOf, Builtin.firstCells]
  · simp [Builtin.append_, run_underlying ht, sizeOf, typeInfo, hi, Builtin.lenOf, Builtin.firstCells, hnc, storeCells]

theorem append_row {P : Program} {ops : Array Oper} {rest : List Oper} {o : Oper} {a : Act} {Q : Exit → Act → World → Prop} {W : World} {base : Nat} (hgd : o.guard = none) (s y : Operand) (t : TypeId)
    (ho : o.op = .call { callee := .builtin .append, args := #[s, y], argTypes := #[t, t] })
    (e : TypeId) (i : TypeInfo) (z : Value) (size bytes : Nat) (ht : P.underlying t = some (.slice e)) (hi : P.info? e = some i) (hz : i.zero = some z) (hsize : i.size = size) (hby : i.bytes = bytes) (hzs : z.cells.size = size) (hsz : 0 < size)
    (v : Value) (n : Nat) (xs : List Value) (hs : a.eval s = v) (hown : W.ownsRow base e size v n xs) (u : Value) (m : Nat) (news : List Value) (hx : a.eval y = u) (hr : Row W u m news) (hl : news.length = m * size) (h1 : ∀ x ∈ news, x.oneCell' = true)
    (hb : base ≤ W.heap.size) (h63 : n + m ≤ maxLen) (hbytes : (n + m) * bytes ≤ 140737488355328)
    (h : ∀ v' w', w'.ownsRow base e size v' (n + m) (xs ++ news) → Below base W w' → W.grownBy w' v.ownBlock → wpList P ops Q rest (a.put o.dst v') w') :
    wpList P ops Q (o :: rest) a W := by
  obtain ⟨a0, cap, rfl, hmc, hcm, hsome, hcells⟩ := hr
  cases a0 with
  | none =>
    have hm : m = 0 := by
      rcases Nat.eq_zero_or_pos m with h0 | h0
      · exact h0
      · obtain ⟨g, off, hg⟩ := hsome h0
        cases hg
    subst hm
    obtain rfl : news = [] := List.eq_nil_of_length_eq_zero (by simpa using hl)
    refine wpList_plain hgd fun K hK => ?_
    have hrun := run_append_none (P := P) (w := W) base t o.type e i size ht hi v n cap xs hown
    unfold Oper.wp
    simp [execOp, ho, resolve, invoke, builtin, hs, hx, hrun, Result.andThen]
    exact hK _ _ (h v W (by simpa using hown) (Below.refl _ _) ⟨rfl, rfl, rfl, Nat.le_refl _, fun _ _ _ => rfl⟩)
  | some ad =>
    have hnews : ∀ j x, news[j]? = some x → W.cell? (ad.add j) = some x := fun j x hj => by
      have hm : 0 < m := by
        rcases Nat.eq_zero_or_pos m with h0 | h0
        · subst h0
          obtain rfl : news = [] := List.eq_nil_of_length_eq_zero (by simpa using hl)
          simp at hj
        · exact h0
      obtain ⟨g, off, hg⟩ := hsome hm
      cases hg
      have hadd : (⟨g, off, none⟩ : Addr).add j = ⟨g, off + j, none⟩ := by unfold Addr.add; split <;> simp_all
      rw [hadd]
      exact hcells g off rfl j x hj
    refine wpList_append_own _ hgd s y t ho base e i z size bytes ht hi hz hsize hby hzs hsz v n xs hs hown ad m cap news hx hl hnews h1 h63 hbytes hb ?_
    intro v' w' h2 h3 _
    exact h v' w' h2 (Below.grown (Below.refl base W) h3 hb (fun k hk => (hown.lt k hk).1)) h3

theorem infoRStep : (Tryz.prog.info? 105).map (fun i => (i.zero, i.size, i.bytes)) = some (some (.agg #[.string .empty, .int .i64 0]), 2, 24) := by kernel_rfl
theorem step_one (p : List (ByteArray × Int)) : ∀ x ∈ stepCells p, x.oneCell' = true := by
  induction p with
  | nil => intro x hx; cases hx
  | cons a p ih =>
    obtain ⟨s, n⟩ := a
    intro x hx
    simp only [stepCells, List.mem_cons] at hx
    rcases hx with rfl | rfl | hx
    · rfl
    · rfl
    · exact ih x hx

theorem heap_alloc2 {w1 : World} {o o' : Obj} : ((w1.alloc o).alloc o').heap[w1.heap.size + 1]? = some o' := by
  have := heap_alloc_new (w1.alloc o) o'
  simpa using this
theorem owns_base {w : World} {base b : Nat} {e : TypeId} {size : Nat} {v : Value} {n : Nat} {xs : List Value} (h : w.ownsRow base e size v n xs) (hb : b ≤ base) : w.ownsRow b e size v n xs := by
  obtain ⟨h1, h2⟩ := h
  refine ⟨h1, ?_⟩
  rcases h2 with h2 | ⟨g, cap, cur, hv, hg, r⟩
  · exact Or.inl h2
  · exact Or.inr ⟨g, cap, cur, hv, Nat.le_trans hb hg, r⟩
theorem owns_setCell_ne {w : World} {base : Nat} {e : TypeId} {size : Nat} {v : Value} {n : Nat} {xs : List Value} (h : w.ownsRow base e size v n xs) {p : Addr} (u : Value) (hne : ∀ cs, w.heap[p.block]? ≠ some (.cells cs e (0, 0))) : (w.setCell p u).ownsRow base e size v n xs := by
  obtain ⟨h1, h2⟩ := h
  refine ⟨h1, ?_⟩
  rcases h2 with h2 | ⟨g, cap, cur, hv, hg, hh, r⟩
  · exact Or.inl h2
  · exact Or.inr ⟨g, cap, cur, hv, hg, by rw [Below.heap_setCell _ _ _ _ (fun e => hne cur (by rw [← e]; exact hh))]; exact hh, r⟩
theorem in_facts {w1 w2 : World} {s : ByteArray} {n c : Int}
    (h3 : ((w1.alloc (.cells #[.string s, .int .i64 n] 105)).alloc (.cells #[.int .i64 c, .slice (some ⟨w1.heap.size, 0, none⟩) 1 1] 38)).grownBy w2 (Value.ownBlock (.slice (some ⟨w1.heap.size, 0, none⟩) 1 1))) :
    w2.cell? ⟨w1.heap.size + 1, 0, none⟩ = some (.int .i64 c) ∧ w2.cell? ⟨w1.heap.size + 1, 1, none⟩ = some (.slice (some ⟨w1.heap.size, 0, none⟩) 1 1) ∧ w2.frozen? ⟨w1.heap.size + 1, 1, none⟩ = false ∧ w2.frozen? ⟨w1.heap.size + 1, 0, none⟩ = false ∧ ∀ cs, w2.heap[w1.heap.size + 1]? ≠ some (.cells cs 105 (0, 0)) := by
  refine ⟨?_, ?_, ?_, ?_, ?_⟩
  · exact h3.cell (a := ⟨w1.heap.size + 1, 0, none⟩) (v := .int .i64 c) (by simp) (by simp [Value.ownBlock])
  · exact h3.cell (a := ⟨w1.heap.size + 1, 1, none⟩) (v := .slice (some ⟨w1.heap.size, 0, none⟩) 1 1) (by simp) (by simp [Value.ownBlock])
  · exact (h3.frozen_far ⟨w1.heap.size + 1, 1, none⟩ (by simp) (by simp [Value.ownBlock])).trans (by simp)
  · exact (h3.frozen_far ⟨w1.heap.size + 1, 0, none⟩ (by simp) (by simp [Value.ownBlock])).trans (by simp)
  · intro cs e
    rw [h3.block (w1.heap.size + 1) (by simp) (by simp [Value.ownBlock]), heap_alloc2] at e
    simp at e

set_option maxHeartbeats 1000000 in
set_option maxRecDepth 20000 in
/-- kinref.In of an error -/
theorem refIn_err (s : ByteArray) (n c : Int) (rv : Value) (p : List (ByteArray × Int)) (w : World) (hr : Row w rv p.length (stepCells p)) (hc : c ≠ 0) (hp : p.length ≤ 1000000) :
    Calls Tryz.prog 76 #[.string s, .int .i64 n, .agg #[.int .i64 c, rv]] w fun e w' => ∃ u, e = .returned (.agg #[.int .i64 c, u]) ∧ w'.ownsRow w.heap.size 105 2 u (p.length + 1) (stepCells ((s, n) :: p)) ∧ Ext w w' := by
  have hc0 : (c == 0) = false := by simpa using hc
  have E1 : Ext w (w.alloc (.cells #[.int .i64 c, rv] 38)) := (Ext.refl w).alloc _
  obtain ⟨i0, hi, hz0, hz1, hz2⟩ := info_parts infoRStep
  go_enter Tryz.func76, Tryz.ntmps76
  go_wp2_with fail
  refine (ok_any c rv _).mono ?_; rintro e w1 ⟨rfl, hx⟩
  have b0 := hx.cell (p := ⟨w.heap.size, 0, none⟩) (v := .int .i64 c) (by simp)
  have b1 := hx.cell (p := ⟨w.heap.size, 1, none⟩) (v := rv) (by simp)
  have r0 := hx.cell (p := ⟨w.heap.size + 1, 0, none⟩) (v := .int .i64 0) (by simp)
  have r1 := hx.cell (p := ⟨w.heap.size + 1, 1, none⟩) (v := .slice none 0 0) (by simp)
  have f0 : w1.frozen? ⟨w.heap.size + 1, 0, none⟩ = false := (Below.frozen hx (by simp)).trans (by simp)
  have f1 : w1.frozen? ⟨w.heap.size + 1, 1, none⟩ = false := (Below.frozen hx (by simp)).trans (by simp)
  have hsz : w.heap.size + 1 < w1.heap.size := Ext.lt r0
  have hE : Ext w w1 := (E1.alloc _).trans hx
  have hr1 := hr.ext hE
  have hown := World.ownsRow_lit (e := 105) (base := w1.heap.size) (size := 2) w1 #[.string s, .int .i64 n] 1 (Nat.le_refl _) (by unfold maxLen; omega) rfl
  clear hx hr
  have HC := Lib.hid hc
  clear hc
  have E3 : Ext w1 ((w1.alloc (.cells #[.string s, .int .i64 n] 105)).alloc (.cells #[.int .i64 c, .slice (some ⟨w1.heap.size, 0, none⟩) 1 1] 38)) := ((Ext.refl w1).alloc _).alloc _
  have b1' := E3.cell b1
  have fr0 : ((w1.alloc (.cells #[.string s, .int .i64 n] 105)).alloc (.cells #[.int .i64 c, .slice (some ⟨w1.heap.size, 0, none⟩) 1 1] 38)).frozen? ⟨w.heap.size + 1, 0, none⟩ = false := (Below.frozen E3 (by simp; omega)).trans f0
  have fr1 : ((w1.alloc (.cells #[.string s, .int .i64 n] 105)).alloc (.cells #[.int .i64 c, .slice (some ⟨w1.heap.size, 0, none⟩) 1 1] 38)).frozen? ⟨w.heap.size + 1, 1, none⟩ = false := (Below.frozen E3 (by simp; omega)).trans f1
  have cr0 := E3.cell r0
  have cr1 := E3.cell r1
  clear b1
  go_wp2_with (at_builtin; refine append_row rfl _ _ 36 rfl 105 i0 _ 2 24 Tryz.underlying36 hi hz0 hz1 hz2 rfl (by decide) (.slice (some ⟨w1.heap.size, 0, none⟩) 1 1) 1 [.string s, .int .i64 n] rfl (hown.alloc _) rv p.length (stepCells p) rfl (hr1.ext E3) (stepCells_length p) (step_one p) (by simp; omega) (by unfold maxLen; omega) (by omega) ?_; intro v' w2 h1 h2 h3; obtain ⟨ga, gcap, rfl⟩ := (Row.of_owns h1).form; obtain ⟨g0, g1, g2, g3, g4⟩ := in_facts h3; have q0 := Below.cellv h2 cr0 (by simp; omega); have q1 := Below.cellv h2 cr1 (by simp; omega); have q2 := (Below.frozen h2 (p := ⟨w.heap.size + 1, 0, none⟩) (by simp; omega)).trans fr0; have q3 := (Below.frozen h2 (p := ⟨w.heap.size + 1, 1, none⟩) (by simp; omega)).trans fr1)
  refine bodyPost_ret (v := .agg #[.int .i64 c, .slice ga (1 + p.length) gcap]) ?_ rfl ⟨_, rfl, ?_, ?_⟩
  · have e0 : (w2.setCell ⟨w1.heap.size + 1, 1, none⟩ (.slice ga (1 + p.length) gcap)).cell? ⟨w.heap.size + 1, 0, none⟩ = some (.int .i64 0) := (World.cell?_setCell_other _ _ _ _ (by simp <;> omega)).trans q0
    have e1 : (w2.setCell ⟨w1.heap.size + 1, 1, none⟩ (.slice ga (1 + p.length) gcap)).cell? ⟨w.heap.size + 1, 1, none⟩ = some (.slice none 0 0) := (World.cell?_setCell_other _ _ _ _ (by simp <;> omega)).trans q1
    have e2 := World.cell?_setCell_same _ _ (.int .i64 c) e0
    have e3 := (World.cell?_setCell_other (w2.setCell ⟨w1.heap.size + 1, 1, none⟩ (.slice ga (1 + p.length) gcap)) ⟨w.heap.size + 1, 0, none⟩ ⟨w.heap.size + 1, 1, none⟩ (.int .i64 c) (by simp)).trans e1
    have e4 := World.cell?_setCell_same _ _ (.slice ga (1 + p.length) gcap) e3
    have e5 := (World.cell?_setCell_other ((w2.setCell ⟨w1.heap.size + 1, 1, none⟩ (.slice ga (1 + p.length) gcap)).setCell ⟨w.heap.size + 1, 0, none⟩ (.int .i64 c)) ⟨w.heap.size + 1, 1, none⟩ ⟨w.heap.size + 1, 0, none⟩ (.slice ga (1 + p.length) gcap) (by simp)).trans e2
    simp [results, Tryz.results76, go_sem, e4, e5]
  · rw [show p.length + 1 = 1 + p.length from Nat.add_comm _ _]
    have o1 := owns_setCell_ne h1 (p := ⟨w1.heap.size + 1, 1, none⟩) (.slice ga (1 + p.length) gcap) g4
    have o2 := ownsRow_setCell_below o1 (a := ⟨w.heap.size + 1, 0, none⟩) hsz (.int .i64 c)
    have o3 := ownsRow_setCell_below o2 (a := ⟨w.heap.size + 1, 1, none⟩) hsz (.slice ga (1 + p.length) gcap)
    exact owns_base o3 (show w.heap.size ≤ w1.heap.size by omega)
  · exact ((hE.trans ((E3.of_below h2 (Nat.le_refl _)).setCell (by simp) _)).setCell (by simp) _).setCell (by simp) _

theorem wrap_any (s : ByteArray) (n c : Int) (w : World) (hc : c ≠ 0) :
    Calls Tryz.prog 53 #[.string s, .int .i64 n, .int .i64 c] w fun e w' => ∃ u, e = .returned (.agg #[.int .i64 c, u]) ∧ w'.ownsRow w.heap.size 105 2 u 1 (stepCells [(s, n)]) ∧ Ext w w' := by
  have HC := Lib.hid hc
  clear hc
  go_enter Tryz.func53, Tryz.ntmps53
  go_wp2_with fail
  refine (fail_any c _).mono ?_; rintro e w1 ⟨rfl, hx1⟩
  have r0 := hx1.cell (p := ⟨w.heap.size, 0, none⟩) (v := .int .i64 0) (by simp)
  have r1 := hx1.cell (p := ⟨w.heap.size, 1, none⟩) (v := .slice none 0 0) (by simp)
  have f0 : w1.frozen? ⟨w.heap.size, 0, none⟩ = false := (Below.frozen hx1 (by simp)).trans (by simp)
  have f1 : w1.frozen? ⟨w.heap.size, 1, none⟩ = false := (Below.frozen hx1 (by simp)).trans (by simp)
  go_wp2_with fail
  refine (refIn_err s n c _ [] _ (Row.nil _) HC.out (by simp)).mono ?_; rintro e w2 ⟨u, rfl, hr, hx2⟩
  obtain ⟨ga, gcap, rfl⟩ := (Row.of_owns hr).form
  have s0 := hx2.cell r0
  have s1 := hx2.cell r1
  have k0 := (Below.frozen hx2 (Ext.lt r0)).trans f0
  have k1 := (Below.frozen hx2 (Ext.lt r1)).trans f1
  have hE : Ext w w2 := ((Ext.refl w).alloc _).trans (hx1.trans hx2)
  go_wp2
  refine bodyPost_ret (v := .agg #[.int .i64 c, .slice ga 1 gcap]) ?_ rfl ⟨_, rfl, ?_, ?_⟩
  · have e0 := World.cell?_setCell_same _ _ (.int .i64 c) s0
    have e1 := (World.cell?_setCell_other w2 ⟨w.heap.size, 0, none⟩ ⟨w.heap.size, 1, none⟩ (.int .i64 c) (by simp)).trans s1
    have e2 := World.cell?_setCell_same _ _ (.slice ga 1 gcap) e1
    have e3 := (World.cell?_setCell_other (w2.setCell ⟨w.heap.size, 0, none⟩ (.int .i64 c)) ⟨w.heap.size, 1, none⟩ ⟨w.heap.size, 0, none⟩ (.slice ga 1 gcap) (by simp)).trans e0
    simp [results, Tryz.results53, go_sem, e2, e3]
  · have hlt : w.heap.size < w1.heap.size := Ext.lt r0
    exact owns_base (ownsRow_setCell_below (ownsRow_setCell_below hr hlt _) hlt _) (by omega)
  · exact (hE.setCell (Nat.le_refl _) _).setCell (Nat.le_refl _) _
end Go.Proofs.YtdndambkaohgiaaGreatDoor
