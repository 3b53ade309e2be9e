/- Contracts of this seat: AppRow, Bf2, Opn, OpO, Bl1, Bl3, Bo1. -/
import Derived.Test.YtgohlhgapboijaaGreatDoorZb
import Derived.Deep.AppendLies
import Derived.Test.YtgohlhgapboijaaGreatDoorZd
import Derived.Test.YtgohlhgapboijaaGreatDoorZc
import Derived.Deep.Matrix
import Derived.OpenShut
import Derived.Lib.SmallJoins
import Derived.Deep.Slices
/- An append of a whole slice to one that the call itself made; kinref.In and kinref.Wrap: contracts over this seat's translation. -/
namespace Go.Proofs.YtgohlhgapboijaaGreatDoor
set_option linter.unusedVariables false
set_option linter.unusedSimpArgs false
open Go.RowKit

theorem run_append_none {P : Program} {w : World} (base : Nat) (t ty e : TypeId) (i : TypeInfo) (size : Nat) (ht : P.underlying t = some (.slice e)) (hi : P.info? e = some i)
    (v : Value) (n c : Nat) (xs : List Value) (hown : w.ownsRow base e size v n xs) :
    (Builtin.append_ #[t, t] ty #[v, .slice none 0 c]).run P w = .ok v w := by
  rcases hown.2 with ⟨rfl, rfl⟩ | ⟨g, cap, cur, rfl, _, _, hnc, _⟩
  · simp [Builtin.append_, run_underlying ht, sizeOf, typeInfo, hi, Builtin.lenOf, Builtin.firstCells]
  · simp [Builtin.append_, run_underlying ht, sizeOf, typeInfo, hi, Builtin.lenOf, Builtin.firstCells, hnc, storeCells]

theorem append_row {P : Program} {ops : Array Oper} {rest : List Oper} {o : Oper} {a : Act} {Q : Exit → Act → World → Prop} {W : World} {base : Nat} (hgd : o.guard = none) (s y : Operand) (t : TypeId)
    (ho : o.op = .call { callee := .builtin .append, args := #[s, y], argTypes := #[t, t] })
    (e : TypeId) (i : TypeInfo) (z : Value) (size bytes : Nat) (ht : P.underlying t = some (.slice e)) (hi : P.info? e = some i) (hz : i.zero = some z) (hsize : i.size = size) (hby : i.bytes = bytes) (hzs : z.cells.size = size) (hsz : 0 < size)
    (v : Value) (n : Nat) (xs : List Value) (hs : a.eval s = v) (hown : W.ownsRow base e size v n xs) (u : Value) (m : Nat) (news : List Value) (hx : a.eval y = u) (hr : Row W u m news) (hl : news.length = m * size) (h1 : ∀ x ∈ news, x.oneCell' = true)
    (hb : base ≤ W.heap.size) (h63 : n + m ≤ maxLen) (hbytes : (n + m) * bytes ≤ 140737488355328)
    (h : ∀ v' w', w'.ownsRow base e size v' (n + m) (xs ++ news) → Below base W w' → W.grownBy w' v.ownBlock → wpList P ops Q rest (a.put o.dst v') w') :
    wpList P ops Q (o :: rest) a W := by
  obtain ⟨a0, cap, rfl, hmc, hcm, hsome, hcells⟩ := hr
  cases a0 with
  | none =>
    have hm : m = 0 := by
      rcases Nat.eq_zero_or_pos m with h0 | h0
      · exact h0
      · obtain ⟨g, off, hg⟩ := hsome h0
        cases hg
    subst hm
    obtain rfl : news = [] := List.eq_nil_of_length_eq_zero (by simpa using hl)
    refine wpList_plain hgd fun K hK => ?_
    have hrun := run_append_none (P := P) (w := W) base t o.type e i size ht hi v n cap xs hown
    unfold Oper.wp
    simp [execOp, ho, resolve, invoke, builtin, hs, hx, hrun, Result.andThen]
    exact hK _ _ (h v W (by simpa using hown) (Below.refl _ _) ⟨rfl, rfl, rfl, Nat.le_refl _, fun _ _ _ => rfl⟩)
  | some ad =>
    have hnews : ∀ j x, news[j]? = some x → W.cell? (ad.add j) = some x := fun j x hj => by
      have hm : 0 < m := by
        rcases Nat.eq_zero_or_pos m with h0 | h0
        · subst h0
          obtain rfl : news = [] := List.eq_nil_of_length_eq_zero (by simpa using hl)
          simp at hj
        · exact h0
      obtain ⟨g, off, hg⟩ := hsome hm
      cases hg
      have hadd : (⟨g, off, none⟩ : Addr).add j = ⟨g, off + j, none⟩ := by unfold Addr.add; split <;> simp_all
      rw [hadd]
      exact hcells g off rfl j x hj
    refine wpList_append_own _ hgd s y t ho base e i z size bytes ht hi hz hsize hby hzs hsz v n xs hs hown ad m cap news hx hl hnews h1 h63 hbytes hb ?_
    intro v' w' h2 h3 _
    exact h v' w' h2 (Below.grown (Below.refl base W) h3 hb (fun k hk => (hown.lt k hk).1)) h3

theorem infoRStep : (Tryz.prog.info? 71).map (fun i => (i.zero, i.size, i.bytes)) = some (some (.agg #[.string .empty, .int .i64 0]), 2, 24) := by kernel_rfl
theorem step_one (p : List (ByteArray × Int)) : ∀ x ∈ stepCells p, x.oneCell' = true := by
  induction p with
  | nil => intro x hx; cases hx
  | cons a p ih =>
    obtain ⟨s, n⟩ := a
    intro x hx
    simp only [stepCells, List.mem_cons] at hx
    rcases hx with rfl | rfl | hx
    · rfl
    · rfl
    · exact ih x hx

theorem heap_alloc2 {w1 : World} {o o' : Obj} : ((w1.alloc o).alloc o').heap[w1.heap.size + 1]? = some o' := by
  have := heap_alloc_new (w1.alloc o) o'
  simpa using this
theorem owns_base {w : World} {base b : Nat} {e : TypeId} {size : Nat} {v : Value} {n : Nat} {xs : List Value} (h : w.ownsRow base e size v n xs) (hb : b ≤ base) : w.ownsRow b e size v n xs := by
  obtain ⟨h1, h2⟩ := h
  refine ⟨h1, ?_⟩
  rcases h2 with h2 | ⟨g, cap, cur, hv, hg, r⟩
  · exact Or.inl h2
  · exact Or.inr ⟨g, cap, cur, hv, Nat.le_trans hb hg, r⟩
theorem owns_setCell_ne {w : World} {base : Nat} {e : TypeId} {size : Nat} {v : Value} {n : Nat} {xs : List Value} (h : w.ownsRow base e size v n xs) {p : Addr} (u : Value) (hne : ∀ cs, w.heap[p.block]? ≠ some (.cells cs e (0, 0))) : (w.setCell p u).ownsRow base e size v n xs := by
  obtain ⟨h1, h2⟩ := h
  refine ⟨h1, ?_⟩
  rcases h2 with h2 | ⟨g, cap, cur, hv, hg, hh, r⟩
  · exact Or.inl h2
  · exact Or.inr ⟨g, cap, cur, hv, hg, by rw [Below.heap_setCell _ _ _ _ (fun e => hne cur (by rw [← e]; exact hh))]; exact hh, r⟩
theorem in_facts {w1 w2 : World} {s : ByteArray} {n c : Int}
    (h3 : ((w1.alloc (.cells #[.string s, .int .i64 n] 71)).alloc (.cells #[.int .i64 c, .slice (some ⟨w1.heap.size, 0, none⟩) 1 1] 34)).grownBy w2 (Value.ownBlock (.slice (some ⟨w1.heap.size, 0, none⟩) 1 1))) :
    w2.cell? ⟨w1.heap.size + 1, 0, none⟩ = some (.int .i64 c) ∧ w2.cell? ⟨w1.heap.size + 1, 1, none⟩ = some (.slice (some ⟨w1.heap.size, 0, none⟩) 1 1) ∧ w2.frozen? ⟨w1.heap.size + 1, 1, none⟩ = false ∧ w2.frozen? ⟨w1.heap.size + 1, 0, none⟩ = false ∧ ∀ cs, w2.heap[w1.heap.size + 1]? ≠ some (.cells cs 71 (0, 0)) := by
  refine ⟨?_, ?_, ?_, ?_, ?_⟩
  · exact h3.cell (a := ⟨w1.heap.size + 1, 0, none⟩) (v := .int .i64 c) (by simp) (by simp [Value.ownBlock])
  · exact h3.cell (a := ⟨w1.heap.size + 1, 1, none⟩) (v := .slice (some ⟨w1.heap.size, 0, none⟩) 1 1) (by simp) (by simp [Value.ownBlock])
  · exact (h3.frozen_far ⟨w1.heap.size + 1, 1, none⟩ (by simp) (by simp [Value.ownBlock])).trans (by simp)
  · exact (h3.frozen_far ⟨w1.heap.size + 1, 0, none⟩ (by simp) (by simp [Value.ownBlock])).trans (by simp)
  · intro cs e
    rw [h3.block (w1.heap.size + 1) (by simp) (by simp [Value.ownBlock]), heap_alloc2] at e
    simp at e

set_option maxHeartbeats 1000000 in
set_option maxRecDepth 20000 in
/-- kinref.In of an error -/
theorem refIn_err (s : ByteArray) (n c : Int) (rv : Value) (p : List (ByteArray × Int)) (w : World) (hr : Row w rv p.length (stepCells p)) (hc : c ≠ 0) (hp : p.length ≤ 1000000) :
    Calls Tryz.prog 40 #[.string s, .int .i64 n, .agg #[.int .i64 c, rv]] w fun e w' => ∃ u, e = .returned (.agg #[.int .i64 c, u]) ∧ w'.ownsRow w.heap.size 71 2 u (p.length + 1) (stepCells ((s, n) :: p)) ∧ Ext w w' := by
  have hc0 : (c == 0) = false := by simpa using hc
  have E1 : Ext w (w.alloc (.cells #[.int .i64 c, rv] 34)) := (Ext.refl w).alloc _
  obtain ⟨i0, hi, hz0, hz1, hz2⟩ := info_parts infoRStep
  go_enter Tryz.func40, Tryz.ntmps40
  go_wp2_with fail
  refine (ok_any c rv _).mono ?_; rintro e w1 ⟨rfl, hx⟩
  have b0 := hx.cell (p := ⟨w.heap.size, 0, none⟩) (v := .int .i64 c) (by simp)
  have b1 := hx.cell (p := ⟨w.heap.size, 1, none⟩) (v := rv) (by simp)
  have r0 := hx.cell (p := ⟨w.heap.size + 1, 0, none⟩) (v := .int .i64 0) (by simp)
  have r1 := hx.cell (p := ⟨w.heap.size + 1, 1, none⟩) (v := .slice none 0 0) (by simp)
  have f0 : w1.frozen? ⟨w.heap.size + 1, 0, none⟩ = false := (Below.frozen hx (by simp)).trans (by simp)
  have f1 : w1.frozen? ⟨w.heap.size + 1, 1, none⟩ = false := (Below.frozen hx (by simp)).trans (by simp)
  have hsz : w.heap.size + 1 < w1.heap.size := Ext.lt r0
  have hE : Ext w w1 := (E1.alloc _).trans hx
  have hr1 := hr.ext hE
  have hown := World.ownsRow_lit (e := 71) (base := w1.heap.size) (size := 2) w1 #[.string s, .int .i64 n] 1 (Nat.le_refl _) (by unfold maxLen; omega) rfl
  clear hx hr
  have HC := Lib.hid hc
  clear hc
  have E3 : Ext w1 ((w1.alloc (.cells #[.string s, .int .i64 n] 71)).alloc (.cells #[.int .i64 c, .slice (some ⟨w1.heap.size, 0, none⟩) 1 1] 34)) := ((Ext.refl w1).alloc _).alloc _
  have b1' := E3.cell b1
  have fr0 : ((w1.alloc (.cells #[.string s, .int .i64 n] 71)).alloc (.cells #[.int .i64 c, .slice (some ⟨w1.heap.size, 0, none⟩) 1 1] 34)).frozen? ⟨w.heap.size + 1, 0, none⟩ = false := (Below.frozen E3 (by simp; omega)).trans f0
  have fr1 : ((w1.alloc (.cells #[.string s, .int .i64 n] 71)).alloc (.cells #[.int .i64 c, .slice (some ⟨w1.heap.size, 0, none⟩) 1 1] 34)).frozen? ⟨w.heap.size + 1, 1, none⟩ = false := (Below.frozen E3 (by simp; omega)).trans f1
  have cr0 := E3.cell r0
  have cr1 := E3.cell r1
  clear b1
  go_wp2_with (at_builtin; refine append_row rfl _ _ 32 rfl 71 i0 _ 2 24 Tryz.underlying32 hi hz0 hz1 hz2 rfl (by decide) (.slice (some ⟨w1.heap.size, 0, none⟩) 1 1) 1 [.string s, .int .i64 n] rfl (hown.alloc _) rv p.length (stepCells p) rfl (hr1.ext E3) (stepCells_length p) (step_one p) (by simp; omega) (by unfold maxLen; omega) (by omega) ?_; intro v' w2 h1 h2 h3; obtain ⟨ga, gcap, rfl⟩ := (Row.of_owns h1).form; obtain ⟨g0, g1, g2, g3, g4⟩ := in_facts h3; have q0 := Below.cellv h2 cr0 (by simp; omega); have q1 := Below.cellv h2 cr1 (by simp; omega); have q2 := (Below.frozen h2 (p := ⟨w.heap.size + 1, 0, none⟩) (by simp; omega)).trans fr0; have q3 := (Below.frozen h2 (p := ⟨w.heap.size + 1, 1, none⟩) (by simp; omega)).trans fr1)
  refine bodyPost_ret (v := .agg #[.int .i64 c, .slice ga (1 + p.length) gcap]) ?_ rfl ⟨_, rfl, ?_, ?_⟩
  · have e0 : (w2.setCell ⟨w1.heap.size + 1, 1, none⟩ (.slice ga (1 + p.length) gcap)).cell? ⟨w.heap.size + 1, 0, none⟩ = some (.int .i64 0) := (World.cell?_setCell_other _ _ _ _ (by simp <;> omega)).trans q0
    have e1 : (w2.setCell ⟨w1.heap.size + 1, 1, none⟩ (.slice ga (1 + p.length) gcap)).cell? ⟨w.heap.size + 1, 1, none⟩ = some (.slice none 0 0) := (World.cell?_setCell_other _ _ _ _ (by simp <;> omega)).trans q1
    have e2 := World.cell?_setCell_same _ _ (.int .i64 c) e0
    have e3 := (World.cell?_setCell_other (w2.setCell ⟨w1.heap.size + 1, 1, none⟩ (.slice ga (1 + p.length) gcap)) ⟨w.heap.size + 1, 0, none⟩ ⟨w.heap.size + 1, 1, none⟩ (.int .i64 c) (by simp)).trans e1
    have e4 := World.cell?_setCell_same _ _ (.slice ga (1 + p.length) gcap) e3
    have e5 := (World.cell?_setCell_other ((w2.setCell ⟨w1.heap.size + 1, 1, none⟩ (.slice ga (1 + p.length) gcap)).setCell ⟨w.heap.size + 1, 0, none⟩ (.int .i64 c)) ⟨w.heap.size + 1, 1, none⟩ ⟨w.heap.size + 1, 0, none⟩ (.slice ga (1 + p.length) gcap) (by simp)).trans e2
    simp [results, Tryz.results40, go_sem, e4, e5]
  · rw [show p.length + 1 = 1 + p.length from Nat.add_comm _ _]
    have o1 := owns_setCell_ne h1 (p := ⟨w1.heap.size + 1, 1, none⟩) (.slice ga (1 + p.length) gcap) g4
    have o2 := ownsRow_setCell_below o1 (a := ⟨w.heap.size + 1, 0, none⟩) hsz (.int .i64 c)
    have o3 := ownsRow_setCell_below o2 (a := ⟨w.heap.size + 1, 1, none⟩) hsz (.slice ga (1 + p.length) gcap)
    exact owns_base o3 (show w.heap.size ≤ w1.heap.size by omega)
  · exact ((hE.trans ((E3.of_below h2 (Nat.le_refl _)).setCell (by simp) _)).setCell (by simp) _).setCell (by simp) _

theorem wrap_any (s : ByteArray) (n c : Int) (w : World) (hc : c ≠ 0) :
    Calls Tryz.prog 38 #[.string s, .int .i64 n, .int .i64 c] w fun e w' => ∃ u, e = .returned (.agg #[.int .i64 c, u]) ∧ w'.ownsRow w.heap.size 71 2 u 1 (stepCells [(s, n)]) ∧ Ext w w' := by
  have HC := Lib.hid hc
  clear hc
  go_enter Tryz.func38, Tryz.ntmps38
  go_wp2_with fail
  refine (fail_any c _).mono ?_; rintro e w1 ⟨rfl, hx1⟩
  have r0 := hx1.cell (p := ⟨w.heap.size, 0, none⟩) (v := .int .i64 0) (by simp)
  have r1 := hx1.cell (p := ⟨w.heap.size, 1, none⟩) (v := .slice none 0 0) (by simp)
  have f0 : w1.frozen? ⟨w.heap.size, 0, none⟩ = false := (Below.frozen hx1 (by simp)).trans (by simp)
  have f1 : w1.frozen? ⟨w.heap.size, 1, none⟩ = false := (Below.frozen hx1 (by simp)).trans (by simp)
  go_wp2_with fail
  refine (refIn_err s n c _ [] _ (Row.nil _) HC.out (by simp)).mono ?_; rintro e w2 ⟨u, rfl, hr, hx2⟩
  obtain ⟨ga, gcap, rfl⟩ := (Row.of_owns hr).form
  have s0 := hx2.cell r0
  have s1 := hx2.cell r1
  have k0 := (Below.frozen hx2 (Ext.lt r0)).trans f0
  have k1 := (Below.frozen hx2 (Ext.lt r1)).trans f1
  have hE : Ext w w2 := ((Ext.refl w).alloc _).trans (hx1.trans hx2)
  go_wp2
  refine bodyPost_ret (v := .agg #[.int .i64 c, .slice ga 1 gcap]) ?_ rfl ⟨_, rfl, ?_, ?_⟩
  · have e0 := World.cell?_setCell_same _ _ (.int .i64 c) s0
    have e1 := (World.cell?_setCell_other w2 ⟨w.heap.size, 0, none⟩ ⟨w.heap.size, 1, none⟩ (.int .i64 c) (by simp)).trans s1
    have e2 := World.cell?_setCell_same _ _ (.slice ga 1 gcap) e1
    have e3 := (World.cell?_setCell_other (w2.setCell ⟨w.heap.size, 0, none⟩ (.int .i64 c)) ⟨w.heap.size, 1, none⟩ ⟨w.heap.size, 0, none⟩ (.slice ga 1 gcap) (by simp)).trans e0
    simp [results, Tryz.results38, go_sem, e2, e3]
  · have hlt : w.heap.size < w1.heap.size := Ext.lt r0
    exact owns_base (ownsRow_setCell_below (ownsRow_setCell_below hr hlt _) hlt _) (by omega)
  · exact (hE.setCell (Nat.le_refl _) _).setCell (Nat.le_refl _) _
end Go.Proofs.YtgohlhgapboijaaGreatDoor

/- kinlaw2.first: its contract over this seat's translation. -/
namespace Go.Proofs.YtgohlhgapboijaaGreatDoor
set_option linter.unusedVariables false
set_option linter.unusedSimpArgs false
open Go.RowKit Go.Extern.Stop Go.Stop Go.Extern
variable {F : Nat → Prop}

theorem f2_put : wpF 5 3 = none ∧ wpL [] 5 3 = [true, false, true] ∧ wpF 8 3 = range ∧ wpL [true, false, true, true] 8 3 = [true, false, true, true] ∧ pkL [true, false, true, true] = [176] := by decide
theorem f2_get : rdF [176] 0 3 = none ∧ rdV [176] 0 3 = 5 ∧ rdP [176] 0 3 = 3 ∧ rdF [176] 3 6 = some ([(bitsS, 3)], 1) ∧ rdP [176] 3 6 = 3 := by decide
theorem str176 : strOf [176] = { data := #[176] } := by rfl
theorem Bys.one (w : World) (x : Nat) (hx : x < 256) : Bys (w.alloc (.cells #[.int .u8 (x : Int)] 5)) (.slice (some ⟨w.heap.size, 0, none⟩) 1 1) [x] :=
  ⟨⟨some ⟨w.heap.size, 0, none⟩, 1, rfl, Nat.le_refl _, by decide, fun _ => ⟨_, _, rfl⟩, fun g off ha j u hu => by
    simp only [Option.some.injEq, Addr.mk.injEq, and_true] at ha
    obtain ⟨rfl, rfl⟩ := ha
    match j, hu with
    | 0, hu => cases hu; simp
    | j + 1, hu => simp at hu⟩, by simpa using hx, by simp⟩
/-- a reader that was there before the writer's row stays -/
theorem RdAt.wkp {w w' : World} {b c : Nat} {bs : List Nat} {p : Nat} (h : RdAt F w c bs p) (hf : F b) (hc : c ≠ b) (k : WKp b w.heap.size w w') : RdAt F w' c bs p := by
  obtain ⟨a, cap, ⟨h0, h1, h2⟩, h3, h4⟩ := h
  have hc' := Ext.lt (p := ⟨c, 0, none⟩) h0
  have e := k.block (i := c) hc' (Nat.le_refl _) hc
  refine ⟨a, cap, ⟨(World.cell?_of_block (a := ⟨c, 0, none⟩) e).trans h0, (World.cell?_of_block (a := ⟨c, 1, none⟩) e).trans h1, (World.frozen?_of_block (a := ⟨c, 1, none⟩) e).trans h2⟩, ⟨?_, h3.2⟩, h4⟩
  obtain ⟨a', cap', e', g1, g2, g3, g4⟩ := h3.1
  simp only [Value.slice.injEq] at e'
  obtain ⟨rfl, -, rfl⟩ := e'
  exact ⟨a, cap, rfl, g1, g2, g3, fun g off ha j u hu => k.cell (g4 g off ha j u hu) (Ext.lt (g4 g off ha j u hu)) (fun e => (h4 g off ha).2 (by rw [show g = b from e]; exact hf))⟩
end Go.Proofs.YtgohlhgapboijaaGreatDoor

/- Arguments opened: a []int; a frame; structs of ints. -/
namespace Go.Proofs.YtgohlhgapboijaaGreatDoor
set_option linter.unusedVariables false
set_option linter.unusedSimpArgs false
open Go.ChangeShapes Go.WideShapes Go.ChangeAt Go.RowKit Go.Joins Go.Deep
section
variable {H : Type} {enc : TypeId × Value → H} {w : World}

theorem wf_bounds {n : Int} (h : (Lit.int .i64 n).wf = true) : -9223372036854775808 ≤ n ∧ n ≤ 9223372036854775807 := bounds_i64 h

theorem lits_cells {k : IntKind} {zs : List Int} {n j : Nat} {u : Value} (h : ((zs.take n).map (Value.int k))[j]? = some u) : j < zs.length ∧ u = .int k (zs.getD j 0) := by
  rw [List.getElem?_map] at h
  obtain ⟨x, hx, rfl⟩ := Option.map_eq_some_iff.1 h
  rw [List.getElem?_take] at hx
  split at hx
  · obtain ⟨hj, e⟩ := List.getElem?_eq_some_iff.1 hx
    exact ⟨hj, by simp [List.getD, hx]⟩
  · cases hx

set_option maxRecDepth 100000 in
theorem ints_of_trod {sp : Nat → Bool} {v : Value} {y : DataW H × List MemPlace} {fuel : Nat} (hsp : ∀ b, sp b = true) (hf : DataW.trod enc Tryz.prog w 0 sp true fuel 46 [v] = some y) :
    ∃ zs : List Int, Row w v zs.length (zs.map (Value.int .i64)) ∧ zs.length ≤ 9223372036854775807 ∧ ∀ x ∈ zs, -9223372036854775808 ≤ x ∧ x ≤ 9223372036854775807 := by
  rcases open_ints Tryz.underlying46 (k := .i64) Tryz.underlying3 (by kernel_rfl) hf with ⟨hc, _⟩ | ⟨a, len, cap, zs, hc, _, hl, hm, hlen, _, hcell, hw⟩
  · obtain rfl : v = .slice none 0 0 := (List.cons.inj hc).1
    exact ⟨[], Row.nil w, by simp, by simp⟩
  · obtain rfl : v = .slice (some a) len cap := (List.cons.inj hc).1
    rw [hsp a.block] at hlen
    simp only [if_true] at hlen
    have hl' : (zs.take len).length = len := by simp; omega
    refine ⟨zs.take len, ⟨some a, cap, by rw [hl'], by rw [hl']; exact hl, hm, fun h0 => ?_, fun g off ha j u hu => ?_⟩, ?_, fun x hx => wf_bounds (hw x (List.mem_of_mem_take hx))⟩
    · have hp : 0 < zs.length := by rw [hl'] at h0; omega
      obtain ⟨b, off, rfl, _⟩ := ints_at hcell hp
      exact ⟨b, off, rfl⟩
    · obtain ⟨hj, rfl⟩ := lits_cells hu
      have := hcell j hj
      obtain rfl := Option.some.inj ha
      rwa [Go.WideShapes.add_plain] at this
    · rw [hl']; unfold maxLen at hm; omega
set_option maxRecDepth 100000 in
theorem ints_of_reading {r : Reach} {b0 : Nat} {sp : Nat → Bool} {v : Value} {d : DataW H} {p : List MemPlace} (hsp : ∀ b, sp b = true) (hv : Value.okWide Tryz.prog w r b0 46 v) (h : DataW.Trod enc Tryz.prog w 0 sp true 46 v d p) :
    ∃ zs : List Int, Row w v zs.length (zs.map (Value.int .i64)) ∧ zs.length ≤ 9223372036854775807 ∧ ∀ x ∈ zs, -9223372036854775808 ≤ x ∧ x ≤ 9223372036854775807 := by
  obtain ⟨a0, l0, c0, rfl⟩ := okWide_slice Tryz.underlying46 hv
  obtain ⟨fuel, hf⟩ := h
  exact ints_of_trod hsp hf

def isI64 (P : Program) (f : Field) : Bool := match P.underlying f.type with
  | some (.int .i64) => true
  | _ => false
theorem isI64_out {P : Program} {f : Field} (h : isI64 P f = true) : P.underlying f.type = some (.int .i64) := by
  unfold isI64 at h
  split at h
  · assumption
  · cases h

theorem open_int_struct {P : Program} {t : TypeId} {fs : Array Field} {r : Reach} {b0 : Nat} {sp : Nat → Bool} {v : Value} {d : DataW H} {p : List MemPlace} (hs : P.underlying t = some (.struct fs))
    (hone : oneCellFields P fs = true) (hint : fs.toList.all (isI64 P) = true) (hC : P.cellsOf t = fs.size)
    (hv : Value.okWide P w r b0 t v) (h : DataW.Trod enc P w 0 sp true t v d p) :
    ∃ zs : List Int, v = .agg (zs.map (Value.int .i64)).toArray ∧ zs.length = fs.size ∧ ∀ x ∈ zs, -9223372036854775808 ≤ x ∧ x ≤ 9223372036854775807 := by
  obtain ⟨cs, rfl, hsz⟩ := okWide_struct hs hv
  obtain ⟨l⟩ := cs
  obtain ⟨fuel, hf⟩ := h
  obtain ⟨xs, n, _, _, hl, hlen, hg⟩ := DataW.trod_struct hs hf
  have hl' : l.length = fs.size := by simpa [hC] using hsz
  have each : ∀ (i : Nat) (hi : i < l.length), ∃ m, l[i] = .int .i64 m ∧ (Lit.int .i64 m).wf = true := fun i hi => by
    have hif : i < fs.size := by omega
    have hfi : fs[i]? = some fs[i] := by simp
    obtain ⟨o0, k0⟩ := hone_of hone i _ hfi
    have h1 := hg i _ hfi
    rw [o0, k0] at h1
    have hone' : ((Value.agg ⟨l⟩).cells.toList.drop i).take 1 = [l[i]] := by
      simp only [Value.cells]
      rw [List.drop_eq_getElem_cons (by simpa using hi)]
      rfl
    rw [hone', List.getElem?_eq_getElem (by omega)] at h1
    have hi64 : isI64 P fs[i] = true := List.all_eq_true.1 hint _ (by simp)
    obtain ⟨m, hm, _, hw⟩ := DataW.trod_int (isI64_out hi64) h1
    exact ⟨m, (List.cons.inj hm).1, hw⟩
  refine ⟨l.map intOf, ?_, by simpa using hl', fun x hx => ?_⟩
  · congr 1
    apply Array.ext'
    simp only [List.map_map]
    symm
    conv => rhs; rw [← List.map_id l]
    apply List.map_congr_left
    intro u hu
    obtain ⟨i, hi, rfl⟩ := List.getElem_of_mem hu
    obtain ⟨m, hm, _⟩ := each i hi
    simp [hm, intOf]
  · obtain ⟨u, hu, rfl⟩ := List.mem_map.1 hx
    obtain ⟨i, hi, rfl⟩ := List.getElem_of_mem hu
    obtain ⟨m, hm, hw⟩ := each i hi
    rw [hm]
    exact wf_bounds hw

set_option maxRecDepth 100000 in
theorem open_frame {r : Reach} {b0 : Nat} {sp : Nat → Bool} {v : Value} {d : DataW H} {p : List MemPlace} (hsp : ∀ b, sp b = true)
    (hv : Value.okWide Tryz.prog w r b0 48 v) (h : DataW.Trod enc Tryz.prog w 0 sp true 48 v d p) :
    ∃ (W H' : Int) (u : Value) (zs : List Int), v = .agg #[.int .i64 W, .int .i64 H', u] ∧ (-9223372036854775808 ≤ W ∧ W ≤ 9223372036854775807) ∧ (-9223372036854775808 ≤ H' ∧ H' ≤ 9223372036854775807) ∧
      Row w u zs.length (zs.map (Value.int .i64)) ∧ zs.length ≤ 9223372036854775807 ∧ ∀ x ∈ zs, -9223372036854775808 ≤ x ∧ x ≤ 9223372036854775807 := by
  obtain ⟨v0, v1, v2, y0, y1, y2, n, rfl, -, -, h0, h1, h2⟩ := open_agg3 Tryz.underlying48 (by kernel_rfl) (by kernel_rfl) hv h
  obtain ⟨m0, e0, -, w0⟩ := DataW.trod_int Tryz.underlying3 h0
  obtain ⟨m1, e1, -, w1⟩ := DataW.trod_int Tryz.underlying3 h1
  obtain ⟨zs, hz⟩ := ints_of_trod hsp h2
  obtain rfl := (List.cons.inj e0).1
  obtain rfl := (List.cons.inj e1).1
  exact ⟨m0, m1, v2, zs, rfl, wf_bounds w0, wf_bounds w1, hz⟩
end
end Go.Proofs.YtgohlhgapboijaaGreatDoor

/- Arguments opened: bytes; a list of a writer's or a reader's steps. -/
namespace Go.Proofs.YtgohlhgapboijaaGreatDoor
set_option linter.unusedVariables false
set_option linter.unusedSimpArgs false
open Go.ChangeShapes Go.WideShapes Go.ChangeAt Go.RowKit Go.Joins Go.Deep

/-- what a step is: its kind, two numbers, a bit -/
abbrev Op4 := Int × Int × Int × Bool
def OpIn (w : World) (g i : Nat) (o : Op4) : Prop := w.cell? ⟨g, i, none⟩ = some (.int .i64 o.1) ∧ w.cell? ⟨g, i + 1, none⟩ = some (.int .i64 o.2.1) ∧ w.cell? ⟨g, i + 2, none⟩ = some (.int .i64 o.2.2.1) ∧ w.cell? ⟨g, i + 3, none⟩ = some (.bool o.2.2.2)
def opb (o : Op4) : Prop := (-9223372036854775808 ≤ o.1 ∧ o.1 ≤ 9223372036854775807) ∧ (-9223372036854775808 ≤ o.2.1 ∧ o.2.1 ≤ 9223372036854775807) ∧ -9223372036854775808 ≤ o.2.2.1 ∧ o.2.2.1 ≤ 9223372036854775807
def Ops (w : World) (v : Value) (L : List Op4) : Prop := (∃ a cap, v = .slice a L.length cap ∧ L.length ≤ cap ∧ cap ≤ maxLen ∧ (0 < L.length → ∃ g off, a = some ⟨g, off, none⟩ ∧ ∀ q o, L[q]? = some o → OpIn w g (off + q * 4) o)) ∧ ∀ o ∈ L, opb o
theorem OpIn.ext {w w' : World} {g i : Nat} {o : Op4} (h : OpIn w g i o) (k : Ext w w') : OpIn w' g i o := ⟨k.cell h.1, k.cell h.2.1, k.cell h.2.2.1, k.cell h.2.2.2⟩
theorem Ops.ext {w w' : World} {v : Value} {L : List Op4} (h : Ops w v L) (k : Ext w w') : Ops w' v L := by
  obtain ⟨⟨a, cap, e, h1, h2, h3⟩, hb⟩ := h
  refine ⟨⟨a, cap, e, h1, h2, fun h0 => ?_⟩, hb⟩
  obtain ⟨g, off, ha, hq⟩ := h3 h0
  exact ⟨g, off, ha, fun q o ho => (hq q o ho).ext k⟩
theorem Ops.form {w : World} {v : Value} {L : List Op4} (h : Ops w v L) : ∃ a cap, v = .slice a L.length cap := by
  obtain ⟨⟨a, cap, e, -⟩, -⟩ := h
  exact ⟨a, cap, e⟩
theorem Ops.had {w : World} {a : Option Addr} {n cap : Nat} {L : List Op4} (h : Ops w (.slice a n cap) L) (hn : 0 < L.length) : ∃ g off, a = some ⟨g, off, none⟩ ∧ ∀ q o, L[q]? = some o → OpIn w g (off + q * 4) o := by
  obtain ⟨⟨a', cap', e, -, -, h3⟩, -⟩ := h
  simp only [Value.slice.injEq] at e
  obtain ⟨rfl, -, -⟩ := e
  exact h3 hn
theorem Ops.small {w : World} {v : Value} {L : List Op4} (h : Ops w v L) : L.length ≤ maxLen := by
  obtain ⟨⟨a', cap', e, h1, h2, h3⟩, -⟩ := h
  omega
section
variable {H : Type} {enc : TypeId × Value → H} {w : World}
set_option maxRecDepth 100000 in
theorem bys_of_reading {r : Reach} {b0 : Nat} {v : Value} {d : DataW H} {p : List MemPlace} (hv : Value.okWide Tryz.prog w r b0 26 v) (h : DataW.Trod enc Tryz.prog w 0 (fun _ => true) true 26 v d p) :
    ∃ bs : List Nat, Row w v bs.length (bs.map fun x : Nat => Value.int .u8 (x : Int)) ∧ ∀ x ∈ bs, x < 256 := by
  obtain ⟨a0, l0, c0, rfl⟩ := okWide_slice Tryz.underlying26 hv
  obtain ⟨fuel, hf⟩ := h
  rcases open_ints Tryz.underlying26 (k := .u8) Tryz.underlying5 (by kernel_rfl) hf with ⟨hc, _⟩ | ⟨a, len, cap, zs, hc, _, hl, hm, hlen, _, hcell, hw⟩
  · have hv : Value.slice a0 l0 c0 = .slice none 0 0 := (List.cons.inj hc).1
    rw [hv]
    exact ⟨[], Row.nil w, by simp⟩
  · have hv : Value.slice a0 l0 c0 = .slice (some a) len cap := (List.cons.inj hc).1
    rw [hv]
    simp only [if_true] at hlen
    have hB : ∀ x ∈ zs, 0 ≤ x ∧ x < 256 := fun x hx => by
      have h := hw x hx
      simp [Lit.wf, IntKind.min, IntKind.max, IntKind.signed, IntKind.bits] at h
      omega
    have hl' : ((zs.take len).map Int.toNat).length = len := by simp; omega
    have hcv : ((zs.take len).map Int.toNat).map (fun x : Nat => Value.int .u8 (x : Int)) = (zs.take len).map (Value.int .u8) := by
      rw [List.map_map]
      apply List.map_congr_left
      intro x hx
      have := hB x (List.mem_of_mem_take hx)
      show Value.int .u8 ((x.toNat : Nat) : Int) = _
      rw [Int.toNat_of_nonneg this.1]
    refine ⟨(zs.take len).map Int.toNat, ?_, fun x hx => ?_⟩
    · rw [hcv]
      refine ⟨some a, cap, by rw [hl'], by rw [hl']; exact hl, hm, fun h0 => ?_, fun g off ha j u hu => ?_⟩
      · have hp : 0 < zs.length := by rw [hl'] at h0; omega
        obtain ⟨b, off, rfl, _⟩ := ints_at hcell hp
        exact ⟨b, off, rfl⟩
      · obtain ⟨hj, rfl⟩ := lits_cells hu
        have := hcell j hj
        obtain rfl := Option.some.inj ha
        rwa [Go.WideShapes.add_plain] at this
    · obtain ⟨z, hz, rfl⟩ := List.mem_map.1 hx
      have := hB z (List.mem_of_mem_take hz)
      omega
end
end Go.Proofs.YtgohlhgapboijaaGreatDoor

/- kinlaw2.BitsStops: the walk. -/
namespace Go.Proofs.YtgohlhgapboijaaGreatDoor
set_option linter.unusedVariables false
set_option linter.unusedSimpArgs false
open Go.RowKit Go.Extern.Stop Go.Stop Go.Extern
variable {F : Nat → Prop}

theorem rd_good {bs : List Nat} {p N : Nat} (h1 : N ≤ 32) (h2 : N ≤ 8 * bs.length - p) : rdF bs p N = none ∧ rdV bs p N = (nmN bs p N : Nat) ∧ rdP bs p N = p + N := by
  have hR : rdF bs p N = none := by unfold rdF; rw [if_pos (by omega), if_pos (by omega)]
  refine ⟨hR, ?_, ?_⟩
  · unfold rdV; rw [hR]; rfl
  · unfold rdP; rw [hR]; rfl
theorem rd_bad {bs : List Nat} {p : Nat} {n : Int} (h : ¬ ((0 ≤ n ∧ n ≤ 32) ∧ n ≤ ((8 * bs.length - p : Nat) : Int))) : ∃ f, rdF bs p n = some f ∧ rdV bs p n = 0 ∧ rdP bs p n = p := by
  have : ∃ f, rdF bs p n = some f := by
    unfold rdF
    split
    · rename_i h1
      rw [if_neg (fun k => h ⟨h1, k⟩)]
      exact ⟨_, rfl⟩
    · exact ⟨_, rfl⟩
  obtain ⟨f, hf⟩ := this
  exact ⟨f, hf, by unfold rdV; rw [hf], by unfold rdP; rw [hf]⟩
end Go.Proofs.YtgohlhgapboijaaGreatDoor

/- kinlaw2.BitsAligns: the walk. -/
namespace Go.Proofs.YtgohlhgapboijaaGreatDoor
set_option linter.unusedVariables false
set_option linter.unusedSimpArgs false
open Go.RowKit Go.Extern.Stop Go.Stop Go.Extern

theorem alF_none (bs : List Nat) (p : Nat) : ∀ k, alF bs p k = none ↔ nmN bs p k = 0
  | 0 => by simp [alF, nmN]
  | k + 1 => by
    have h := nmN_add bs p k 1
    rw [nmN_one] at h
    have hb := btN_lt bs (p + k)
    have ih := alF_none bs p k
    rw [h]
    unfold alF
    cases hF : alF bs p k with
    | none =>
      have h0 := ih.1 hF
      rw [h0]
      by_cases h1 : btN bs (p + k) = 1
      · simp [h1]
      · have : btN bs (p + k) = 0 := by omega
        simp [this]
    | some f =>
      have h0 : nmN bs p k ≠ 0 := fun e => by rw [ih.2 e] at hF; cases hF
      simp; omega
end Go.Proofs.YtgohlhgapboijaaGreatDoor

/- A list of steps of the call's own, and a writer beside it; what was put comes back (plain). -/
namespace Go.Proofs.YtgohlhgapboijaaGreatDoor
set_option linter.unusedVariables false
set_option linter.unusedSimpArgs false
open Go.RowKit Go.Extern.Stop Go.Stop Go.Extern

def oc (o : Op4) : List Value := [.int .i64 o.1, .int .i64 o.2.1, .int .i64 o.2.2.1, .bool o.2.2.2]
def ocells (D : List Op4) : List Value := D.flatMap oc
theorem ocells_app (D : List Op4) (o : Op4) : ocells (D ++ [o]) = ocells D ++ oc o := by simp [ocells]
theorem ocells_get : ∀ (D : List Op4) (q : Nat) (o : Op4), D[q]? = some o → (ocells D)[q * 4]? = some (.int .i64 o.1) ∧ (ocells D)[q * 4 + 1]? = some (.int .i64 o.2.1) ∧ (ocells D)[q * 4 + 2]? = some (.int .i64 o.2.2.1) ∧ (ocells D)[q * 4 + 3]? = some (.bool o.2.2.2)
  | [], q, o, h => by simp at h
  | a :: D, 0, o, h => by
    simp only [List.getElem?_cons_zero, Option.some.injEq] at h
    subst h
    exact ⟨rfl, rfl, rfl, rfl⟩
  | a :: D, q + 1, o, h => by
    simp only [List.getElem?_cons_succ] at h
    obtain ⟨h1, h2, h3, h4⟩ := ocells_get D q o h
    have e : ocells (a :: D) = oc a ++ ocells D := by simp [ocells]
    have l : (oc a).length = 4 := rfl
    rw [e]
    refine ⟨?_, ?_, ?_, ?_⟩
    · rw [List.getElem?_append_right (by omega), l, show (q + 1) * 4 - 4 = q * 4 by omega]; exact h1
    · rw [List.getElem?_append_right (by omega), l, show (q + 1) * 4 + 1 - 4 = q * 4 + 1 by omega]; exact h2
    · rw [List.getElem?_append_right (by omega), l, show (q + 1) * 4 + 2 - 4 = q * 4 + 2 by omega]; exact h3
    · rw [List.getElem?_append_right (by omega), l, show (q + 1) * 4 + 3 - 4 = q * 4 + 3 by omega]; exact h4
/-- what a step adds to the bits -/
def stL (l : List Bool) (o : Op4) : List Bool := if o.1 = 0 then l ++ bsOf o.2.1.toNat o.2.2.1.toNat else if o.1 = 1 then l ++ [o.2.2.2] else wpad l
def enL (D : List Op4) : List Bool := D.foldl stL []
def okD (D : List Op4) : Prop := ∀ o ∈ D, o.1 = 0 → putOk o.2.1 o.2.2.1
theorem enL_app (D : List Op4) (o : Op4) : enL (D ++ [o]) = stL (enL D) o := by simp [enL]
theorem stL_pre (l : List Bool) (o : Op4) : ∃ m, stL l o = l ++ m := by
  unfold stL
  split
  · exact ⟨_, rfl⟩
  · split
    · exact ⟨_, rfl⟩
    · exact ⟨_, rfl⟩
theorem fold_pre : ∀ (D : List Op4) (l : List Bool), ∃ m, D.foldl stL l = l ++ m
  | [], l => ⟨[], by simp⟩
  | o :: D, l => by
    obtain ⟨m, hm⟩ := stL_pre l o
    obtain ⟨m', hm'⟩ := fold_pre D (stL l o)
    exact ⟨m ++ m', by rw [List.foldl_cons, hm', hm, List.append_assoc]⟩
theorem enL_step {D : List Op4} {j : Nat} {o : Op4} (h : D[j]? = some o) : enL (D.take (j + 1)) = stL (enL (D.take j)) o := by
  rw [List.take_add_one, h]
  exact enL_app _ _
theorem enL_pre (D : List Op4) (j : Nat) : ∃ m, enL D = enL (D.take j) ++ m := by
  obtain ⟨m, hm⟩ := fold_pre (D.drop j) (enL (D.take j))
  refine ⟨m, ?_⟩
  rw [← hm]
  unfold enL
  rw [← List.foldl_append, List.take_append_drop]
theorem stL_len {l : List Bool} {o : Op4} (h : o.1 = 0 → putOk o.2.1 o.2.2.1) : (stL l o).length ≤ l.length + 32 := by
  unfold stL
  split
  · rename_i h0
    have := (h h0).1
    rw [List.length_append, bsOf_length]
    omega
  · split
    · simp
    · rw [wpad_length]; omega
theorem nmN_pk {l : List Bool} {p k : Nat} (h : p + k ≤ 8 * ((l.length + 7) / 8)) : nmN (pkL l) p k = nmF (bL l) p k := by
  rw [nmN_nmF]
  exact nmF_congr fun i hi => bt_pk l (p + i) (by omega)
theorem get_back {l l0 m : List Bool} {v n : Nat} (e : l = l0 ++ bsOf v n ++ m) (hv : v < 2 ^ n) : nmN (pkL l) l0.length n = v := by
  have hl : l.length = l0.length + n + m.length := by rw [e, List.length_append, List.length_append, bsOf_length]
  rw [nmN_pk (by omega), e]
  exact nmF_of l0 v n m hv
theorem flag_back {l l0 m : List Bool} {b : Bool} (e : l = l0 ++ [b] ++ m) : nmN (pkL l) l0.length 1 = b.toNat := by
  refine get_back (m := m) ?_ (by cases b <;> decide)
  rw [e]
  cases b <;> rfl
theorem align_back {l l0 m : List Bool} (e : l = wpad l0 ++ m) : alF (pkL l) l0.length (alD l0.length) = none := by
  rw [alF_none]
  have hw : wpad l0 = l0 ++ List.replicate (alD l0.length) false := rfl
  have hl : l.length = l0.length + alD l0.length + m.length := by rw [e, hw, List.length_append, List.length_append, List.length_replicate]
  rw [nmN_pk (by omega)]
  refine nmF_zero fun i hi => ?_
  rw [e, bL_left (by rw [hw, List.length_append, List.length_replicate]; omega), hw, bL_pad]
  exact bL_end (by omega)
theorem end_back (l : List Bool) : alF (pkL l) l.length (alD l.length) = none := by
  rw [alF_none, nmN_pk (by unfold alD; omega)]
  exact nmF_zero fun i _ => bL_end (by omega)
variable {F : Nat → Prop}
theorem back_get {D : List Op4} {l : List Bool} {j c : Nat} {o : Op4} (hl : enL D = l) (hD : okD D) (ho : D[j]? = some o) (h0 : o.1 = 0) (w : World) (h : RdAt F w c (pkL l) (enL (D.take j)).length) :
    Calls Tryz.prog 62 #[.pointer (some ⟨c, 0, none⟩), .int .i64 o.2.2.1] w fun e w' => e = .returned (.tuple #[.int .i64 o.2.1, .nilIface]) ∧ Kp c w w' ∧ RdAt F w' c (pkL l) (enL (D.take (j + 1))).length := by
  obtain ⟨m, hm⟩ := enL_pre D (j + 1)
  obtain ⟨⟨n1, n2⟩, v1, v2⟩ := hD o (List.mem_of_getElem? ho) h0
  have e2 := enL_step ho
  generalize enL (D.take j) = l0 at *
  have e3 : stL l0 o = l0 ++ bsOf o.2.1.toNat o.2.2.1.toNat := by unfold stL; rw [if_pos h0]
  rw [e2, e3, hl] at hm
  rw [e2, e3]
  clear ho e2 e3
  generalize o.2.2.1 = N0 at *
  generalize o.2.1 = V0 at *
  obtain ⟨N, rfl⟩ : ∃ N : Nat, N0 = (N : Int) := ⟨N0.toNat, by omega⟩
  obtain ⟨V, rfl⟩ : ∃ V : Nat, V0 = (V : Int) := ⟨V0.toNat, by omega⟩
  simp only [Int.toNat_natCast] at *
  have ep : ((2 ^ N : Nat) : Int) = (2 : Int) ^ N := by simp
  have hb := get_back hm (by rw [← ep] at v2; omega)
  have hlen : l.length = l0.length + N + m.length := by rw [hm, List.length_append, List.length_append, bsOf_length]
  have hpl := pkL_length l
  obtain ⟨g1, g2, g3⟩ := rd_good (bs := pkL l) (p := l0.length) (N := N) (by omega) (by omega)
  have U := rdget_any c l0.length (N : Int) (pkL l) w h (by omega)
  rw [g1, g2, g3, hb] at U
  refine U.mono fun e w' ⟨x, k1, k2, k3, k4⟩ => ?_
  obtain rfl : x = .nilIface := k4
  exact ⟨k1, k2, by rw [List.length_append, bsOf_length]; exact k3⟩
theorem back_flag {D : List Op4} {l : List Bool} {j c : Nat} {o : Op4} (hl : enL D = l) (ho : D[j]? = some o) (h1 : o.1 = 1) (w : World) (h : RdAt F w c (pkL l) (enL (D.take j)).length) :
    Calls Tryz.prog 84 #[.pointer (some ⟨c, 0, none⟩)] w fun e w' => e = .returned (.tuple #[.bool o.2.2.2, .nilIface]) ∧ Kp c w w' ∧ RdAt F w' c (pkL l) (enL (D.take (j + 1))).length := by
  obtain ⟨m, hm⟩ := enL_pre D (j + 1)
  have e2 := enL_step ho
  generalize enL (D.take j) = l0 at *
  have e3 : stL l0 o = l0 ++ [o.2.2.2] := by unfold stL; rw [if_neg (by omega), if_pos h1]
  rw [e2, e3, hl] at hm
  rw [e2, e3]
  have hb := flag_back hm
  have hlen : l.length = l0.length + 1 + m.length := by rw [hm, List.length_append, List.length_append]; rfl
  have hpl := pkL_length l
  obtain ⟨g1, g2, g3⟩ := rd_good (bs := pkL l) (p := l0.length) (N := 1) (by omega) (by omega)
  have U := rdflag_any c l0.length (pkL l) w h (by omega)
  have hv : (rdV (pkL l) l0.length 1 == 1) = o.2.2.2 := by
    rw [show rdV (pkL l) l0.length 1 = _ from g2, hb]
    cases o.2.2.2 <;> rfl
  rw [show rdF (pkL l) l0.length 1 = none from g1, hv, show rdP (pkL l) l0.length 1 = l0.length + 1 from g3] at U
  refine U.mono fun e w' ⟨x, k1, k2, k3, k4⟩ => ?_
  obtain rfl : x = .nilIface := k4
  exact ⟨k1, k2, by rw [List.length_append]; exact k3⟩
theorem back_align {D : List Op4} {l : List Bool} {j c : Nat} {o : Op4} (hl : enL D = l) (ho : D[j]? = some o) (h0 : ¬ o.1 = 0) (h1 : ¬ o.1 = 1) (w : World) (h : RdAt F w c (pkL l) (enL (D.take j)).length) :
    Calls Tryz.prog 67 #[.pointer (some ⟨c, 0, none⟩)] w fun e w' => e = .returned .nilIface ∧ Kp c w w' ∧ RdAt F w' c (pkL l) (enL (D.take (j + 1))).length := by
  obtain ⟨m, hm⟩ := enL_pre D (j + 1)
  have e2 := enL_step ho
  generalize enL (D.take j) = l0 at *
  have e3 : stL l0 o = wpad l0 := by unfold stL; rw [if_neg h0, if_neg h1]
  rw [e2, e3, hl] at hm
  rw [e2, e3]
  have hb := align_back hm
  have hw : (wpad l0).length = l0.length + alD l0.length := by unfold wpad alD; rw [List.length_append, List.length_replicate]
  have hlen : l.length = l0.length + alD l0.length + m.length := by rw [hm, List.length_append, hw]
  have hpl := pkL_length l
  have U := rdalign_any c l0.length (pkL l) w h (by omega)
  rw [hb] at U
  refine U.mono fun e w' ⟨x, k1, k2, k3, k4⟩ => ?_
  obtain rfl : x = .nilIface := k4
  exact ⟨k1, k2, by rw [hw]; exact k3⟩
theorem back_end {l : List Bool} {c : Nat} (w : World) (h : RdAt F w c (pkL l) l.length) :
    Calls Tryz.prog 67 #[.pointer (some ⟨c, 0, none⟩)] w fun e w' => e = .returned .nilIface ∧ Kp c w w' := by
  have hpl := pkL_length l
  have U := rdalign_any c l.length (pkL l) w h (by omega)
  rw [end_back] at U
  refine U.mono fun e w' ⟨x, k1, k2, k3, k4⟩ => ?_
  obtain rfl : x = .nilIface := k4
  exact ⟨k1, k2⟩
end Go.Proofs.YtgohlhgapboijaaGreatDoor
