/- kinref9.Levels and kinref9.Values: contracts over this seat's translation. -/
import Derived.Test.YtckhilnjkckabaaDoorQLists
import Derived.BigRegion
namespace Go.Proofs.YtckhilnjkckabaaDoor
set_option linter.unusedVariables false
set_option linter.unusedSimpArgs false
open Go.RowKit Go.Extern.Stop Go.Stop Go.Extern

theorem ResAt.below {B b : Nat} {w w' : World} (h : ResAt w b) (k : Below B w w') (hb : b < B) : ResAt w' b := by
  obtain ⟨h0, h1, h2, h3⟩ := h
  exact ⟨Below.cellv k h0 hb, Below.cellv k h1 hb, (Below.frozen k (p := ⟨b, 0, none⟩) hb).trans h2, (Below.frozen k (p := ⟨b, 1, none⟩) hb).trans h3⟩
/-- an error of a code alone, in a variable that may be written -/
def EVar (w : World) (b : Nat) (k : Int) : Prop := w.cell? ⟨b, 0, none⟩ = some (.int .i64 k) ∧ w.cell? ⟨b, 1, none⟩ = some (.slice none 0 0) ∧ w.frozen? ⟨b, 0, none⟩ = false ∧ w.frozen? ⟨b, 1, none⟩ = false
theorem EVar.below {B b : Nat} {k : Int} {w w' : World} (h : EVar w b k) (x : Below B w w') (hb : b < B) : EVar w' b k := by
  obtain ⟨h0, h1, h2, h3⟩ := h
  exact ⟨Below.cellv x h0 hb, Below.cellv x h1 hb, (Below.frozen x (p := ⟨b, 0, none⟩) hb).trans h2, (Below.frozen x (p := ⟨b, 1, none⟩) hb).trans h3⟩
theorem EVar.ext {b : Nat} {k : Int} {w w' : World} (h : EVar w b k) (x : Ext w w') : EVar w' b k := h.below x (Ext.lt h.1)
theorem EVar.new (w : World) (k : Int) : EVar (w.alloc (.cells #[.int .i64 k, .slice none 0 0] 35)) w.heap.size k := by
  refine ⟨?_, ?_, ?_, ?_⟩ <;> simp
theorem EVar.set {w : World} {b : Nat} {k : Int} (h : EVar w b 0) : EVar ((w.setCell ⟨b, 0, none⟩ (.int .i64 k)).setCell ⟨b, 1, none⟩ (.slice none 0 0)) b k := by
  obtain ⟨h0, h1, h2, h3⟩ := h
  obtain ⟨e0, e1⟩ := res_cells (c := k) h0 h1 (.slice none 0 0)
  refine ⟨e0, e1, ?_, ?_⟩ <;> simp [h2, h3]
theorem own_extl {w w' : World} {base : Nat} {e : TypeId} {size n : Nat} {v : Value} {xs : List Value} (h : w.ownsRow base e size v n xs) (k : Ext w w') : w'.ownsRow base e size v n xs := by
  obtain ⟨hl, h⟩ := h
  refine ⟨hl, ?_⟩
  rcases h with h | ⟨g, cap, cur, rfl, hb, hg, h⟩
  · exact Or.inl h
  · have hlt : g < w.heap.size := by
      rcases Nat.lt_or_ge g w.heap.size with h' | h'
      · exact h'
      · rw [Array.getElem?_eq_none h'] at hg; cases hg
    exact Or.inr ⟨g, cap, cur, rfl, hb, (k.block hlt).trans hg, h⟩
theorem rowL_succ (k : Nat) (f : Nat → Int) : rowL (k + 1) f = rowL k f ++ [f k] := by
  unfold rowL
  rw [List.range_succ, List.map_append]
  rfl
/-- an append of one int, and what it leaves alone -/
theorem push_keep {ops : Array Oper} {rest : List Oper} {o : Oper} {a : Act} {Q : Exit → Act → World → Prop} {W : World} {base : Nat} (hgd : o.guard = none) (s y : Operand) (t : TypeId)
    (ho : o.op = .call { callee := .builtin .append, args := #[s, y], argTypes := #[t, t] }) (ht : Tryd.prog.underlying t = some (.slice 3))
    (v : Value) (n : Nat) (xs : List Value) (x : Int) (hs : a.eval s = v) (hown : W.ownsRow base 3 1 v n xs) (hx : a.eval y = .slice (some ⟨W.heap.size, 0, none⟩) 1 1) (hb : base ≤ W.heap.size) (hn : n ≤ 1000000000000)
    (h : ∀ v' w', w'.ownsRow base 3 1 v' (n + 1) (xs ++ [.int .i64 x]) → Below base W w' → (∀ p u, W.cell? p = some u → some p.block ≠ v.ownBlock → w'.cell? p = some u) → wpList Tryd.prog ops Q rest (a.put o.dst v') w') :
    wpList Tryd.prog ops Q (o :: rest) a (W.alloc (.cells #[.int .i64 x] 3)) := by
  obtain ⟨i0, hi, hz0, hz1, hz2⟩ := info_parts infoInt
  refine wpList_append_own _ hgd s y t ho base 3 i0 (.int .i64 0) 1 8 ht hi hz0 hz1 hz2 rfl (by decide) v n xs hs (hown.alloc _) ⟨W.heap.size, 0, none⟩ 1 1 [.int .i64 x] hx rfl (cell_one_new _ _ _) (one_int _) (by unfold maxLen; omega) (by omega) (by simp; omega) ?_
  intro v' w' h1 h2 _
  exact h v' w' h1 (Below.grown ((Below.refl base W).alloc hb _) h2 (by simp; omega) (fun k hk => (hown.lt k hk).1)) (fun p u hp hne => h2.cell ((World.grownBy_alloc W _ none).cell hp (by simp)) hne)

set_option maxHeartbeats 4000000 in
set_option maxRecDepth 100000 in
theorem rLevels_no (zs : List Int) (qp : Int) (v : Value) (w : World) (h : ¬ okQ qp) (ha : Ints w v zs) (out : List Int) :
    Calls Tryd.prog 18 #[v, .int .i64 qp] w (RLPost w (some 3) out) := by
  have f := Lib.hid (rstep_isno h)
  clear h
  obtain ⟨a, cap, rfl⟩ := ha.form
  go_enter Tryd.func18, Tryd.ntmps18
  go_wp2_with fail
  refine (f.out _).mono ?_; rintro e w1 ⟨rfl, hx1⟩
  have RV := (ResAt.new w).ext hx1
  have EW : Ext w w1 := ((Ext.refl w).alloc _).trans hx1
  have EV := EVar.new w1 3
  have hsz1 : w.heap.size < w1.heap.size := Ext.lt RV.1
  have RV := RV.ext ((Ext.refl w1).alloc (.cells #[.int .i64 3, .slice none 0 0] 35))
  have EW : Ext w (w1.alloc (.cells #[.int .i64 3, .slice none 0 0] 35)) := EW.alloc _
  clear hx1
  obtain ⟨p0, p1, -, -⟩ := id EV
  go_wp2_with fail
  refine wp_loop_rounds 1 ?_
  rw [rounds_succ]
  go_wp2_with fail
  refine (ok_any 3 _ _).mono ?_; rintro e wA ⟨rfl, hxA⟩
  have RV := RV.ext hxA
  have EV := EV.ext hxA
  have EW : Ext w wA := EW.trans hxA
  clear hxA p0 p1
  obtain ⟨p0, p1, -, -⟩ := id EV
  rw [show ((3 : Int) == 0) = false from rfl]
  go_wp2_with fail
  refine (ok_any 3 _ _).mono ?_; rintro e wB ⟨rfl, hxB⟩
  have RV := RV.ext hxB
  have EV := EV.ext hxB
  have EW : Ext w wB := EW.trans hxB
  clear hxB p0 p1
  rw [show ((3 : Int) == 0) = false from rfl]
  obtain ⟨r0, r1, f0, f1⟩ := RV
  obtain ⟨p0, p1, -, -⟩ := EV
  go_wp2
  go_region
  go_wp2
  obtain ⟨e0, e1⟩ := res_cells (c := 3) r0 r1 (.slice none 0 0)
  refine bodyPost_ret (v := .tuple #[.slice none 0 0, .agg #[.int .i64 3, .slice none 0 0]]) (by simp [results, Tryd.results18, go_sem, e0, e1]) rfl ⟨_, _, rfl, ((EW.setCell (p := ⟨w.heap.size, 0, none⟩) (Nat.le_refl _) _).setCell (p := ⟨w.heap.size, 1, none⟩) (Nat.le_refl _) _).drew, ?_⟩
  exact ⟨rfl, rfl⟩

set_option maxHeartbeats 4000000 in
set_option maxRecDepth 100000 in
theorem rLevels_ok (N : Nat) (X : Nat → Int) (qp : Int) (v : Value) (w : World) (hN : N ≤ 5000) (ha : Ints w v (rowL N X)) (h : okQ qp) (ans : Option Int) (hy : Hid ((∀ i, i < N → okC (X i)) → ans = none)) (hn : Hid ((∃ i, i < N ∧ ¬ okC (X i)) → ans = some 3)) :
    Calls Tryd.prog 18 #[v, .int .i64 qp] w (RLPost w ans (rowL N fun i => levelOf (X i) qp)) := by
  have f := Lib.hid (rstep_is h)
  have HQ := Lib.hid h
  clear h
  obtain ⟨a, cap, rfl⟩ := ha.form
  rw [rowL_length] at ha ⊢
  have AG := Lib.hid (Ints.hadq ha)
  go_enter Tryd.func18, Tryd.ntmps18
  go_wp2_with fail
  refine (f.out _).mono ?_; rintro e w1 ⟨rfl, hx1⟩
  have RV := (ResAt.new w).ext hx1
  have EW : Ext w w1 := ((Ext.refl w).alloc _).trans hx1
  have EV := EVar.new w1 0
  have hsz1 : w.heap.size < w1.heap.size := Ext.lt RV.1
  have RV := RV.ext ((Ext.refl w1).alloc (.cells #[.int .i64 0, .slice none 0 0] 35))
  have EW : Ext w (w1.alloc (.cells #[.int .i64 0, .slice none 0 0] 35)) := EW.alloc _
  have hB : w1.heap.size + 1 ≤ (w1.alloc (.cells #[.int .i64 0, .slice none 0 0] 35)).heap.size := by simp
  clear hx1 f
  go_wp2_with fail
  go_loopw [8, 9] (fun lv iv wr => ∃ (k : Nat) (ke : Int), k ≤ N ∧ iv = .int .i64 k ∧ Hid (ke = 0 ∧ (∀ j, j < k → okC (X j)) ∧ wr.ownsRow (w1.heap.size + 1) 3 1 lv k ((rowL k fun i => levelOf (X i) qp).map (Value.int .i64)) ∨ ke = 3 ∧ ∃ j, j < N ∧ ¬ okC (X j)) ∧ Ext w wr ∧ ResAt wr w.heap.size ∧ EVar wr w1.heap.size ke ∧ w1.heap.size + 1 ≤ wr.heap.size) (fun _ iv _ => N - (intOf iv).toNat)
  case atStart => exact ⟨0, 0, Nat.zero_le _, rfl, Or.inl ⟨rfl, fun j hj => absurd hj (Nat.not_lt_zero _), rfl, Or.inl ⟨rfl, rfl⟩⟩, EW, RV, EV, hB⟩
  case round =>
    clear EW RV EV hB
    obtain ⟨k, ke, hk, rfl, HH, EW, RV, EV, hB⟩ := hrel
    rcases HH.out with ⟨rfl, HP0, hown⟩ | ⟨rfl, hbad⟩
    · have HP := Lib.hid HP0
      clear HH HP0
      obtain ⟨p0, p1, -, -⟩ := id EV
      go_wp2_with fail
      refine (ok_any 0 _ _).mono ?_; rintro e wA ⟨rfl, hxA⟩
      have RV := RV.ext hxA
      have EV := EV.ext hxA
      have EW : Ext w wA := EW.trans hxA
      have hown := own_extl hown hxA
      have hB : w1.heap.size + 1 ≤ wA.heap.size := Nat.le_trans hB hxA.size
      clear hxA p0 p1
      rw [show ((0 : Int) == 0) = true from rfl]
      by_cases hlt : k < N
      · obtain ⟨x, hx⟩ : ∃ x, X k = x := ⟨_, rfl⟩
        obtain ⟨g, off, rfl⟩ := AG.out (by omega)
        have cx := EW.cell (ha.at (rowL_get hlt))
        rw [hx] at cx
        have HX := Lib.hid hx
        clear hx
        have hlv : ∃ y kf, (Hid (∀ W, Calls Tryd.prog 36 #[.int .i64 x, .int .i64 qp] W fun e w' => e = .returned (.tuple #[.int .i64 y, .agg #[.int .i64 kf, .slice none 0 0]]) ∧ Ext W w')) ∧ Hid (kf = 0 ∧ okC x ∧ y = levelOf x qp ∨ kf = 3 ∧ ¬ okC x) := by
          by_cases hp : okC x
          · exact ⟨_, 0, fun W => rlevel_ok x qp W hp HQ.out (rstep_is HQ.out), Or.inl ⟨rfl, hp, rfl⟩⟩
          · exact ⟨_, 3, fun W => rlevel_no x qp _ 0 W (Or.inr ⟨rfl, by unfold okC at hp; omega⟩) (rstep_is HQ.out), Or.inr ⟨rfl, hp⟩⟩
        obtain ⟨y, kf, HL, HK⟩ := hlv
        go_wp2_with fail
        refine (HL.out _).mono ?_; rintro e w5 ⟨rfl, hx5⟩
        have RV := RV.ext hx5
        have EV := EV.ext hx5
        have EW : Ext w w5 := EW.trans hx5
        have hown := own_extl hown hx5
        have hB : w1.heap.size + 1 ≤ w5.heap.size := Nat.le_trans hB hx5.size
        have hne : some w5.heap.size ≠ u8.ownBlock := fun e => by have := (hown.lt _ e.symm).2; omega
        have S6 := (Ext.refl w5).alloc (.cells #[.int .i64 kf, .slice none 0 0] 35)
        have FV := EVar.new w5 kf
        have RV := RV.ext S6
        have EV := EV.ext S6
        have EW := EW.trans S6
        have hown := own_extl hown S6
        obtain ⟨fp0, fp1, -, -⟩ := FV
        have hB6 : w1.heap.size + 1 ≤ (w5.alloc (.cells #[.int .i64 kf, .slice none 0 0] 35)).heap.size := Nat.le_trans hB S6.size
        clear hx5 S6 cx
        go_wp2_with (at_builtin; refine push_keep rfl _ _ 24 rfl Tryd.underlying24 _ k _ _ rfl hown (by show Value.slice (some ⟨w5.heap.size + 1, 0, none⟩) 1 1 = _; simp) hB6 (by omega) ?_; intro v' w7 h1 h2 h3; have fq0 := h3 _ _ fp0 hne; have fq1 := h3 _ _ fp1 hne; obtain ⟨ev0, ev1, ev2, ev3⟩ := EV.below h2 (Nat.lt_succ_self _))
        have h3' : w7.ownsRow (w1.heap.size + 1) 3 1 v' (k + 1) ((rowL k fun i => levelOf (X i) qp).map (Value.int .i64) ++ [.int .i64 y]) := h1
        have RV7 := RV.below h2 (show w.heap.size < w1.heap.size + 1 by omega)
        have EW7 : Ext w w7 := EW.of_below h2 (by omega)
        have hB7 : w1.heap.size + 1 ≤ w7.heap.size := Nat.le_trans hB6 h2.size
        have EV7 : EVar w7 w1.heap.size 0 := ⟨ev0, ev1, ev2, ev3⟩
        clear h1 h2 h3 hown hne hB6 hB fp0 fp1 RV EV EW
        go_wp2
        go_roundw
        case measure => simp [intOf]; omega
        case rel =>
          have sb : Below w1.heap.size w7 ((w7.setCell ⟨w1.heap.size, 0, none⟩ (.int .i64 kf)).setCell ⟨w1.heap.size, 1, none⟩ (.slice none 0 0)) := ((Below.refl w1.heap.size w7).setCell (p := ⟨w1.heap.size, 0, none⟩) (Nat.le_refl _) _).setCell (p := ⟨w1.heap.size, 1, none⟩) (Nat.le_refl _) _
          refine ⟨k + 1, kf, by omega, by go_num, ?_, (EW7.setCell (p := ⟨w1.heap.size, 0, none⟩) (Nat.le_of_lt hsz1) _).setCell (p := ⟨w1.heap.size, 1, none⟩) (Nat.le_of_lt hsz1) _, RV7.below sb hsz1, EV7.set, Nat.le_trans hB7 sb.size⟩
          rcases HK.out with ⟨rfl, hp, rfl⟩ | ⟨rfl, hp⟩
          · refine Or.inl ⟨rfl, fun j hj => ?_, ?_⟩
            · by_cases hjk : j = k
              · subst hjk; rw [HX.out]; exact hp
              · exact HP.out j (by omega)
            · have e : (rowL (k + 1) fun i => levelOf (X i) qp).map (Value.int .i64) = (rowL k fun i => levelOf (X i) qp).map (Value.int .i64) ++ [.int .i64 (levelOf x qp)] := by
                rw [rowL_succ, List.map_append, HX.out]
                rfl
              rw [e]
              exact ownsRow_setCell_below (ownsRow_setCell_below h3' (a := ⟨w1.heap.size, 0, none⟩) (Nat.lt_succ_self _) _) (a := ⟨w1.heap.size, 1, none⟩) (Nat.lt_succ_self _) _
          · exact Or.inr ⟨rfl, k, hlt, by rw [HX.out]; exact hp⟩
      · have hkn : N = k := by omega
        subst hkn
        obtain ⟨p0, p1, -, -⟩ := id EV
        go_wp2_with fail
        refine (ok_any 0 _ _).mono ?_; rintro e wB ⟨rfl, hxA⟩
        have RV := RV.ext hxA
        have EV := EV.ext hxA
        have EW : Ext w wB := EW.trans hxA
        have hown := own_extl hown hxA
        clear hxA p0 p1
        rw [show ((0 : Int) == 0) = true from rfl]
        have ho2 := own_extl (ownsRow_setCell_below (ownsRow_setCell_below hown (a := ⟨w.heap.size, 0, none⟩) (Nat.lt_succ_of_lt hsz1) (.int .i64 0)) (a := ⟨w.heap.size, 1, none⟩) (Nat.lt_succ_of_lt hsz1) (.slice none 0 0)) ((Ext.refl _).drew)
        obtain ⟨r0, r1, f0, f1⟩ := RV
        obtain ⟨p0, p1, -, -⟩ := EV
        go_wp2
        go_region
        go_wp2
        obtain ⟨e0, e1⟩ := res_cells (c := 0) r0 r1 (.slice none 0 0)
        refine bodyPost_ret (v := .tuple #[u8, .agg #[.int .i64 0, .slice none 0 0]]) (by simp [results, Tryd.results18, go_sem, e0, e1]) rfl ⟨_, _, rfl, ((EW.setCell (p := ⟨w.heap.size, 0, none⟩) (Nat.le_refl _) _).setCell (p := ⟨w.heap.size, 1, none⟩) (Nat.le_refl _) _).drew, ?_⟩
        rw [hy.out HP.out]
        exact ⟨Ints.of_row ho2 (by omega), rfl⟩
    · clear HH
      obtain ⟨p0, p1, -, -⟩ := id EV
      go_wp2_with fail
      refine (ok_any 3 _ _).mono ?_; rintro e wA ⟨rfl, hxA⟩
      have RV := RV.ext hxA
      have EV := EV.ext hxA
      have EW : Ext w wA := EW.trans hxA
      clear hxA p0 p1
      rw [show ((3 : Int) == 0) = false from rfl]
      obtain ⟨p0, p1, -, -⟩ := id EV
      go_wp2_with fail
      refine (ok_any 3 _ _).mono ?_; rintro e wB ⟨rfl, hxA⟩
      have RV := RV.ext hxA
      have EV := EV.ext hxA
      have EW : Ext w wB := EW.trans hxA
      clear hxA p0 p1
      rw [show ((3 : Int) == 0) = false from rfl]
      obtain ⟨r0, r1, f0, f1⟩ := RV
      obtain ⟨p0, p1, -, -⟩ := EV
      go_wp2
      go_region
      go_wp2
      obtain ⟨e0, e1⟩ := res_cells (c := 3) r0 r1 (.slice none 0 0)
      refine bodyPost_ret (v := .tuple #[.slice none 0 0, .agg #[.int .i64 3, .slice none 0 0]]) (by simp [results, Tryd.results18, go_sem, e0, e1]) rfl ⟨_, _, rfl, ((EW.setCell (p := ⟨w.heap.size, 0, none⟩) (Nat.le_refl _) _).setCell (p := ⟨w.heap.size, 1, none⟩) (Nat.le_refl _) _).drew, ?_⟩
      rw [hn.out hbad]
      exact ⟨rfl, rfl⟩

set_option maxHeartbeats 4000000 in
set_option maxRecDepth 100000 in
theorem rValues_no (zs : List Int) (qp : Int) (v : Value) (w : World) (h : ¬ okQ qp) (ha : Ints w v zs) (out : List Int) :
    Calls Tryd.prog 20 #[v, .int .i64 qp] w (RLPost w (some 3) out) := by
  have f := Lib.hid (rstep_isno h)
  clear h
  obtain ⟨a, cap, rfl⟩ := ha.form
  go_enter Tryd.func20, Tryd.ntmps20
  go_wp2_with fail
  refine (f.out _).mono ?_; rintro e w1 ⟨rfl, hx1⟩
  have RV := (ResAt.new w).ext hx1
  have EW : Ext w w1 := ((Ext.refl w).alloc _).trans hx1
  have EV := EVar.new w1 3
  have hsz1 : w.heap.size < w1.heap.size := Ext.lt RV.1
  have RV := RV.ext ((Ext.refl w1).alloc (.cells #[.int .i64 3, .slice none 0 0] 35))
  have EW : Ext w (w1.alloc (.cells #[.int .i64 3, .slice none 0 0] 35)) := EW.alloc _
  clear hx1
  obtain ⟨p0, p1, -, -⟩ := id EV
  go_wp2_with fail
  refine wp_loop_rounds 1 ?_
  rw [rounds_succ]
  go_wp2_with fail
  refine (ok_any 3 _ _).mono ?_; rintro e wA ⟨rfl, hxA⟩
  have RV := RV.ext hxA
  have EV := EV.ext hxA
  have EW : Ext w wA := EW.trans hxA
  clear hxA p0 p1
  obtain ⟨p0, p1, -, -⟩ := id EV
  rw [show ((3 : Int) == 0) = false from rfl]
  go_wp2_with fail
  refine (ok_any 3 _ _).mono ?_; rintro e wB ⟨rfl, hxB⟩
  have RV := RV.ext hxB
  have EV := EV.ext hxB
  have EW : Ext w wB := EW.trans hxB
  clear hxB p0 p1
  rw [show ((3 : Int) == 0) = false from rfl]
  obtain ⟨r0, r1, f0, f1⟩ := RV
  obtain ⟨p0, p1, -, -⟩ := EV
  go_wp2
  go_region
  go_wp2
  obtain ⟨e0, e1⟩ := res_cells (c := 3) r0 r1 (.slice none 0 0)
  refine bodyPost_ret (v := .tuple #[.slice none 0 0, .agg #[.int .i64 3, .slice none 0 0]]) (by simp [results, Tryd.results20, go_sem, e0, e1]) rfl ⟨_, _, rfl, ((EW.setCell (p := ⟨w.heap.size, 0, none⟩) (Nat.le_refl _) _).setCell (p := ⟨w.heap.size, 1, none⟩) (Nat.le_refl _) _).drew, ?_⟩
  exact ⟨rfl, rfl⟩

set_option maxHeartbeats 4000000 in
set_option maxRecDepth 100000 in
theorem rValues_ok (N : Nat) (X : Nat → Int) (qp : Int) (v : Value) (w : World) (hN : N ≤ 5000) (ha : Ints w v (rowL N X)) (h : okQ qp) (ans : Option Int) (hy : Hid ((∀ i, i < N → okL (X i)) → ans = none)) (hn : Hid ((∃ i, i < N ∧ ¬ okL (X i)) → ans = some 3)) :
    Calls Tryd.prog 20 #[v, .int .i64 qp] w (RLPost w ans (rowL N fun i => (X i) * stepOf qp)) := by
  have f := Lib.hid (rstep_is h)
  have HQ := Lib.hid h
  clear h
  obtain ⟨a, cap, rfl⟩ := ha.form
  rw [rowL_length] at ha ⊢
  have AG := Lib.hid (Ints.hadq ha)
  go_enter Tryd.func20, Tryd.ntmps20
  go_wp2_with fail
  refine (f.out _).mono ?_; rintro e w1 ⟨rfl, hx1⟩
  have RV := (ResAt.new w).ext hx1
  have EW : Ext w w1 := ((Ext.refl w).alloc _).trans hx1
  have EV := EVar.new w1 0
  have hsz1 : w.heap.size < w1.heap.size := Ext.lt RV.1
  have RV := RV.ext ((Ext.refl w1).alloc (.cells #[.int .i64 0, .slice none 0 0] 35))
  have EW : Ext w (w1.alloc (.cells #[.int .i64 0, .slice none 0 0] 35)) := EW.alloc _
  have hB : w1.heap.size + 1 ≤ (w1.alloc (.cells #[.int .i64 0, .slice none 0 0] 35)).heap.size := by simp
  clear hx1 f
  go_wp2_with fail
  go_loopw [8, 9] (fun lv iv wr => ∃ (k : Nat) (ke : Int), k ≤ N ∧ iv = .int .i64 k ∧ Hid (ke = 0 ∧ (∀ j, j < k → okL (X j)) ∧ wr.ownsRow (w1.heap.size + 1) 3 1 lv k ((rowL k fun i => (X i) * stepOf qp).map (Value.int .i64)) ∨ ke = 3 ∧ ∃ j, j < N ∧ ¬ okL (X j)) ∧ Ext w wr ∧ ResAt wr w.heap.size ∧ EVar wr w1.heap.size ke ∧ w1.heap.size + 1 ≤ wr.heap.size) (fun _ iv _ => N - (intOf iv).toNat)
  case atStart => exact ⟨0, 0, Nat.zero_le _, rfl, Or.inl ⟨rfl, fun j hj => absurd hj (Nat.not_lt_zero _), rfl, Or.inl ⟨rfl, rfl⟩⟩, EW, RV, EV, hB⟩
  case round =>
    clear EW RV EV hB
    obtain ⟨k, ke, hk, rfl, HH, EW, RV, EV, hB⟩ := hrel
    rcases HH.out with ⟨rfl, HP0, hown⟩ | ⟨rfl, hbad⟩
    · have HP := Lib.hid HP0
      clear HH HP0
      obtain ⟨p0, p1, -, -⟩ := id EV
      go_wp2_with fail
      refine (ok_any 0 _ _).mono ?_; rintro e wA ⟨rfl, hxA⟩
      have RV := RV.ext hxA
      have EV := EV.ext hxA
      have EW : Ext w wA := EW.trans hxA
      have hown := own_extl hown hxA
      have hB : w1.heap.size + 1 ≤ wA.heap.size := Nat.le_trans hB hxA.size
      clear hxA p0 p1
      rw [show ((0 : Int) == 0) = true from rfl]
      by_cases hlt : k < N
      · obtain ⟨x, hx⟩ : ∃ x, X k = x := ⟨_, rfl⟩
        obtain ⟨g, off, rfl⟩ := AG.out (by omega)
        have cx := EW.cell (ha.at (rowL_get hlt))
        rw [hx] at cx
        have HX := Lib.hid hx
        clear hx
        have hlv : ∃ y kf, (Hid (∀ W, Calls Tryd.prog 37 #[.int .i64 x, .int .i64 qp] W fun e w' => e = .returned (.tuple #[.int .i64 y, .agg #[.int .i64 kf, .slice none 0 0]]) ∧ Ext W w')) ∧ Hid (kf = 0 ∧ okL x ∧ y = x * stepOf qp ∨ kf = 3 ∧ ¬ okL x) := by
          by_cases hp : okL x
          · exact ⟨_, 0, fun W => rvalue_ok x qp W hp HQ.out (rstep_is HQ.out), Or.inl ⟨rfl, hp, rfl⟩⟩
          · exact ⟨_, 3, fun W => rvalue_no x qp _ 0 W (Or.inr ⟨rfl, by unfold okL at hp; omega⟩) (rstep_is HQ.out), Or.inr ⟨rfl, hp⟩⟩
        obtain ⟨y, kf, HL, HK⟩ := hlv
        go_wp2_with fail
        refine (HL.out _).mono ?_; rintro e w5 ⟨rfl, hx5⟩
        have RV := RV.ext hx5
        have EV := EV.ext hx5
        have EW : Ext w w5 := EW.trans hx5
        have hown := own_extl hown hx5
        have hB : w1.heap.size + 1 ≤ w5.heap.size := Nat.le_trans hB hx5.size
        have hne : some w5.heap.size ≠ u8.ownBlock := fun e => by have := (hown.lt _ e.symm).2; omega
        have S6 := (Ext.refl w5).alloc (.cells #[.int .i64 kf, .slice none 0 0] 35)
        have FV := EVar.new w5 kf
        have RV := RV.ext S6
        have EV := EV.ext S6
        have EW := EW.trans S6
        have hown := own_extl hown S6
        obtain ⟨fp0, fp1, -, -⟩ := FV
        have hB6 : w1.heap.size + 1 ≤ (w5.alloc (.cells #[.int .i64 kf, .slice none 0 0] 35)).heap.size := Nat.le_trans hB S6.size
        clear hx5 S6 cx
        go_wp2_with (at_builtin; refine push_keep rfl _ _ 24 rfl Tryd.underlying24 _ k _ _ rfl hown (by show Value.slice (some ⟨w5.heap.size + 1, 0, none⟩) 1 1 = _; simp) hB6 (by omega) ?_; intro v' w7 h1 h2 h3; have fq0 := h3 _ _ fp0 hne; have fq1 := h3 _ _ fp1 hne; obtain ⟨ev0, ev1, ev2, ev3⟩ := EV.below h2 (Nat.lt_succ_self _))
        have h3' : w7.ownsRow (w1.heap.size + 1) 3 1 v' (k + 1) ((rowL k fun i => (X i) * stepOf qp).map (Value.int .i64) ++ [.int .i64 y]) := h1
        have RV7 := RV.below h2 (show w.heap.size < w1.heap.size + 1 by omega)
        have EW7 : Ext w w7 := EW.of_below h2 (by omega)
        have hB7 : w1.heap.size + 1 ≤ w7.heap.size := Nat.le_trans hB6 h2.size
        have EV7 : EVar w7 w1.heap.size 0 := ⟨ev0, ev1, ev2, ev3⟩
        clear h1 h2 h3 hown hne hB6 hB fp0 fp1 RV EV EW
        go_wp2
        go_roundw
        case measure => simp [intOf]; omega
        case rel =>
          have sb : Below w1.heap.size w7 ((w7.setCell ⟨w1.heap.size, 0, none⟩ (.int .i64 kf)).setCell ⟨w1.heap.size, 1, none⟩ (.slice none 0 0)) := ((Below.refl w1.heap.size w7).setCell (p := ⟨w1.heap.size, 0, none⟩) (Nat.le_refl _) _).setCell (p := ⟨w1.heap.size, 1, none⟩) (Nat.le_refl _) _
          refine ⟨k + 1, kf, by omega, by go_num, ?_, (EW7.setCell (p := ⟨w1.heap.size, 0, none⟩) (Nat.le_of_lt hsz1) _).setCell (p := ⟨w1.heap.size, 1, none⟩) (Nat.le_of_lt hsz1) _, RV7.below sb hsz1, EV7.set, Nat.le_trans hB7 sb.size⟩
          rcases HK.out with ⟨rfl, hp, rfl⟩ | ⟨rfl, hp⟩
          · refine Or.inl ⟨rfl, fun j hj => ?_, ?_⟩
            · by_cases hjk : j = k
              · subst hjk; rw [HX.out]; exact hp
              · exact HP.out j (by omega)
            · have e : (rowL (k + 1) fun i => (X i) * stepOf qp).map (Value.int .i64) = (rowL k fun i => (X i) * stepOf qp).map (Value.int .i64) ++ [.int .i64 (x * stepOf qp)] := by
                rw [rowL_succ, List.map_append, HX.out]
                rfl
              rw [e]
              exact ownsRow_setCell_below (ownsRow_setCell_below h3' (a := ⟨w1.heap.size, 0, none⟩) (Nat.lt_succ_self _) _) (a := ⟨w1.heap.size, 1, none⟩) (Nat.lt_succ_self _) _
          · exact Or.inr ⟨rfl, k, hlt, by rw [HX.out]; exact hp⟩
      · have hkn : N = k := by omega
        subst hkn
        obtain ⟨p0, p1, -, -⟩ := id EV
        go_wp2_with fail
        refine (ok_any 0 _ _).mono ?_; rintro e wB ⟨rfl, hxA⟩
        have RV := RV.ext hxA
        have EV := EV.ext hxA
        have EW : Ext w wB := EW.trans hxA
        have hown := own_extl hown hxA
        clear hxA p0 p1
        rw [show ((0 : Int) == 0) = true from rfl]
        have ho2 := own_extl (ownsRow_setCell_below (ownsRow_setCell_below hown (a := ⟨w.heap.size, 0, none⟩) (Nat.lt_succ_of_lt hsz1) (.int .i64 0)) (a := ⟨w.heap.size, 1, none⟩) (Nat.lt_succ_of_lt hsz1) (.slice none 0 0)) ((Ext.refl _).drew)
        obtain ⟨r0, r1, f0, f1⟩ := RV
        obtain ⟨p0, p1, -, -⟩ := EV
        go_wp2
        go_region
        go_wp2
        obtain ⟨e0, e1⟩ := res_cells (c := 0) r0 r1 (.slice none 0 0)
        refine bodyPost_ret (v := .tuple #[u8, .agg #[.int .i64 0, .slice none 0 0]]) (by simp [results, Tryd.results20, go_sem, e0, e1]) rfl ⟨_, _, rfl, ((EW.setCell (p := ⟨w.heap.size, 0, none⟩) (Nat.le_refl _) _).setCell (p := ⟨w.heap.size, 1, none⟩) (Nat.le_refl _) _).drew, ?_⟩
        rw [hy.out HP.out]
        exact ⟨Ints.of_row ho2 (by omega), rfl⟩
    · clear HH
      obtain ⟨p0, p1, -, -⟩ := id EV
      go_wp2_with fail
      refine (ok_any 3 _ _).mono ?_; rintro e wA ⟨rfl, hxA⟩
      have RV := RV.ext hxA
      have EV := EV.ext hxA
      have EW : Ext w wA := EW.trans hxA
      clear hxA p0 p1
      rw [show ((3 : Int) == 0) = false from rfl]
      obtain ⟨p0, p1, -, -⟩ := id EV
      go_wp2_with fail
      refine (ok_any 3 _ _).mono ?_; rintro e wB ⟨rfl, hxA⟩
      have RV := RV.ext hxA
      have EV := EV.ext hxA
      have EW : Ext w wB := EW.trans hxA
      clear hxA p0 p1
      rw [show ((3 : Int) == 0) = false from rfl]
      obtain ⟨r0, r1, f0, f1⟩ := RV
      obtain ⟨p0, p1, -, -⟩ := EV
      go_wp2
      go_region
      go_wp2
      obtain ⟨e0, e1⟩ := res_cells (c := 3) r0 r1 (.slice none 0 0)
      refine bodyPost_ret (v := .tuple #[.slice none 0 0, .agg #[.int .i64 3, .slice none 0 0]]) (by simp [results, Tryd.results20, go_sem, e0, e1]) rfl ⟨_, _, rfl, ((EW.setCell (p := ⟨w.heap.size, 0, none⟩) (Nat.le_refl _) _).setCell (p := ⟨w.heap.size, 1, none⟩) (Nat.le_refl _) _).drew, ?_⟩
      rw [hn.out hbad]
      exact ⟨rfl, rfl⟩
theorem rLevels_any (zs : List Int) (qp : Int) (v : Value) (w : World) (hN : zs.length ≤ 5000) (ha : Ints w v zs) :
    Calls Tryd.prog 18 #[v, .int .i64 qp] w (RLPost w (ansLevel zs qp) (rowL zs.length fun i => levelOf (zs.getD i 0) qp)) := by
  by_cases h : okQ qp
  · refine rLevels_ok zs.length (fun i => zs.getD i 0) qp v w hN (by rw [rowL_getD]; exact ha) h _ (fun hp => ?_) (fun hp => ?_)
    · unfold ansLevel
      rw [if_pos ⟨h, hp⟩]
    · unfold ansLevel
      obtain ⟨i, hi, hp⟩ := hp
      rw [if_neg (fun hh => hp (hh.2 i hi))]
  · have := rLevels_no zs qp v w h ha (rowL zs.length fun i => levelOf (zs.getD i 0) qp)
    unfold ansLevel
    rw [if_neg (fun hh => h hh.1)]
    exact this
theorem ansLevel_ok {zs : List Int} {qp : Int} : ∀ k', ansLevel zs qp = some k' → k' ≠ 0 := by
  intro k' h
  unfold ansLevel at h
  split at h
  · cases h
  · obtain rfl := Option.some.inj h
    decide
theorem rValues_any (zs : List Int) (qp : Int) (v : Value) (w : World) (hN : zs.length ≤ 5000) (ha : Ints w v zs) :
    Calls Tryd.prog 20 #[v, .int .i64 qp] w (RLPost w (ansValue zs qp) (rowL zs.length fun i => (zs.getD i 0) * stepOf qp)) := by
  by_cases h : okQ qp
  · refine rValues_ok zs.length (fun i => zs.getD i 0) qp v w hN (by rw [rowL_getD]; exact ha) h _ (fun hp => ?_) (fun hp => ?_)
    · unfold ansValue
      rw [if_pos ⟨h, hp⟩]
    · unfold ansValue
      obtain ⟨i, hi, hp⟩ := hp
      rw [if_neg (fun hh => hp (hh.2 i hi))]
  · have := rValues_no zs qp v w h ha (rowL zs.length fun i => (zs.getD i 0) * stepOf qp)
    unfold ansValue
    rw [if_neg (fun hh => h hh.1)]
    exact this
theorem ansValue_ok {zs : List Int} {qp : Int} : ∀ k', ansValue zs qp = some k' → k' ≠ 0 := by
  intro k' h
  unfold ansValue at h
  split at h
  · cases h
  · obtain rfl := Option.some.inj h
    decide
end Go.Proofs.YtckhilnjkckabaaDoor
