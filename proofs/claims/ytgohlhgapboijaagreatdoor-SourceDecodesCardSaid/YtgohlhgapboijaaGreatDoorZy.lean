/- Contracts of this seat: Pk, Rdf. -/
import Derived.Test.YtgohlhgapboijaaGreatDoorZb
import Derived.Test.YtgohlhgapboijaaGreatDoorZv
import Derived.Test.YtgohlhgapboijaaGreatDoorZq
import Derived.BigRegion
import Derived.RegionTactic
/- An append of one int, and what it leaves of blocks of other types. -/
namespace Go.Proofs.YtgohlhgapboijaaGreatDoor
set_option linter.unusedVariables false
set_option linter.unusedSimpArgs false
open Go.RowKit Go.Extern.Stop Go.Stop Go.Extern

theorem push_grow {ops : Array Oper} {rest : List Oper} {o : Oper} {a : Act} {Q : Exit → Act → World → Prop} {W : World} {base : Nat} (hgd : o.guard = none) (s y : Operand) (t : TypeId)
    (ho : o.op = .call { callee := .builtin .append, args := #[s, y], argTypes := #[t, t] }) (ht : Tryz.prog.underlying t = some (.slice 3))
    (v : Value) (n : Nat) (xs : List Value) (x : Int) (hs : a.eval s = v) (hown : W.ownsRow base 3 1 v n xs) (hx : a.eval y = .slice (some ⟨W.heap.size, 0, none⟩) 1 1) (hb : base ≤ W.heap.size) (hn : n ≤ 1000000000000)
    (h : ∀ v' w', w'.ownsRow base 3 1 v' (n + 1) (xs ++ [.int .i64 x]) → Below base W w' → W.grownBy w' v.ownBlock → wpList Tryz.prog ops Q rest (a.put o.dst v') w') :
    wpList Tryz.prog ops Q (o :: rest) a (W.alloc (.cells #[.int .i64 x] 3)) := by
  obtain ⟨i0, hi, hz0, hz1, hz2⟩ := info_parts infoInt
  refine wpList_append_own _ hgd s y t ho base 3 i0 (.int .i64 0) 1 8 ht hi hz0 hz1 hz2 rfl (by decide) v n xs hs (hown.alloc _) ⟨W.heap.size, 0, none⟩ 1 1 [.int .i64 x] hx rfl (cell_one_new _ _ _) (one_int _) (by unfold maxLen; omega) (by omega) (by simp; omega) ?_
  intro v' w' h1 h2 _
  refine h v' w' h1 (Below.grown ((Below.refl base W).alloc hb _) h2 (by simp; omega) (fun k hk => (hown.lt k hk).1)) ?_
  have g := World.grownBy_alloc W (.cells #[.int .i64 x] 3) v.ownBlock
  exact ⟨h2.os.trans g.os, h2.tape.trans g.tape, h2.output.trans g.output, Nat.le_trans g.size h2.size, fun k hk hne => (h2.block k (Nat.lt_of_lt_of_le hk g.size) hne).trans (g.block k hk hne)⟩
/-- a block known whole -/
def BoxIs (w : World) (b : Nat) (cs : Array Value) (T : TypeId) : Prop := w.heap[b]? = some (.cells cs T (0, 0))
theorem BoxIs.new (w : World) (cs : Array Value) (T : TypeId) : BoxIs (w.alloc (.cells cs T)) w.heap.size cs T := heap_alloc_new w _
theorem BoxIs.lt {w : World} {b : Nat} {cs : Array Value} {T : TypeId} (h : BoxIs w b cs T) : b < w.heap.size := (Array.getElem?_eq_some_iff.1 h).1
theorem BoxIs.ext {w w' : World} {b : Nat} {cs : Array Value} {T : TypeId} (h : BoxIs w b cs T) (k : Ext w w') : BoxIs w' b cs T := (k.block h.lt).trans h
theorem BoxIs.cell {w : World} {b i : Nat} {cs : Array Value} {T : TypeId} {v : Value} (h : BoxIs w b cs T) (hi : cs[i]? = some v) : w.cell? ⟨b, i, none⟩ = some v := by
  unfold BoxIs at h
  simp [World.cell?, h, hi]
theorem BoxIs.free {w : World} {b i : Nat} {cs : Array Value} {T : TypeId} (h : BoxIs w b cs T) : w.frozen? ⟨b, i, none⟩ = false := by
  unfold BoxIs at h
  simp [World.frozen?, h]
theorem BoxIs.apart {w : World} {b : Nat} {cs : Array Value} {T : TypeId} (h : BoxIs w b cs T) {base : Nat} {e : TypeId} {size : Nat} {v : Value} {n : Nat} {xs : List Value} (k : w.ownsRow base e size v n xs) (hT : T ≠ e) : some b ≠ v.ownBlock := by
  intro hb
  rcases k.2 with ⟨rfl, -⟩ | ⟨g, cap, cur, rfl, -, hg, -⟩
  · simp [Value.ownBlock] at hb
  · simp only [Value.ownBlock, Option.some.injEq] at hb
    subst hb
    unfold BoxIs at h
    rw [h] at hg
    simp only [Option.some.injEq, Obj.cells.injEq] at hg
    exact hT hg.2.1
theorem BoxIs.grown {w w' : World} {b : Nat} {cs : Array Value} {T : TypeId} (h : BoxIs w b cs T) {base : Nat} {e : TypeId} {size : Nat} {v : Value} {n : Nat} {xs : List Value} (k : w.ownsRow base e size v n xs) (hT : T ≠ e) (hg : w.grownBy w' v.ownBlock) : BoxIs w' b cs T :=
  (hg.block b h.lt (h.apart k hT)).trans h
end Go.Proofs.YtgohlhgapboijaaGreatDoor

/- kinref15.frame. -/
namespace Go.Proofs.YtgohlhgapboijaaGreatDoor
set_option linter.unusedVariables false
set_option linter.unusedSimpArgs false
open Go.RowKit Go.Extern.Stop Go.Stop Go.Extern

theorem rerr_form15 {w : World} {f : Fall} {c : Int} {u : Value} (h : RErrIs w f c u) : ∃ a n k, u = .slice a n k := by
  cases f with
  | none => exact ⟨_, _, _, h.2⟩
  | some a =>
    obtain ⟨-, -, h3⟩ := h
    obtain ⟨a, k, rfl⟩ := h3.form
    exact ⟨_, _, _, rfl⟩
/-- a path lies in no block without strings -/
theorem rerr_kp {w w' : World} {f : Fall} {c : Int} {u : Value} {R : Nat} {cs : Array Value} {T : TypeId} (h : RErrIs w f c u) (hb : BoxIs w R cs T) (hcs : ∀ (i : Nat) (s : ByteArray), cs[i]? ≠ some (Value.string s)) (k : Kp R w w') : RErrIs w' f c u := by
  cases f with
  | none => exact h
  | some a =>
    obtain ⟨p, d⟩ := a
    obtain ⟨h1, h2, a, cap, e, h3, h4, h5, h6⟩ := h
    refine ⟨h1, h2, a, cap, e, h3, h4, h5, fun g off ha j u hu => ?_⟩
    have hg : g ≠ R := by
      intro hg
      subst hg
      cases p with
      | nil => simp [stepCells] at hu
      | cons s p =>
        have := h6 g off ha 0 (.string s.1) rfl
        rw [Nat.add_zero] at this
        unfold BoxIs at hb
        simp only [World.cell?, hb] at this
        exact hcs off s.1 this
    exact k.cell (h6 g off ha j u hu) hg
theorem BoxIs.kp {w w' : World} {b d : Nat} {cs : Array Value} {T : TypeId} (h : BoxIs w b cs T) (k : Kp d w w') (hb : b ≠ d) : BoxIs w' b cs T := (k.block h.lt hb).trans h
theorem BoxIs.below {w w' : World} {b B : Nat} {cs : Array Value} {T : TypeId} (h : BoxIs w b cs T) (k : Below B w w') (hb : b < B) : BoxIs w' b cs T := (Below.block k b hb).trans h
theorem BoxIs.set {w : World} {b i : Nat} {cs : Array Value} {T : TypeId} (h : BoxIs w b cs T) (v : Value) : BoxIs (w.setCell ⟨b, i, none⟩ v) b (cs.setIfInBounds i v) T := heap_setCell_same w b i cs T v h
theorem RqAt.below {w w' : World} {b p B0 B : Nat} {bs : List Nat} (h : RqAt w b bs p B0) (k : Below B w w') (hb : b < B) : RqAt w' b bs p B0 :=
  h.mono (fun i hi => Below.block k i (by have := h.base; omega)) (Below.block k b hb)
theorem Kp.below {b B : Nat} {u v w : World} (h : Kp b u v) (k : Below B v w) (hB : u.heap.size ≤ B) (hs : v.heap.size ≤ w.heap.size) : Kp b u w := by
  obtain ⟨h1, h2, h3, h4, h5⟩ := h
  exact ⟨(Below.os k).trans h1, (Below.tape k).trans h2, (Below.output k).trans h3, Nat.le_trans h4 hs, fun i hi hn => (Below.block k i (by omega)).trans (h5 i hi hn)⟩
abbrev fz : Array Value := #[.int .i64 0, .int .i64 0, .slice none 0 0]
/-- what kinref15.frame answers -/
def RfrQ (w : World) (b B0 : Nat) (bs : List Nat) (W H : Nat) (R : Fall × List Int × Nat) (e : Ending) (w' : World) : Prop :=
  ∃ x y sa sn sk c u, e = .returned (.tuple #[.agg #[.int .i64 x, .int .i64 y, .slice sa sn sk], .agg #[.int .i64 c, u]]) ∧ Kp b w w' ∧ RqAt w' b bs R.2.2 B0 ∧ RErrIs w' R.1 c u ∧
    (R.1 = none → x = (W : Int) ∧ y = (H : Int) ∧ w'.ownsRow w.heap.size 3 1 (.slice sa sn sk) (W * H) (R.2.1.map (Value.int .i64)))
/-- the world behind the stores into both results -/
def setRF (wz : World) (R : Nat) (x y : Int) (s : Value) (c : Int) (u : Value) : World :=
  ((((wz.setCell ⟨R, 0, none⟩ (.int .i64 x)).setCell ⟨R, 1, none⟩ (.int .i64 y)).setCell ⟨R, 2, none⟩ s).setCell ⟨R + 1, 0, none⟩ (.int .i64 c)).setCell ⟨R + 1, 1, none⟩ u
theorem setRF_kp {wz : World} {R : Nat} (x y : Int) (s : Value) : Kp R wz (((wz.setCell ⟨R, 0, none⟩ (.int .i64 x)).setCell ⟨R, 1, none⟩ (.int .i64 y)).setCell ⟨R, 2, none⟩ s) := (((Kp.refl R wz).set 0 _).set 1 _).set 2 _
theorem setRF_end {w wz : World} {b B0 q : Nat} {bs : List Nat} {f : Fall} {c : Int} {u : Value} (hb : BoxIs wz w.heap.size fz 48) (h1 : RBox wz (w.heap.size + 1)) (hq : RqAt wz b bs q B0) (hk : Kp b w wz) (he : RErrIs wz f c u) (hbw : b < w.heap.size) (x y : Int) (s : Value) :
    (((setRF wz w.heap.size x y s c u).cell? ⟨w.heap.size, 0, none⟩ = some (.int .i64 x) ∧ (setRF wz w.heap.size x y s c u).cell? ⟨w.heap.size, 1, none⟩ = some (.int .i64 y) ∧ (setRF wz w.heap.size x y s c u).cell? ⟨w.heap.size, 2, none⟩ = some s) ∧ (setRF wz w.heap.size x y s c u).cell? ⟨w.heap.size + 1, 0, none⟩ = some (.int .i64 c) ∧ (setRF wz w.heap.size x y s c u).cell? ⟨w.heap.size + 1, 1, none⟩ = some u) ∧
      Kp b w (setRF wz w.heap.size x y s c u) ∧ RqAt (setRF wz w.heap.size x y s c u) b bs q B0 ∧ RErrIs (setRF wz w.heap.size x y s c u) f c u := by
  have hb0 := hq.base
  have k1 := setRF_kp (wz := wz) (R := w.heap.size) x y s
  have hB1 : RBox (((wz.setCell ⟨w.heap.size, 0, none⟩ (.int .i64 x)).setCell ⟨w.heap.size, 1, none⟩ (.int .i64 y)).setCell ⟨w.heap.size, 2, none⟩ s) (w.heap.size + 1) := h1.kp k1 (by omega)
  have hF : BoxIs (((wz.setCell ⟨w.heap.size, 0, none⟩ (.int .i64 x)).setCell ⟨w.heap.size, 1, none⟩ (.int .i64 y)).setCell ⟨w.heap.size, 2, none⟩ s) w.heap.size #[.int .i64 x, .int .i64 y, s] 48 := ((hb.set (i := 0) (.int .i64 x)).set (i := 1) (.int .i64 y)).set (i := 2) s
  have hE := rerr_kp he hb (fun i t => by rcases i with _ | _ | _ | i <;> simp) k1
  have hE2 := hE.box hB1 (.int .i64 c) u
  have hK : Kp b w (((wz.setCell ⟨w.heap.size, 0, none⟩ (.int .i64 x)).setCell ⟨w.heap.size, 1, none⟩ (.int .i64 y)).setCell ⟨w.heap.size, 2, none⟩ s) := ((hk.fresh (Nat.le_refl _) 0 _).fresh (Nat.le_refl _) 1 _).fresh (Nat.le_refl _) 2 _
  have hK2 := (hK.fresh (Nat.le_succ w.heap.size) 0 (.int .i64 c)).fresh (Nat.le_succ w.heap.size) 1 u
  have hQ := hq.kp k1 (by omega) (by omega)
  have hQ2 := (hQ.fresh (R := w.heap.size + 1) (by omega) (by omega) 0 (.int .i64 c)).fresh (R := w.heap.size + 1) (by omega) (by omega) 1 u
  unfold setRF
  generalize ((wz.setCell ⟨w.heap.size, 0, none⟩ (.int .i64 x)).setCell ⟨w.heap.size, 1, none⟩ (.int .i64 y)).setCell ⟨w.heap.size, 2, none⟩ s = w3 at *
  have kS : Kp (w.heap.size + 1) w3 ((w3.setCell ⟨w.heap.size + 1, 0, none⟩ (.int .i64 c)).setCell ⟨w.heap.size + 1, 1, none⟩ u) := ((Kp.refl (w.heap.size + 1) w3).set 0 _).set 1 _
  have hF2 := hF.kp kS (by omega)
  obtain ⟨g0, g1, -, -⟩ := hB1.res
  obtain ⟨y0, y1⟩ := res_cells g0 g1 (c := c) u
  exact ⟨⟨⟨hF2.cell rfl, hF2.cell rfl, hF2.cell rfl⟩, y0, y1⟩, hK2, hQ2, hE2⟩
/-- the state of the loop: the frame's box V + 1, the error's V, both results, the reader, the row -/
def DfAt (w0 wr : World) (b B0 V : Nat) (bs : List Nat) (W H i : Nat) (zs : List Int) (v : Value) (q : Nat) : Prop :=
  (BoxIs wr (V + 1) #[.int .i64 (W : Int), .int .i64 (H : Int), v] 48 ∧ BoxIs wr V #[.int .i64 0, .slice none 0 0] 34 ∧ BoxIs wr w0.heap.size fz 48 ∧ RBox wr (w0.heap.size + 1)) ∧
    (RqAt wr b bs q B0 ∧ q ≤ 8 * bs.length) ∧ Kp b w0 wr ∧ wr.ownsRow (V + 2) 3 1 v i (zs.map (Value.int .i64)) ∧ (zs.length = i ∧ Byt zs) ∧ V + 2 ≤ wr.heap.size
theorem DfAt.ext {w0 wr w' : World} {b B0 V W H i q : Nat} {bs : List Nat} {zs : List Int} {v : Value} (h : DfAt w0 wr b B0 V bs W H i zs v q) (k : Ext wr w') : DfAt w0 w' b B0 V bs W H i zs v q := by
  obtain ⟨⟨h1, h2, h3, h4⟩, ⟨r1, r2⟩, h5, h6, h7, h8⟩ := h
  exact ⟨⟨h1.ext k, h2.ext k, h3.ext k, h4.ext k⟩, ⟨r1.ext k, r2⟩, h5.ext k, own_ext h6 k, h7, Nat.le_trans h8 k.size⟩
theorem DfAt.kp {w0 wr w' : World} {b B0 V W H i q q' : Nat} {bs : List Nat} {zs : List Int} {v : Value} (h : DfAt w0 wr b B0 V bs W H i zs v q) (k : Kp b wr w') (hr : RqAt w' b bs q' B0) (hq : q' ≤ 8 * bs.length) (hb : b < w0.heap.size) (hV : w0.heap.size + 1 < V) : DfAt w0 w' b B0 V bs W H i zs v q' := by
  obtain ⟨⟨h1, h2, h3, h4⟩, -, h5, h6, h7, h8⟩ := h
  exact ⟨⟨h1.kp k (by omega), h2.kp k (by omega), h3.kp k (by omega), h4.kp k (by omega)⟩, ⟨hr, hq⟩, h5.trans k, own_kp h6 k (fun g hg => by have := (h6.lt g hg).1; omega), h7, Nat.le_trans h8 k.size⟩
theorem DfAt.push {w0 wr w' : World} {b B0 V W H i q : Nat} {bs : List Nat} {zs : List Int} {v v' : Value} {x : Int} (h : DfAt w0 wr b B0 V bs W H i zs v q) (k : Below (V + 2) wr w') (o : w'.ownsRow (V + 2) 3 1 v' (i + 1) (zs.map (Value.int .i64) ++ [.int .i64 x])) (hx : 0 ≤ x ∧ x ≤ 255) (hb : b < w0.heap.size) (hV : w0.heap.size + 1 < V) :
    DfAt w0 (w'.setCell ⟨V + 1, 2, none⟩ v') b B0 V bs W H (i + 1) (zs ++ [x]) v' q := by
  obtain ⟨⟨h1, h2, h3, h4⟩, ⟨r1, r2⟩, h5, h6, ⟨h7, h9⟩, h8⟩ := h
  have kS : Kp (V + 1) w' (w'.setCell ⟨V + 1, 2, none⟩ v') := (Kp.refl (V + 1) w').set 2 _
  have hb0 := r1.base
  have hsz : wr.heap.size ≤ w'.heap.size := Below.size k
  have m1 : BoxIs (w'.setCell ⟨V + 1, 2, none⟩ v') (V + 1) #[.int .i64 (W : Int), .int .i64 (H : Int), v'] 48 := (h1.below k (by omega)).set (i := 2) v'
  refine ⟨⟨m1, (h2.below k (by omega)).kp kS (by omega), (h3.below k (by omega)).kp kS (by omega), (show RBox w' (w0.heap.size + 1) from BoxIs.below h4 k (by omega)).kp kS (by omega)⟩, ⟨(r1.below k (by omega)).kp kS (by omega) (by omega), r2⟩, (Kp.below h5 k (by omega) hsz).fresh (R := V + 1) (by omega) 2 v', ?_, ⟨by simp [h7], byt_snoc h9 hx⟩, ?_⟩
  · rw [List.map_append]
    exact ownsRow_setCell_below o (a := ⟨V + 1, 2, none⟩) (Nat.lt_succ_self _) v'
  · have := kS.size
    omega
theorem rfr_size {w0 wr : World} {b B0 V W H i q : Nat} {bs : List Nat} {zs : List Int} {v : Value} (h : DfAt w0 wr b B0 V bs W H i zs v q) : V + 2 ≤ wr.heap.size := h.2.2.2.2.2
set_option maxHeartbeats 8000000 in
set_option maxRecDepth 100000 in
theorem rfr_any (b p B0 W H : Nat) (bs : List Nat) (w : World) (h : RqAt w b bs p B0) (hp : p ≤ 8 * bs.length) (hW : 8 ≤ W ∧ W ≤ 32) (hH : 8 ≤ H ∧ H ≤ 32) :
    Calls Tryz.prog 39 #[.pointer (some ⟨b, 0, none⟩), .int .i64 (W : Int), .int .i64 (H : Int)] w (RfrQ w b B0 bs W H (rdFr bs W H p)) := by
  have hbw : b < w.heap.size := h.lt
  have hb0 : B0 ≤ b := h.base
  have hWH : W * H ≤ 32 * 32 := Nat.mul_le_mul hW.2 hH.2
  obtain ⟨n, hn⟩ : ∃ n, W * H = n := ⟨_, rfl⟩
  have HNN := Lib.hid hn
  have mn : IntKind.i64.wrap ((W : Int) * (H : Int)) = (n : Int) := by
    have : (W : Int) * (H : Int) = (n : Int) := by rw [← hn]; simp
    rw [this, IntKind.wrap_i64]
    omega
  have hn1 : n ≤ 1024 := by omega
  have E0 : Ext w ((w.alloc (.cells fz 48)).alloc (.cells #[.int .i64 0, .slice none 0 0] 34)) := ((Ext.refl w).alloc _).alloc _
  have hsz0 : (w.alloc (.cells fz 48)).heap.size = w.heap.size + 1 := by simp
  have HR0 : Hid (BoxIs ((w.alloc (.cells fz 48)).alloc (.cells #[.int .i64 0, .slice none 0 0] 34)) w.heap.size fz 48) := (BoxIs.new w fz _).ext ((Ext.refl _).alloc _)
  have HR1 : Hid (RBox ((w.alloc (.cells fz 48)).alloc (.cells #[.int .i64 0, .slice none 0 0] 34)) (w.heap.size + 1)) := by
    have := RBox.new (w.alloc (.cells fz 48))
    rw [hsz0] at this
    exact this
  have UG := Lib.hid (rqget_any b p B0 3 bs _ (h.ext E0) hp)
  have HK0 := Lib.hid (Kp.of_ext (b := b) E0)
  have HPP := Lib.hid hp
  clear h hp E0 hsz0 hWH
  go_enter Tryz.func39, Tryz.ntmps39
  go_wp2_with fail
  refine UG.out.mono ?_; rintro e w1 ⟨c1, u1, rfl, k1, r1, e1⟩
  obtain ⟨ua, un, uc, rfl⟩ := rerr_form15 e1
  have E2 : Ext w1 ((w1.alloc (.cells #[.int .i64 c1, .slice ua un uc] 34)).alloc (.cells #[.int .i64 (W : Int), .int .i64 (H : Int), .slice none 0 0] 48)) := ((Ext.refl w1).alloc _).alloc _
  have hsz1 : (w1.alloc (.cells #[.int .i64 c1, .slice ua un uc] 34)).heap.size = w1.heap.size + 1 := by simp
  have hsz2 : ((w1.alloc (.cells #[.int .i64 c1, .slice ua un uc] 34)).alloc (.cells #[.int .i64 (W : Int), .int .i64 (H : Int), .slice none 0 0] 48)).heap.size = w1.heap.size + 2 := by simp
  have HV : Hid (BoxIs ((w1.alloc (.cells #[.int .i64 c1, .slice ua un uc] 34)).alloc (.cells #[.int .i64 (W : Int), .int .i64 (H : Int), .slice none 0 0] 48)) w1.heap.size #[.int .i64 c1, .slice ua un uc] 34) := (BoxIs.new w1 _ _).ext ((Ext.refl _).alloc _)
  have HD : Hid (BoxIs ((w1.alloc (.cells #[.int .i64 c1, .slice ua un uc] 34)).alloc (.cells #[.int .i64 (W : Int), .int .i64 (H : Int), .slice none 0 0] 48)) (w1.heap.size + 1) #[.int .i64 (W : Int), .int .i64 (H : Int), .slice none 0 0] 48) := by
    have := BoxIs.new (w1.alloc (.cells #[.int .i64 c1, .slice ua un uc] 34)) #[.int .i64 (W : Int), .int .i64 (H : Int), .slice none 0 0] 48
    rw [hsz1] at this
    exact this
  have HQ2 := Lib.hid (r1.ext E2)
  have HE2 := Lib.hid (e1.ext E2)
  have HR02 := Lib.hid ((HR0.out.kp k1 (by omega)).ext E2)
  have HR12 := Lib.hid ((HR1.out.kp k1 (by omega)).ext E2)
  have HK2 := Lib.hid ((HK0.out.trans k1).ext E2)
  have hlt1 : w.heap.size + 1 < w1.heap.size := by
    have := (HR1.out.kp k1 (by omega)).lt
    exact this
  have HSZ2 := Lib.hid hsz2
  clear k1 r1 e1 E2 hsz1 hsz2 HR0 HR1 UG HK0
  go_wp2_with fail
  revert HV HD HQ2 HE2 HR02 HR12 HK2 HSZ2
  generalize (w1.alloc _).alloc _ = w2
  generalize w1.heap.size = V at *
  intro HV HD HQ2 HE2 HR02 HR12 HK2 HSZ2
  cases hf : rdF bs p 3 with
  | some fc =>
    have HR : Hid (rdFr bs W H p = (some fc, [], rdP bs p 3)) := by show _ = _; unfold rdFr; rw [if_neg (by rw [hf]; simp), hf]
    rw [hf] at HE2
    have hcz : (c1 == 0) = false := by
      have := HE2.out.2.1
      rw [← HE2.out.1] at this
      simpa using this
    clear hf
    have v0 := HV.out.cell (i := 0) rfl
    have v1 := HV.out.cell (i := 1) rfl
    refine wp_loop_rounds 1 ?_
    rw [rounds_succ]
    go_wp2_with fail
    refine (ok_any c1 _ _).mono ?_; rintro e w3 ⟨rfl, x3⟩
    rw [hcz]
    have HQ3 := Lib.hid (HQ2.out.ext x3)
    have HE3 := Lib.hid (HE2.out.ext x3)
    have HR03 := Lib.hid (HR02.out.ext x3)
    have HR13 := Lib.hid (HR12.out.ext x3)
    have HK3 := Lib.hid (HK2.out.ext x3)
    have a0 := x3.cell v0
    have a1 := x3.cell v1
    have HD3 := HD.out.ext x3
    have d0 := HD3.cell (i := 0) rfl
    have d1 := HD3.cell (i := 1) rfl
    have d2 := HD3.cell (i := 2) rfl
    have HEND := Lib.hid (setRF_end HR03.out HR13.out HQ3.out HK3.out HE3.out hbw (W : Int) (H : Int) (.slice none 0 0))
    obtain ⟨g0, g1, g2, g3⟩ := HR13.out.res
    have z0 := HR03.out.cell (i := 0) rfl
    have z1 := HR03.out.cell (i := 1) rfl
    have z2 := HR03.out.cell (i := 2) rfl
    have f0 := HR03.out.free (i := 0)
    have f1 := HR03.out.free (i := 1)
    have f2 := HR03.out.free (i := 2)
    clear x3 v0 v1 HD3 HQ2 HE2 HR02 HR12 HK2 HV HD
    go_wp2
    go_region
    go_wp2
    obtain ⟨⟨⟨y0, y1, y2⟩, y3, y4⟩, yk, yq, ye⟩ := HEND.out
    have YK := Lib.hid yk
    have YQ := Lib.hid yq
    have YE := Lib.hid ye
    clear yk yq ye
    simp only [setRF] at y0 y1 y2 y3 y4
    exact bodyPost_ret (v := .tuple #[.agg #[.int .i64 (W : Int), .int .i64 (H : Int), .slice none 0 0], .agg #[.int .i64 c1, .slice ua un uc]]) (by simp [results, Tryz.results39, go_sem, y0, y1, y2, y3, y4]) rfl
      ⟨_, _, _, _, _, _, _, rfl, YK.out.ext (Ext.refl _).drew, by rw [HR.out]; exact YQ.out.ext (Ext.refl _).drew, by rw [HR.out]; exact YE.out.ext (Ext.refl _).drew, fun hh => by rw [HR.out] at hh; cases hh⟩
  | none =>
    rw [hf] at HE2
    obtain ⟨hc1, hu1⟩ := HE2.out
    simp only [Value.slice.injEq] at hu1
    obtain ⟨rfl, rfl, rfl⟩ := hu1
    subst hc1
    have HS0 : Hid (DfAt w w2 b B0 V bs W H 0 [] (.slice none 0 0) (rdP bs p 3)) := ⟨⟨HD.out, HV.out, HR02.out, HR12.out⟩, ⟨HQ2.out, rdP_le HPP.out⟩, HK2.out, World.ownsRow_nil _ _ _ _, ⟨rfl, byt_nil⟩, by have := HSZ2.out; omega⟩
    have HRD : Hid (rdFr bs W H p = rdS bs (rdV bs p 3) W n [] (rdP bs p 3)) := by show _ = _; unfold rdFr; rw [if_pos hf, HNN.out]
    generalize rdV bs p 3 = K at *
    generalize rdP bs p 3 = q0 at *
    clear HV HD HQ2 HE2 HR02 HR12 HK2 HSZ2 hf
    go_loopw [11] (fun iv wr => ∃ (i q : Nat) (zs : List Int) (v : Value), i ≤ n ∧ iv = .int .i64 (i : Int) ∧ Hid (DfAt w wr b B0 V bs W H i zs v q) ∧ Hid (rdS bs K W (n - i) zs q = rdS bs K W n [] q0)) (fun iv _ => n - (intOf iv).toNat)
    case atStart => exact ⟨0, q0, [], _, Nat.zero_le _, rfl, HS0, rfl⟩
    case round =>
      clear HS0
      obtain ⟨i, q, zs, v, hi, rfl, HS, HQ⟩ := hrel
      have v0 := HS.out.1.2.1.cell (i := 0) rfl
      have v1 := HS.out.1.2.1.cell (i := 1) rfl
      go_wp2_with fail
      refine (ok_any 0 _ _).mono ?_; rintro e w3 ⟨rfl, x3⟩
      rw [show ((0 : Int) == 0) = true from rfl]
      have HS3 := Lib.hid (HS.out.ext x3)
      clear x3 v0 v1 HS
      by_cases hlt : i < n
      · have t1 : (i : Int) < (n : Int) := by omega
        have UR := Lib.hid (rgetri_any b q B0 K 510 bs w3 HS3.out.2.1.1 HS3.out.2.1.2)
        go_wp2_with fail
        refine UR.out.mono ?_; rintro e w4 ⟨c4, u4, rfl, k4, r4, e4⟩
        obtain ⟨ua, un, uc, rfl⟩ := rerr_form15 e4
        have A5 := (Ext.refl w4).alloc (.cells #[.int .i64 c4, .slice ua un uc] 34)
        have HS5 := Lib.hid ((HS3.out.kp k4 r4 (rgG_le HS3.out.2.1.2) hbw hlt1).ext A5)
        have HE5 := Lib.hid (e4.ext A5)
        have a0 : (w4.alloc (.cells #[.int .i64 c4, .slice ua un uc] 34)).cell? ⟨w4.heap.size, 0, none⟩ = some (.int .i64 c4) := by simp
        have a1 : (w4.alloc (.cells #[.int .i64 c4, .slice ua un uc] 34)).cell? ⟨w4.heap.size, 1, none⟩ = some (.slice ua un uc) := by simp
        have hG4 : V + 2 ≤ w4.heap.size := Nat.le_trans (rfr_size HS3.out) k4.size
        have HM : Hid (∃ m, n - i = m + 1) := ⟨n - i - 1, by omega⟩
        have hcode : (rgG bs q K 510).1 = none → 0 ≤ (rgG bs q K 510).2.1 ∧ (rgG bs q K 510).2.1 ≤ 510 := fun hN => by
          obtain ⟨-, V, hV, -, hV5, -⟩ := rgG_code15 (v := (rgG bs q K 510).2.1) (q := (rgG bs q K 510).2.2) HS3.out.2.1.2 (by rw [← hN])
          omega
        have HRN : Hid (rdS bs K W n [] q0 = if (rgG bs q K 510).1 = none then (if gsI W zs zs.length + unfoldI (rgG bs q K 510).2.1 = clipI (gsI W zs zs.length + unfoldI (rgG bs q K 510).2.1) then rdS bs K W (n - (i + 1)) (zs ++ [gsI W zs zs.length + unfoldI (rgG bs q K 510).2.1]) (rgG bs q K 510).2.2 else (some ([], 3), [], (rgG bs q K 510).2.2)) else ((rgG bs q K 510).1, [], (rgG bs q K 510).2.2)) := by
          show _ = _
          obtain ⟨m, hm⟩ := HM.out
          rw [← HQ.out, hm, show n - (i + 1) = m by omega]
          rfl
        clear k4 r4 e4 A5 UR HS3
        go_wp2_with fail
        revert HS5 HE5 a0 a1 HRN hcode
        generalize w4.alloc _ = w5
        generalize w4.heap.size = G4 at *
        generalize (rgG bs q K 510).2.2 = q5
        generalize (rgG bs q K 510).2.1 = u
        generalize (rgG bs q K 510).1 = F5
        intro HS5 HE5 a0 a1 hcode HRN
        cases F5 with
        | some fc =>
          have hcz : (c4 == 0) = false := by
            have := HE5.out.2.1
            rw [← HE5.out.1] at this
            simpa using this
          have HR : Hid (rdFr bs W H p = (some fc, [], q5)) := by
            show _ = _
            rw [HRD.out, HRN.out, if_neg (by simp)]
          clear hcode HRN
          go_wp2_with fail
          refine (ok_any c4 _ _).mono ?_; rintro e w6 ⟨rfl, x6⟩
          rw [hcz]
          have b0 := x6.cell a0
          have b1 := x6.cell a1
          have HS6 := Lib.hid (HS5.out.ext x6)
          have HE3 := Lib.hid (HE5.out.ext x6)
          have HR03 := Lib.hid HS6.out.1.2.2.1
          have HR13 := Lib.hid HS6.out.1.2.2.2
          have HEND := Lib.hid (setRF_end HR03.out HR13.out HS6.out.2.1.1 HS6.out.2.2.1 HE3.out hbw 0 0 (.slice none 0 0))
          clear x6 a0 a1 HS5 HE5
          obtain ⟨g0, g1, g2, g3⟩ := HR13.out.res
          have z0 := HR03.out.cell (i := 0) rfl
          have z1 := HR03.out.cell (i := 1) rfl
          have z2 := HR03.out.cell (i := 2) rfl
          have f0 := HR03.out.free (i := 0)
          have f1 := HR03.out.free (i := 1)
          have f2 := HR03.out.free (i := 2)
          have hn0 : ¬ w.heap.size = G4 := by omega
          have hn1 : ¬ w.heap.size + 1 = G4 := by omega
          go_wp2
          go_region
          go_wp2
          obtain ⟨⟨⟨y0, y1, y2⟩, y3, y4⟩, yk, yq, ye⟩ := HEND.out
          have YK := Lib.hid yk
          have YQ := Lib.hid yq
          have YE := Lib.hid ye
          clear yk yq ye
          simp only [setRF] at y0 y1 y2 y3 y4
          exact bodyPost_ret (v := .tuple #[.agg #[.int .i64 0, .int .i64 0, .slice none 0 0], .agg #[.int .i64 c4, .slice ua un uc]]) (by simp [results, Tryz.results39, go_sem, y0, y1, y2, y3, y4]) rfl
            ⟨_, _, _, _, _, _, _, rfl, YK.out.ext (Ext.refl _).drew, by rw [HR.out]; exact YQ.out.ext (Ext.refl _).drew, by rw [HR.out]; exact YE.out.ext (Ext.refl _).drew, fun hh => by rw [HR.out] at hh; cases hh⟩
        | none =>
          obtain ⟨hc4, hu4⟩ := HE5.out
          simp only [Value.slice.injEq] at hu4
          obtain ⟨rfl, rfl, rfl⟩ := hu4
          subst hc4
          have hu9 := hcode rfl
          have HRN2 : Hid (rdS bs K W n [] q0 = if gsI W zs zs.length + unfoldI u = clipI (gsI W zs zs.length + unfoldI u) then rdS bs K W (n - (i + 1)) (zs ++ [gsI W zs zs.length + unfoldI u]) q5 else (some ([], 3), [], q5)) := by
            show _ = _
            rw [HRN.out, if_pos rfl]
          clear hcode HRN HE5
          go_wp2_with fail
          refine (ok_any 0 _ _).mono ?_; rintro e w6 ⟨rfl, x6⟩
          rw [show ((0 : Int) == 0) = true from rfl]
          have HS6 := Lib.hid (HS5.out.ext x6)
          clear x6 a0 a1 HS5
          obtain ⟨va, vc, rfl⟩ := own_slice HS6.out.2.2.2.1
          have hzl := HS6.out.2.2.2.2.1.1
          have hbyt := HS6.out.2.2.2.2.1.2
          have HI : Hid (Ints w6 (.slice va i vc) zs) := by
            have := Ints.of_owns HS6.out.2.2.2.1 (by omega)
            exact this
          obtain ⟨x, hx⟩ : ∃ x, i % W = x := ⟨_, rfl⟩
          obtain ⟨y, hy⟩ : ∃ y, i / W = y := ⟨_, rfl⟩
          obtain ⟨A, hA0⟩ : ∃ A, y * W = A := ⟨_, rfl⟩
          have hdm : A + x = i := by
            have := Nat.div_add_mod i W
            rw [Nat.mul_comm, hx, hy, hA0] at this
            exact this
          have hxW : x < W := by rw [← hx]; exact Nat.mod_lt _ (by omega)
          have hyH : y ≤ 32 := by
            by_cases hyy : y ≤ 32
            · exact hyy
            · exfalso
              have h2 : 33 * W ≤ y * W := Nat.mul_le_mul_right W (by omega)
              have h3 : n ≤ W * 32 := by rw [← HNN.out]; exact Nat.mul_le_mul_left W hH.2
              omega
          have hA : (y : Int) * (W : Int) = (A : Int) := by rw [← hA0]; simp
          have i1 : Int.tmod (i : Int) (W : Int) = (x : Int) := by rw [← Int.ofNat_tmod, hx]
          have i2 : (i : Int) % (W : Int) = (x : Int) := by rw [← hx]; simp
          have i3 : Int.tdiv (i : Int) (W : Int) = (y : Int) := by rw [← Int.ofNat_tdiv, hy]
          have i4 : (i : Int) / (W : Int) = (y : Int) := by rw [← hy]; simp
          have i5 : (W : Int) ≠ 0 := by omega
          have i5' : ¬ W = 0 := by omega
          have i6 : IntKind.i64.wrap (x : Int) = (x : Int) := by rw [IntKind.wrap_i64]; omega
          have i7 : IntKind.i64.wrap (y : Int) = (y : Int) := by rw [IntKind.wrap_i64]; omega
          have hg : gsV (W : Int) zs x y A = gsI W zs zs.length := by
            unfold gsI
            rw [hzl, hx, hy, hA0]
          have hgb := gsV_bound (W := (W : Int)) hbyt x y A
          have UGS := Lib.hid (fun (W' : World) (k : Ext w6 W') => rguess_any (W : Int) x y A i zs va vc W' (HI.out.ext k) hbyt (by omega) hA (by omega) hyH (by omega) (by omega))
          rw [hg] at UGS hgb
          have hub : -256 ≤ unfoldI u ∧ unfoldI u ≤ 256 := by unfold unfoldI; rw [if_neg (by omega)]; split <;> omega
          have UUF := Lib.hid (fun W' => runfold_any u W')
          generalize gsI W zs zs.length = g0 at *
          generalize unfoldI u = du at *
          have mv : IntKind.i64.wrap (g0 + du) = g0 + du := by rw [IntKind.wrap_i64]; omega
          have d2 : w6.cell? ⟨V + 1, 2, none⟩ = some (.slice va i vc) := HS6.out.1.1.cell (i := 2) rfl
          clear hg hx hy hA0 hdm hzl hbyt hA hu9
          go_wp2_with fail
          have KS : Hid (∀ w', Ext w6 w' → w'.cell? ⟨V + 1, 2, none⟩ = some (.slice va i vc) ∧ Ext w6 w') := fun w' k => ⟨k.cell d2, k⟩
          go_region_held3 (fun w' => w'.cell? ⟨V + 1, 2, none⟩ = some (.slice va i vc) ∧ Ext w6 w')
            (first | assumption | (go_split_ands; exact KS.out _ (by repeat (first | exact Ext.refl _ | assumption | refine Ext.drew ?_ | refine Ext.trans ?_ (by assumption)))))
            ((first
              | (go_at_call 57; obtain ⟨_, hE1⟩ : _ ∧ Ext w6 _ := (by assumption); refine (UGS.out _ hE1).mono ?_; rintro e w7 ⟨rfl, x7⟩; have E7 := hE1.trans x7; clear hE1)
              | (go_at_call 71; refine (UUF.out _).mono ?_; rintro e w8 ⟨rfl, rfl⟩)))
          have HS7 := Lib.hid (HS6.out.ext E7)
          clear x7 d2 KS UGS UUF HS6 HI
          by_cases hv : g0 + du = clipI (g0 + du)
          · have hvb := clip_same hv
            have HRN3 : Hid (rdS bs K W (n - (i + 1)) (zs ++ [g0 + du]) q5 = rdS bs K W n [] q0) := by
              show _ = _
              rw [HRN2.out, if_pos hv]
            obtain ⟨vv, hvv⟩ : ∃ vv, g0 + du = vv := ⟨_, rfl⟩
            rw [hvv] at HRN3 hvb ⊢
            have n1 : ¬ vv < 0 := by omega
            have n2 : ¬ (255 : Int) < vv := by omega
            have d2 : w7.cell? ⟨V + 1, 2, none⟩ = some (.slice va i vc) := HS7.out.1.1.cell (i := 2) rfl
            have hs7 := rfr_size HS7.out
            clear hvv hv HRN2 mv hgb hub
            go_wp2_with (at_builtin; refine push_int rfl _ _ 46 rfl Tryz.underlying46 _ i _ vv rfl HS7.out.2.2.2.1 rfl hs7 (by omega) ?_)
            intro v' w8 o8 b8
            have HS8 := Lib.hid (HS7.out.push b8 o8 hvb hbw hlt1)
            obtain ⟨ga, gc, rfl⟩ := own_slice o8
            have e2 : w8.cell? ⟨V + 1, 2, none⟩ = some (.slice va i vc) := (HS7.out.1.1.below b8 (by omega)).cell (i := 2) rfl
            have f2 : w8.frozen? ⟨V + 1, 2, none⟩ = false := (HS7.out.1.1.below b8 (by omega)).free
            clear o8 b8 d2 HS7
            go_wp2_with fail
            exact ⟨⟨i + 1, q5, _, _, by omega, by go_num, HS8, HRN3⟩, by simp [intOf]; omega⟩
          · have hvc : g0 + du < 0 ∨ 255 < g0 + du := by unfold clipI at hv; omega
            obtain ⟨vv, hvv⟩ : ∃ vv, g0 + du = vv := ⟨_, rfl⟩
            rw [hvv] at hvc hv HRN2 ⊢
            clear hvv mv hgb hub
            by_cases hneg : vv < 0
            · clear hvc
              have HR : Hid (rdFr bs W H p = (some ([], 3), [], q5)) := by
                show _ = _
                rw [HRD.out, HRN2.out, if_neg hv]
              go_wp2_with fail
              refine (fail_any 3 _).mono ?_; rintro e w9 ⟨rfl, x9⟩
              have HS9 := Lib.hid (HS7.out.ext x9)
              have HR03 := Lib.hid HS9.out.1.2.2.1
              have HR13 := Lib.hid HS9.out.1.2.2.2
              have HE3 : Hid (RErrIs w9 (some ([], 3)) 3 (.slice none 0 0)) := RErrIs.code (by decide)
              have HEND := Lib.hid (setRF_end HR03.out HR13.out HS9.out.2.1.1 HS9.out.2.2.1 HE3.out hbw 0 0 (.slice none 0 0))
              obtain ⟨g0', g1', g2', g3'⟩ := HR13.out.res
              have z0 : w9.cell? ⟨w.heap.size, 0, none⟩ = some (.int .i64 0) := HR03.out.cell (i := 0) rfl
              have z1 : w9.cell? ⟨w.heap.size, 1, none⟩ = some (.int .i64 0) := HR03.out.cell (i := 1) rfl
              have z2 : w9.cell? ⟨w.heap.size, 2, none⟩ = some (.slice none 0 0) := HR03.out.cell (i := 2) rfl
              have f0 := HR03.out.free (i := 0)
              have f1 := HR03.out.free (i := 1)
              have f2 := HR03.out.free (i := 2)
              go_wp2
              obtain ⟨⟨⟨y0, y1, y2⟩, y3, y4⟩, yk, yq, ye⟩ := HEND.out
              have YK := Lib.hid yk
              have YQ := Lib.hid yq
              have YE := Lib.hid ye
              clear yk yq ye
              simp only [setRF] at y0 y1 y2 y3 y4
              exact bodyPost_ret (v := .tuple #[.agg #[.int .i64 0, .int .i64 0, .slice none 0 0], .agg #[.int .i64 3, .slice none 0 0]]) (by simp [results, Tryz.results39, go_sem, y0, y1, y2, y3, y4]) rfl
                ⟨_, _, _, _, _, _, _, rfl, YK.out, by rw [HR.out]; exact YQ.out, by rw [HR.out]; exact YE.out, fun hh => by rw [HR.out] at hh; cases hh⟩
            · have n2 : (255 : Int) < vv := by omega
              clear hvc
              have HR : Hid (rdFr bs W H p = (some ([], 3), [], q5)) := by
                show _ = _
                rw [HRD.out, HRN2.out, if_neg hv]
              go_wp2_with fail
              refine (fail_any 3 _).mono ?_; rintro e w9 ⟨rfl, x9⟩
              have HS9 := Lib.hid (HS7.out.ext x9)
              have HR03 := Lib.hid HS9.out.1.2.2.1
              have HR13 := Lib.hid HS9.out.1.2.2.2
              have HE3 : Hid (RErrIs w9 (some ([], 3)) 3 (.slice none 0 0)) := RErrIs.code (by decide)
              have HEND := Lib.hid (setRF_end HR03.out HR13.out HS9.out.2.1.1 HS9.out.2.2.1 HE3.out hbw 0 0 (.slice none 0 0))
              obtain ⟨g0', g1', g2', g3'⟩ := HR13.out.res
              have z0 : w9.cell? ⟨w.heap.size, 0, none⟩ = some (.int .i64 0) := HR03.out.cell (i := 0) rfl
              have z1 : w9.cell? ⟨w.heap.size, 1, none⟩ = some (.int .i64 0) := HR03.out.cell (i := 1) rfl
              have z2 : w9.cell? ⟨w.heap.size, 2, none⟩ = some (.slice none 0 0) := HR03.out.cell (i := 2) rfl
              have f0 := HR03.out.free (i := 0)
              have f1 := HR03.out.free (i := 1)
              have f2 := HR03.out.free (i := 2)
              go_wp2
              obtain ⟨⟨⟨y0, y1, y2⟩, y3, y4⟩, yk, yq, ye⟩ := HEND.out
              have YK := Lib.hid yk
              have YQ := Lib.hid yq
              have YE := Lib.hid ye
              clear yk yq ye
              simp only [setRF] at y0 y1 y2 y3 y4
              exact bodyPost_ret (v := .tuple #[.agg #[.int .i64 0, .int .i64 0, .slice none 0 0], .agg #[.int .i64 3, .slice none 0 0]]) (by simp [results, Tryz.results39, go_sem, y0, y1, y2, y3, y4]) rfl
                ⟨_, _, _, _, _, _, _, rfl, YK.out, by rw [HR.out]; exact YQ.out, by rw [HR.out]; exact YE.out, fun hh => by rw [HR.out] at hh; cases hh⟩
      · obtain rfl : i = n := by omega
        have t1 : ¬ (i : Int) < (i : Int) := by omega
        have HR : Hid (rdFr bs W H p = (none, zs, q)) := by
          show _ = _
          have h := HQ.out
          rw [Nat.sub_self] at h
          rw [HRD.out, ← h]
          rfl
        obtain ⟨va, vc, rfl⟩ := own_slice HS3.out.2.2.2.1
        have HR03 := Lib.hid HS3.out.1.2.2.1
        have HR13 := Lib.hid HS3.out.1.2.2.2
        have HE3 : Hid (RErrIs w3 none 0 (.slice none 0 0)) := RErrIs.zero
        have HEND := Lib.hid (setRF_end HR03.out HR13.out HS3.out.2.1.1 HS3.out.2.2.1 HE3.out hbw (W : Int) (H : Int) (.slice va i vc))
        have HOW : Hid ((setRF w3 w.heap.size (W : Int) (H : Int) (.slice va i vc) 0 (.slice none 0 0)).ownsRow (V + 2) 3 1 (.slice va i vc) i (zs.map (Value.int .i64))) := by
          unfold setRF
          exact ownsRow_setCell_below (ownsRow_setCell_below (ownsRow_setCell_below (ownsRow_setCell_below (ownsRow_setCell_below HS3.out.2.2.2.1 (a := ⟨w.heap.size, 0, none⟩) (show w.heap.size < V + 2 by omega) _) (a := ⟨w.heap.size, 1, none⟩) (show w.heap.size < V + 2 by omega) _) (a := ⟨w.heap.size, 2, none⟩) (show w.heap.size < V + 2 by omega) _) (a := ⟨w.heap.size + 1, 0, none⟩) (show w.heap.size + 1 < V + 2 by omega) _) (a := ⟨w.heap.size + 1, 1, none⟩) (show w.heap.size + 1 < V + 2 by omega) _
        have d0 : w3.cell? ⟨V + 1, 0, none⟩ = some (.int .i64 (W : Int)) := HS3.out.1.1.cell (i := 0) rfl
        have d1 : w3.cell? ⟨V + 1, 1, none⟩ = some (.int .i64 (H : Int)) := HS3.out.1.1.cell (i := 1) rfl
        have d2 : w3.cell? ⟨V + 1, 2, none⟩ = some (.slice va i vc) := HS3.out.1.1.cell (i := 2) rfl
        have a0 : w3.cell? ⟨V, 0, none⟩ = some (.int .i64 0) := HS3.out.1.2.1.cell (i := 0) rfl
        have a1 : w3.cell? ⟨V, 1, none⟩ = some (.slice none 0 0) := HS3.out.1.2.1.cell (i := 1) rfl
        obtain ⟨g0', g1', g2', g3'⟩ := HR13.out.res
        have z0 : w3.cell? ⟨w.heap.size, 0, none⟩ = some (.int .i64 0) := HR03.out.cell (i := 0) rfl
        have z1 : w3.cell? ⟨w.heap.size, 1, none⟩ = some (.int .i64 0) := HR03.out.cell (i := 1) rfl
        have z2 : w3.cell? ⟨w.heap.size, 2, none⟩ = some (.slice none 0 0) := HR03.out.cell (i := 2) rfl
        have f0 := HR03.out.free (i := 0)
        have f1 := HR03.out.free (i := 1)
        have f2 := HR03.out.free (i := 2)
        have n0 : ¬ w.heap.size = V := by omega
        have n1 : ¬ w.heap.size + 1 = V := by omega
        have n2 : ¬ w.heap.size = V + 1 := by omega
        go_wp2
        go_region
        go_wp2
        obtain ⟨⟨⟨y0, y1, y2⟩, y3, y4⟩, yk, yq, ye⟩ := HEND.out
        have YK := Lib.hid yk
        have YQ := Lib.hid yq
        have YE := Lib.hid ye
        clear yk yq ye
        simp only [setRF] at y0 y1 y2 y3 y4
        exact bodyPost_ret (v := .tuple #[.agg #[.int .i64 (W : Int), .int .i64 (H : Int), .slice va i vc], .agg #[.int .i64 0, .slice none 0 0]]) (by simp [results, Tryz.results39, go_sem, y0, y1, y2, y3, y4]) rfl
          ⟨_, _, _, _, _, _, _, rfl, YK.out.ext (Ext.refl _).drew, by rw [HR.out]; exact YQ.out.ext (Ext.refl _).drew, by rw [HR.out]; exact YE.out.ext (Ext.refl _).drew, fun _ => ⟨rfl, rfl, by rw [HR.out, HNN.out]; exact own_mono (own_ext HOW.out (Ext.refl _).drew) (by omega)⟩⟩
end Go.Proofs.YtgohlhgapboijaaGreatDoor
