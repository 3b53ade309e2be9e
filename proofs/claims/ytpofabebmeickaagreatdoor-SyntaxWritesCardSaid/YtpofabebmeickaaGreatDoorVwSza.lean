/- kinref20.kind, Code. -/
import Derived.Test.YtpofabebmeickaaGreatDoorVwSz8
import Derived.Test.YtpofabebmeickaaGreatDoorVwZu
import Derived.Deep.RegionHeld3
import Derived.Deep.RegionWith
namespace Go.Proofs.YtpofabebmeickaaGreatDoor
set_option linter.unusedVariables false
set_option linter.unusedSimpArgs false
open Go.RowKit Go.Extern.Stop Go.Stop Go.Extern

theorem set13_other {w : World} {b1 p : Nat} {cs : Array Value} {T : TypeId} (h : BoxIs w p cs T) (hp : b1 ≠ p) (v0 v1 v2 v3 v4 v5 v6 v7 v8 v9 v10 v11 v12 : Value) : BoxIs (((((((((((((w.setCell ⟨b1, 0, none⟩ (v0)).setCell ⟨b1, 1, none⟩ (v1)).setCell ⟨b1, 2, none⟩ (v2)).setCell ⟨b1, 3, none⟩ (v3)).setCell ⟨b1, 4, none⟩ (v4)).setCell ⟨b1, 5, none⟩ (v5)).setCell ⟨b1, 6, none⟩ (v6)).setCell ⟨b1, 7, none⟩ (v7)).setCell ⟨b1, 8, none⟩ (v8)).setCell ⟨b1, 9, none⟩ (v9)).setCell ⟨b1, 10, none⟩ (v10)).setCell ⟨b1, 11, none⟩ (v11)).setCell ⟨b1, 12, none⟩ (v12)) p cs T := by
  repeat refine BoxIs.other ?_ (by exact hp) _
  exact h
theorem fin_all {σ : Type} {A : World → (Nat → Prop) → σ → Prop} (oa : Obj A) {F G : Nat → Prop} {w w' : World} {s : σ} {b1 b2 : Nat} (h : A w' G s) (st : Step F w G w') (hb1 : w.heap.size ≤ b1) (hn1 : ¬ G b1) (hb2 : w.heap.size ≤ b2) (hn2 : ¬ G b2) (h12 : b1 ≠ b2) {c0 c1 c2 c3 c4 c5 c6 c7 c8 c9 c10 c11 c12 e0 e1 : Value} {T1 T2 : TypeId} (hR : BoxIs w' b1 #[c0, c1, c2, c3, c4, c5, c6, c7, c8, c9, c10, c11, c12] T1) (hE : BoxIs w' b2 #[e0, e1] T2) (v0 v1 v2 v3 v4 v5 v6 v7 v8 v9 v10 v11 v12 c y : Value) :
    A (((((((((((((((w'.setCell ⟨b1, 0, none⟩ (v0)).setCell ⟨b1, 1, none⟩ (v1)).setCell ⟨b1, 2, none⟩ (v2)).setCell ⟨b1, 3, none⟩ (v3)).setCell ⟨b1, 4, none⟩ (v4)).setCell ⟨b1, 5, none⟩ (v5)).setCell ⟨b1, 6, none⟩ (v6)).setCell ⟨b1, 7, none⟩ (v7)).setCell ⟨b1, 8, none⟩ (v8)).setCell ⟨b1, 9, none⟩ (v9)).setCell ⟨b1, 10, none⟩ (v10)).setCell ⟨b1, 11, none⟩ (v11)).setCell ⟨b1, 12, none⟩ (v12)).setCell ⟨b2, 0, none⟩ c).setCell ⟨b2, 1, none⟩ y) G s ∧ Step F w G (((((((((((((((w'.setCell ⟨b1, 0, none⟩ (v0)).setCell ⟨b1, 1, none⟩ (v1)).setCell ⟨b1, 2, none⟩ (v2)).setCell ⟨b1, 3, none⟩ (v3)).setCell ⟨b1, 4, none⟩ (v4)).setCell ⟨b1, 5, none⟩ (v5)).setCell ⟨b1, 6, none⟩ (v6)).setCell ⟨b1, 7, none⟩ (v7)).setCell ⟨b1, 8, none⟩ (v8)).setCell ⟨b1, 9, none⟩ (v9)).setCell ⟨b1, 10, none⟩ (v10)).setCell ⟨b1, 11, none⟩ (v11)).setCell ⟨b1, 12, none⟩ (v12)).setCell ⟨b2, 0, none⟩ c).setCell ⟨b2, 1, none⟩ y) ∧ BoxIs (((((((((((((((w'.setCell ⟨b1, 0, none⟩ (v0)).setCell ⟨b1, 1, none⟩ (v1)).setCell ⟨b1, 2, none⟩ (v2)).setCell ⟨b1, 3, none⟩ (v3)).setCell ⟨b1, 4, none⟩ (v4)).setCell ⟨b1, 5, none⟩ (v5)).setCell ⟨b1, 6, none⟩ (v6)).setCell ⟨b1, 7, none⟩ (v7)).setCell ⟨b1, 8, none⟩ (v8)).setCell ⟨b1, 9, none⟩ (v9)).setCell ⟨b1, 10, none⟩ (v10)).setCell ⟨b1, 11, none⟩ (v11)).setCell ⟨b1, 12, none⟩ (v12)).setCell ⟨b2, 0, none⟩ c).setCell ⟨b2, 1, none⟩ y) b1 #[v0, v1, v2, v3, v4, v5, v6, v7, v8, v9, v10, v11, v12] T1 ∧ BoxIs (((((((((((((((w'.setCell ⟨b1, 0, none⟩ (v0)).setCell ⟨b1, 1, none⟩ (v1)).setCell ⟨b1, 2, none⟩ (v2)).setCell ⟨b1, 3, none⟩ (v3)).setCell ⟨b1, 4, none⟩ (v4)).setCell ⟨b1, 5, none⟩ (v5)).setCell ⟨b1, 6, none⟩ (v6)).setCell ⟨b1, 7, none⟩ (v7)).setCell ⟨b1, 8, none⟩ (v8)).setCell ⟨b1, 9, none⟩ (v9)).setCell ⟨b1, 10, none⟩ (v10)).setCell ⟨b1, 11, none⟩ (v11)).setCell ⟨b1, 12, none⟩ (v12)).setCell ⟨b2, 0, none⟩ c).setCell ⟨b2, 1, none⟩ y) b2 #[c, y] T2 := by
  have q1 : BoxIs (((((((((((((w'.setCell ⟨b1, 0, none⟩ (v0)).setCell ⟨b1, 1, none⟩ (v1)).setCell ⟨b1, 2, none⟩ (v2)).setCell ⟨b1, 3, none⟩ (v3)).setCell ⟨b1, 4, none⟩ (v4)).setCell ⟨b1, 5, none⟩ (v5)).setCell ⟨b1, 6, none⟩ (v6)).setCell ⟨b1, 7, none⟩ (v7)).setCell ⟨b1, 8, none⟩ (v8)).setCell ⟨b1, 9, none⟩ (v9)).setCell ⟨b1, 10, none⟩ (v10)).setCell ⟨b1, 11, none⟩ (v11)).setCell ⟨b1, 12, none⟩ (v12)) b1 #[v0, v1, v2, v3, v4, v5, v6, v7, v8, v9, v10, v11, v12] T1 := sq_put hR
  have q2 : BoxIs (((((((((((((w'.setCell ⟨b1, 0, none⟩ (v0)).setCell ⟨b1, 1, none⟩ (v1)).setCell ⟨b1, 2, none⟩ (v2)).setCell ⟨b1, 3, none⟩ (v3)).setCell ⟨b1, 4, none⟩ (v4)).setCell ⟨b1, 5, none⟩ (v5)).setCell ⟨b1, 6, none⟩ (v6)).setCell ⟨b1, 7, none⟩ (v7)).setCell ⟨b1, 8, none⟩ (v8)).setCell ⟨b1, 9, none⟩ (v9)).setCell ⟨b1, 10, none⟩ (v10)).setCell ⟨b1, 11, none⟩ (v11)).setCell ⟨b1, 12, none⟩ (v12)) b2 #[e0, e1] T2 := set13_other hE h12 _ _ _ _ _ _ _ _ _ _ _ _ _
  have q3 : BoxIs ((((((((((((((w'.setCell ⟨b1, 0, none⟩ (v0)).setCell ⟨b1, 1, none⟩ (v1)).setCell ⟨b1, 2, none⟩ (v2)).setCell ⟨b1, 3, none⟩ (v3)).setCell ⟨b1, 4, none⟩ (v4)).setCell ⟨b1, 5, none⟩ (v5)).setCell ⟨b1, 6, none⟩ (v6)).setCell ⟨b1, 7, none⟩ (v7)).setCell ⟨b1, 8, none⟩ (v8)).setCell ⟨b1, 9, none⟩ (v9)).setCell ⟨b1, 10, none⟩ (v10)).setCell ⟨b1, 11, none⟩ (v11)).setCell ⟨b1, 12, none⟩ (v12)).setCell ⟨b2, 0, none⟩ c) b2 #[c, e1] T2 := q2.set (i := 0) c
  refine ⟨?_, ?_, (q1.other (p := ⟨b2, 0, none⟩) (Ne.symm h12) c).other (p := ⟨b2, 1, none⟩) (Ne.symm h12) y, q3.set (i := 1) y⟩
  · refine oa.setc (oa.setc ?_ (by exact hn2) _) (by exact hn2) _
    repeat refine oa.setc ?_ (by exact hn1) _
    exact h
  · refine Step.setc (Step.setc ?_ (by exact hb2) _) (by exact hb2) _
    repeat refine Step.setc ?_ (by exact hb1) _
    exact st
section
variable {σ : Type} {A : World → (Nat → Prop) → σ → Prop} {w : World}
/-- the document's square and error in boxes of the call's own -/
def BpF (p eb : Nat) (w : World) (F : Nat → Prop) (z : Array Value × Array Value) : Prop := BoxIs w p z.1 42 ∧ BoxIs w eb z.2 46 ∧ p ≠ eb ∧ ∀ k, F k ↔ (k = p ∨ k = eb)
theorem BpF.obj (p eb : Nat) : Obj (BpF p eb) := ⟨fun h k hk => by rcases (h.2.2.2 k).1 hk with rfl | rfl; exact h.1.lt; exact h.2.1.lt, fun h k => ⟨(k p ((h.2.2.2 p).2 (.inl rfl))).trans h.1, (k eb ((h.2.2.2 eb).2 (.inr rfl))).trans h.2.1, h.2.2⟩⟩
theorem bp_p {p eb : Nat} {F : Nat → Prop} {s : σ} {cs es : Array Value} {P : World → Prop} (h : Sep (Sep A (BpF p eb)) HoF w F ((s, (cs, es)), P)) : BoxIs w p cs 42 ∧ BoxIs w eb es 46 := by
  obtain ⟨F1, F2, ⟨G1, G2, g1, g2, g3, g4⟩, h2, h3, h4⟩ := h
  exact ⟨g2.1, g2.2.1⟩
theorem bp_has {p eb : Nat} {F : Nat → Prop} {s : σ} {z : Array Value × Array Value} {P : World → Prop} (h : Sep (Sep A (BpF p eb)) HoF w F ((s, z), P)) : P w := by
  obtain ⟨F1, F2, ⟨G1, G2, g1, g2, g3, g4⟩, h2, h3, h4⟩ := h
  exact h2.get
theorem bp_setp (oa : Obj A) {p eb : Nat} {F : Nat → Prop} {s : σ} {cs es : Array Value} {P : World → Prop} (h : Sep (Sep A (BpF p eb)) HoF w F ((s, (cs, es)), P)) (i : Nat) (v : Value) : Sep (Sep A (BpF p eb)) HoF (w.setCell ⟨p, i, none⟩ v) F ((s, (cs.setIfInBounds i v, es)), P) ∧ Step F w F (w.setCell ⟨p, i, none⟩ v) := by
  obtain ⟨F1, F2, ⟨G1, G2, g1, g2, g3, g4⟩, h2, h3, h4⟩ := h
  have hp2 : G2 p := (g2.2.2.2 p).2 (.inl rfl)
  have n1 : ∀ k, G1 k → k ≠ p := fun k hk e => g3 p hp2 (e ▸ hk)
  have n2 : ∀ k, F2 k → k ≠ p := fun k hk e => h3 k hk ((g4 k).2 (.inr (e ▸ hp2)))
  refine ⟨⟨F1, F2, ⟨G1, G2, oa.same g1 (fun k hk => Below.heap_setCell w ⟨p, i, none⟩ v k (fun e => n1 k hk e)), ⟨g2.1.set (i := i) v, g2.2.1.other (p := ⟨p, i, none⟩) (by show p ≠ eb; exact g2.2.2.1) v, g2.2.2⟩, g3, g4⟩, HoF.obj.same h2 (fun k hk => Below.heap_setCell w ⟨p, i, none⟩ v k (fun e => n2 k hk e)), h3, h4⟩, ?_⟩
  exact Step.of_kp ((Kp.refl p w).set i v) ((h4 p).2 (.inl ((g4 p).2 (.inr hp2))))
theorem bp_sete (oa : Obj A) {p eb : Nat} {F : Nat → Prop} {s : σ} {cs es : Array Value} {P : World → Prop} (h : Sep (Sep A (BpF p eb)) HoF w F ((s, (cs, es)), P)) (i : Nat) (v : Value) : Sep (Sep A (BpF p eb)) HoF (w.setCell ⟨eb, i, none⟩ v) F ((s, (cs, es.setIfInBounds i v)), P) ∧ Step F w F (w.setCell ⟨eb, i, none⟩ v) := by
  obtain ⟨F1, F2, ⟨G1, G2, g1, g2, g3, g4⟩, h2, h3, h4⟩ := h
  have hp2 : G2 eb := (g2.2.2.2 eb).2 (.inr rfl)
  have n1 : ∀ k, G1 k → k ≠ eb := fun k hk e => g3 eb hp2 (e ▸ hk)
  have n2 : ∀ k, F2 k → k ≠ eb := fun k hk e => h3 k hk ((g4 k).2 (.inr (e ▸ hp2)))
  refine ⟨⟨F1, F2, ⟨G1, G2, oa.same g1 (fun k hk => Below.heap_setCell w ⟨eb, i, none⟩ v k (fun e => n1 k hk e)), ⟨g2.1.other (p := ⟨eb, i, none⟩) (by show eb ≠ p; exact Ne.symm g2.2.2.1) v, g2.2.1.set (i := i) v, g2.2.2⟩, g3, g4⟩, HoF.obj.same h2 (fun k hk => Below.heap_setCell w ⟨eb, i, none⟩ v k (fun e => n2 k hk e)), h3, h4⟩, ?_⟩
  exact Step.of_kp ((Kp.refl eb w).set i v) ((h4 eb).2 (.inl ((g4 eb).2 (.inr hp2))))
theorem bp_call {p eb : Nat} {f : FuncId} {args : Array Value} {v : Value} {F : Nat → Prop} {s s' : σ} {z : Array Value × Array Value} {P : World → Prop} (h : Sep (Sep A (BpF p eb)) HoF w F ((s, z), P)) (c : ∀ G, A w G s → Calls Tryz.prog f args w (FPost A G w v s')) : Calls Tryz.prog f args w (FPost (Sep (Sep A (BpF p eb)) HoF) F w v ((s', z), P)) :=
  sep_l HoF.obj h (fun _ hG => sep_l (BpF.obj p eb) hG c)
end
/-- what the document's Code answers -/
def RSqR {σ : Type} (r : (Fall × Sq) × Ms σ) (e : Ending) (z : Ms σ × (World → Prop)) : Prop := ∃ L s0 s1 s2 s3 c ra rn rk, e = .returned (.tuple #[sqQ r.1.2 L s0 s1 s2 s3, .agg #[.int .i64 c, .slice ra rn rk]]) ∧ z = (r.2, fun W => SqIs W r.1.2 L s0 s1 s2 s3 ∧ RErrIs W r.1.1 c (.slice ra rn rk))
theorem RSqR.done {σ : Type} {A : World → (Nat → Prop) → Ms σ → Prop} {F G : Nat → Prop} {w w' : World} {r : (Fall × Sq) × Ms σ} {f : Fall} {q : Sq} {s : Ms σ} {L s0 s1 s2 s3 : Value} {c : Int} {ra : Option Addr} {rn rk : Nat} {P : World → Prop} (hr : r = ((f, q), s)) (h : Sep A HoF w' G (s, P)) (st : Step F w G w') (hP : ∀ W, P W → SqIs W q L s0 s1 s2 s3 ∧ RErrIs W f c (.slice ra rn rk)) : QPost (Sep A HoF) (RSqR r) F w (.returned (.tuple #[sqQ q L s0 s1 s2 s3, .agg #[.int .i64 c, .slice ra rn rk]])) w' := by
  subst hr
  exact ⟨(s, fun W => SqIs W q L s0 s1 s2 s3 ∧ RErrIs W f c (.slice ra rn rk)), G, ⟨L, s0, s1, s2, s3, c, ra, rn, rk, rfl, rfl⟩, h.imp (fun _ h => h.imp hP), st⟩
theorem rin_hold (s : ByteArray) (n c : Int) (ra : Option Addr) (rn rk : Nat) (p : List (ByteArray × Int)) (w : World) (hr : RErrIs w (some (p, c)) c (.slice ra rn rk)) (hp : p.length ≤ 1) : Calls Tryz.prog 47 #[.string s, .int .i64 n, .agg #[.int .i64 c, .slice ra rn rk]] w fun e w' => ∃ ua un uk X, e = .returned (.agg #[.int .i64 c, .slice ua un uk]) ∧ Ext w w' ∧ (∀ k, X k → w.heap.size ≤ k) ∧ HoF w' X (fun W => RErrIs W (some ((s, n) :: p, c)) c (.slice ua un uk)) := by
  obtain ⟨h1, h2, h3⟩ := hr
  refine (refIn_err s n c _ p w h3 h2 (by omega)).mono ?_
  rintro e w' ⟨u, rfl, ho, hx⟩
  obtain ⟨ua, uk, rfl⟩ := (Row.of_owns ho).form
  refine ⟨ua, _, uk, fun k => (Value.slice ua (p.length + 1) uk).ownBlock = some k, rfl, hx, fun k hk => (ho.lt k hk).1, (HoF.row ho).imp (fun W h => ⟨rfl, h2, ?_⟩)⟩
  exact Row.of_owns h

theorem bp_in {σ : Type} {A : World → (Nat → Prop) → σ → Prop} {w : World} {p eb : Nat} {F : Nat → Prop} {s : σ} {z : Array Value × Array Value} {P : World → Prop} (h : Sep (Sep A (BpF p eb)) HoF w F ((s, z), P)) {k : Nat} (hk : k = p ∨ k = eb) : F k := by
  obtain ⟨F1, F2, ⟨G1, G2, g1, g2, g3, g4⟩, h2, h3, h4⟩ := h
  exact (h4 k).2 (.inl ((g4 k).2 (.inr ((g2.2.2.2 k).2 hk))))
theorem sq_run_ok {σ : Type} {M : Mc σ} {key : Bool} {k0 kk : Int} {q q' : Sq} {s t1 t3 : Ms σ} (e : (kyP key k0).run M s = (kk, t1)) (hp : (ptP kk q).run M t1 = ((none, q'), t3)) : (sqP key k0 q).run M s = ((none, q'), t3) := by
  unfold sqP fiP
  rw [Pg.run_bind, e]
  show ((ptP kk q).bind _).run M t1 = _
  rw [Pg.run_bind, hp]
  rfl
theorem sq_run_bad {σ : Type} {M : Mc σ} {key : Bool} {k0 kk c : Int} {p : List (ByteArray × Int)} {q : Sq} {s t1 t3 : Ms σ} (e : (kyP key k0).run M s = (kk, t1)) (hp : (ptP kk q).run M t1 = ((some (p, c), sq0), t3)) : (sqP key k0 q).run M s = ((some ((synS, kk) :: p, c), sq0), t3) := by
  unfold sqP fiP
  rw [Pg.run_bind, e]
  show ((ptP kk q).bind _).run M t1 = _
  rw [Pg.run_bind, hp]
  rfl
theorem mv_run {σ : Type} {M : Mc σ} {q : Sq} {s t1 t2 t3 : Ms σ} {x y : Int} {f : Fall} {ys : List Int} (e1 : partM M s (cl15 q.x) = (x, t1)) (e2 : partM M t1 (cl15 q.y) = (y, t2)) (e3 : (codP q.L).run M t2 = ((f, ys), t3)) : (∀ e, f = some e → (ptP 1 q).run M s = ((some e, sq0), t3)) ∧ (f = none → (ptP 1 q).run M s = ((none, ⟨1, 0, 0, 0, 0, 0, x, y, ys, [], [], [], []⟩), t3)) := by
  have hr : (ptP 1 q).run M s = (onP f (fun f => .ret (f, sq0)) (.ret (none, ⟨1, 0, 0, 0, 0, 0, x, y, ys, [], [], [], []⟩)) : Pg (Fall × Sq)).run M t3 := by
    show (mvP q).run M s = _
    unfold mvP
    rw [Pg.run_bind, par_run, e1, Pg.run_bind, par_run, e2, Pg.run_bind, e3]
  exact ⟨fun e h => by rw [hr, h]; rfl, fun h => by rw [hr, h]; rfl⟩
theorem on_run {σ : Type} {M : Mc σ} {q : Sq} {s t1 t3 : Ms σ} {x : Nat} {f : Fall} {ys : List Int} (e1 : modeM M s (cl3 q.m) = (x, t1)) (e3 : (codP q.L).run M t1 = ((f, ys), t3)) : (∀ e, f = some e → (ptP 2 q).run M s = ((some e, sq0), t3)) ∧ (f = none → (ptP 2 q).run M s = ((none, ⟨2, (x : Int), 0, 0, 0, 0, 0, 0, ys, [], [], [], []⟩), t3)) := by
  have hr : (ptP 2 q).run M s = (onP f (fun f => .ret (f, sq0)) (.ret (none, ⟨2, (x : Int), 0, 0, 0, 0, 0, 0, ys, [], [], [], []⟩)) : Pg (Fall × Sq)).run M t3 := by
    show (onP1 q).run M s = _
    unfold onP1
    rw [Pg.run_bind, mod_run, e1, Pg.run_bind, e3]
  exact ⟨fun e h => by rw [hr, h]; rfl, fun h => by rw [hr, h]; rfl⟩
theorem cod_two {σ : Type} {M : Mc σ} {xs ys : List Int} {n : Nat} {s t : Ms σ} {f : Fall} (hn : n = 16 ∨ n = 64) (h : lvE xs n = none) (e : (codP xs).run M s = ((f, ys), t)) : f = none ∨ ∃ q : Int, f = some ([(coefS, q)], 3) := by
  rcases cod_got (M := M) hn h s with ⟨zs, e1, -⟩ | ⟨q, e1⟩
  · rw [e] at e1
    exact .inl (congrArg Prod.fst e1)
  · rw [e] at e1
    exact .inr ⟨q, congrArg Prod.fst e1⟩

end Go.Proofs.YtpofabebmeickaaGreatDoor

