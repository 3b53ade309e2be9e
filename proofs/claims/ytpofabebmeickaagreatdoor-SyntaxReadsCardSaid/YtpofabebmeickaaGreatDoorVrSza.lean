/- kinref20.kind, Code. -/
import Derived.Test.YtpofabebmeickaaGreatDoorVrSz8
import Derived.Test.YtpofabebmeickaaGreatDoorVrZu
import Derived.Deep.RegionHeld3
import Derived.Deep.RegionWith
namespace Go.Proofs.YtpofabebmeickaaGreatDoor
set_option linter.unusedVariables false
set_option linter.unusedSimpArgs false
open Go.RowKit Go.Extern.Stop Go.Stop Go.Extern

theorem set13_other {w : World} {b1 p : Nat} {cs : Array Value} {T : TypeId} (h : BoxIs w p cs T) (hp : b1 ≠ p) (v0 v1 v2 v3 v4 v5 v6 v7 v8 v9 v10 v11 v12 : Value) : BoxIs (((((((((((((w.setCell ⟨b1, 0, none⟩ (v0)).setCell ⟨b1, 1, none⟩ (v1)).setCell ⟨b1, 2, none⟩ (v2)).setCell ⟨b1, 3, none⟩ (v3)).setCell ⟨b1, 4, none⟩ (v4)).setCell ⟨b1, 5, none⟩ (v5)).setCell ⟨b1, 6, none⟩ (v6)).setCell ⟨b1, 7, none⟩ (v7)).setCell ⟨b1, 8, none⟩ (v8)).setCell ⟨b1, 9, none⟩ (v9)).setCell ⟨b1, 10, none⟩ (v10)).setCell ⟨b1, 11, none⟩ (v11)).setCell ⟨b1, 12, none⟩ (v12)) p cs T := by
  repeat refine BoxIs.other ?_ (by exact hp) _
  exact h
theorem fin_all {σ : Type} {A : World → (Nat → Prop) → σ → Prop} (oa : Obj A) {F G : Nat → Prop} {w w' : World} {s : σ} {b1 b2 : Nat} (h : A w' G s) (st : Step F w G w') (hb1 : w.heap.size ≤ b1) (hn1 : ¬ G b1) (hb2 : w.heap.size ≤ b2) (hn2 : ¬ G b2) (h12 : b1 ≠ b2) {c0 c1 c2 c3 c4 c5 c6 c7 c8 c9 c10 c11 c12 e0 e1 : Value} {T1 T2 : TypeId} (hR : BoxIs w' b1 #[c0, c1, c2, c3, c4, c5, c6, c7, c8, c9, c10, c11, c12] T1) (hE : BoxIs w' b2 #[e0, e1] T2) (v0 v1 v2 v3 v4 v5 v6 v7 v8 v9 v10 v11 v12 c y : Value) :
    A (((((((((((((((w'.setCell ⟨b1, 0, none⟩ (v0)).setCell ⟨b1, 1, none⟩ (v1)).setCell ⟨b1, 2, none⟩ (v2)).setCell ⟨b1, 3, none⟩ (v3)).setCell ⟨b1, 4, none⟩ (v4)).setCell ⟨b1, 5, none⟩ (v5)).setCell ⟨b1, 6, none⟩ (v6)).setCell ⟨b1, 7, none⟩ (v7)).setCell ⟨b1, 8, none⟩ (v8)).setCell ⟨b1, 9, none⟩ (v9)).setCell ⟨b1, 10, none⟩ (v10)).setCell ⟨b1, 11, none⟩ (v11)).setCell ⟨b1, 12, none⟩ (v12)).setCell ⟨b2, 0, none⟩ c).setCell ⟨b2, 1, none⟩ y) G s ∧ Step F w G (((((((((((((((w'.setCell ⟨b1, 0, none⟩ (v0)).setCell ⟨b1, 1, none⟩ (v1)).setCell ⟨b1, 2, none⟩ (v2)).setCell ⟨b1, 3, none⟩ (v3)).setCell ⟨b1, 4, none⟩ (v4)).setCell ⟨b1, 5, none⟩ (v5)).setCell ⟨b1, 6, none⟩ (v6)).setCell ⟨b1, 7, none⟩ (v7)).setCell ⟨b1, 8, none⟩ (v8)).setCell ⟨b1, 9, none⟩ (v9)).setCell ⟨b1, 10, none⟩ (v10)).setCell ⟨b1, 11, none⟩ (v11)).setCell ⟨b1, 12, none⟩ (v12)).setCell ⟨b2, 0, none⟩ c).setCell ⟨b2, 1, none⟩ y) ∧ BoxIs (((((((((((((((w'.setCell ⟨b1, 0, none⟩ (v0)).setCell ⟨b1, 1, none⟩ (v1)).setCell ⟨b1, 2, none⟩ (v2)).setCell ⟨b1, 3, none⟩ (v3)).setCell ⟨b1, 4, none⟩ (v4)).setCell ⟨b1, 5, none⟩ (v5)).setCell ⟨b1, 6, none⟩ (v6)).setCell ⟨b1, 7, none⟩ (v7)).setCell ⟨b1, 8, none⟩ (v8)).setCell ⟨b1, 9, none⟩ (v9)).setCell ⟨b1, 10, none⟩ (v10)).setCell ⟨b1, 11, none⟩ (v11)).setCell ⟨b1, 12, none⟩ (v12)).setCell ⟨b2, 0, none⟩ c).setCell ⟨b2, 1, none⟩ y) b1 #[v0, v1, v2, v3, v4, v5, v6, v7, v8, v9, v10, v11, v12] T1 ∧ BoxIs (((((((((((((((w'.setCell ⟨b1, 0, none⟩ (v0)).setCell ⟨b1, 1, none⟩ (v1)).setCell ⟨b1, 2, none⟩ (v2)).setCell ⟨b1, 3, none⟩ (v3)).setCell ⟨b1, 4, none⟩ (v4)).setCell ⟨b1, 5, none⟩ (v5)).setCell ⟨b1, 6, none⟩ (v6)).setCell ⟨b1, 7, none⟩ (v7)).setCell ⟨b1, 8, none⟩ (v8)).setCell ⟨b1, 9, none⟩ (v9)).setCell ⟨b1, 10, none⟩ (v10)).setCell ⟨b1, 11, none⟩ (v11)).setCell ⟨b1, 12, none⟩ (v12)).setCell ⟨b2, 0, none⟩ c).setCell ⟨b2, 1, none⟩ y) b2 #[c, y] T2 := by
  have q1 : BoxIs (((((((((((((w'.setCell ⟨b1, 0, none⟩ (v0)).setCell ⟨b1, 1, none⟩ (v1)).setCell ⟨b1, 2, none⟩ (v2)).setCell ⟨b1, 3, none⟩ (v3)).setCell ⟨b1, 4, none⟩ (v4)).setCell ⟨b1, 5, none⟩ (v5)).setCell ⟨b1, 6, none⟩ (v6)).setCell ⟨b1, 7, none⟩ (v7)).setCell ⟨b1, 8, none⟩ (v8)).setCell ⟨b1, 9, none⟩ (v9)).setCell ⟨b1, 10, none⟩ (v10)).setCell ⟨b1, 11, none⟩ (v11)).setCell ⟨b1, 12, none⟩ (v12)) b1 #[v0, v1, v2, v3, v4, v5, v6, v7, v8, v9, v10, v11, v12] T1 := sq_put hR
  have q2 : BoxIs (((((((((((((w'.setCell ⟨b1, 0, none⟩ (v0)).setCell ⟨b1, 1, none⟩ (v1)).setCell ⟨b1, 2, none⟩ (v2)).setCell ⟨b1, 3, none⟩ (v3)).setCell ⟨b1, 4, none⟩ (v4)).setCell ⟨b1, 5, none⟩ (v5)).setCell ⟨b1, 6, none⟩ (v6)).setCell ⟨b1, 7, none⟩ (v7)).setCell ⟨b1, 8, none⟩ (v8)).setCell ⟨b1, 9, none⟩ (v9)).setCell ⟨b1, 10, none⟩ (v10)).setCell ⟨b1, 11, none⟩ (v11)).setCell ⟨b1, 12, none⟩ (v12)) b2 #[e0, e1] T2 := set13_other hE h12 _ _ _ _ _ _ _ _ _ _ _ _ _
  have q3 : BoxIs ((((((((((((((w'.setCell ⟨b1, 0, none⟩ (v0)).setCell ⟨b1, 1, none⟩ (v1)).setCell ⟨b1, 2, none⟩ (v2)).setCell ⟨b1, 3, none⟩ (v3)).setCell ⟨b1, 4, none⟩ (v4)).setCell ⟨b1, 5, none⟩ (v5)).setCell ⟨b1, 6, none⟩ (v6)).setCell ⟨b1, 7, none⟩ (v7)).setCell ⟨b1, 8, none⟩ (v8)).setCell ⟨b1, 9, none⟩ (v9)).setCell ⟨b1, 10, none⟩ (v10)).setCell ⟨b1, 11, none⟩ (v11)).setCell ⟨b1, 12, none⟩ (v12)).setCell ⟨b2, 0, none⟩ c) b2 #[c, e1] T2 := q2.set (i := 0) c
  refine ⟨?_, ?_, (q1.other (p := ⟨b2, 0, none⟩) (Ne.symm h12) c).other (p := ⟨b2, 1, none⟩) (Ne.symm h12) y, q3.set (i := 1) y⟩
  · refine oa.setc (oa.setc ?_ (by exact hn2) _) (by exact hn2) _
    repeat refine oa.setc ?_ (by exact hn1) _
    exact h
  · refine Step.setc (Step.setc ?_ (by exact hb2) _) (by exact hb2) _
    repeat refine Step.setc ?_ (by exact hb1) _
    exact st
section
variable {σ : Type} {A : World → (Nat → Prop) → σ → Prop} {w : World}
/-- the document's square and error in boxes of the call's own -/
def BpF (p eb : Nat) (w : World) (F : Nat → Prop) (z : Array Value × Array Value) : Prop := BoxIs w p z.1 42 ∧ BoxIs w eb z.2 46 ∧ p ≠ eb ∧ ∀ k, F k ↔ (k = p ∨ k = eb)
theorem BpF.obj (p eb : Nat) : Obj (BpF p eb) := ⟨fun h k hk => by rcases (h.2.2.2 k).1 hk with rfl | rfl; exact h.1.lt; exact h.2.1.lt, fun h k => ⟨(k p ((h.2.2.2 p).2 (.inl rfl))).trans h.1, (k eb ((h.2.2.2 eb).2 (.inr rfl))).trans h.2.1, h.2.2⟩⟩
theorem bp_p {p eb : Nat} {F : Nat → Prop} {s : σ} {cs es : Array Value} {P : World → Prop} (h : Sep (Sep A (BpF p eb)) HoF w F ((s, (cs, es)), P)) : BoxIs w p cs 42 ∧ BoxIs w eb es 46 := by
  obtain ⟨F1, F2, ⟨G1, G2, g1, g2, g3, g4⟩, h2, h3, h4⟩ := h
  exact ⟨g2.1, g2.2.1⟩
theorem bp_has {p eb : Nat} {F : Nat → Prop} {s : σ} {z : Array Value × Array Value} {P : World → Prop} (h : Sep (Sep A (BpF p eb)) HoF w F ((s, z), P)) : P w := by
  obtain ⟨F1, F2, ⟨G1, G2, g1, g2, g3, g4⟩, h2, h3, h4⟩ := h
  exact h2.get
theorem bp_setp (oa : Obj A) {p eb : Nat} {F : Nat → Prop} {s : σ} {cs es : Array Value} {P : World → Prop} (h : Sep (Sep A (BpF p eb)) HoF w F ((s, (cs, es)), P)) (i : Nat) (v : Value) : Sep (Sep A (BpF p eb)) HoF (w.setCell ⟨p, i, none⟩ v) F ((s, (cs.setIfInBounds i v, es)), P) ∧ Step F w F (w.setCell ⟨p, i, none⟩ v) := by
  obtain ⟨F1, F2, ⟨G1, G2, g1, g2, g3, g4⟩, h2, h3, h4⟩ := h
  have hp2 : G2 p := (g2.2.2.2 p).2 (.inl rfl)
  have n1 : ∀ k, G1 k → k ≠ p := fun k hk e => g3 p hp2 (e ▸ hk)
  have n2 : ∀ k, F2 k → k ≠ p := fun k hk e => h3 k hk ((g4 k).2 (.inr (e ▸ hp2)))
  refine ⟨⟨F1, F2, ⟨G1, G2, oa.same g1 (fun k hk => Below.heap_setCell w ⟨p, i, none⟩ v k (fun e => n1 k hk e)), ⟨g2.1.set (i := i) v, g2.2.1.other (p := ⟨p, i, none⟩) (by show p ≠ eb; exact g2.2.2.1) v, g2.2.2⟩, g3, g4⟩, HoF.obj.same h2 (fun k hk => Below.heap_setCell w ⟨p, i, none⟩ v k (fun e => n2 k hk e)), h3, h4⟩, ?_⟩
  exact Step.of_kp ((Kp.refl p w).set i v) ((h4 p).2 (.inl ((g4 p).2 (.inr hp2))))
theorem bp_sete (oa : Obj A) {p eb : Nat} {F : Nat → Prop} {s : σ} {cs es : Array Value} {P : World → Prop} (h : Sep (Sep A (BpF p eb)) HoF w F ((s, (cs, es)), P)) (i : Nat) (v : Value) : Sep (Sep A (BpF p eb)) HoF (w.setCell ⟨eb, i, none⟩ v) F ((s, (cs, es.setIfInBounds i v)), P) ∧ Step F w F (w.setCell ⟨eb, i, none⟩ v) := by
  obtain ⟨F1, F2, ⟨G1, G2, g1, g2, g3, g4⟩, h2, h3, h4⟩ := h
  have hp2 : G2 eb := (g2.2.2.2 eb).2 (.inr rfl)
  have n1 : ∀ k, G1 k → k ≠ eb := fun k hk e => g3 eb hp2 (e ▸ hk)
  have n2 : ∀ k, F2 k → k ≠ eb := fun k hk e => h3 k hk ((g4 k).2 (.inr (e ▸ hp2)))
  refine ⟨⟨F1, F2, ⟨G1, G2, oa.same g1 (fun k hk => Below.heap_setCell w ⟨eb, i, none⟩ v k (fun e => n1 k hk e)), ⟨g2.1.other (p := ⟨eb, i, none⟩) (by show eb ≠ p; exact Ne.symm g2.2.2.1) v, g2.2.1.set (i := i) v, g2.2.2⟩, g3, g4⟩, HoF.obj.same h2 (fun k hk => Below.heap_setCell w ⟨eb, i, none⟩ v k (fun e => n2 k hk e)), h3, h4⟩, ?_⟩
  exact Step.of_kp ((Kp.refl eb w).set i v) ((h4 eb).2 (.inl ((g4 eb).2 (.inr hp2))))
theorem bp_call {p eb : Nat} {f : FuncId} {args : Array Value} {v : Value} {F : Nat → Prop} {s s' : σ} {z : Array Value × Array Value} {P : World → Prop} (h : Sep (Sep A (BpF p eb)) HoF w F ((s, z), P)) (c : ∀ G, A w G s → Calls Tryz.prog f args w (FPost A G w v s')) : Calls Tryz.prog f args w (FPost (Sep (Sep A (BpF p eb)) HoF) F w v ((s', z), P)) :=
  sep_l HoF.obj h (fun _ hG => sep_l (BpF.obj p eb) hG c)
end
/-- what the document's Code answers -/
def RSqR {σ : Type} (r : (Fall × Sq) × Ms σ) (e : Ending) (z : Ms σ × (World → Prop)) : Prop := ∃ L s0 s1 s2 s3 c ra rn rk, e = .returned (.tuple #[sqQ r.1.2 L s0 s1 s2 s3, .agg #[.int .i64 c, .slice ra rn rk]]) ∧ z = (r.2, fun W => SqIs W r.1.2 L s0 s1 s2 s3 ∧ RErrIs W r.1.1 c (.slice ra rn rk))
theorem RSqR.done {σ : Type} {A : World → (Nat → Prop) → Ms σ → Prop} {F G : Nat → Prop} {w w' : World} {r : (Fall × Sq) × Ms σ} {f : Fall} {q : Sq} {s : Ms σ} {L s0 s1 s2 s3 : Value} {c : Int} {ra : Option Addr} {rn rk : Nat} {P : World → Prop} (hr : r = ((f, q), s)) (h : Sep A HoF w' G (s, P)) (st : Step F w G w') (hP : ∀ W, P W → SqIs W q L s0 s1 s2 s3 ∧ RErrIs W f c (.slice ra rn rk)) : QPost (Sep A HoF) (RSqR r) F w (.returned (.tuple #[sqQ q L s0 s1 s2 s3, .agg #[.int .i64 c, .slice ra rn rk]])) w' := by
  subst hr
  exact ⟨(s, fun W => SqIs W q L s0 s1 s2 s3 ∧ RErrIs W f c (.slice ra rn rk)), G, ⟨L, s0, s1, s2, s3, c, ra, rn, rk, rfl, rfl⟩, h.imp (fun _ h => h.imp hP), st⟩
theorem rin_hold (s : ByteArray) (n c : Int) (ra : Option Addr) (rn rk : Nat) (p : List (ByteArray × Int)) (w : World) (hr : RErrIs w (some (p, c)) c (.slice ra rn rk)) (hp : p.length ≤ 1) : Calls Tryz.prog 47 #[.string s, .int .i64 n, .agg #[.int .i64 c, .slice ra rn rk]] w fun e w' => ∃ ua un uk X, e = .returned (.agg #[.int .i64 c, .slice ua un uk]) ∧ Ext w w' ∧ (∀ k, X k → w.heap.size ≤ k) ∧ HoF w' X (fun W => RErrIs W (some ((s, n) :: p, c)) c (.slice ua un uk)) := by
  obtain ⟨h1, h2, h3⟩ := hr
  refine (refIn_err s n c _ p w h3 h2 (by omega)).mono ?_
  rintro e w' ⟨u, rfl, ho, hx⟩
  obtain ⟨ua, uk, rfl⟩ := (Row.of_owns ho).form
  refine ⟨ua, _, uk, fun k => (Value.slice ua (p.length + 1) uk).ownBlock = some k, rfl, hx, fun k hk => (ho.lt k hk).1, (HoF.row ho).imp (fun W h => ⟨rfl, h2, ?_⟩)⟩
  exact Row.of_owns h

theorem bp_in {σ : Type} {A : World → (Nat → Prop) → σ → Prop} {w : World} {p eb : Nat} {F : Nat → Prop} {s : σ} {z : Array Value × Array Value} {P : World → Prop} (h : Sep (Sep A (BpF p eb)) HoF w F ((s, z), P)) {k : Nat} (hk : k = p ∨ k = eb) : F k := by
  obtain ⟨F1, F2, ⟨G1, G2, g1, g2, g3, g4⟩, h2, h3, h4⟩ := h
  exact (h4 k).2 (.inl ((g4 k).2 (.inr ((g2.2.2.2 k).2 hk))))
theorem sq_run_ok {σ : Type} {M : Mc σ} {key : Bool} {k0 kk : Int} {q q' : Sq} {s t1 t3 : Ms σ} (e : (kyP key k0).run M s = (kk, t1)) (hp : (ptP kk q).run M t1 = ((none, q'), t3)) : (sqP key k0 q).run M s = ((none, q'), t3) := by
  unfold sqP fiP
  rw [Pg.run_bind, e]
  show ((ptP kk q).bind _).run M t1 = _
  rw [Pg.run_bind, hp]
  rfl
theorem sq_run_bad {σ : Type} {M : Mc σ} {key : Bool} {k0 kk c : Int} {p : List (ByteArray × Int)} {q : Sq} {s t1 t3 : Ms σ} (e : (kyP key k0).run M s = (kk, t1)) (hp : (ptP kk q).run M t1 = ((some (p, c), sq0), t3)) : (sqP key k0 q).run M s = ((some ((synS, kk) :: p, c), sq0), t3) := by
  unfold sqP fiP
  rw [Pg.run_bind, e]
  show ((ptP kk q).bind _).run M t1 = _
  rw [Pg.run_bind, hp]
  rfl
theorem mv_run {σ : Type} {M : Mc σ} {q : Sq} {s t1 t2 t3 : Ms σ} {x y : Int} {f : Fall} {ys : List Int} (e1 : partM M s (cl15 q.x) = (x, t1)) (e2 : partM M t1 (cl15 q.y) = (y, t2)) (e3 : (codP q.L).run M t2 = ((f, ys), t3)) : (∀ e, f = some e → (ptP 1 q).run M s = ((some e, sq0), t3)) ∧ (f = none → (ptP 1 q).run M s = ((none, ⟨1, 0, 0, 0, 0, 0, x, y, ys, [], [], [], []⟩), t3)) := by
  have hr : (ptP 1 q).run M s = (onP f (fun f => .ret (f, sq0)) (.ret (none, ⟨1, 0, 0, 0, 0, 0, x, y, ys, [], [], [], []⟩)) : Pg (Fall × Sq)).run M t3 := by
    show (mvP q).run M s = _
    unfold mvP
    rw [Pg.run_bind, par_run, e1, Pg.run_bind, par_run, e2, Pg.run_bind, e3]
  exact ⟨fun e h => by rw [hr, h]; rfl, fun h => by rw [hr, h]; rfl⟩
theorem on_run {σ : Type} {M : Mc σ} {q : Sq} {s t1 t3 : Ms σ} {x : Nat} {f : Fall} {ys : List Int} (e1 : modeM M s (cl3 q.m) = (x, t1)) (e3 : (codP q.L).run M t1 = ((f, ys), t3)) : (∀ e, f = some e → (ptP 2 q).run M s = ((some e, sq0), t3)) ∧ (f = none → (ptP 2 q).run M s = ((none, ⟨2, (x : Int), 0, 0, 0, 0, 0, 0, ys, [], [], [], []⟩), t3)) := by
  have hr : (ptP 2 q).run M s = (onP f (fun f => .ret (f, sq0)) (.ret (none, ⟨2, (x : Int), 0, 0, 0, 0, 0, 0, ys, [], [], [], []⟩)) : Pg (Fall × Sq)).run M t3 := by
    show (onP1 q).run M s = _
    unfold onP1
    rw [Pg.run_bind, mod_run, e1, Pg.run_bind, e3]
  exact ⟨fun e h => by rw [hr, h]; rfl, fun h => by rw [hr, h]; rfl⟩
theorem cod_two {σ : Type} {M : Mc σ} {xs ys : List Int} {n : Nat} {s t : Ms σ} {f : Fall} (hn : n = 16 ∨ n = 64) (h : lvE xs n = none) (e : (codP xs).run M s = ((f, ys), t)) : f = none ∨ ∃ q : Int, f = some ([(coefS, q)], 3) := by
  rcases cod_got (M := M) hn h s with ⟨zs, e1, -⟩ | ⟨q, e1⟩
  · rw [e] at e1
    exact .inl (congrArg Prod.fst e1)
  · rw [e] at e1
    exact .inr ⟨q, congrArg Prod.fst e1⟩

set_option maxRecDepth 20000 in
set_option maxHeartbeats 1000000 in
theorem drckind_any (a N d : Nat) (bs : List Nat) (key : Bool) (k : Int) (s : Ms Xc) (F : Nat → Prop) (w : World) (h : (DrF a d bs) w F s) (hk : okS okYm N s) (hN : N ≤ 3999000) : Calls Tryz.prog 43 #[.pointer (some ⟨a, 0, none⟩), .bool key, .int .i64 k] w (FPost (DrF a d bs) F w (.int .i64 ((kyP key k).run (mY bs) s).1) ((kyP key k).run (mY bs) s).2) := by
  cases key
  · have UB := Lib.hid (drkind_any a N d bs k s F w h hk hN)
    have HR : Hid ((kyP false k).run (mY bs) s = (((kindM (mY bs) s k).1 : Int), (kindM (mY bs) s k).2)) := kin_run k s
    clear h hk
    go_enter Tryz.func43, Tryz.ntmps43
    go_wp2_with fail
    refine (UB.out).mono ?_; rintro e w1 ⟨rfl, F1, h1, g1⟩
    go_wp2
    go_ret
    exact ⟨by rw [HR.out]; rfl, F1, by rw [HR.out]; exact h1, g1⟩
  · obtain ⟨b, hb'⟩ : ∃ b, decide (k = 3) = b := ⟨_, rfl⟩
    have d0 : (k == 3) = b := by rw [← hb']; rfl
    obtain ⟨⟨V, s1⟩, e⟩ : ∃ r, flaM (mY bs) s b = r := ⟨_, rfl⟩
    have UF := Lib.hid (drflat_any a N d bs b s F w h hk (by omega))
    rw [e] at UF
    have HR : Hid ((kyP true k).run (mY bs) s = (if V then 3 else 2, s1)) := by
      show ((fun v : Bool => Pg.ret (if v then (3 : Int) else 2)) (flaM (mY bs) s (decide (k = 3))).1).run (mY bs) (flaM (mY bs) s (decide (k = 3))).2 = _
      rw [hb', e]
      rfl
    clear h hk hb' e
    go_enter Tryz.func43, Tryz.ntmps43
    go_wp2_with fail
    refine (UF.out).mono ?_; rintro e w1 ⟨rfl, F1, h1, g1⟩
    cases V
    · go_wp2
      go_ret
      exact ⟨by rw [HR.out]; rfl, F1, by rw [HR.out]; exact h1, g1⟩
    · go_wp2
      go_ret
      exact ⟨by rw [HR.out]; rfl, F1, by rw [HR.out]; exact h1, g1⟩
set_option maxHeartbeats 8000000 in
set_option maxRecDepth 20000 in
theorem drsq_any (a N d : Nat) (bs : List Nat) (key : Bool) (gk gm ga gb gc gd gx gy : Int) (vL v0 v1 v2 v3 : Value) (s : Ms Xc) (F : Nat → Prop) (w : World) (h : DrF a d bs w F s) (hk : okS okYm N s) (hN : N ≤ 3840000) (hL : SlF vL) (hs0 : SlF v0) (hs1 : SlF v1) (hs2 : SlF v2) (hs3 : SlF v3) : Calls Tryz.prog 12 #[.pointer (some ⟨a, 0, none⟩), .bool key, sqV gk gm ga gb gc gd gx gy vL v0 v1 v2 v3] w (QPost (Sep (DrF a d bs) HoF) (RSqR ((sqP key 0 (blS 0)).run (mY bs) s)) F w) := by
  obtain ⟨aL, lL, cL, rfl⟩ := hL
  obtain ⟨a0, l0, c0, rfl⟩ := hs0
  obtain ⟨a1, l1, c1, rfl⟩ := hs1
  obtain ⟨a2, l2, c2, rfl⟩ := hs2
  obtain ⟨a3, l3, c3, rfl⟩ := hs3
  have HW0 := Lib.hid h
  have hFl : ∀ k, F k → k < w.heap.size := fun k hk => (DrF.objD a d bs).lt h k hk
  have HFL := Lib.hid hFl
  have HK := Lib.hid hk
  obtain ⟨i0, hi, hz0, hz1, hz2⟩ := info_parts infoInt
  have A0 := ((BoxIs.new w #[.int .i64 gk, .int .i64 gm, .int .i64 ga, .int .i64 gb, .int .i64 gc, .int .i64 gd, .int .i64 gx, .int .i64 gy, .slice aL lL cL, .slice a0 l0 c0, .slice a1 l1 c1, .slice a2 l2 c2, .slice a3 l3 c3] 42).ext ((Ext.refl _).alloc (.cells #[.int .i64 0, .int .i64 0, .int .i64 0, .int .i64 0, .int .i64 0, .int .i64 0, .int .i64 0, .int .i64 0, .slice none 0 0, .slice none 0 0, .slice none 0 0, .slice none 0 0, .slice none 0 0] 42))).ext ((Ext.refl _).alloc (.cells #[.int .i64 0, .slice none 0 0] 46))
  have A1 := (BoxIs.new (w.alloc (.cells #[.int .i64 gk, .int .i64 gm, .int .i64 ga, .int .i64 gb, .int .i64 gc, .int .i64 gd, .int .i64 gx, .int .i64 gy, .slice aL lL cL, .slice a0 l0 c0, .slice a1 l1 c1, .slice a2 l2 c2, .slice a3 l3 c3] 42)) #[.int .i64 0, .int .i64 0, .int .i64 0, .int .i64 0, .int .i64 0, .int .i64 0, .int .i64 0, .int .i64 0, .slice none 0 0, .slice none 0 0, .slice none 0 0, .slice none 0 0, .slice none 0 0] 42).ext ((Ext.refl _).alloc (.cells #[.int .i64 0, .slice none 0 0] 46))
  have A2 := BoxIs.new ((w.alloc (.cells #[.int .i64 gk, .int .i64 gm, .int .i64 ga, .int .i64 gb, .int .i64 gc, .int .i64 gd, .int .i64 gx, .int .i64 gy, .slice aL lL cL, .slice a0 l0 c0, .slice a1 l1 c1, .slice a2 l2 c2, .slice a3 l3 c3] 42)).alloc (.cells #[.int .i64 0, .int .i64 0, .int .i64 0, .int .i64 0, .int .i64 0, .int .i64 0, .int .i64 0, .int .i64 0, .slice none 0 0, .slice none 0 0, .slice none 0 0, .slice none 0 0, .slice none 0 0] 42)) #[.int .i64 0, .slice none 0 0] 46
  have hs1 : (w.alloc (.cells #[.int .i64 gk, .int .i64 gm, .int .i64 ga, .int .i64 gb, .int .i64 gc, .int .i64 gd, .int .i64 gx, .int .i64 gy, .slice aL lL cL, .slice a0 l0 c0, .slice a1 l1 c1, .slice a2 l2 c2, .slice a3 l3 c3] 42)).heap.size = w.heap.size + 1 := by simp
  have hs2 : ((w.alloc (.cells #[.int .i64 gk, .int .i64 gm, .int .i64 ga, .int .i64 gb, .int .i64 gc, .int .i64 gd, .int .i64 gx, .int .i64 gy, .slice aL lL cL, .slice a0 l0 c0, .slice a1 l1 c1, .slice a2 l2 c2, .slice a3 l3 c3] 42)).alloc (.cells #[.int .i64 0, .int .i64 0, .int .i64 0, .int .i64 0, .int .i64 0, .int .i64 0, .int .i64 0, .int .i64 0, .slice none 0 0, .slice none 0 0, .slice none 0 0, .slice none 0 0, .slice none 0 0] 42)).heap.size = w.heap.size + 2 := by simp
  rw [hs1] at A1
  rw [hs2] at A2
  have E2 := (((Ext.refl w).alloc (.cells #[.int .i64 gk, .int .i64 gm, .int .i64 ga, .int .i64 gb, .int .i64 gc, .int .i64 gd, .int .i64 gx, .int .i64 gy, .slice aL lL cL, .slice a0 l0 c0, .slice a1 l1 c1, .slice a2 l2 c2, .slice a3 l3 c3] 42)).alloc (.cells #[.int .i64 0, .int .i64 0, .int .i64 0, .int .i64 0, .int .i64 0, .int .i64 0, .int .i64 0, .int .i64 0, .slice none 0 0, .slice none 0 0, .slice none 0 0, .slice none 0 0, .slice none 0 0] 42)).alloc (.cells #[.int .i64 0, .slice none 0 0] 46)
  have hd0 : (((w.alloc (.cells #[.int .i64 gk, .int .i64 gm, .int .i64 ga, .int .i64 gb, .int .i64 gc, .int .i64 gd, .int .i64 gx, .int .i64 gy, .slice aL lL cL, .slice a0 l0 c0, .slice a1 l1 c1, .slice a2 l2 c2, .slice a3 l3 c3] 42)).alloc (.cells #[.int .i64 0, .int .i64 0, .int .i64 0, .int .i64 0, .int .i64 0, .int .i64 0, .int .i64 0, .int .i64 0, .slice none 0 0, .slice none 0 0, .slice none 0 0, .slice none 0 0, .slice none 0 0] 42)).alloc (.cells #[.int .i64 0, .slice none 0 0] 46)).cell? ⟨a, 0, none⟩ = some (.bool true) := E2.cell (by obtain ⟨_, _, _, hc, _⟩ := h; exact hc.1)
  obtain ⟨w0, hw0⟩ : ∃ z, (((w.alloc (.cells #[.int .i64 gk, .int .i64 gm, .int .i64 ga, .int .i64 gb, .int .i64 gc, .int .i64 gd, .int .i64 gx, .int .i64 gy, .slice aL lL cL, .slice a0 l0 c0, .slice a1 l1 c1, .slice a2 l2 c2, .slice a3 l3 c3] 42)).alloc (.cells #[.int .i64 0, .int .i64 0, .int .i64 0, .int .i64 0, .int .i64 0, .int .i64 0, .int .i64 0, .int .i64 0, .slice none 0 0, .slice none 0 0, .slice none 0 0, .slice none 0 0, .slice none 0 0] 42)).alloc (.cells #[.int .i64 0, .slice none 0 0] 46)) = z := ⟨_, rfl⟩
  rw [hw0] at A0 A1 A2 E2
  have HA0 := Lib.hid A0
  have HA1 := Lib.hid A1
  have HA2 := Lib.hid A2
  have HE2 := Lib.hid E2
  have HW := Lib.hid hw0
  clear h hFl hk A0 A1 A2 hs1 hs2 E2 hw0
  unfold sqV
  go_enter Tryz.func12, Tryz.ntmps12
  go_wp2_with (at_make; rw [HW.out]; refine wpList_make_full _ rfl _ _ 33 rfl w0.heap.size 3 i0 (.int .i64 0) 1 Tryz.underlying33 hi hz0 hz1 .i64 .i64 _ _ 64 rfl rfl rfl rfl (by rw [hz2]; decide) (by decide) (Nat.le_refl _) ?_; intro w1 hown hgrow; have EE : Ext w0 w1 := Below.grown (Ext.refl w0) hgrow (Nat.le_refl _) (fun k hk => by cases hk); obtain ⟨⟨e0, e1, e2, e3, e4, e5, e6, e7, e8, e9, e10, e11, e12⟩, f0, f1, f2, f3, f4, f5, f6, f7, f8, f9, f10, f11, f12⟩ := sq_cells (HA0.out.ext EE))
  clear e0 e1 e2 e3 e4 e5 e6 e7 e8 e9 e10 e11 e12 f0 f1 f2 f3 f4 f5 f6 f7 f8 f9 f10 f11 f12 hd0 HW
  have HM := Lib.hid (ho_made (by decide) hown)
  have HEE := Lib.hid EE
  clear hown hgrow EE
  have b1s : BoxIs (((((((((((((w1.setCell ⟨w.heap.size, 0, none⟩ (.int .i64 0)).setCell ⟨w.heap.size, 1, none⟩ (.int .i64 0)).setCell ⟨w.heap.size, 2, none⟩ (.int .i64 0)).setCell ⟨w.heap.size, 3, none⟩ (.int .i64 0)).setCell ⟨w.heap.size, 4, none⟩ (.int .i64 0)).setCell ⟨w.heap.size, 5, none⟩ (.int .i64 0)).setCell ⟨w.heap.size, 6, none⟩ (.int .i64 0)).setCell ⟨w.heap.size, 7, none⟩ (.int .i64 0)).setCell ⟨w.heap.size, 8, none⟩ (.slice (some ⟨w0.heap.size, 0, none⟩) 64 64)).setCell ⟨w.heap.size, 9, none⟩ (.slice none 0 0)).setCell ⟨w.heap.size, 10, none⟩ (.slice none 0 0)).setCell ⟨w.heap.size, 11, none⟩ (.slice none 0 0)).setCell ⟨w.heap.size, 12, none⟩ (.slice none 0 0)) w.heap.size #[.int .i64 0, .int .i64 0, .int .i64 0, .int .i64 0, .int .i64 0, .int .i64 0, .int .i64 0, .int .i64 0, .slice (some ⟨w0.heap.size, 0, none⟩) 64 64, .slice none 0 0, .slice none 0 0, .slice none 0 0, .slice none 0 0] 42 := sq_put (HA0.out.ext HEE.out)
  skip
  have hm1 : HoF (((((((((((((w1.setCell ⟨w.heap.size, 0, none⟩ (.int .i64 0)).setCell ⟨w.heap.size, 1, none⟩ (.int .i64 0)).setCell ⟨w.heap.size, 2, none⟩ (.int .i64 0)).setCell ⟨w.heap.size, 3, none⟩ (.int .i64 0)).setCell ⟨w.heap.size, 4, none⟩ (.int .i64 0)).setCell ⟨w.heap.size, 5, none⟩ (.int .i64 0)).setCell ⟨w.heap.size, 6, none⟩ (.int .i64 0)).setCell ⟨w.heap.size, 7, none⟩ (.int .i64 0)).setCell ⟨w.heap.size, 8, none⟩ (.slice (some ⟨w0.heap.size, 0, none⟩) 64 64)).setCell ⟨w.heap.size, 9, none⟩ (.slice none 0 0)).setCell ⟨w.heap.size, 10, none⟩ (.slice none 0 0)).setCell ⟨w.heap.size, 11, none⟩ (.slice none 0 0)).setCell ⟨w.heap.size, 12, none⟩ (.slice none 0 0)) (fun k => ((.slice (some ⟨w0.heap.size, 0, none⟩) 64 64) : Value).ownBlock = some k) (fun W => Ints W (.slice (some ⟨w0.heap.size, 0, none⟩) 64 64) (zsL 64)) := by
    have hn : ¬ ((.slice (some ⟨w0.heap.size, 0, none⟩) 64 64) : Value).ownBlock = some w.heap.size := fun h => by have := HM.out.2 _ h; have := HA0.out.lt; omega
    repeat refine HoF.setc ?_ (by exact hn)
    exact HM.out.1
  have hr1 : BoxIs (((((((((((((w1.setCell ⟨w.heap.size, 0, none⟩ (.int .i64 0)).setCell ⟨w.heap.size, 1, none⟩ (.int .i64 0)).setCell ⟨w.heap.size, 2, none⟩ (.int .i64 0)).setCell ⟨w.heap.size, 3, none⟩ (.int .i64 0)).setCell ⟨w.heap.size, 4, none⟩ (.int .i64 0)).setCell ⟨w.heap.size, 5, none⟩ (.int .i64 0)).setCell ⟨w.heap.size, 6, none⟩ (.int .i64 0)).setCell ⟨w.heap.size, 7, none⟩ (.int .i64 0)).setCell ⟨w.heap.size, 8, none⟩ (.slice (some ⟨w0.heap.size, 0, none⟩) 64 64)).setCell ⟨w.heap.size, 9, none⟩ (.slice none 0 0)).setCell ⟨w.heap.size, 10, none⟩ (.slice none 0 0)).setCell ⟨w.heap.size, 11, none⟩ (.slice none 0 0)).setCell ⟨w.heap.size, 12, none⟩ (.slice none 0 0)) (w.heap.size + 1) #[.int .i64 0, .int .i64 0, .int .i64 0, .int .i64 0, .int .i64 0, .int .i64 0, .int .i64 0, .int .i64 0, .slice none 0 0, .slice none 0 0, .slice none 0 0, .slice none 0 0, .slice none 0 0] 42 := set13_other (HA1.out.ext HEE.out) (by omega) _ _ _ _ _ _ _ _ _ _ _ _ _
  have hr2 : BoxIs (((((((((((((w1.setCell ⟨w.heap.size, 0, none⟩ (.int .i64 0)).setCell ⟨w.heap.size, 1, none⟩ (.int .i64 0)).setCell ⟨w.heap.size, 2, none⟩ (.int .i64 0)).setCell ⟨w.heap.size, 3, none⟩ (.int .i64 0)).setCell ⟨w.heap.size, 4, none⟩ (.int .i64 0)).setCell ⟨w.heap.size, 5, none⟩ (.int .i64 0)).setCell ⟨w.heap.size, 6, none⟩ (.int .i64 0)).setCell ⟨w.heap.size, 7, none⟩ (.int .i64 0)).setCell ⟨w.heap.size, 8, none⟩ (.slice (some ⟨w0.heap.size, 0, none⟩) 64 64)).setCell ⟨w.heap.size, 9, none⟩ (.slice none 0 0)).setCell ⟨w.heap.size, 10, none⟩ (.slice none 0 0)).setCell ⟨w.heap.size, 11, none⟩ (.slice none 0 0)).setCell ⟨w.heap.size, 12, none⟩ (.slice none 0 0)) (w.heap.size + 2) #[.int .i64 0, .slice none 0 0] 46 := set13_other (HA2.out.ext HEE.out) (by omega) _ _ _ _ _ _ _ _ _ _ _ _ _
  have he1 : Ext w (((((((((((((w1.setCell ⟨w.heap.size, 0, none⟩ (.int .i64 0)).setCell ⟨w.heap.size, 1, none⟩ (.int .i64 0)).setCell ⟨w.heap.size, 2, none⟩ (.int .i64 0)).setCell ⟨w.heap.size, 3, none⟩ (.int .i64 0)).setCell ⟨w.heap.size, 4, none⟩ (.int .i64 0)).setCell ⟨w.heap.size, 5, none⟩ (.int .i64 0)).setCell ⟨w.heap.size, 6, none⟩ (.int .i64 0)).setCell ⟨w.heap.size, 7, none⟩ (.int .i64 0)).setCell ⟨w.heap.size, 8, none⟩ (.slice (some ⟨w0.heap.size, 0, none⟩) 64 64)).setCell ⟨w.heap.size, 9, none⟩ (.slice none 0 0)).setCell ⟨w.heap.size, 10, none⟩ (.slice none 0 0)).setCell ⟨w.heap.size, 11, none⟩ (.slice none 0 0)).setCell ⟨w.heap.size, 12, none⟩ (.slice none 0 0)) := by
    repeat refine Ext.setCell ?_ (by exact Nat.le_refl _) _
    exact HE2.out.trans HEE.out
  have hy0 : ∀ k, ((.slice (some ⟨w0.heap.size, 0, none⟩) 64 64) : Value).ownBlock = some k → w.heap.size + 2 < k := fun k hk => by have := HM.out.2 _ hk; have := HA2.out.lt; omega
  generalize (((((((((((((w1.setCell ⟨w.heap.size, 0, none⟩ (.int .i64 0)).setCell ⟨w.heap.size, 1, none⟩ (.int .i64 0)).setCell ⟨w.heap.size, 2, none⟩ (.int .i64 0)).setCell ⟨w.heap.size, 3, none⟩ (.int .i64 0)).setCell ⟨w.heap.size, 4, none⟩ (.int .i64 0)).setCell ⟨w.heap.size, 5, none⟩ (.int .i64 0)).setCell ⟨w.heap.size, 6, none⟩ (.int .i64 0)).setCell ⟨w.heap.size, 7, none⟩ (.int .i64 0)).setCell ⟨w.heap.size, 8, none⟩ (.slice (some ⟨w0.heap.size, 0, none⟩) 64 64)).setCell ⟨w.heap.size, 9, none⟩ (.slice none 0 0)).setCell ⟨w.heap.size, 10, none⟩ (.slice none 0 0)).setCell ⟨w.heap.size, 11, none⟩ (.slice none 0 0)).setCell ⟨w.heap.size, 12, none⟩ (.slice none 0 0)) = u0 at b1s hm1 hr1 hr2 he1 ⊢
  clear HM HEE HA0 HA1 HA2 HE2
  have B0 := Lib.hid b1s
  have H0 := Lib.hid hm1
  have R0 := Lib.hid hr1
  have X0 := Lib.hid hr2
  have E0 := Lib.hid he1
  have Y0 := Lib.hid hy0
  clear b1s hm1 hr1 hr2 he1 hy0
  refine wp_loop_rounds 5 ?_
  rw [rounds_succ]
  have c := B0.out.cell (i := 9) (v := .slice none 0 0) rfl
  go_wp2_with (at_make; refine wpList_make_full _ rfl _ _ 33 rfl u0.heap.size 3 i0 (.int .i64 0) 1 Tryz.underlying33 hi hz0 hz1 .i64 .i64 _ _ 16 rfl rfl rfl rfl (by rw [hz2]; decide) (by decide) (Nat.le_refl _) ?_; intro x0 hown hgrow; have EE : Ext u0 x0 := Below.grown (Ext.refl u0) hgrow (Nat.le_refl _) (fun k hk => by cases hk); have dd := EE.cell c; have gg := (B0.out.ext EE).free (i := 9))
  obtain ⟨m1, m2⟩ := ho_made (by decide) hown
  have hy : ∀ k, (_ ∨ ((.slice (some ⟨u0.heap.size, 0, none⟩) 16 16) : Value).ownBlock = some k) → w.heap.size + 2 < k := fun k hk => hk.elim (Y0.out k) (fun hk => by have := m2 k hk; have := X0.out.lt; omega)
  have h0 := ((H0.out.ext EE).and m1).setc (p := ⟨w.heap.size, 9, none⟩) (v := (.slice (some ⟨u0.heap.size, 0, none⟩) 16 16)) (fun h => by have : w.heap.size + 2 < w.heap.size := hy _ h; omega)
  have b2 : BoxIs (x0.setCell ⟨w.heap.size, 9, none⟩ (.slice (some ⟨u0.heap.size, 0, none⟩) 16 16)) w.heap.size #[.int .i64 0, .int .i64 0, .int .i64 0, .int .i64 0, .int .i64 0, .int .i64 0, .int .i64 0, .int .i64 0, .slice (some ⟨w0.heap.size, 0, none⟩) 64 64, .slice (some ⟨u0.heap.size, 0, none⟩) 16 16, .slice none 0 0, .slice none 0 0, .slice none 0 0] 42 := (B0.out.ext EE).set (i := 9) (.slice (some ⟨u0.heap.size, 0, none⟩) 16 16)
  have r2 := (R0.out.ext EE).other (p := ⟨w.heap.size, 9, none⟩) (by show w.heap.size ≠ w.heap.size + 1; omega) (.slice (some ⟨u0.heap.size, 0, none⟩) 16 16)
  have q2 := (X0.out.ext EE).other (p := ⟨w.heap.size, 9, none⟩) (by show w.heap.size ≠ w.heap.size + 2; omega) (.slice (some ⟨u0.heap.size, 0, none⟩) 16 16)
  have e2 := (E0.out.trans EE).setCell (p := ⟨w.heap.size, 9, none⟩) (Nat.le_refl _) (.slice (some ⟨u0.heap.size, 0, none⟩) 16 16)
  clear c dd gg hown hgrow EE m1 m2 B0 H0 R0 X0 E0 Y0
  generalize x0.setCell ⟨w.heap.size, 9, none⟩ (.slice (some ⟨u0.heap.size, 0, none⟩) 16 16) = u1 at b2 r2 q2 e2 h0 ⊢
  have B1 := Lib.hid b2
  have H1 := Lib.hid h0
  have R1 := Lib.hid r2
  have X1 := Lib.hid q2
  have E1 := Lib.hid e2
  have Y1 := Lib.hid hy
  clear b2 r2 q2 e2 h0 hy
  rw [rounds_succ]
  have c := B1.out.cell (i := 10) (v := .slice none 0 0) rfl
  go_wp2_with (at_make; refine wpList_make_full _ rfl _ _ 33 rfl u1.heap.size 3 i0 (.int .i64 0) 1 Tryz.underlying33 hi hz0 hz1 .i64 .i64 _ _ 16 rfl rfl rfl rfl (by rw [hz2]; decide) (by decide) (Nat.le_refl _) ?_; intro x1 hown hgrow; have EE : Ext u1 x1 := Below.grown (Ext.refl u1) hgrow (Nat.le_refl _) (fun k hk => by cases hk); have dd := EE.cell c; have gg := (B1.out.ext EE).free (i := 10))
  obtain ⟨m1, m2⟩ := ho_made (by decide) hown
  have hy : ∀ k, (_ ∨ ((.slice (some ⟨u1.heap.size, 0, none⟩) 16 16) : Value).ownBlock = some k) → w.heap.size + 2 < k := fun k hk => hk.elim (Y1.out k) (fun hk => by have := m2 k hk; have := X1.out.lt; omega)
  have h0 := ((H1.out.ext EE).and m1).setc (p := ⟨w.heap.size, 10, none⟩) (v := (.slice (some ⟨u1.heap.size, 0, none⟩) 16 16)) (fun h => by have : w.heap.size + 2 < w.heap.size := hy _ h; omega)
  have b2 : BoxIs (x1.setCell ⟨w.heap.size, 10, none⟩ (.slice (some ⟨u1.heap.size, 0, none⟩) 16 16)) w.heap.size #[.int .i64 0, .int .i64 0, .int .i64 0, .int .i64 0, .int .i64 0, .int .i64 0, .int .i64 0, .int .i64 0, .slice (some ⟨w0.heap.size, 0, none⟩) 64 64, .slice (some ⟨u0.heap.size, 0, none⟩) 16 16, .slice (some ⟨u1.heap.size, 0, none⟩) 16 16, .slice none 0 0, .slice none 0 0] 42 := (B1.out.ext EE).set (i := 10) (.slice (some ⟨u1.heap.size, 0, none⟩) 16 16)
  have r2 := (R1.out.ext EE).other (p := ⟨w.heap.size, 10, none⟩) (by show w.heap.size ≠ w.heap.size + 1; omega) (.slice (some ⟨u1.heap.size, 0, none⟩) 16 16)
  have q2 := (X1.out.ext EE).other (p := ⟨w.heap.size, 10, none⟩) (by show w.heap.size ≠ w.heap.size + 2; omega) (.slice (some ⟨u1.heap.size, 0, none⟩) 16 16)
  have e2 := (E1.out.trans EE).setCell (p := ⟨w.heap.size, 10, none⟩) (Nat.le_refl _) (.slice (some ⟨u1.heap.size, 0, none⟩) 16 16)
  clear c dd gg hown hgrow EE m1 m2 B1 H1 R1 X1 E1 Y1
  generalize x1.setCell ⟨w.heap.size, 10, none⟩ (.slice (some ⟨u1.heap.size, 0, none⟩) 16 16) = u2 at b2 r2 q2 e2 h0 ⊢
  have B2 := Lib.hid b2
  have H2 := Lib.hid h0
  have R2 := Lib.hid r2
  have X2 := Lib.hid q2
  have E2 := Lib.hid e2
  have Y2 := Lib.hid hy
  clear b2 r2 q2 e2 h0 hy
  rw [rounds_succ]
  have c := B2.out.cell (i := 11) (v := .slice none 0 0) rfl
  go_wp2_with (at_make; refine wpList_make_full _ rfl _ _ 33 rfl u2.heap.size 3 i0 (.int .i64 0) 1 Tryz.underlying33 hi hz0 hz1 .i64 .i64 _ _ 16 rfl rfl rfl rfl (by rw [hz2]; decide) (by decide) (Nat.le_refl _) ?_; intro x2 hown hgrow; have EE : Ext u2 x2 := Below.grown (Ext.refl u2) hgrow (Nat.le_refl _) (fun k hk => by cases hk); have dd := EE.cell c; have gg := (B2.out.ext EE).free (i := 11))
  obtain ⟨m1, m2⟩ := ho_made (by decide) hown
  have hy : ∀ k, (_ ∨ ((.slice (some ⟨u2.heap.size, 0, none⟩) 16 16) : Value).ownBlock = some k) → w.heap.size + 2 < k := fun k hk => hk.elim (Y2.out k) (fun hk => by have := m2 k hk; have := X2.out.lt; omega)
  have h0 := ((H2.out.ext EE).and m1).setc (p := ⟨w.heap.size, 11, none⟩) (v := (.slice (some ⟨u2.heap.size, 0, none⟩) 16 16)) (fun h => by have : w.heap.size + 2 < w.heap.size := hy _ h; omega)
  have b2 : BoxIs (x2.setCell ⟨w.heap.size, 11, none⟩ (.slice (some ⟨u2.heap.size, 0, none⟩) 16 16)) w.heap.size #[.int .i64 0, .int .i64 0, .int .i64 0, .int .i64 0, .int .i64 0, .int .i64 0, .int .i64 0, .int .i64 0, .slice (some ⟨w0.heap.size, 0, none⟩) 64 64, .slice (some ⟨u0.heap.size, 0, none⟩) 16 16, .slice (some ⟨u1.heap.size, 0, none⟩) 16 16, .slice (some ⟨u2.heap.size, 0, none⟩) 16 16, .slice none 0 0] 42 := (B2.out.ext EE).set (i := 11) (.slice (some ⟨u2.heap.size, 0, none⟩) 16 16)
  have r2 := (R2.out.ext EE).other (p := ⟨w.heap.size, 11, none⟩) (by show w.heap.size ≠ w.heap.size + 1; omega) (.slice (some ⟨u2.heap.size, 0, none⟩) 16 16)
  have q2 := (X2.out.ext EE).other (p := ⟨w.heap.size, 11, none⟩) (by show w.heap.size ≠ w.heap.size + 2; omega) (.slice (some ⟨u2.heap.size, 0, none⟩) 16 16)
  have e2 := (E2.out.trans EE).setCell (p := ⟨w.heap.size, 11, none⟩) (Nat.le_refl _) (.slice (some ⟨u2.heap.size, 0, none⟩) 16 16)
  clear c dd gg hown hgrow EE m1 m2 B2 H2 R2 X2 E2 Y2
  generalize x2.setCell ⟨w.heap.size, 11, none⟩ (.slice (some ⟨u2.heap.size, 0, none⟩) 16 16) = u3 at b2 r2 q2 e2 h0 ⊢
  have B3 := Lib.hid b2
  have H3 := Lib.hid h0
  have R3 := Lib.hid r2
  have X3 := Lib.hid q2
  have E3 := Lib.hid e2
  have Y3 := Lib.hid hy
  clear b2 r2 q2 e2 h0 hy
  rw [rounds_succ]
  have c := B3.out.cell (i := 12) (v := .slice none 0 0) rfl
  go_wp2_with (at_make; refine wpList_make_full _ rfl _ _ 33 rfl u3.heap.size 3 i0 (.int .i64 0) 1 Tryz.underlying33 hi hz0 hz1 .i64 .i64 _ _ 16 rfl rfl rfl rfl (by rw [hz2]; decide) (by decide) (Nat.le_refl _) ?_; intro x3 hown hgrow; have EE : Ext u3 x3 := Below.grown (Ext.refl u3) hgrow (Nat.le_refl _) (fun k hk => by cases hk); have dd := EE.cell c; have gg := (B3.out.ext EE).free (i := 12))
  obtain ⟨m1, m2⟩ := ho_made (by decide) hown
  have hy : ∀ k, (_ ∨ ((.slice (some ⟨u3.heap.size, 0, none⟩) 16 16) : Value).ownBlock = some k) → w.heap.size + 2 < k := fun k hk => hk.elim (Y3.out k) (fun hk => by have := m2 k hk; have := X3.out.lt; omega)
  have h0 := ((H3.out.ext EE).and m1).setc (p := ⟨w.heap.size, 12, none⟩) (v := (.slice (some ⟨u3.heap.size, 0, none⟩) 16 16)) (fun h => by have : w.heap.size + 2 < w.heap.size := hy _ h; omega)
  have b2 : BoxIs (x3.setCell ⟨w.heap.size, 12, none⟩ (.slice (some ⟨u3.heap.size, 0, none⟩) 16 16)) w.heap.size #[.int .i64 0, .int .i64 0, .int .i64 0, .int .i64 0, .int .i64 0, .int .i64 0, .int .i64 0, .int .i64 0, .slice (some ⟨w0.heap.size, 0, none⟩) 64 64, .slice (some ⟨u0.heap.size, 0, none⟩) 16 16, .slice (some ⟨u1.heap.size, 0, none⟩) 16 16, .slice (some ⟨u2.heap.size, 0, none⟩) 16 16, .slice (some ⟨u3.heap.size, 0, none⟩) 16 16] 42 := (B3.out.ext EE).set (i := 12) (.slice (some ⟨u3.heap.size, 0, none⟩) 16 16)
  have r2 := (R3.out.ext EE).other (p := ⟨w.heap.size, 12, none⟩) (by show w.heap.size ≠ w.heap.size + 1; omega) (.slice (some ⟨u3.heap.size, 0, none⟩) 16 16)
  have q2 := (X3.out.ext EE).other (p := ⟨w.heap.size, 12, none⟩) (by show w.heap.size ≠ w.heap.size + 2; omega) (.slice (some ⟨u3.heap.size, 0, none⟩) 16 16)
  have e2 := (E3.out.trans EE).setCell (p := ⟨w.heap.size, 12, none⟩) (Nat.le_refl _) (.slice (some ⟨u3.heap.size, 0, none⟩) 16 16)
  clear c dd gg hown hgrow EE m1 m2 B3 H3 R3 X3 E3 Y3
  generalize x3.setCell ⟨w.heap.size, 12, none⟩ (.slice (some ⟨u3.heap.size, 0, none⟩) 16 16) = u4 at b2 r2 q2 e2 h0 ⊢
  have B4 := Lib.hid b2
  have H4 := Lib.hid h0
  have R4 := Lib.hid r2
  have X4 := Lib.hid q2
  have E4 := Lib.hid e2
  have Y4 := Lib.hid hy
  clear b2 r2 q2 e2 h0 hy
  rw [rounds_succ]
  obtain ⟨w6, h6⟩ : ∃ z, z = u4 := ⟨_, rfl⟩
  subst h6
  skip
  obtain ⟨YY, H4', Y4'⟩ : ∃ Y : Nat → Prop, HoF w6 Y (fun W => SqIs W (blS 0) (.slice (some ⟨w0.heap.size, 0, none⟩) 64 64) (.slice (some ⟨u0.heap.size, 0, none⟩) 16 16) (.slice (some ⟨u1.heap.size, 0, none⟩) 16 16) (.slice (some ⟨u2.heap.size, 0, none⟩) 16 16) (.slice (some ⟨u3.heap.size, 0, none⟩) 16 16)) ∧ ∀ k, Y k → w.heap.size + 2 < k := ⟨_, H4.out.imp (fun W h => SqIs.mk' h), Y4.out⟩
  have hAll := ((((HoF.box R4.out).and (HoF.box X4.out)).and (HoF.box B4.out))).and H4'
  have hDD : ∀ k, (((k = w.heap.size + 1 ∨ k = w.heap.size + 2) ∨ k = w.heap.size) ∨ YY k) → ¬ F k := by
    rintro k (((rfl | rfl) | rfl) | hk) hf
    · have := HFL.out _ hf; omega
    · have := HFL.out _ hf; omega
    · have := HFL.out _ hf; omega
    · have := HFL.out _ hf; have := Y4' _ hk; omega
  have HE6 := Lib.hid E4.out
  have HAL := Lib.hid hAll
  have HDD := Lib.hid hDD
  have k0 := B4.out.cell (i := 0) (v := .int .i64 0) rfl
  have HB1 : Hid (w.heap.size ≤ w.heap.size + 1) := Nat.le_succ _
  have HB2 : Hid (w.heap.size ≤ w.heap.size + 2) := by show _ ≤ _; omega
  have h12 : w.heap.size + 1 ≠ w.heap.size + 2 := by omega
  clear hAll hDD B4 R4 X4 H4 Y4 E4 H4' Y4'
  go_wp2_with fail
  obtain ⟨⟨kk, t1⟩, ek⟩ : ∃ r, (kyP key (0)).run (mY bs) s = r := ⟨_, rfl⟩
  have hkk : 0 ≤ kk ∧ kk ≤ 3 := by have h := ky_in (M := (mY bs)) key (0) s; rw [ek] at h; simp only [okK, Bool.and_eq_true, decide_eq_true_eq] at h; exact h.1
  have hk1 := Pg.ok (mkY (bs := bs)) (ky_dep key (0)) HK.out
  rw [ek] at hk1
  have U7 := drckind_any a N d bs key (0) s F w6 (Obj.ext (DrF.objD a d bs) HW0.out HE6.out) HK.out (by omega)
  rw [ek] at U7
  refine U7.mono ?_; rintro e w7 ⟨rfl, F1, y1, st1⟩
  clear U7 k0
  dsimp only
  have N8 := (BoxIs.new w7 #[.int .i64 kk, .int .i64 0, .int .i64 0, .int .i64 0, .int .i64 0, .int .i64 0, .int .i64 0, .int .i64 0, .slice none 0 0, .slice none 0 0, .slice none 0 0, .slice none 0 0, .slice none 0 0] 42).ext ((Ext.refl _).alloc (.cells #[.int .i64 0, .slice none 0 0] 46))
  have M8 := BoxIs.new (w7.alloc (.cells #[.int .i64 kk, .int .i64 0, .int .i64 0, .int .i64 0, .int .i64 0, .int .i64 0, .int .i64 0, .int .i64 0, .slice none 0 0, .slice none 0 0, .slice none 0 0, .slice none 0 0, .slice none 0 0] 42)) #[.int .i64 0, .slice none 0 0] 46
  have hs8 : (w7.alloc (.cells #[.int .i64 kk, .int .i64 0, .int .i64 0, .int .i64 0, .int .i64 0, .int .i64 0, .int .i64 0, .int .i64 0, .slice none 0 0, .slice none 0 0, .slice none 0 0, .slice none 0 0, .slice none 0 0] 42)).heap.size = w7.heap.size + 1 := by simp
  rw [hs8] at M8
  have X8 := ((Ext.refl w7).alloc (.cells #[.int .i64 kk, .int .i64 0, .int .i64 0, .int .i64 0, .int .i64 0, .int .i64 0, .int .i64 0, .int .i64 0, .slice none 0 0, .slice none 0 0, .slice none 0 0, .slice none 0 0, .slice none 0 0] 42)).alloc (.cells #[.int .i64 0, .slice none 0 0] 46)
  obtain ⟨w8, hw8⟩ : ∃ z, (w7.alloc (.cells #[.int .i64 kk, .int .i64 0, .int .i64 0, .int .i64 0, .int .i64 0, .int .i64 0, .int .i64 0, .int .i64 0, .slice none 0 0, .slice none 0 0, .slice none 0 0, .slice none 0 0, .slice none 0 0] 42)).alloc (.cells #[.int .i64 0, .slice none 0 0] 46) = z := ⟨_, rfl⟩
  rw [hw8] at N8 M8 X8
  obtain ⟨S8, T8⟩ := Sep.new (DrF.objD a d bs) (B := BpF w7.heap.size (w7.heap.size + 1)) (G := fun k => k = w7.heap.size ∨ k = w7.heap.size + 1) (t := (zeA kk, #[.int .i64 0, .slice none 0 0])) y1 X8 ⟨N8, M8, by omega, fun _ => Iff.rfl⟩ (fun k hk => by rcases hk with rfl | rfl <;> omega)
  have HI0 := Lib.hid (st1.trans T8)
  have HS0 : Hid (Sep (Sep (DrF a d bs) (BpF w7.heap.size (w7.heap.size + 1))) HoF w8 _ ((t1, (#[.int .i64 kk, .int .i64 0, .int .i64 0, .int .i64 0, .int .i64 0, .int .i64 0, .int .i64 0, .int .i64 0, .slice none 0 0, .slice none 0 0, .slice none 0 0, .slice none 0 0, .slice none 0 0], #[.int .i64 0, .slice none 0 0])), fun _ => True)) := Sep.pure S8 (fun _ => trivial)
  have HW8 := Lib.hid hw8
  have HKP := Lib.hid (fun G wz (st : Step F w6 G wz) => ho_keep HAL.out HDD.out st)
  clear N8 M8 hs8 X8 S8 T8 y1 st1
  have HEK := Lib.hid ek
  have HK1 := Lib.hid hk1
  clear ek hk1 HK
  have hgb : BoxIs w8 w.heap.size #[.int .i64 0, .int .i64 0, .int .i64 0, .int .i64 0, .int .i64 0, .int .i64 0, .int .i64 0, .int .i64 0, .slice (some ⟨w0.heap.size, 0, none⟩) 64 64, .slice (some ⟨u0.heap.size, 0, none⟩) 16 16, .slice (some ⟨u1.heap.size, 0, none⟩) 16 16, .slice (some ⟨u2.heap.size, 0, none⟩) 16 16, .slice (some ⟨u3.heap.size, 0, none⟩) 16 16] 42 := (HKP.out _ _ HI0.out).1.get.1.2
  have hpb := (bp_p HS0.out).1
  have heb := (bp_p HS0.out).2
  skip
  rw [← hw8] at hgb hpb heb
  clear hw8
  obtain ⟨⟨s0, s1, s2, s3, s4, s5, s6, s7, s8, s9, s10, s11, s12⟩, -⟩ := sq_cells hgb
  obtain ⟨⟨p0, p1, p2, p3, p4, p5, p6, p7, p8, p9, p10, p11, p12⟩, -⟩ := sq_cells hpb
  have ec0 := heb.cell (i := 0) (v := .int .i64 0) rfl
  have ec1 := heb.cell (i := 1) (v := .slice none 0 0) rfl
  clear hgb hpb heb
  obtain ⟨h0, h1⟩ := hkk
  by_cases hkk0 : kk = 0
  · subst hkk0
    have HA : Hid ((sqP key (0) (blS 0)).run (mY bs) s = ((none, { sq0 with k := 0 }), t1)) := sq_run_ok HEK.out rfl
    go_wp2_with fail
    refine wp_loop_rounds 2 ?_
    rw [rounds_succ]
    go_wp2_with fail
    rw [HW8.out]
    clear s0 s1 s2 s3 s4 s5 s6 s7 s8 s9 s10 s11 s12 p0 p1 p2 p3 p4 p5 p6 p7 p8 p9 p10 p11 p12 ec0 ec1
    refine (ok_any _ _ _).mono ?_; rintro e wk ⟨rfl, hxk⟩
    have HSk := Lib.hid (Obj.ext (((DrF.objD a d bs).sep (BpF.obj w7.heap.size (w7.heap.size + 1))).sep HoF.obj) HS0.out hxk)
    have HIk := Lib.hid (HI0.out.ext hxk)
    clear hxk HS0 HI0
    go_wp2_with fail
    obtain ⟨qa, qd⟩ := HKP.out _ _ HIk.out
    have HRB := Lib.hid qa.get.1.1.1
    have HEB := Lib.hid qa.get.1.1.2
    have HN1 := Lib.hid (qd (w.heap.size + 1) (.inl (.inl (.inl rfl))))
    have HN2 := Lib.hid (qd (w.heap.size + 2) (.inl (.inl (.inr rfl))))
    clear qa qd
    have HPB := Lib.hid (bp_p HSk.out).1
    have HXB := Lib.hid (bp_p HSk.out).2
    have hne1 : w.heap.size + 1 ≠ w7.heap.size := fun e => HN1.out (by rw [e]; exact bp_in HSk.out (.inl rfl))
    have hne2 : w.heap.size + 1 ≠ w7.heap.size + 1 := fun e => HN1.out (by rw [e]; exact bp_in HSk.out (.inr rfl))
    have hne3 : w.heap.size + 2 ≠ w7.heap.size := fun e => HN2.out (by rw [e]; exact bp_in HSk.out (.inl rfl))
    have hne4 : w.heap.size + 2 ≠ w7.heap.size + 1 := fun e => HN2.out (by rw [e]; exact bp_in HSk.out (.inr rfl))
    refine wp_region_held_drew (S := fun w' => w'.cell? ⟨w7.heap.size, 0, none⟩ = some (.int .i64 0) ∧ w'.cell? ⟨w7.heap.size, 1, none⟩ = some (.int .i64 0) ∧ w'.cell? ⟨w7.heap.size, 2, none⟩ = some (.int .i64 0) ∧ w'.cell? ⟨w7.heap.size, 3, none⟩ = some (.int .i64 0) ∧ w'.cell? ⟨w7.heap.size, 4, none⟩ = some (.int .i64 0) ∧ w'.cell? ⟨w7.heap.size, 5, none⟩ = some (.int .i64 0) ∧ w'.cell? ⟨w7.heap.size, 6, none⟩ = some (.int .i64 0) ∧ w'.cell? ⟨w7.heap.size, 7, none⟩ = some (.int .i64 0) ∧ w'.cell? ⟨w7.heap.size, 8, none⟩ = some (.slice none 0 0) ∧ w'.cell? ⟨w7.heap.size, 9, none⟩ = some (.slice none 0 0) ∧ w'.cell? ⟨w7.heap.size, 10, none⟩ = some (.slice none 0 0) ∧ w'.cell? ⟨w7.heap.size, 11, none⟩ = some (.slice none 0 0) ∧ w'.cell? ⟨w7.heap.size, 12, none⟩ = some (.slice none 0 0) ∧ w'.cell? ⟨w7.heap.size + 1, 0, none⟩ = some (.int .i64 0) ∧ w'.cell? ⟨w7.heap.size + 1, 1, none⟩ = some (.slice none 0 0)) (by kernel_rfl) (⟨(HPB.out.ext ((Ext.refl _).drew)).cell rfl, (HPB.out.ext ((Ext.refl _).drew)).cell rfl, (HPB.out.ext ((Ext.refl _).drew)).cell rfl, (HPB.out.ext ((Ext.refl _).drew)).cell rfl, (HPB.out.ext ((Ext.refl _).drew)).cell rfl, (HPB.out.ext ((Ext.refl _).drew)).cell rfl, (HPB.out.ext ((Ext.refl _).drew)).cell rfl, (HPB.out.ext ((Ext.refl _).drew)).cell rfl, (HPB.out.ext ((Ext.refl _).drew)).cell rfl, (HPB.out.ext ((Ext.refl _).drew)).cell rfl, (HPB.out.ext ((Ext.refl _).drew)).cell rfl, (HPB.out.ext ((Ext.refl _).drew)).cell rfl, (HPB.out.ext ((Ext.refl _).drew)).cell rfl, (HXB.out.ext ((Ext.refl _).drew)).cell rfl, (HXB.out.ext ((Ext.refl _).drew)).cell rfl⟩) (fun hHeld => ?_)
    refine wpAnyH_take (i := 0) (oi := { dst := some 125, op := Op.load 42 (Operand.tmp 10), type := 42, pos := "ref.go:147", after := #[], guard := none }) (v := ?_) rfl (by kernel_rfl) (by kernel_rfl) (by kernel_rfl) (fun _ _ _ h => h) (Or.inl ⟨by rfl, ?_⟩) (by assumption) ?_
    case refine_2 => (intro w hSw; (try dsimp only at hSw); go_simp; (try with_reducible rfl))
    try simp only [Act.put, List.setIfInBounds_toArray, List.set_cons_zero, List.set_cons_succ]
    refine wpAnyH_take (i := 1) (oi := { dst := some 126, op := Op.load 46 (Operand.tmp 11), type := 46, pos := "ref.go:147", after := #[{ on := 2, ground := Ground.gcOnly Departure.lateStores }], guard := none }) (v := ?_) rfl (by kernel_rfl) (by kernel_rfl) (by kernel_rfl) (fun _ _ _ h => h) (Or.inl ⟨by rfl, ?_⟩) (by assumption) ?_
    case refine_2 => (intro w hSw; (try dsimp only at hSw); go_simp; (try with_reducible rfl))
    try simp only [Act.put, List.setIfInBounds_toArray, List.set_cons_zero, List.set_cons_succ]
    obtain ⟨⟨e0, e1, e2, e3, e4, e5, e6, e7, e8, e9, e10, e11, e12⟩, f0, f1, f2, f3, f4, f5, f6, f7, f8, f9, f10, f11, f12⟩ := sq_cells HRB.out
    refine wpAnyH_ready (rs := [2]) (by kernel_rfl) (by simp) ?_
    refine AllReadyH.cons (o := { dst := none, op := Op.store 42 (Operand.tmp 6) (Operand.tmp 125), type := 0, pos := "ref.go:147", after := #[{ on := 0, ground := Ground.data }, { on := 0, ground := Ground.phase }, { on := 1, ground := Ground.textOnly Departure.lateStores }], guard := none }) rfl (fun K hK => ?_) AllReadyH.nil
    go_simp
    refine hK.out _ _ (⟨((set13_other HPB.out hne1 (.int .i64 0) (.int .i64 0) (.int .i64 0) (.int .i64 0) (.int .i64 0) (.int .i64 0) (.int .i64 0) (.int .i64 0) (.slice none 0 0) (.slice none 0 0) (.slice none 0 0) (.slice none 0 0) (.slice none 0 0)).ext ((Ext.refl _).drew)).cell rfl, ((set13_other HPB.out hne1 (.int .i64 0) (.int .i64 0) (.int .i64 0) (.int .i64 0) (.int .i64 0) (.int .i64 0) (.int .i64 0) (.int .i64 0) (.slice none 0 0) (.slice none 0 0) (.slice none 0 0) (.slice none 0 0) (.slice none 0 0)).ext ((Ext.refl _).drew)).cell rfl, ((set13_other HPB.out hne1 (.int .i64 0) (.int .i64 0) (.int .i64 0) (.int .i64 0) (.int .i64 0) (.int .i64 0) (.int .i64 0) (.int .i64 0) (.slice none 0 0) (.slice none 0 0) (.slice none 0 0) (.slice none 0 0) (.slice none 0 0)).ext ((Ext.refl _).drew)).cell rfl, ((set13_other HPB.out hne1 (.int .i64 0) (.int .i64 0) (.int .i64 0) (.int .i64 0) (.int .i64 0) (.int .i64 0) (.int .i64 0) (.int .i64 0) (.slice none 0 0) (.slice none 0 0) (.slice none 0 0) (.slice none 0 0) (.slice none 0 0)).ext ((Ext.refl _).drew)).cell rfl, ((set13_other HPB.out hne1 (.int .i64 0) (.int .i64 0) (.int .i64 0) (.int .i64 0) (.int .i64 0) (.int .i64 0) (.int .i64 0) (.int .i64 0) (.slice none 0 0) (.slice none 0 0) (.slice none 0 0) (.slice none 0 0) (.slice none 0 0)).ext ((Ext.refl _).drew)).cell rfl, ((set13_other HPB.out hne1 (.int .i64 0) (.int .i64 0) (.int .i64 0) (.int .i64 0) (.int .i64 0) (.int .i64 0) (.int .i64 0) (.int .i64 0) (.slice none 0 0) (.slice none 0 0) (.slice none 0 0) (.slice none 0 0) (.slice none 0 0)).ext ((Ext.refl _).drew)).cell rfl, ((set13_other HPB.out hne1 (.int .i64 0) (.int .i64 0) (.int .i64 0) (.int .i64 0) (.int .i64 0) (.int .i64 0) (.int .i64 0) (.int .i64 0) (.slice none 0 0) (.slice none 0 0) (.slice none 0 0) (.slice none 0 0) (.slice none 0 0)).ext ((Ext.refl _).drew)).cell rfl, ((set13_other HPB.out hne1 (.int .i64 0) (.int .i64 0) (.int .i64 0) (.int .i64 0) (.int .i64 0) (.int .i64 0) (.int .i64 0) (.int .i64 0) (.slice none 0 0) (.slice none 0 0) (.slice none 0 0) (.slice none 0 0) (.slice none 0 0)).ext ((Ext.refl _).drew)).cell rfl, ((set13_other HPB.out hne1 (.int .i64 0) (.int .i64 0) (.int .i64 0) (.int .i64 0) (.int .i64 0) (.int .i64 0) (.int .i64 0) (.int .i64 0) (.slice none 0 0) (.slice none 0 0) (.slice none 0 0) (.slice none 0 0) (.slice none 0 0)).ext ((Ext.refl _).drew)).cell rfl, ((set13_other HPB.out hne1 (.int .i64 0) (.int .i64 0) (.int .i64 0) (.int .i64 0) (.int .i64 0) (.int .i64 0) (.int .i64 0) (.int .i64 0) (.slice none 0 0) (.slice none 0 0) (.slice none 0 0) (.slice none 0 0) (.slice none 0 0)).ext ((Ext.refl _).drew)).cell rfl, ((set13_other HPB.out hne1 (.int .i64 0) (.int .i64 0) (.int .i64 0) (.int .i64 0) (.int .i64 0) (.int .i64 0) (.int .i64 0) (.int .i64 0) (.slice none 0 0) (.slice none 0 0) (.slice none 0 0) (.slice none 0 0) (.slice none 0 0)).ext ((Ext.refl _).drew)).cell rfl, ((set13_other HPB.out hne1 (.int .i64 0) (.int .i64 0) (.int .i64 0) (.int .i64 0) (.int .i64 0) (.int .i64 0) (.int .i64 0) (.int .i64 0) (.slice none 0 0) (.slice none 0 0) (.slice none 0 0) (.slice none 0 0) (.slice none 0 0)).ext ((Ext.refl _).drew)).cell rfl, ((set13_other HPB.out hne1 (.int .i64 0) (.int .i64 0) (.int .i64 0) (.int .i64 0) (.int .i64 0) (.int .i64 0) (.int .i64 0) (.int .i64 0) (.slice none 0 0) (.slice none 0 0) (.slice none 0 0) (.slice none 0 0) (.slice none 0 0)).ext ((Ext.refl _).drew)).cell rfl, ((set13_other HXB.out hne2 (.int .i64 0) (.int .i64 0) (.int .i64 0) (.int .i64 0) (.int .i64 0) (.int .i64 0) (.int .i64 0) (.int .i64 0) (.slice none 0 0) (.slice none 0 0) (.slice none 0 0) (.slice none 0 0) (.slice none 0 0)).ext ((Ext.refl _).drew)).cell rfl, ((set13_other HXB.out hne2 (.int .i64 0) (.int .i64 0) (.int .i64 0) (.int .i64 0) (.int .i64 0) (.int .i64 0) (.int .i64 0) (.int .i64 0) (.slice none 0 0) (.slice none 0 0) (.slice none 0 0) (.slice none 0 0) (.slice none 0 0)).ext ((Ext.refl _).drew)).cell rfl⟩) (fun hHeld => ?_)
    clear hK K
    try simp only [Act.put, List.setIfInBounds_toArray, List.set_cons_zero, List.set_cons_succ]
    have ey0 := (set13_other HEB.out h12 (.int .i64 0) (.int .i64 0) (.int .i64 0) (.int .i64 0) (.int .i64 0) (.int .i64 0) (.int .i64 0) (.int .i64 0) (.slice none 0 0) (.slice none 0 0) (.slice none 0 0) (.slice none 0 0) (.slice none 0 0)).cell (i := 0) (v := .int .i64 0) rfl
    have ey1 := (set13_other HEB.out h12 (.int .i64 0) (.int .i64 0) (.int .i64 0) (.int .i64 0) (.int .i64 0) (.int .i64 0) (.int .i64 0) (.int .i64 0) (.slice none 0 0) (.slice none 0 0) (.slice none 0 0) (.slice none 0 0) (.slice none 0 0)).cell (i := 1) (v := .slice none 0 0) rfl
    have yf0 := (set13_other HEB.out h12 (.int .i64 0) (.int .i64 0) (.int .i64 0) (.int .i64 0) (.int .i64 0) (.int .i64 0) (.int .i64 0) (.int .i64 0) (.slice none 0 0) (.slice none 0 0) (.slice none 0 0) (.slice none 0 0) (.slice none 0 0)).free (i := 0)
    have yf1 := (set13_other HEB.out h12 (.int .i64 0) (.int .i64 0) (.int .i64 0) (.int .i64 0) (.int .i64 0) (.int .i64 0) (.int .i64 0) (.int .i64 0) (.slice none 0 0) (.slice none 0 0) (.slice none 0 0) (.slice none 0 0) (.slice none 0 0)).free (i := 1)
    clear e0 e1 e2 e3 e4 e5 e6 e7 e8 e9 e10 e11 e12 f0 f1 f2 f3 f4 f5 f6 f7 f8 f9 f10 f11 f12
    refine wpAnyH_ready (rs := [3]) (by kernel_rfl) (by simp) ?_
    refine AllReadyH.cons (o := { dst := none, op := Op.store 46 (Operand.tmp 7) (Operand.tmp 126), type := 0, pos := "ref.go:147", after := #[{ on := 1, ground := Ground.data }, { on := 2, ground := Ground.chain }, { on := 0, ground := Ground.phase }, { on := 1, ground := Ground.phase }, { on := 2, ground := Ground.phase }], guard := none }) rfl (fun K hK => ?_) AllReadyH.nil
    go_simp
    refine hK.out _ _ (⟨((((set13_other HPB.out hne1 (.int .i64 0) (.int .i64 0) (.int .i64 0) (.int .i64 0) (.int .i64 0) (.int .i64 0) (.int .i64 0) (.int .i64 0) (.slice none 0 0) (.slice none 0 0) (.slice none 0 0) (.slice none 0 0) (.slice none 0 0)).other (p := ⟨w.heap.size + 2, 0, none⟩) hne3 _).other (p := ⟨w.heap.size + 2, 1, none⟩) hne3 _).ext ((Ext.refl _).drew)).cell rfl, ((((set13_other HPB.out hne1 (.int .i64 0) (.int .i64 0) (.int .i64 0) (.int .i64 0) (.int .i64 0) (.int .i64 0) (.int .i64 0) (.int .i64 0) (.slice none 0 0) (.slice none 0 0) (.slice none 0 0) (.slice none 0 0) (.slice none 0 0)).other (p := ⟨w.heap.size + 2, 0, none⟩) hne3 _).other (p := ⟨w.heap.size + 2, 1, none⟩) hne3 _).ext ((Ext.refl _).drew)).cell rfl, ((((set13_other HPB.out hne1 (.int .i64 0) (.int .i64 0) (.int .i64 0) (.int .i64 0) (.int .i64 0) (.int .i64 0) (.int .i64 0) (.int .i64 0) (.slice none 0 0) (.slice none 0 0) (.slice none 0 0) (.slice none 0 0) (.slice none 0 0)).other (p := ⟨w.heap.size + 2, 0, none⟩) hne3 _).other (p := ⟨w.heap.size + 2, 1, none⟩) hne3 _).ext ((Ext.refl _).drew)).cell rfl, ((((set13_other HPB.out hne1 (.int .i64 0) (.int .i64 0) (.int .i64 0) (.int .i64 0) (.int .i64 0) (.int .i64 0) (.int .i64 0) (.int .i64 0) (.slice none 0 0) (.slice none 0 0) (.slice none 0 0) (.slice none 0 0) (.slice none 0 0)).other (p := ⟨w.heap.size + 2, 0, none⟩) hne3 _).other (p := ⟨w.heap.size + 2, 1, none⟩) hne3 _).ext ((Ext.refl _).drew)).cell rfl, ((((set13_other HPB.out hne1 (.int .i64 0) (.int .i64 0) (.int .i64 0) (.int .i64 0) (.int .i64 0) (.int .i64 0) (.int .i64 0) (.int .i64 0) (.slice none 0 0) (.slice none 0 0) (.slice none 0 0) (.slice none 0 0) (.slice none 0 0)).other (p := ⟨w.heap.size + 2, 0, none⟩) hne3 _).other (p := ⟨w.heap.size + 2, 1, none⟩) hne3 _).ext ((Ext.refl _).drew)).cell rfl, ((((set13_other HPB.out hne1 (.int .i64 0) (.int .i64 0) (.int .i64 0) (.int .i64 0) (.int .i64 0) (.int .i64 0) (.int .i64 0) (.int .i64 0) (.slice none 0 0) (.slice none 0 0) (.slice none 0 0) (.slice none 0 0) (.slice none 0 0)).other (p := ⟨w.heap.size + 2, 0, none⟩) hne3 _).other (p := ⟨w.heap.size + 2, 1, none⟩) hne3 _).ext ((Ext.refl _).drew)).cell rfl, ((((set13_other HPB.out hne1 (.int .i64 0) (.int .i64 0) (.int .i64 0) (.int .i64 0) (.int .i64 0) (.int .i64 0) (.int .i64 0) (.int .i64 0) (.slice none 0 0) (.slice none 0 0) (.slice none 0 0) (.slice none 0 0) (.slice none 0 0)).other (p := ⟨w.heap.size + 2, 0, none⟩) hne3 _).other (p := ⟨w.heap.size + 2, 1, none⟩) hne3 _).ext ((Ext.refl _).drew)).cell rfl, ((((set13_other HPB.out hne1 (.int .i64 0) (.int .i64 0) (.int .i64 0) (.int .i64 0) (.int .i64 0) (.int .i64 0) (.int .i64 0) (.int .i64 0) (.slice none 0 0) (.slice none 0 0) (.slice none 0 0) (.slice none 0 0) (.slice none 0 0)).other (p := ⟨w.heap.size + 2, 0, none⟩) hne3 _).other (p := ⟨w.heap.size + 2, 1, none⟩) hne3 _).ext ((Ext.refl _).drew)).cell rfl, ((((set13_other HPB.out hne1 (.int .i64 0) (.int .i64 0) (.int .i64 0) (.int .i64 0) (.int .i64 0) (.int .i64 0) (.int .i64 0) (.int .i64 0) (.slice none 0 0) (.slice none 0 0) (.slice none 0 0) (.slice none 0 0) (.slice none 0 0)).other (p := ⟨w.heap.size + 2, 0, none⟩) hne3 _).other (p := ⟨w.heap.size + 2, 1, none⟩) hne3 _).ext ((Ext.refl _).drew)).cell rfl, ((((set13_other HPB.out hne1 (.int .i64 0) (.int .i64 0) (.int .i64 0) (.int .i64 0) (.int .i64 0) (.int .i64 0) (.int .i64 0) (.int .i64 0) (.slice none 0 0) (.slice none 0 0) (.slice none 0 0) (.slice none 0 0) (.slice none 0 0)).other (p := ⟨w.heap.size + 2, 0, none⟩) hne3 _).other (p := ⟨w.heap.size + 2, 1, none⟩) hne3 _).ext ((Ext.refl _).drew)).cell rfl, ((((set13_other HPB.out hne1 (.int .i64 0) (.int .i64 0) (.int .i64 0) (.int .i64 0) (.int .i64 0) (.int .i64 0) (.int .i64 0) (.int .i64 0) (.slice none 0 0) (.slice none 0 0) (.slice none 0 0) (.slice none 0 0) (.slice none 0 0)).other (p := ⟨w.heap.size + 2, 0, none⟩) hne3 _).other (p := ⟨w.heap.size + 2, 1, none⟩) hne3 _).ext ((Ext.refl _).drew)).cell rfl, ((((set13_other HPB.out hne1 (.int .i64 0) (.int .i64 0) (.int .i64 0) (.int .i64 0) (.int .i64 0) (.int .i64 0) (.int .i64 0) (.int .i64 0) (.slice none 0 0) (.slice none 0 0) (.slice none 0 0) (.slice none 0 0) (.slice none 0 0)).other (p := ⟨w.heap.size + 2, 0, none⟩) hne3 _).other (p := ⟨w.heap.size + 2, 1, none⟩) hne3 _).ext ((Ext.refl _).drew)).cell rfl, ((((set13_other HPB.out hne1 (.int .i64 0) (.int .i64 0) (.int .i64 0) (.int .i64 0) (.int .i64 0) (.int .i64 0) (.int .i64 0) (.int .i64 0) (.slice none 0 0) (.slice none 0 0) (.slice none 0 0) (.slice none 0 0) (.slice none 0 0)).other (p := ⟨w.heap.size + 2, 0, none⟩) hne3 _).other (p := ⟨w.heap.size + 2, 1, none⟩) hne3 _).ext ((Ext.refl _).drew)).cell rfl, ((((set13_other HXB.out hne2 (.int .i64 0) (.int .i64 0) (.int .i64 0) (.int .i64 0) (.int .i64 0) (.int .i64 0) (.int .i64 0) (.int .i64 0) (.slice none 0 0) (.slice none 0 0) (.slice none 0 0) (.slice none 0 0) (.slice none 0 0)).other (p := ⟨w.heap.size + 2, 0, none⟩) hne4 _).other (p := ⟨w.heap.size + 2, 1, none⟩) hne4 _).ext ((Ext.refl _).drew)).cell rfl, ((((set13_other HXB.out hne2 (.int .i64 0) (.int .i64 0) (.int .i64 0) (.int .i64 0) (.int .i64 0) (.int .i64 0) (.int .i64 0) (.int .i64 0) (.slice none 0 0) (.slice none 0 0) (.slice none 0 0) (.slice none 0 0) (.slice none 0 0)).other (p := ⟨w.heap.size + 2, 0, none⟩) hne4 _).other (p := ⟨w.heap.size + 2, 1, none⟩) hne4 _).ext ((Ext.refl _).drew)).cell rfl⟩) (fun hHeld => ?_)
    clear hK K hHeld
    try simp only [Act.put, List.setIfInBounds_toArray, List.set_cons_zero, List.set_cons_succ]
    refine wpAnyH_done (by kernel_rfl) ?_ _
    obtain ⟨GG, k1, k2⟩ := drop_mid (DrF.objD a d bs) HSk.out
    have hZ : Step F w _ _ := (Step.of_ext (F := F) HE6.out).trans HIk.out
    obtain ⟨z1, z2, z3, z4⟩ := fin_all ((DrF.objD a d bs).sep HoF.obj) k1 (hZ.sub k2) HB1.out (fun h => HN1.out (k2 _ h)) HB2.out (fun h => HN2.out (k2 _ h)) h12 HRB.out HEB.out (.int .i64 0) (.int .i64 0) (.int .i64 0) (.int .i64 0) (.int .i64 0) (.int .i64 0) (.int .i64 0) (.int .i64 0) (.slice none 0 0) (.slice none 0 0) (.slice none 0 0) (.slice none 0 0) (.slice none 0 0) (.int .i64 0) (.slice none 0 0)
    have z1 := Obj.ext ((DrF.objD a d bs).sep HoF.obj) z1 ((Ext.refl _).drew)
    have z2 := z2.ext ((Ext.refl _).drew)
    have z3 := z3.ext ((Ext.refl _).drew)
    have z4 := z4.ext ((Ext.refl _).drew)
    clear ey0 ey1 yf0 yf1 k1 hZ
    generalize World.drew _ = wz at z1 z2 z3 z4 ⊢
    obtain ⟨⟨g0, g1, g2, g3, g4, g5, g6, g7, g8, g9, g10, g11, g12⟩, -⟩ := sq_cells z3
    have ey0 := z4.cell (i := 0) (v := .int .i64 0) rfl
    have ey1 := z4.cell (i := 1) (v := .slice none 0 0) rfl
    have HZ1 := Lib.hid z1
    have HZ2 := Lib.hid z2
    clear z1 z2 z3 z4
    go_wp2
    exact bodyPost_ret (v := .tuple #[.agg #[.int .i64 0, .int .i64 0, .int .i64 0, .int .i64 0, .int .i64 0, .int .i64 0, .int .i64 0, .int .i64 0, .slice none 0 0, .slice none 0 0, .slice none 0 0, .slice none 0 0, .slice none 0 0], .agg #[.int .i64 0, .slice none 0 0]]) (by simp [results, Tryz.results12, go_sem, g0, g1, g2, g3, g4, g5, g6, g7, g8, g9, g10, g11, g12, ey0, ey1]) rfl (RSqR.done (L := nilS) (s0 := nilS) (s1 := nilS) (s2 := nilS) (s3 := nilS) HA.out HZ1.out HZ2.out (fun W h => ⟨⟨Ints.nil W, Ints.nil W, Ints.nil W, Ints.nil W, Ints.nil W⟩, RErrIs.zero⟩))
  by_cases hkk1 : kk = 1
  · subst hkk1
    have hlv : lvE (zsL 64) 64 = none := zs_lv 64
    obtain ⟨⟨x1, t2⟩, e1⟩ : ∃ r, partM (mY bs) t1 (cl15 (0)) = r := ⟨_, rfl⟩
    obtain ⟨⟨y1, t3⟩, e2⟩ : ∃ r, partM (mY bs) t2 (cl15 (0)) = r := ⟨_, rfl⟩
    have k2 := par_ok (mkY (bs := bs)) HK1.out e1
    have k3 := par_ok (mkY (bs := bs)) k2 e2
    have U1 := Lib.hid (fun G w' (h : (DrF a d bs) w' G t1) => drpart_any a _ d bs (0) t1 G w' h HK1.out (by omega))
    have U2 := Lib.hid (fun G w' (h : (DrF a d bs) w' G t2) => drpart_any a _ d bs (0) t2 G w' h k2 (by omega))
    obtain ⟨⟨⟨f, ys⟩, t4⟩, e3⟩ : ∃ r, (codP (zsL 64)).run (mY bs) t3 = r := ⟨_, rfl⟩
    have U3 := Lib.hid (fun Y G w' (h : (DrF a d bs) w' G t3) (hv : HoF w' Y (fun W => Ints W (.slice (some ⟨w0.heap.size, 0, none⟩) 64 64) (zsL 64))) (hd : ∀ k, Y k → ¬ G k) => drcode64 a _ d bs (zsL 64) _ Y t3 G w' h k3 (by omega) hv hd (zs_facts' _) (zs_facts 64).2.1)
    rw [e1] at U1
    rw [e3] at U3
    rw [e2] at U2
    have hcod := cod_two (.inr rfl) hlv e3
    have hrun := mv_run (q := (blS 0)) e1 e2 e3
    have HRUN := Lib.hid hrun
    have HCOD := Lib.hid hcod
    clear hrun hcod e1 e3 k3 hlv e2 k2
    go_wp2_with fail
    rw [HW8.out]
    clear s0 s1 s2 s3 s4 s5 s6 s7 s8 s9 s10 s11 s12 p0 p1 p2 p3 p4 p5 p6 p7 p8 p9 p10 p11 p12 ec0 ec1
    refine (bp_call HS0.out (fun G hG => U1.out G _ hG)).mono ?_; rintro e w1 ⟨rfl, G1, h1', st1⟩
    have HS1 := Lib.hid h1'
    have HI1 := Lib.hid (HI0.out.trans st1)
    clear h1' st1 HS0 HI0 U1
    obtain ⟨⟨s0, s1, s2, s3, s4, s5, s6, s7, s8, s9, s10, s11, s12⟩, -⟩ := sq_cells (HKP.out _ _ HI1.out).1.get.1.2
    obtain ⟨⟨p0, p1, p2, p3, p4, p5, p6, p7, p8, p9, p10, p11, p12⟩, f0, f1, f2, f3, f4, f5, f6, f7, f8, f9, f10, f11, f12⟩ := sq_cells (bp_p HS1.out).1
    have ec0 := (bp_p HS1.out).2.cell (i := 0) (v := .int .i64 0) rfl
    have ec1 := (bp_p HS1.out).2.cell (i := 1) (v := .slice none 0 0) rfl
    have xf0 := (bp_p HS1.out).2.free (i := 0)
    have xf1 := (bp_p HS1.out).2.free (i := 1)
    have hs := bp_setp (DrF.objD a d bs) HS1.out 6 (.int .i64 x1)
    have HS2 : Hid (Sep (Sep (DrF a d bs) (BpF w7.heap.size (w7.heap.size + 1))) HoF (w1.setCell ⟨w7.heap.size, 6, none⟩ (.int .i64 x1)) _ ((_, (#[.int .i64 1, .int .i64 0, .int .i64 0, .int .i64 0, .int .i64 0, .int .i64 0, .int .i64 x1, .int .i64 0, .slice none 0 0, .slice none 0 0, .slice none 0 0, .slice none 0 0, .slice none 0 0], #[.int .i64 0, .slice none 0 0])), _)) := hs.1
    have HI2 := Lib.hid (HI1.out.trans hs.2)
    clear hs
    go_wp2_with fail
    clear s0 s1 s2 s3 s4 s5 s6 s7 s8 s9 s10 s11 s12 p0 p1 p2 p3 p4 p5 p6 p7 p8 p9 p10 p11 p12 f0 f1 f2 f3 f4 f5 f6 f7 f8 f9 f10 f11 f12 ec0 ec1 xf0 xf1
    generalize w1.setCell _ _ = w2 at HS2 HI2 ⊢
    refine (bp_call HS2.out (fun G hG => U2.out G _ hG)).mono ?_; rintro e w3 ⟨rfl, G3, h3', st3⟩
    have HS3 := Lib.hid h3'
    have HI3 := Lib.hid (HI2.out.trans st3)
    clear h3' st3 HS1 HI1 HS2 HI2 U2
    obtain ⟨⟨s0, s1, s2, s3, s4, s5, s6, s7, s8, s9, s10, s11, s12⟩, -⟩ := sq_cells (HKP.out _ _ HI3.out).1.get.1.2
    obtain ⟨⟨p0, p1, p2, p3, p4, p5, p6, p7, p8, p9, p10, p11, p12⟩, f0, f1, f2, f3, f4, f5, f6, f7, f8, f9, f10, f11, f12⟩ := sq_cells (bp_p HS3.out).1
    have ec0 := (bp_p HS3.out).2.cell (i := 0) (v := .int .i64 0) rfl
    have ec1 := (bp_p HS3.out).2.cell (i := 1) (v := .slice none 0 0) rfl
    have xf0 := (bp_p HS3.out).2.free (i := 0)
    have xf1 := (bp_p HS3.out).2.free (i := 1)
    have hs := bp_setp (DrF.objD a d bs) HS3.out 7 (.int .i64 y1)
    have HS4 : Hid (Sep (Sep (DrF a d bs) (BpF w7.heap.size (w7.heap.size + 1))) HoF (w3.setCell ⟨w7.heap.size, 7, none⟩ (.int .i64 y1)) _ ((_, (#[.int .i64 1, .int .i64 0, .int .i64 0, .int .i64 0, .int .i64 0, .int .i64 0, .int .i64 x1, .int .i64 y1, .slice none 0 0, .slice none 0 0, .slice none 0 0, .slice none 0 0, .slice none 0 0], #[.int .i64 0, .slice none 0 0])), _)) := hs.1
    have HI4 := Lib.hid (HI3.out.trans hs.2)
    clear hs
    go_wp2_with fail
    clear s0 s1 s2 s3 s4 s5 s6 s7 s8 s9 s10 s11 s12 p0 p1 p2 p3 p4 p5 p6 p7 p8 p9 p10 p11 p12 f0 f1 f2 f3 f4 f5 f6 f7 f8 f9 f10 f11 f12 ec0 ec1 xf0 xf1
    generalize w3.setCell _ _ = w4 at HS4 HI4 ⊢
    obtain ⟨kx, kd⟩ := HKP.out _ _ HI4.out
    refine (sep_lqF (BpF.obj w7.heap.size (w7.heap.size + 1)) HS4.out (fun G hG hs => U3.out _ G _ hG (kx.imp (fun W h => h.2.1)) (fun k hk hg => kd k hk (hs k hg)))).mono ?_; rintro e w5 ⟨t, P, G5, ⟨u, c, ra, rn, rk, rfl, hp⟩, h5, st5⟩
    obtain ⟨rfl, rfl⟩ := Prod.mk.inj hp
    have HS5 := Lib.hid h5
    have HI5 := Lib.hid (HI4.out.trans st5)
    obtain ⟨au, lu, cu, rfl⟩ := (bp_has h5).2.1.slf
    have hx5 := (bp_has h5).2.2
    clear h5 st5 kx kd hp HS4 HI4
    rcases HCOD.out with hf | ⟨iq, hf⟩
    · subst hf
      obtain ⟨rfl, hsl⟩ := hx5
      obtain ⟨rfl, rfl, rfl⟩ := by simpa using hsl
      obtain ⟨⟨s0, s1, s2, s3, s4, s5, s6, s7, s8, s9, s10, s11, s12⟩, -⟩ := sq_cells (HKP.out _ _ HI5.out).1.get.1.2
      obtain ⟨⟨p0, p1, p2, p3, p4, p5, p6, p7, p8, p9, p10, p11, p12⟩, f0, f1, f2, f3, f4, f5, f6, f7, f8, f9, f10, f11, f12⟩ := sq_cells (bp_p HS5.out).1
      have ec0 := (bp_p HS5.out).2.cell (i := 0) (v := .int .i64 0) rfl
      have ec1 := (bp_p HS5.out).2.cell (i := 1) (v := .slice none 0 0) rfl
      have xf0 := (bp_p HS5.out).2.free (i := 0)
      have xf1 := (bp_p HS5.out).2.free (i := 1)
      have hs := bp_setp (DrF.objD a d bs) HS5.out 8 (.slice au lu cu)
      have HS6 : Hid (Sep (Sep (DrF a d bs) (BpF w7.heap.size (w7.heap.size + 1))) HoF (w5.setCell ⟨w7.heap.size, 8, none⟩ (.slice au lu cu)) _ ((_, (#[.int .i64 1, .int .i64 0, .int .i64 0, .int .i64 0, .int .i64 0, .int .i64 0, .int .i64 x1, .int .i64 y1, .slice au lu cu, .slice none 0 0, .slice none 0 0, .slice none 0 0, .slice none 0 0], #[.int .i64 0, .slice none 0 0])), _)) := hs.1
      have HI6 := Lib.hid (HI5.out.trans hs.2)
      clear hs
      have hs := bp_sete (DrF.objD a d bs) HS6.out 0 (.int .i64 0)
      have HS7 : Hid (Sep (Sep (DrF a d bs) (BpF w7.heap.size (w7.heap.size + 1))) HoF ((w5.setCell ⟨w7.heap.size, 8, none⟩ (.slice au lu cu)).setCell ⟨w7.heap.size + 1, 0, none⟩ (.int .i64 0)) _ ((_, (#[.int .i64 1, .int .i64 0, .int .i64 0, .int .i64 0, .int .i64 0, .int .i64 0, .int .i64 x1, .int .i64 y1, .slice au lu cu, .slice none 0 0, .slice none 0 0, .slice none 0 0, .slice none 0 0], #[.int .i64 0, .slice none 0 0])), _)) := hs.1
      have HI7 := Lib.hid (HI6.out.trans hs.2)
      clear hs
      have hs := bp_sete (DrF.objD a d bs) HS7.out 1 (.slice none 0 0)
      have HS8 : Hid (Sep (Sep (DrF a d bs) (BpF w7.heap.size (w7.heap.size + 1))) HoF (((w5.setCell ⟨w7.heap.size, 8, none⟩ (.slice au lu cu)).setCell ⟨w7.heap.size + 1, 0, none⟩ (.int .i64 0)).setCell ⟨w7.heap.size + 1, 1, none⟩ (.slice none 0 0)) _ ((_, (#[.int .i64 1, .int .i64 0, .int .i64 0, .int .i64 0, .int .i64 0, .int .i64 0, .int .i64 x1, .int .i64 y1, .slice au lu cu, .slice none 0 0, .slice none 0 0, .slice none 0 0, .slice none 0 0], #[.int .i64 0, .slice none 0 0])), _)) := hs.1
      have HI8 := Lib.hid (HI7.out.trans hs.2)
      clear hs
      go_wp2_with fail
      refine wp_loop_rounds 2 ?_
      rw [rounds_succ]
      go_wp2_with fail
      clear s0 s1 s2 s3 s4 s5 s6 s7 s8 s9 s10 s11 s12 p0 p1 p2 p3 p4 p5 p6 p7 p8 p9 p10 p11 p12 f0 f1 f2 f3 f4 f5 f6 f7 f8 f9 f10 f11 f12 ec0 ec1 xf0 xf1
      generalize World.setCell _ _ _ = w9 at HS8 HI8 ⊢
      clear HS5 HS6 HS7 HI5 HI6 HI7
      have HA := Lib.hid (sq_run_ok HEK.out (HRUN.out.2 (by first | rfl | trivial)))
      refine (ok_any _ _ _).mono ?_; rintro e wk ⟨rfl, hxk⟩
      have HSk := Lib.hid (Obj.ext (((DrF.objD a d bs).sep (BpF.obj w7.heap.size (w7.heap.size + 1))).sep HoF.obj) HS8.out hxk)
      have HIk := Lib.hid (HI8.out.ext hxk)
      clear hxk HS8 HI8
      go_wp2_with fail
      obtain ⟨qa, qd⟩ := HKP.out _ _ HIk.out
      have HRB := Lib.hid qa.get.1.1.1
      have HEB := Lib.hid qa.get.1.1.2
      have HN1 := Lib.hid (qd (w.heap.size + 1) (.inl (.inl (.inl rfl))))
      have HN2 := Lib.hid (qd (w.heap.size + 2) (.inl (.inl (.inr rfl))))
      clear qa qd
      have HPB := Lib.hid (bp_p HSk.out).1
      have HXB := Lib.hid (bp_p HSk.out).2
      have hne1 : w.heap.size + 1 ≠ w7.heap.size := fun e => HN1.out (by rw [e]; exact bp_in HSk.out (.inl rfl))
      have hne2 : w.heap.size + 1 ≠ w7.heap.size + 1 := fun e => HN1.out (by rw [e]; exact bp_in HSk.out (.inr rfl))
      have hne3 : w.heap.size + 2 ≠ w7.heap.size := fun e => HN2.out (by rw [e]; exact bp_in HSk.out (.inl rfl))
      have hne4 : w.heap.size + 2 ≠ w7.heap.size + 1 := fun e => HN2.out (by rw [e]; exact bp_in HSk.out (.inr rfl))
      refine wp_region_held_drew (S := fun w' => w'.cell? ⟨w7.heap.size, 0, none⟩ = some (.int .i64 1) ∧ w'.cell? ⟨w7.heap.size, 1, none⟩ = some (.int .i64 0) ∧ w'.cell? ⟨w7.heap.size, 2, none⟩ = some (.int .i64 0) ∧ w'.cell? ⟨w7.heap.size, 3, none⟩ = some (.int .i64 0) ∧ w'.cell? ⟨w7.heap.size, 4, none⟩ = some (.int .i64 0) ∧ w'.cell? ⟨w7.heap.size, 5, none⟩ = some (.int .i64 0) ∧ w'.cell? ⟨w7.heap.size, 6, none⟩ = some (.int .i64 x1) ∧ w'.cell? ⟨w7.heap.size, 7, none⟩ = some (.int .i64 y1) ∧ w'.cell? ⟨w7.heap.size, 8, none⟩ = some (.slice au lu cu) ∧ w'.cell? ⟨w7.heap.size, 9, none⟩ = some (.slice none 0 0) ∧ w'.cell? ⟨w7.heap.size, 10, none⟩ = some (.slice none 0 0) ∧ w'.cell? ⟨w7.heap.size, 11, none⟩ = some (.slice none 0 0) ∧ w'.cell? ⟨w7.heap.size, 12, none⟩ = some (.slice none 0 0) ∧ w'.cell? ⟨w7.heap.size + 1, 0, none⟩ = some (.int .i64 0) ∧ w'.cell? ⟨w7.heap.size + 1, 1, none⟩ = some (.slice none 0 0)) (by kernel_rfl) (⟨(HPB.out.ext ((Ext.refl _).drew)).cell rfl, (HPB.out.ext ((Ext.refl _).drew)).cell rfl, (HPB.out.ext ((Ext.refl _).drew)).cell rfl, (HPB.out.ext ((Ext.refl _).drew)).cell rfl, (HPB.out.ext ((Ext.refl _).drew)).cell rfl, (HPB.out.ext ((Ext.refl _).drew)).cell rfl, (HPB.out.ext ((Ext.refl _).drew)).cell rfl, (HPB.out.ext ((Ext.refl _).drew)).cell rfl, (HPB.out.ext ((Ext.refl _).drew)).cell rfl, (HPB.out.ext ((Ext.refl _).drew)).cell rfl, (HPB.out.ext ((Ext.refl _).drew)).cell rfl, (HPB.out.ext ((Ext.refl _).drew)).cell rfl, (HPB.out.ext ((Ext.refl _).drew)).cell rfl, (HXB.out.ext ((Ext.refl _).drew)).cell rfl, (HXB.out.ext ((Ext.refl _).drew)).cell rfl⟩) (fun hHeld => ?_)
      refine wpAnyH_take (i := 0) (oi := { dst := some 125, op := Op.load 42 (Operand.tmp 10), type := 42, pos := "ref.go:147", after := #[], guard := none }) (v := ?_) rfl (by kernel_rfl) (by kernel_rfl) (by kernel_rfl) (fun _ _ _ h => h) (Or.inl ⟨by rfl, ?_⟩) (by assumption) ?_
      case refine_2 => (intro w hSw; (try dsimp only at hSw); go_simp; (try with_reducible rfl))
      try simp only [Act.put, List.setIfInBounds_toArray, List.set_cons_zero, List.set_cons_succ]
      refine wpAnyH_take (i := 1) (oi := { dst := some 126, op := Op.load 46 (Operand.tmp 11), type := 46, pos := "ref.go:147", after := #[{ on := 2, ground := Ground.gcOnly Departure.lateStores }], guard := none }) (v := ?_) rfl (by kernel_rfl) (by kernel_rfl) (by kernel_rfl) (fun _ _ _ h => h) (Or.inl ⟨by rfl, ?_⟩) (by assumption) ?_
      case refine_2 => (intro w hSw; (try dsimp only at hSw); go_simp; (try with_reducible rfl))
      try simp only [Act.put, List.setIfInBounds_toArray, List.set_cons_zero, List.set_cons_succ]
      obtain ⟨⟨e0, e1, e2, e3, e4, e5, e6, e7, e8, e9, e10, e11, e12⟩, f0, f1, f2, f3, f4, f5, f6, f7, f8, f9, f10, f11, f12⟩ := sq_cells HRB.out
      refine wpAnyH_ready (rs := [2]) (by kernel_rfl) (by simp) ?_
      refine AllReadyH.cons (o := { dst := none, op := Op.store 42 (Operand.tmp 6) (Operand.tmp 125), type := 0, pos := "ref.go:147", after := #[{ on := 0, ground := Ground.data }, { on := 0, ground := Ground.phase }, { on := 1, ground := Ground.textOnly Departure.lateStores }], guard := none }) rfl (fun K hK => ?_) AllReadyH.nil
      go_simp
      refine hK.out _ _ (⟨((set13_other HPB.out hne1 (.int .i64 1) (.int .i64 0) (.int .i64 0) (.int .i64 0) (.int .i64 0) (.int .i64 0) (.int .i64 x1) (.int .i64 y1) (.slice au lu cu) (.slice none 0 0) (.slice none 0 0) (.slice none 0 0) (.slice none 0 0)).ext ((Ext.refl _).drew)).cell rfl, ((set13_other HPB.out hne1 (.int .i64 1) (.int .i64 0) (.int .i64 0) (.int .i64 0) (.int .i64 0) (.int .i64 0) (.int .i64 x1) (.int .i64 y1) (.slice au lu cu) (.slice none 0 0) (.slice none 0 0) (.slice none 0 0) (.slice none 0 0)).ext ((Ext.refl _).drew)).cell rfl, ((set13_other HPB.out hne1 (.int .i64 1) (.int .i64 0) (.int .i64 0) (.int .i64 0) (.int .i64 0) (.int .i64 0) (.int .i64 x1) (.int .i64 y1) (.slice au lu cu) (.slice none 0 0) (.slice none 0 0) (.slice none 0 0) (.slice none 0 0)).ext ((Ext.refl _).drew)).cell rfl, ((set13_other HPB.out hne1 (.int .i64 1) (.int .i64 0) (.int .i64 0) (.int .i64 0) (.int .i64 0) (.int .i64 0) (.int .i64 x1) (.int .i64 y1) (.slice au lu cu) (.slice none 0 0) (.slice none 0 0) (.slice none 0 0) (.slice none 0 0)).ext ((Ext.refl _).drew)).cell rfl, ((set13_other HPB.out hne1 (.int .i64 1) (.int .i64 0) (.int .i64 0) (.int .i64 0) (.int .i64 0) (.int .i64 0) (.int .i64 x1) (.int .i64 y1) (.slice au lu cu) (.slice none 0 0) (.slice none 0 0) (.slice none 0 0) (.slice none 0 0)).ext ((Ext.refl _).drew)).cell rfl, ((set13_other HPB.out hne1 (.int .i64 1) (.int .i64 0) (.int .i64 0) (.int .i64 0) (.int .i64 0) (.int .i64 0) (.int .i64 x1) (.int .i64 y1) (.slice au lu cu) (.slice none 0 0) (.slice none 0 0) (.slice none 0 0) (.slice none 0 0)).ext ((Ext.refl _).drew)).cell rfl, ((set13_other HPB.out hne1 (.int .i64 1) (.int .i64 0) (.int .i64 0) (.int .i64 0) (.int .i64 0) (.int .i64 0) (.int .i64 x1) (.int .i64 y1) (.slice au lu cu) (.slice none 0 0) (.slice none 0 0) (.slice none 0 0) (.slice none 0 0)).ext ((Ext.refl _).drew)).cell rfl, ((set13_other HPB.out hne1 (.int .i64 1) (.int .i64 0) (.int .i64 0) (.int .i64 0) (.int .i64 0) (.int .i64 0) (.int .i64 x1) (.int .i64 y1) (.slice au lu cu) (.slice none 0 0) (.slice none 0 0) (.slice none 0 0) (.slice none 0 0)).ext ((Ext.refl _).drew)).cell rfl, ((set13_other HPB.out hne1 (.int .i64 1) (.int .i64 0) (.int .i64 0) (.int .i64 0) (.int .i64 0) (.int .i64 0) (.int .i64 x1) (.int .i64 y1) (.slice au lu cu) (.slice none 0 0) (.slice none 0 0) (.slice none 0 0) (.slice none 0 0)).ext ((Ext.refl _).drew)).cell rfl, ((set13_other HPB.out hne1 (.int .i64 1) (.int .i64 0) (.int .i64 0) (.int .i64 0) (.int .i64 0) (.int .i64 0) (.int .i64 x1) (.int .i64 y1) (.slice au lu cu) (.slice none 0 0) (.slice none 0 0) (.slice none 0 0) (.slice none 0 0)).ext ((Ext.refl _).drew)).cell rfl, ((set13_other HPB.out hne1 (.int .i64 1) (.int .i64 0) (.int .i64 0) (.int .i64 0) (.int .i64 0) (.int .i64 0) (.int .i64 x1) (.int .i64 y1) (.slice au lu cu) (.slice none 0 0) (.slice none 0 0) (.slice none 0 0) (.slice none 0 0)).ext ((Ext.refl _).drew)).cell rfl, ((set13_other HPB.out hne1 (.int .i64 1) (.int .i64 0) (.int .i64 0) (.int .i64 0) (.int .i64 0) (.int .i64 0) (.int .i64 x1) (.int .i64 y1) (.slice au lu cu) (.slice none 0 0) (.slice none 0 0) (.slice none 0 0) (.slice none 0 0)).ext ((Ext.refl _).drew)).cell rfl, ((set13_other HPB.out hne1 (.int .i64 1) (.int .i64 0) (.int .i64 0) (.int .i64 0) (.int .i64 0) (.int .i64 0) (.int .i64 x1) (.int .i64 y1) (.slice au lu cu) (.slice none 0 0) (.slice none 0 0) (.slice none 0 0) (.slice none 0 0)).ext ((Ext.refl _).drew)).cell rfl, ((set13_other HXB.out hne2 (.int .i64 1) (.int .i64 0) (.int .i64 0) (.int .i64 0) (.int .i64 0) (.int .i64 0) (.int .i64 x1) (.int .i64 y1) (.slice au lu cu) (.slice none 0 0) (.slice none 0 0) (.slice none 0 0) (.slice none 0 0)).ext ((Ext.refl _).drew)).cell rfl, ((set13_other HXB.out hne2 (.int .i64 1) (.int .i64 0) (.int .i64 0) (.int .i64 0) (.int .i64 0) (.int .i64 0) (.int .i64 x1) (.int .i64 y1) (.slice au lu cu) (.slice none 0 0) (.slice none 0 0) (.slice none 0 0) (.slice none 0 0)).ext ((Ext.refl _).drew)).cell rfl⟩) (fun hHeld => ?_)
      clear hK K
      try simp only [Act.put, List.setIfInBounds_toArray, List.set_cons_zero, List.set_cons_succ]
      have ey0 := (set13_other HEB.out h12 (.int .i64 1) (.int .i64 0) (.int .i64 0) (.int .i64 0) (.int .i64 0) (.int .i64 0) (.int .i64 x1) (.int .i64 y1) (.slice au lu cu) (.slice none 0 0) (.slice none 0 0) (.slice none 0 0) (.slice none 0 0)).cell (i := 0) (v := .int .i64 0) rfl
      have ey1 := (set13_other HEB.out h12 (.int .i64 1) (.int .i64 0) (.int .i64 0) (.int .i64 0) (.int .i64 0) (.int .i64 0) (.int .i64 x1) (.int .i64 y1) (.slice au lu cu) (.slice none 0 0) (.slice none 0 0) (.slice none 0 0) (.slice none 0 0)).cell (i := 1) (v := .slice none 0 0) rfl
      have yf0 := (set13_other HEB.out h12 (.int .i64 1) (.int .i64 0) (.int .i64 0) (.int .i64 0) (.int .i64 0) (.int .i64 0) (.int .i64 x1) (.int .i64 y1) (.slice au lu cu) (.slice none 0 0) (.slice none 0 0) (.slice none 0 0) (.slice none 0 0)).free (i := 0)
      have yf1 := (set13_other HEB.out h12 (.int .i64 1) (.int .i64 0) (.int .i64 0) (.int .i64 0) (.int .i64 0) (.int .i64 0) (.int .i64 x1) (.int .i64 y1) (.slice au lu cu) (.slice none 0 0) (.slice none 0 0) (.slice none 0 0) (.slice none 0 0)).free (i := 1)
      clear e0 e1 e2 e3 e4 e5 e6 e7 e8 e9 e10 e11 e12 f0 f1 f2 f3 f4 f5 f6 f7 f8 f9 f10 f11 f12
      refine wpAnyH_ready (rs := [3]) (by kernel_rfl) (by simp) ?_
      refine AllReadyH.cons (o := { dst := none, op := Op.store 46 (Operand.tmp 7) (Operand.tmp 126), type := 0, pos := "ref.go:147", after := #[{ on := 1, ground := Ground.data }, { on := 2, ground := Ground.chain }, { on := 0, ground := Ground.phase }, { on := 1, ground := Ground.phase }, { on := 2, ground := Ground.phase }], guard := none }) rfl (fun K hK => ?_) AllReadyH.nil
      go_simp
      refine hK.out _ _ (⟨((((set13_other HPB.out hne1 (.int .i64 1) (.int .i64 0) (.int .i64 0) (.int .i64 0) (.int .i64 0) (.int .i64 0) (.int .i64 x1) (.int .i64 y1) (.slice au lu cu) (.slice none 0 0) (.slice none 0 0) (.slice none 0 0) (.slice none 0 0)).other (p := ⟨w.heap.size + 2, 0, none⟩) hne3 _).other (p := ⟨w.heap.size + 2, 1, none⟩) hne3 _).ext ((Ext.refl _).drew)).cell rfl, ((((set13_other HPB.out hne1 (.int .i64 1) (.int .i64 0) (.int .i64 0) (.int .i64 0) (.int .i64 0) (.int .i64 0) (.int .i64 x1) (.int .i64 y1) (.slice au lu cu) (.slice none 0 0) (.slice none 0 0) (.slice none 0 0) (.slice none 0 0)).other (p := ⟨w.heap.size + 2, 0, none⟩) hne3 _).other (p := ⟨w.heap.size + 2, 1, none⟩) hne3 _).ext ((Ext.refl _).drew)).cell rfl, ((((set13_other HPB.out hne1 (.int .i64 1) (.int .i64 0) (.int .i64 0) (.int .i64 0) (.int .i64 0) (.int .i64 0) (.int .i64 x1) (.int .i64 y1) (.slice au lu cu) (.slice none 0 0) (.slice none 0 0) (.slice none 0 0) (.slice none 0 0)).other (p := ⟨w.heap.size + 2, 0, none⟩) hne3 _).other (p := ⟨w.heap.size + 2, 1, none⟩) hne3 _).ext ((Ext.refl _).drew)).cell rfl, ((((set13_other HPB.out hne1 (.int .i64 1) (.int .i64 0) (.int .i64 0) (.int .i64 0) (.int .i64 0) (.int .i64 0) (.int .i64 x1) (.int .i64 y1) (.slice au lu cu) (.slice none 0 0) (.slice none 0 0) (.slice none 0 0) (.slice none 0 0)).other (p := ⟨w.heap.size + 2, 0, none⟩) hne3 _).other (p := ⟨w.heap.size + 2, 1, none⟩) hne3 _).ext ((Ext.refl _).drew)).cell rfl, ((((set13_other HPB.out hne1 (.int .i64 1) (.int .i64 0) (.int .i64 0) (.int .i64 0) (.int .i64 0) (.int .i64 0) (.int .i64 x1) (.int .i64 y1) (.slice au lu cu) (.slice none 0 0) (.slice none 0 0) (.slice none 0 0) (.slice none 0 0)).other (p := ⟨w.heap.size + 2, 0, none⟩) hne3 _).other (p := ⟨w.heap.size + 2, 1, none⟩) hne3 _).ext ((Ext.refl _).drew)).cell rfl, ((((set13_other HPB.out hne1 (.int .i64 1) (.int .i64 0) (.int .i64 0) (.int .i64 0) (.int .i64 0) (.int .i64 0) (.int .i64 x1) (.int .i64 y1) (.slice au lu cu) (.slice none 0 0) (.slice none 0 0) (.slice none 0 0) (.slice none 0 0)).other (p := ⟨w.heap.size + 2, 0, none⟩) hne3 _).other (p := ⟨w.heap.size + 2, 1, none⟩) hne3 _).ext ((Ext.refl _).drew)).cell rfl, ((((set13_other HPB.out hne1 (.int .i64 1) (.int .i64 0) (.int .i64 0) (.int .i64 0) (.int .i64 0) (.int .i64 0) (.int .i64 x1) (.int .i64 y1) (.slice au lu cu) (.slice none 0 0) (.slice none 0 0) (.slice none 0 0) (.slice none 0 0)).other (p := ⟨w.heap.size + 2, 0, none⟩) hne3 _).other (p := ⟨w.heap.size + 2, 1, none⟩) hne3 _).ext ((Ext.refl _).drew)).cell rfl, ((((set13_other HPB.out hne1 (.int .i64 1) (.int .i64 0) (.int .i64 0) (.int .i64 0) (.int .i64 0) (.int .i64 0) (.int .i64 x1) (.int .i64 y1) (.slice au lu cu) (.slice none 0 0) (.slice none 0 0) (.slice none 0 0) (.slice none 0 0)).other (p := ⟨w.heap.size + 2, 0, none⟩) hne3 _).other (p := ⟨w.heap.size + 2, 1, none⟩) hne3 _).ext ((Ext.refl _).drew)).cell rfl, ((((set13_other HPB.out hne1 (.int .i64 1) (.int .i64 0) (.int .i64 0) (.int .i64 0) (.int .i64 0) (.int .i64 0) (.int .i64 x1) (.int .i64 y1) (.slice au lu cu) (.slice none 0 0) (.slice none 0 0) (.slice none 0 0) (.slice none 0 0)).other (p := ⟨w.heap.size + 2, 0, none⟩) hne3 _).other (p := ⟨w.heap.size + 2, 1, none⟩) hne3 _).ext ((Ext.refl _).drew)).cell rfl, ((((set13_other HPB.out hne1 (.int .i64 1) (.int .i64 0) (.int .i64 0) (.int .i64 0) (.int .i64 0) (.int .i64 0) (.int .i64 x1) (.int .i64 y1) (.slice au lu cu) (.slice none 0 0) (.slice none 0 0) (.slice none 0 0) (.slice none 0 0)).other (p := ⟨w.heap.size + 2, 0, none⟩) hne3 _).other (p := ⟨w.heap.size + 2, 1, none⟩) hne3 _).ext ((Ext.refl _).drew)).cell rfl, ((((set13_other HPB.out hne1 (.int .i64 1) (.int .i64 0) (.int .i64 0) (.int .i64 0) (.int .i64 0) (.int .i64 0) (.int .i64 x1) (.int .i64 y1) (.slice au lu cu) (.slice none 0 0) (.slice none 0 0) (.slice none 0 0) (.slice none 0 0)).other (p := ⟨w.heap.size + 2, 0, none⟩) hne3 _).other (p := ⟨w.heap.size + 2, 1, none⟩) hne3 _).ext ((Ext.refl _).drew)).cell rfl, ((((set13_other HPB.out hne1 (.int .i64 1) (.int .i64 0) (.int .i64 0) (.int .i64 0) (.int .i64 0) (.int .i64 0) (.int .i64 x1) (.int .i64 y1) (.slice au lu cu) (.slice none 0 0) (.slice none 0 0) (.slice none 0 0) (.slice none 0 0)).other (p := ⟨w.heap.size + 2, 0, none⟩) hne3 _).other (p := ⟨w.heap.size + 2, 1, none⟩) hne3 _).ext ((Ext.refl _).drew)).cell rfl, ((((set13_other HPB.out hne1 (.int .i64 1) (.int .i64 0) (.int .i64 0) (.int .i64 0) (.int .i64 0) (.int .i64 0) (.int .i64 x1) (.int .i64 y1) (.slice au lu cu) (.slice none 0 0) (.slice none 0 0) (.slice none 0 0) (.slice none 0 0)).other (p := ⟨w.heap.size + 2, 0, none⟩) hne3 _).other (p := ⟨w.heap.size + 2, 1, none⟩) hne3 _).ext ((Ext.refl _).drew)).cell rfl, ((((set13_other HXB.out hne2 (.int .i64 1) (.int .i64 0) (.int .i64 0) (.int .i64 0) (.int .i64 0) (.int .i64 0) (.int .i64 x1) (.int .i64 y1) (.slice au lu cu) (.slice none 0 0) (.slice none 0 0) (.slice none 0 0) (.slice none 0 0)).other (p := ⟨w.heap.size + 2, 0, none⟩) hne4 _).other (p := ⟨w.heap.size + 2, 1, none⟩) hne4 _).ext ((Ext.refl _).drew)).cell rfl, ((((set13_other HXB.out hne2 (.int .i64 1) (.int .i64 0) (.int .i64 0) (.int .i64 0) (.int .i64 0) (.int .i64 0) (.int .i64 x1) (.int .i64 y1) (.slice au lu cu) (.slice none 0 0) (.slice none 0 0) (.slice none 0 0) (.slice none 0 0)).other (p := ⟨w.heap.size + 2, 0, none⟩) hne4 _).other (p := ⟨w.heap.size + 2, 1, none⟩) hne4 _).ext ((Ext.refl _).drew)).cell rfl⟩) (fun hHeld => ?_)
      clear hK K hHeld
      try simp only [Act.put, List.setIfInBounds_toArray, List.set_cons_zero, List.set_cons_succ]
      refine wpAnyH_done (by kernel_rfl) ?_ _
      obtain ⟨GG, k1, k2⟩ := drop_mid (DrF.objD a d bs) HSk.out
      have hZ : Step F w _ _ := (Step.of_ext (F := F) HE6.out).trans HIk.out
      obtain ⟨z1, z2, z3, z4⟩ := fin_all ((DrF.objD a d bs).sep HoF.obj) k1 (hZ.sub k2) HB1.out (fun h => HN1.out (k2 _ h)) HB2.out (fun h => HN2.out (k2 _ h)) h12 HRB.out HEB.out (.int .i64 1) (.int .i64 0) (.int .i64 0) (.int .i64 0) (.int .i64 0) (.int .i64 0) (.int .i64 x1) (.int .i64 y1) (.slice au lu cu) (.slice none 0 0) (.slice none 0 0) (.slice none 0 0) (.slice none 0 0) (.int .i64 0) (.slice none 0 0)
      have z1 := Obj.ext ((DrF.objD a d bs).sep HoF.obj) z1 ((Ext.refl _).drew)
      have z2 := z2.ext ((Ext.refl _).drew)
      have z3 := z3.ext ((Ext.refl _).drew)
      have z4 := z4.ext ((Ext.refl _).drew)
      clear ey0 ey1 yf0 yf1 k1 hZ
      generalize World.drew _ = wz at z1 z2 z3 z4 ⊢
      obtain ⟨⟨g0, g1, g2, g3, g4, g5, g6, g7, g8, g9, g10, g11, g12⟩, -⟩ := sq_cells z3
      have ey0 := z4.cell (i := 0) (v := .int .i64 0) rfl
      have ey1 := z4.cell (i := 1) (v := .slice none 0 0) rfl
      have HZ1 := Lib.hid z1
      have HZ2 := Lib.hid z2
      clear z1 z2 z3 z4
      go_wp2
      exact bodyPost_ret (v := .tuple #[.agg #[.int .i64 1, .int .i64 0, .int .i64 0, .int .i64 0, .int .i64 0, .int .i64 0, .int .i64 x1, .int .i64 y1, .slice au lu cu, .slice none 0 0, .slice none 0 0, .slice none 0 0, .slice none 0 0], .agg #[.int .i64 0, .slice none 0 0]]) (by simp [results, Tryz.results12, go_sem, g0, g1, g2, g3, g4, g5, g6, g7, g8, g9, g10, g11, g12, ey0, ey1]) rfl (RSqR.done (L := (.slice au lu cu)) (s0 := nilS) (s1 := nilS) (s2 := nilS) (s3 := nilS) HA.out HZ1.out HZ2.out (fun W h => ⟨⟨h.2.1, Ints.nil W, Ints.nil W, Ints.nil W, Ints.nil W⟩, RErrIs.zero⟩))
    · subst hf
      obtain ⟨hc5, -, -⟩ := hx5
      obtain rfl : c = 3 := hc5
      obtain ⟨⟨s0, s1, s2, s3, s4, s5, s6, s7, s8, s9, s10, s11, s12⟩, -⟩ := sq_cells (HKP.out _ _ HI5.out).1.get.1.2
      obtain ⟨⟨p0, p1, p2, p3, p4, p5, p6, p7, p8, p9, p10, p11, p12⟩, f0, f1, f2, f3, f4, f5, f6, f7, f8, f9, f10, f11, f12⟩ := sq_cells (bp_p HS5.out).1
      have ec0 := (bp_p HS5.out).2.cell (i := 0) (v := .int .i64 0) rfl
      have ec1 := (bp_p HS5.out).2.cell (i := 1) (v := .slice none 0 0) rfl
      have xf0 := (bp_p HS5.out).2.free (i := 0)
      have xf1 := (bp_p HS5.out).2.free (i := 1)
      have hs := bp_setp (DrF.objD a d bs) HS5.out 8 (.slice au lu cu)
      have HS6 : Hid (Sep (Sep (DrF a d bs) (BpF w7.heap.size (w7.heap.size + 1))) HoF (w5.setCell ⟨w7.heap.size, 8, none⟩ (.slice au lu cu)) _ ((_, (#[.int .i64 1, .int .i64 0, .int .i64 0, .int .i64 0, .int .i64 0, .int .i64 0, .int .i64 x1, .int .i64 y1, .slice au lu cu, .slice none 0 0, .slice none 0 0, .slice none 0 0, .slice none 0 0], #[.int .i64 0, .slice none 0 0])), _)) := hs.1
      have HI6 := Lib.hid (HI5.out.trans hs.2)
      clear hs
      have hs := bp_sete (DrF.objD a d bs) HS6.out 0 (.int .i64 3)
      have HS7 : Hid (Sep (Sep (DrF a d bs) (BpF w7.heap.size (w7.heap.size + 1))) HoF ((w5.setCell ⟨w7.heap.size, 8, none⟩ (.slice au lu cu)).setCell ⟨w7.heap.size + 1, 0, none⟩ (.int .i64 3)) _ ((_, (#[.int .i64 1, .int .i64 0, .int .i64 0, .int .i64 0, .int .i64 0, .int .i64 0, .int .i64 x1, .int .i64 y1, .slice au lu cu, .slice none 0 0, .slice none 0 0, .slice none 0 0, .slice none 0 0], #[.int .i64 3, .slice none 0 0])), _)) := hs.1
      have HI7 := Lib.hid (HI6.out.trans hs.2)
      clear hs
      have hs := bp_sete (DrF.objD a d bs) HS7.out 1 (.slice ra rn rk)
      have HS8 : Hid (Sep (Sep (DrF a d bs) (BpF w7.heap.size (w7.heap.size + 1))) HoF (((w5.setCell ⟨w7.heap.size, 8, none⟩ (.slice au lu cu)).setCell ⟨w7.heap.size + 1, 0, none⟩ (.int .i64 3)).setCell ⟨w7.heap.size + 1, 1, none⟩ (.slice ra rn rk)) _ ((_, (#[.int .i64 1, .int .i64 0, .int .i64 0, .int .i64 0, .int .i64 0, .int .i64 0, .int .i64 x1, .int .i64 y1, .slice au lu cu, .slice none 0 0, .slice none 0 0, .slice none 0 0, .slice none 0 0], #[.int .i64 3, .slice ra rn rk])), _)) := hs.1
      have HI8 := Lib.hid (HI7.out.trans hs.2)
      clear hs
      go_wp2_with fail
      refine wp_loop_rounds 2 ?_
      rw [rounds_succ]
      go_wp2_with fail
      clear s0 s1 s2 s3 s4 s5 s6 s7 s8 s9 s10 s11 s12 p0 p1 p2 p3 p4 p5 p6 p7 p8 p9 p10 p11 p12 f0 f1 f2 f3 f4 f5 f6 f7 f8 f9 f10 f11 f12 ec0 ec1 xf0 xf1
      generalize World.setCell _ _ _ = w9 at HS8 HI8 ⊢
      clear HS5 HS6 HS7 HI5 HI6 HI7
      have HA := Lib.hid (sq_run_bad HEK.out (HRUN.out.1 _ (by first | rfl | trivial)))
      refine (ok_any _ _ _).mono ?_; rintro e wk ⟨rfl, hxk⟩
      have HSk := Lib.hid (Obj.ext (((DrF.objD a d bs).sep (BpF.obj w7.heap.size (w7.heap.size + 1))).sep HoF.obj) HS8.out hxk)
      have HIk := Lib.hid (HI8.out.ext hxk)
      clear hxk HS8 HI8
      have pk := (bp_p HSk.out).1.cell (i := 0) (v := .int .i64 1) rfl
      have ec0 := (bp_p HSk.out).2.cell (i := 0) (v := .int .i64 3) rfl
      have ec1 := (bp_p HSk.out).2.cell (i := 1) (v := .slice ra rn rk) rfl
      go_wp2_with fail
      refine (rin_hold synS 1 _ _ _ _ [(coefS, iq)] _ (bp_has HSk.out).2.2 (Nat.le_refl 1)).mono ?_; rintro e wi ⟨ua, un, uk, X, rfl, hxi, hxx, hoi⟩
      clear pk ec0 ec1
      obtain ⟨qa, qd⟩ := HKP.out _ _ HIk.out
      have HRB := Lib.hid (qa.get.1.1.1.ext hxi)
      have HEB := Lib.hid (qa.get.1.1.2.ext hxi)
      have HN1 := Lib.hid (qd (w.heap.size + 1) (.inl (.inl (.inl rfl))))
      have HN2 := Lib.hid (qd (w.heap.size + 2) (.inl (.inl (.inr rfl))))
      have hb1l := qa.get.1.1.1.lt
      have hb2l := qa.get.1.1.2.lt
      clear qa qd
      obtain ⟨GG, k1, k2⟩ := drop_mid (DrF.objD a d bs) HSk.out
      have hZ : Step F w _ _ := (Step.of_ext (F := F) HE6.out).trans HIk.out
      obtain ⟨GN, m1, m2, m3⟩ := bag_addF (DrF.objD a d bs) k1 (hZ.sub k2) hxi hoi hxx
      have n1 : ¬ GN (w.heap.size + 1) := fun h => by rcases m3 _ h with h | h; exact HN1.out (k2 _ h); omega
      have n2 : ¬ GN (w.heap.size + 2) := fun h => by rcases m3 _ h with h | h; exact HN2.out (k2 _ h); omega
      obtain ⟨z1, z2, z3, z4⟩ := fin_all ((DrF.objD a d bs).sep HoF.obj) m1 m2 HB1.out n1 HB2.out n2 h12 HRB.out HEB.out (.int .i64 0) (.int .i64 0) (.int .i64 0) (.int .i64 0) (.int .i64 0) (.int .i64 0) (.int .i64 0) (.int .i64 0) (.slice none 0 0) (.slice none 0 0) (.slice none 0 0) (.slice none 0 0) (.slice none 0 0) (.int .i64 3) (.slice ua un uk)
      have HZ1 := Lib.hid z1
      have HZ2 := Lib.hid z2
      obtain ⟨⟨g0, g1, g2, g3, g4, g5, g6, g7, g8, g9, g10, g11, g12⟩, -⟩ := sq_cells z3
      have ey0 := z4.cell (i := 0) (v := .int .i64 3) rfl
      have ey1 := z4.cell (i := 1) (v := .slice ua un uk) rfl
      clear z1 z2 z3 z4 m1 m2 m3 n1 n2 k1 k2 hZ hxi hoi hxx
      obtain ⟨⟨e0, e1, e2, e3, e4, e5, e6, e7, e8, e9, e10, e11, e12⟩, f0, f1, f2, f3, f4, f5, f6, f7, f8, f9, f10, f11, f12⟩ := sq_cells HRB.out
      have w0' := (set13_other HEB.out h12 (.int .i64 0) (.int .i64 0) (.int .i64 0) (.int .i64 0) (.int .i64 0) (.int .i64 0) (.int .i64 0) (.int .i64 0) (.slice none 0 0) (.slice none 0 0) (.slice none 0 0) (.slice none 0 0) (.slice none 0 0)).cell (i := 0) (v := .int .i64 0) rfl
      have w1' := (set13_other HEB.out h12 (.int .i64 0) (.int .i64 0) (.int .i64 0) (.int .i64 0) (.int .i64 0) (.int .i64 0) (.int .i64 0) (.int .i64 0) (.slice none 0 0) (.slice none 0 0) (.slice none 0 0) (.slice none 0 0) (.slice none 0 0)).cell (i := 1) (v := .slice none 0 0) rfl
      have wf0 := (set13_other HEB.out h12 (.int .i64 0) (.int .i64 0) (.int .i64 0) (.int .i64 0) (.int .i64 0) (.int .i64 0) (.int .i64 0) (.int .i64 0) (.slice none 0 0) (.slice none 0 0) (.slice none 0 0) (.slice none 0 0) (.slice none 0 0)).free (i := 0)
      have wf1 := (set13_other HEB.out h12 (.int .i64 0) (.int .i64 0) (.int .i64 0) (.int .i64 0) (.int .i64 0) (.int .i64 0) (.int .i64 0) (.int .i64 0) (.slice none 0 0) (.slice none 0 0) (.slice none 0 0) (.slice none 0 0) (.slice none 0 0)).free (i := 1)
      go_wp2
      exact bodyPost_ret (v := .tuple #[.agg #[.int .i64 0, .int .i64 0, .int .i64 0, .int .i64 0, .int .i64 0, .int .i64 0, .int .i64 0, .int .i64 0, .slice none 0 0, .slice none 0 0, .slice none 0 0, .slice none 0 0, .slice none 0 0], .agg #[.int .i64 3, .slice ua un uk]]) (by simp [results, Tryz.results12, go_sem, g0, g1, g2, g3, g4, g5, g6, g7, g8, g9, g10, g11, g12, ey0, ey1]) rfl (RSqR.done (q := sq0) (L := nilS) (s0 := nilS) (s1 := nilS) (s2 := nilS) (s3 := nilS) HA.out HZ1.out HZ2.out (fun W h => ⟨SqIs.nil W 0, h.2⟩))
  by_cases hkk2 : kk = 2
  · subst hkk2
    have hlv : lvE (zsL 64) 64 = none := zs_lv 64
    obtain ⟨⟨x1, t3⟩, e1⟩ : ∃ r, modeM (mY bs) t1 (cl3 (0)) = r := ⟨_, rfl⟩
    have k3 := mod_ok (mkY (bs := bs)) HK1.out e1
    have U1 := Lib.hid (fun G w' (h : (DrF a d bs) w' G t1) => drmode_any a _ d bs (0) t1 G w' h HK1.out (by omega))
    obtain ⟨⟨⟨f, ys⟩, t4⟩, e3⟩ : ∃ r, (codP (zsL 64)).run (mY bs) t3 = r := ⟨_, rfl⟩
    have U3 := Lib.hid (fun Y G w' (h : (DrF a d bs) w' G t3) (hv : HoF w' Y (fun W => Ints W (.slice (some ⟨w0.heap.size, 0, none⟩) 64 64) (zsL 64))) (hd : ∀ k, Y k → ¬ G k) => drcode64 a _ d bs (zsL 64) _ Y t3 G w' h k3 (by omega) hv hd (zs_facts' _) (zs_facts 64).2.1)
    rw [e1] at U1
    rw [e3] at U3
    have hcod := cod_two (.inr rfl) hlv e3
    have hrun := on_run (q := (blS 0)) e1 e3
    have HRUN := Lib.hid hrun
    have HCOD := Lib.hid hcod
    clear hrun hcod e1 e3 k3 hlv
    go_wp2_with fail
    rw [HW8.out]
    clear s0 s1 s2 s3 s4 s5 s6 s7 s8 s9 s10 s11 s12 p0 p1 p2 p3 p4 p5 p6 p7 p8 p9 p10 p11 p12 ec0 ec1
    refine (bp_call HS0.out (fun G hG => U1.out G _ hG)).mono ?_; rintro e w1 ⟨rfl, G1, h1', st1⟩
    have HS1 := Lib.hid h1'
    have HI1 := Lib.hid (HI0.out.trans st1)
    clear h1' st1 HS0 HI0 U1
    obtain ⟨⟨s0, s1, s2, s3, s4, s5, s6, s7, s8, s9, s10, s11, s12⟩, -⟩ := sq_cells (HKP.out _ _ HI1.out).1.get.1.2
    obtain ⟨⟨p0, p1, p2, p3, p4, p5, p6, p7, p8, p9, p10, p11, p12⟩, f0, f1, f2, f3, f4, f5, f6, f7, f8, f9, f10, f11, f12⟩ := sq_cells (bp_p HS1.out).1
    have ec0 := (bp_p HS1.out).2.cell (i := 0) (v := .int .i64 0) rfl
    have ec1 := (bp_p HS1.out).2.cell (i := 1) (v := .slice none 0 0) rfl
    have xf0 := (bp_p HS1.out).2.free (i := 0)
    have xf1 := (bp_p HS1.out).2.free (i := 1)
    have hs := bp_setp (DrF.objD a d bs) HS1.out 1 (.int .i64 (x1 : Int))
    have HS4 : Hid (Sep (Sep (DrF a d bs) (BpF w7.heap.size (w7.heap.size + 1))) HoF (w1.setCell ⟨w7.heap.size, 1, none⟩ (.int .i64 (x1 : Int))) _ ((_, (#[.int .i64 2, .int .i64 (x1 : Int), .int .i64 0, .int .i64 0, .int .i64 0, .int .i64 0, .int .i64 0, .int .i64 0, .slice none 0 0, .slice none 0 0, .slice none 0 0, .slice none 0 0, .slice none 0 0], #[.int .i64 0, .slice none 0 0])), _)) := hs.1
    have HI4 := Lib.hid (HI1.out.trans hs.2)
    clear hs
    go_wp2_with fail
    clear s0 s1 s2 s3 s4 s5 s6 s7 s8 s9 s10 s11 s12 p0 p1 p2 p3 p4 p5 p6 p7 p8 p9 p10 p11 p12 f0 f1 f2 f3 f4 f5 f6 f7 f8 f9 f10 f11 f12 ec0 ec1 xf0 xf1
    generalize w1.setCell _ _ = w4 at HS4 HI4 ⊢
    obtain ⟨kx, kd⟩ := HKP.out _ _ HI4.out
    refine (sep_lqF (BpF.obj w7.heap.size (w7.heap.size + 1)) HS4.out (fun G hG hs => U3.out _ G _ hG (kx.imp (fun W h => h.2.1)) (fun k hk hg => kd k hk (hs k hg)))).mono ?_; rintro e w5 ⟨t, P, G5, ⟨u, c, ra, rn, rk, rfl, hp⟩, h5, st5⟩
    obtain ⟨rfl, rfl⟩ := Prod.mk.inj hp
    have HS5 := Lib.hid h5
    have HI5 := Lib.hid (HI4.out.trans st5)
    obtain ⟨au, lu, cu, rfl⟩ := (bp_has h5).2.1.slf
    have hx5 := (bp_has h5).2.2
    clear h5 st5 kx kd hp HS4 HI4
    rcases HCOD.out with hf | ⟨iq, hf⟩
    · subst hf
      obtain ⟨rfl, hsl⟩ := hx5
      obtain ⟨rfl, rfl, rfl⟩ := by simpa using hsl
      obtain ⟨⟨s0, s1, s2, s3, s4, s5, s6, s7, s8, s9, s10, s11, s12⟩, -⟩ := sq_cells (HKP.out _ _ HI5.out).1.get.1.2
      obtain ⟨⟨p0, p1, p2, p3, p4, p5, p6, p7, p8, p9, p10, p11, p12⟩, f0, f1, f2, f3, f4, f5, f6, f7, f8, f9, f10, f11, f12⟩ := sq_cells (bp_p HS5.out).1
      have ec0 := (bp_p HS5.out).2.cell (i := 0) (v := .int .i64 0) rfl
      have ec1 := (bp_p HS5.out).2.cell (i := 1) (v := .slice none 0 0) rfl
      have xf0 := (bp_p HS5.out).2.free (i := 0)
      have xf1 := (bp_p HS5.out).2.free (i := 1)
      have hs := bp_setp (DrF.objD a d bs) HS5.out 8 (.slice au lu cu)
      have HS6 : Hid (Sep (Sep (DrF a d bs) (BpF w7.heap.size (w7.heap.size + 1))) HoF (w5.setCell ⟨w7.heap.size, 8, none⟩ (.slice au lu cu)) _ ((_, (#[.int .i64 2, .int .i64 (x1 : Int), .int .i64 0, .int .i64 0, .int .i64 0, .int .i64 0, .int .i64 0, .int .i64 0, .slice au lu cu, .slice none 0 0, .slice none 0 0, .slice none 0 0, .slice none 0 0], #[.int .i64 0, .slice none 0 0])), _)) := hs.1
      have HI6 := Lib.hid (HI5.out.trans hs.2)
      clear hs
      have hs := bp_sete (DrF.objD a d bs) HS6.out 0 (.int .i64 0)
      have HS7 : Hid (Sep (Sep (DrF a d bs) (BpF w7.heap.size (w7.heap.size + 1))) HoF ((w5.setCell ⟨w7.heap.size, 8, none⟩ (.slice au lu cu)).setCell ⟨w7.heap.size + 1, 0, none⟩ (.int .i64 0)) _ ((_, (#[.int .i64 2, .int .i64 (x1 : Int), .int .i64 0, .int .i64 0, .int .i64 0, .int .i64 0, .int .i64 0, .int .i64 0, .slice au lu cu, .slice none 0 0, .slice none 0 0, .slice none 0 0, .slice none 0 0], #[.int .i64 0, .slice none 0 0])), _)) := hs.1
      have HI7 := Lib.hid (HI6.out.trans hs.2)
      clear hs
      have hs := bp_sete (DrF.objD a d bs) HS7.out 1 (.slice none 0 0)
      have HS8 : Hid (Sep (Sep (DrF a d bs) (BpF w7.heap.size (w7.heap.size + 1))) HoF (((w5.setCell ⟨w7.heap.size, 8, none⟩ (.slice au lu cu)).setCell ⟨w7.heap.size + 1, 0, none⟩ (.int .i64 0)).setCell ⟨w7.heap.size + 1, 1, none⟩ (.slice none 0 0)) _ ((_, (#[.int .i64 2, .int .i64 (x1 : Int), .int .i64 0, .int .i64 0, .int .i64 0, .int .i64 0, .int .i64 0, .int .i64 0, .slice au lu cu, .slice none 0 0, .slice none 0 0, .slice none 0 0, .slice none 0 0], #[.int .i64 0, .slice none 0 0])), _)) := hs.1
      have HI8 := Lib.hid (HI7.out.trans hs.2)
      clear hs
      go_wp2_with fail
      refine wp_loop_rounds 2 ?_
      rw [rounds_succ]
      go_wp2_with fail
      clear s0 s1 s2 s3 s4 s5 s6 s7 s8 s9 s10 s11 s12 p0 p1 p2 p3 p4 p5 p6 p7 p8 p9 p10 p11 p12 f0 f1 f2 f3 f4 f5 f6 f7 f8 f9 f10 f11 f12 ec0 ec1 xf0 xf1
      generalize World.setCell _ _ _ = w9 at HS8 HI8 ⊢
      clear HS5 HS6 HS7 HI5 HI6 HI7
      have HA := Lib.hid (sq_run_ok HEK.out (HRUN.out.2 (by first | rfl | trivial)))
      refine (ok_any _ _ _).mono ?_; rintro e wk ⟨rfl, hxk⟩
      have HSk := Lib.hid (Obj.ext (((DrF.objD a d bs).sep (BpF.obj w7.heap.size (w7.heap.size + 1))).sep HoF.obj) HS8.out hxk)
      have HIk := Lib.hid (HI8.out.ext hxk)
      clear hxk HS8 HI8
      go_wp2_with fail
      obtain ⟨qa, qd⟩ := HKP.out _ _ HIk.out
      have HRB := Lib.hid qa.get.1.1.1
      have HEB := Lib.hid qa.get.1.1.2
      have HN1 := Lib.hid (qd (w.heap.size + 1) (.inl (.inl (.inl rfl))))
      have HN2 := Lib.hid (qd (w.heap.size + 2) (.inl (.inl (.inr rfl))))
      clear qa qd
      have HPB := Lib.hid (bp_p HSk.out).1
      have HXB := Lib.hid (bp_p HSk.out).2
      have hne1 : w.heap.size + 1 ≠ w7.heap.size := fun e => HN1.out (by rw [e]; exact bp_in HSk.out (.inl rfl))
      have hne2 : w.heap.size + 1 ≠ w7.heap.size + 1 := fun e => HN1.out (by rw [e]; exact bp_in HSk.out (.inr rfl))
      have hne3 : w.heap.size + 2 ≠ w7.heap.size := fun e => HN2.out (by rw [e]; exact bp_in HSk.out (.inl rfl))
      have hne4 : w.heap.size + 2 ≠ w7.heap.size + 1 := fun e => HN2.out (by rw [e]; exact bp_in HSk.out (.inr rfl))
      refine wp_region_held_drew (S := fun w' => w'.cell? ⟨w7.heap.size, 0, none⟩ = some (.int .i64 2) ∧ w'.cell? ⟨w7.heap.size, 1, none⟩ = some (.int .i64 (x1 : Int)) ∧ w'.cell? ⟨w7.heap.size, 2, none⟩ = some (.int .i64 0) ∧ w'.cell? ⟨w7.heap.size, 3, none⟩ = some (.int .i64 0) ∧ w'.cell? ⟨w7.heap.size, 4, none⟩ = some (.int .i64 0) ∧ w'.cell? ⟨w7.heap.size, 5, none⟩ = some (.int .i64 0) ∧ w'.cell? ⟨w7.heap.size, 6, none⟩ = some (.int .i64 0) ∧ w'.cell? ⟨w7.heap.size, 7, none⟩ = some (.int .i64 0) ∧ w'.cell? ⟨w7.heap.size, 8, none⟩ = some (.slice au lu cu) ∧ w'.cell? ⟨w7.heap.size, 9, none⟩ = some (.slice none 0 0) ∧ w'.cell? ⟨w7.heap.size, 10, none⟩ = some (.slice none 0 0) ∧ w'.cell? ⟨w7.heap.size, 11, none⟩ = some (.slice none 0 0) ∧ w'.cell? ⟨w7.heap.size, 12, none⟩ = some (.slice none 0 0) ∧ w'.cell? ⟨w7.heap.size + 1, 0, none⟩ = some (.int .i64 0) ∧ w'.cell? ⟨w7.heap.size + 1, 1, none⟩ = some (.slice none 0 0)) (by kernel_rfl) (⟨(HPB.out.ext ((Ext.refl _).drew)).cell rfl, (HPB.out.ext ((Ext.refl _).drew)).cell rfl, (HPB.out.ext ((Ext.refl _).drew)).cell rfl, (HPB.out.ext ((Ext.refl _).drew)).cell rfl, (HPB.out.ext ((Ext.refl _).drew)).cell rfl, (HPB.out.ext ((Ext.refl _).drew)).cell rfl, (HPB.out.ext ((Ext.refl _).drew)).cell rfl, (HPB.out.ext ((Ext.refl _).drew)).cell rfl, (HPB.out.ext ((Ext.refl _).drew)).cell rfl, (HPB.out.ext ((Ext.refl _).drew)).cell rfl, (HPB.out.ext ((Ext.refl _).drew)).cell rfl, (HPB.out.ext ((Ext.refl _).drew)).cell rfl, (HPB.out.ext ((Ext.refl _).drew)).cell rfl, (HXB.out.ext ((Ext.refl _).drew)).cell rfl, (HXB.out.ext ((Ext.refl _).drew)).cell rfl⟩) (fun hHeld => ?_)
      refine wpAnyH_take (i := 0) (oi := { dst := some 125, op := Op.load 42 (Operand.tmp 10), type := 42, pos := "ref.go:147", after := #[], guard := none }) (v := ?_) rfl (by kernel_rfl) (by kernel_rfl) (by kernel_rfl) (fun _ _ _ h => h) (Or.inl ⟨by rfl, ?_⟩) (by assumption) ?_
      case refine_2 => (intro w hSw; (try dsimp only at hSw); go_simp; (try with_reducible rfl))
      try simp only [Act.put, List.setIfInBounds_toArray, List.set_cons_zero, List.set_cons_succ]
      refine wpAnyH_take (i := 1) (oi := { dst := some 126, op := Op.load 46 (Operand.tmp 11), type := 46, pos := "ref.go:147", after := #[{ on := 2, ground := Ground.gcOnly Departure.lateStores }], guard := none }) (v := ?_) rfl (by kernel_rfl) (by kernel_rfl) (by kernel_rfl) (fun _ _ _ h => h) (Or.inl ⟨by rfl, ?_⟩) (by assumption) ?_
      case refine_2 => (intro w hSw; (try dsimp only at hSw); go_simp; (try with_reducible rfl))
      try simp only [Act.put, List.setIfInBounds_toArray, List.set_cons_zero, List.set_cons_succ]
      obtain ⟨⟨e0, e1, e2, e3, e4, e5, e6, e7, e8, e9, e10, e11, e12⟩, f0, f1, f2, f3, f4, f5, f6, f7, f8, f9, f10, f11, f12⟩ := sq_cells HRB.out
      refine wpAnyH_ready (rs := [2]) (by kernel_rfl) (by simp) ?_
      refine AllReadyH.cons (o := { dst := none, op := Op.store 42 (Operand.tmp 6) (Operand.tmp 125), type := 0, pos := "ref.go:147", after := #[{ on := 0, ground := Ground.data }, { on := 0, ground := Ground.phase }, { on := 1, ground := Ground.textOnly Departure.lateStores }], guard := none }) rfl (fun K hK => ?_) AllReadyH.nil
      go_simp
      refine hK.out _ _ (⟨((set13_other HPB.out hne1 (.int .i64 2) (.int .i64 (x1 : Int)) (.int .i64 0) (.int .i64 0) (.int .i64 0) (.int .i64 0) (.int .i64 0) (.int .i64 0) (.slice au lu cu) (.slice none 0 0) (.slice none 0 0) (.slice none 0 0) (.slice none 0 0)).ext ((Ext.refl _).drew)).cell rfl, ((set13_other HPB.out hne1 (.int .i64 2) (.int .i64 (x1 : Int)) (.int .i64 0) (.int .i64 0) (.int .i64 0) (.int .i64 0) (.int .i64 0) (.int .i64 0) (.slice au lu cu) (.slice none 0 0) (.slice none 0 0) (.slice none 0 0) (.slice none 0 0)).ext ((Ext.refl _).drew)).cell rfl, ((set13_other HPB.out hne1 (.int .i64 2) (.int .i64 (x1 : Int)) (.int .i64 0) (.int .i64 0) (.int .i64 0) (.int .i64 0) (.int .i64 0) (.int .i64 0) (.slice au lu cu) (.slice none 0 0) (.slice none 0 0) (.slice none 0 0) (.slice none 0 0)).ext ((Ext.refl _).drew)).cell rfl, ((set13_other HPB.out hne1 (.int .i64 2) (.int .i64 (x1 : Int)) (.int .i64 0) (.int .i64 0) (.int .i64 0) (.int .i64 0) (.int .i64 0) (.int .i64 0) (.slice au lu cu) (.slice none 0 0) (.slice none 0 0) (.slice none 0 0) (.slice none 0 0)).ext ((Ext.refl _).drew)).cell rfl, ((set13_other HPB.out hne1 (.int .i64 2) (.int .i64 (x1 : Int)) (.int .i64 0) (.int .i64 0) (.int .i64 0) (.int .i64 0) (.int .i64 0) (.int .i64 0) (.slice au lu cu) (.slice none 0 0) (.slice none 0 0) (.slice none 0 0) (.slice none 0 0)).ext ((Ext.refl _).drew)).cell rfl, ((set13_other HPB.out hne1 (.int .i64 2) (.int .i64 (x1 : Int)) (.int .i64 0) (.int .i64 0) (.int .i64 0) (.int .i64 0) (.int .i64 0) (.int .i64 0) (.slice au lu cu) (.slice none 0 0) (.slice none 0 0) (.slice none 0 0) (.slice none 0 0)).ext ((Ext.refl _).drew)).cell rfl, ((set13_other HPB.out hne1 (.int .i64 2) (.int .i64 (x1 : Int)) (.int .i64 0) (.int .i64 0) (.int .i64 0) (.int .i64 0) (.int .i64 0) (.int .i64 0) (.slice au lu cu) (.slice none 0 0) (.slice none 0 0) (.slice none 0 0) (.slice none 0 0)).ext ((Ext.refl _).drew)).cell rfl, ((set13_other HPB.out hne1 (.int .i64 2) (.int .i64 (x1 : Int)) (.int .i64 0) (.int .i64 0) (.int .i64 0) (.int .i64 0) (.int .i64 0) (.int .i64 0) (.slice au lu cu) (.slice none 0 0) (.slice none 0 0) (.slice none 0 0) (.slice none 0 0)).ext ((Ext.refl _).drew)).cell rfl, ((set13_other HPB.out hne1 (.int .i64 2) (.int .i64 (x1 : Int)) (.int .i64 0) (.int .i64 0) (.int .i64 0) (.int .i64 0) (.int .i64 0) (.int .i64 0) (.slice au lu cu) (.slice none 0 0) (.slice none 0 0) (.slice none 0 0) (.slice none 0 0)).ext ((Ext.refl _).drew)).cell rfl, ((set13_other HPB.out hne1 (.int .i64 2) (.int .i64 (x1 : Int)) (.int .i64 0) (.int .i64 0) (.int .i64 0) (.int .i64 0) (.int .i64 0) (.int .i64 0) (.slice au lu cu) (.slice none 0 0) (.slice none 0 0) (.slice none 0 0) (.slice none 0 0)).ext ((Ext.refl _).drew)).cell rfl, ((set13_other HPB.out hne1 (.int .i64 2) (.int .i64 (x1 : Int)) (.int .i64 0) (.int .i64 0) (.int .i64 0) (.int .i64 0) (.int .i64 0) (.int .i64 0) (.slice au lu cu) (.slice none 0 0) (.slice none 0 0) (.slice none 0 0) (.slice none 0 0)).ext ((Ext.refl _).drew)).cell rfl, ((set13_other HPB.out hne1 (.int .i64 2) (.int .i64 (x1 : Int)) (.int .i64 0) (.int .i64 0) (.int .i64 0) (.int .i64 0) (.int .i64 0) (.int .i64 0) (.slice au lu cu) (.slice none 0 0) (.slice none 0 0) (.slice none 0 0) (.slice none 0 0)).ext ((Ext.refl _).drew)).cell rfl, ((set13_other HPB.out hne1 (.int .i64 2) (.int .i64 (x1 : Int)) (.int .i64 0) (.int .i64 0) (.int .i64 0) (.int .i64 0) (.int .i64 0) (.int .i64 0) (.slice au lu cu) (.slice none 0 0) (.slice none 0 0) (.slice none 0 0) (.slice none 0 0)).ext ((Ext.refl _).drew)).cell rfl, ((set13_other HXB.out hne2 (.int .i64 2) (.int .i64 (x1 : Int)) (.int .i64 0) (.int .i64 0) (.int .i64 0) (.int .i64 0) (.int .i64 0) (.int .i64 0) (.slice au lu cu) (.slice none 0 0) (.slice none 0 0) (.slice none 0 0) (.slice none 0 0)).ext ((Ext.refl _).drew)).cell rfl, ((set13_other HXB.out hne2 (.int .i64 2) (.int .i64 (x1 : Int)) (.int .i64 0) (.int .i64 0) (.int .i64 0) (.int .i64 0) (.int .i64 0) (.int .i64 0) (.slice au lu cu) (.slice none 0 0) (.slice none 0 0) (.slice none 0 0) (.slice none 0 0)).ext ((Ext.refl _).drew)).cell rfl⟩) (fun hHeld => ?_)
      clear hK K
      try simp only [Act.put, List.setIfInBounds_toArray, List.set_cons_zero, List.set_cons_succ]
      have ey0 := (set13_other HEB.out h12 (.int .i64 2) (.int .i64 (x1 : Int)) (.int .i64 0) (.int .i64 0) (.int .i64 0) (.int .i64 0) (.int .i64 0) (.int .i64 0) (.slice au lu cu) (.slice none 0 0) (.slice none 0 0) (.slice none 0 0) (.slice none 0 0)).cell (i := 0) (v := .int .i64 0) rfl
      have ey1 := (set13_other HEB.out h12 (.int .i64 2) (.int .i64 (x1 : Int)) (.int .i64 0) (.int .i64 0) (.int .i64 0) (.int .i64 0) (.int .i64 0) (.int .i64 0) (.slice au lu cu) (.slice none 0 0) (.slice none 0 0) (.slice none 0 0) (.slice none 0 0)).cell (i := 1) (v := .slice none 0 0) rfl
      have yf0 := (set13_other HEB.out h12 (.int .i64 2) (.int .i64 (x1 : Int)) (.int .i64 0) (.int .i64 0) (.int .i64 0) (.int .i64 0) (.int .i64 0) (.int .i64 0) (.slice au lu cu) (.slice none 0 0) (.slice none 0 0) (.slice none 0 0) (.slice none 0 0)).free (i := 0)
      have yf1 := (set13_other HEB.out h12 (.int .i64 2) (.int .i64 (x1 : Int)) (.int .i64 0) (.int .i64 0) (.int .i64 0) (.int .i64 0) (.int .i64 0) (.int .i64 0) (.slice au lu cu) (.slice none 0 0) (.slice none 0 0) (.slice none 0 0) (.slice none 0 0)).free (i := 1)
      clear e0 e1 e2 e3 e4 e5 e6 e7 e8 e9 e10 e11 e12 f0 f1 f2 f3 f4 f5 f6 f7 f8 f9 f10 f11 f12
      refine wpAnyH_ready (rs := [3]) (by kernel_rfl) (by simp) ?_
      refine AllReadyH.cons (o := { dst := none, op := Op.store 46 (Operand.tmp 7) (Operand.tmp 126), type := 0, pos := "ref.go:147", after := #[{ on := 1, ground := Ground.data }, { on := 2, ground := Ground.chain }, { on := 0, ground := Ground.phase }, { on := 1, ground := Ground.phase }, { on := 2, ground := Ground.phase }], guard := none }) rfl (fun K hK => ?_) AllReadyH.nil
      go_simp
      refine hK.out _ _ (⟨((((set13_other HPB.out hne1 (.int .i64 2) (.int .i64 (x1 : Int)) (.int .i64 0) (.int .i64 0) (.int .i64 0) (.int .i64 0) (.int .i64 0) (.int .i64 0) (.slice au lu cu) (.slice none 0 0) (.slice none 0 0) (.slice none 0 0) (.slice none 0 0)).other (p := ⟨w.heap.size + 2, 0, none⟩) hne3 _).other (p := ⟨w.heap.size + 2, 1, none⟩) hne3 _).ext ((Ext.refl _).drew)).cell rfl, ((((set13_other HPB.out hne1 (.int .i64 2) (.int .i64 (x1 : Int)) (.int .i64 0) (.int .i64 0) (.int .i64 0) (.int .i64 0) (.int .i64 0) (.int .i64 0) (.slice au lu cu) (.slice none 0 0) (.slice none 0 0) (.slice none 0 0) (.slice none 0 0)).other (p := ⟨w.heap.size + 2, 0, none⟩) hne3 _).other (p := ⟨w.heap.size + 2, 1, none⟩) hne3 _).ext ((Ext.refl _).drew)).cell rfl, ((((set13_other HPB.out hne1 (.int .i64 2) (.int .i64 (x1 : Int)) (.int .i64 0) (.int .i64 0) (.int .i64 0) (.int .i64 0) (.int .i64 0) (.int .i64 0) (.slice au lu cu) (.slice none 0 0) (.slice none 0 0) (.slice none 0 0) (.slice none 0 0)).other (p := ⟨w.heap.size + 2, 0, none⟩) hne3 _).other (p := ⟨w.heap.size + 2, 1, none⟩) hne3 _).ext ((Ext.refl _).drew)).cell rfl, ((((set13_other HPB.out hne1 (.int .i64 2) (.int .i64 (x1 : Int)) (.int .i64 0) (.int .i64 0) (.int .i64 0) (.int .i64 0) (.int .i64 0) (.int .i64 0) (.slice au lu cu) (.slice none 0 0) (.slice none 0 0) (.slice none 0 0) (.slice none 0 0)).other (p := ⟨w.heap.size + 2, 0, none⟩) hne3 _).other (p := ⟨w.heap.size + 2, 1, none⟩) hne3 _).ext ((Ext.refl _).drew)).cell rfl, ((((set13_other HPB.out hne1 (.int .i64 2) (.int .i64 (x1 : Int)) (.int .i64 0) (.int .i64 0) (.int .i64 0) (.int .i64 0) (.int .i64 0) (.int .i64 0) (.slice au lu cu) (.slice none 0 0) (.slice none 0 0) (.slice none 0 0) (.slice none 0 0)).other (p := ⟨w.heap.size + 2, 0, none⟩) hne3 _).other (p := ⟨w.heap.size + 2, 1, none⟩) hne3 _).ext ((Ext.refl _).drew)).cell rfl, ((((set13_other HPB.out hne1 (.int .i64 2) (.int .i64 (x1 : Int)) (.int .i64 0) (.int .i64 0) (.int .i64 0) (.int .i64 0) (.int .i64 0) (.int .i64 0) (.slice au lu cu) (.slice none 0 0) (.slice none 0 0) (.slice none 0 0) (.slice none 0 0)).other (p := ⟨w.heap.size + 2, 0, none⟩) hne3 _).other (p := ⟨w.heap.size + 2, 1, none⟩) hne3 _).ext ((Ext.refl _).drew)).cell rfl, ((((set13_other HPB.out hne1 (.int .i64 2) (.int .i64 (x1 : Int)) (.int .i64 0) (.int .i64 0) (.int .i64 0) (.int .i64 0) (.int .i64 0) (.int .i64 0) (.slice au lu cu) (.slice none 0 0) (.slice none 0 0) (.slice none 0 0) (.slice none 0 0)).other (p := ⟨w.heap.size + 2, 0, none⟩) hne3 _).other (p := ⟨w.heap.size + 2, 1, none⟩) hne3 _).ext ((Ext.refl _).drew)).cell rfl, ((((set13_other HPB.out hne1 (.int .i64 2) (.int .i64 (x1 : Int)) (.int .i64 0) (.int .i64 0) (.int .i64 0) (.int .i64 0) (.int .i64 0) (.int .i64 0) (.slice au lu cu) (.slice none 0 0) (.slice none 0 0) (.slice none 0 0) (.slice none 0 0)).other (p := ⟨w.heap.size + 2, 0, none⟩) hne3 _).other (p := ⟨w.heap.size + 2, 1, none⟩) hne3 _).ext ((Ext.refl _).drew)).cell rfl, ((((set13_other HPB.out hne1 (.int .i64 2) (.int .i64 (x1 : Int)) (.int .i64 0) (.int .i64 0) (.int .i64 0) (.int .i64 0) (.int .i64 0) (.int .i64 0) (.slice au lu cu) (.slice none 0 0) (.slice none 0 0) (.slice none 0 0) (.slice none 0 0)).other (p := ⟨w.heap.size + 2, 0, none⟩) hne3 _).other (p := ⟨w.heap.size + 2, 1, none⟩) hne3 _).ext ((Ext.refl _).drew)).cell rfl, ((((set13_other HPB.out hne1 (.int .i64 2) (.int .i64 (x1 : Int)) (.int .i64 0) (.int .i64 0) (.int .i64 0) (.int .i64 0) (.int .i64 0) (.int .i64 0) (.slice au lu cu) (.slice none 0 0) (.slice none 0 0) (.slice none 0 0) (.slice none 0 0)).other (p := ⟨w.heap.size + 2, 0, none⟩) hne3 _).other (p := ⟨w.heap.size + 2, 1, none⟩) hne3 _).ext ((Ext.refl _).drew)).cell rfl, ((((set13_other HPB.out hne1 (.int .i64 2) (.int .i64 (x1 : Int)) (.int .i64 0) (.int .i64 0) (.int .i64 0) (.int .i64 0) (.int .i64 0) (.int .i64 0) (.slice au lu cu) (.slice none 0 0) (.slice none 0 0) (.slice none 0 0) (.slice none 0 0)).other (p := ⟨w.heap.size + 2, 0, none⟩) hne3 _).other (p := ⟨w.heap.size + 2, 1, none⟩) hne3 _).ext ((Ext.refl _).drew)).cell rfl, ((((set13_other HPB.out hne1 (.int .i64 2) (.int .i64 (x1 : Int)) (.int .i64 0) (.int .i64 0) (.int .i64 0) (.int .i64 0) (.int .i64 0) (.int .i64 0) (.slice au lu cu) (.slice none 0 0) (.slice none 0 0) (.slice none 0 0) (.slice none 0 0)).other (p := ⟨w.heap.size + 2, 0, none⟩) hne3 _).other (p := ⟨w.heap.size + 2, 1, none⟩) hne3 _).ext ((Ext.refl _).drew)).cell rfl, ((((set13_other HPB.out hne1 (.int .i64 2) (.int .i64 (x1 : Int)) (.int .i64 0) (.int .i64 0) (.int .i64 0) (.int .i64 0) (.int .i64 0) (.int .i64 0) (.slice au lu cu) (.slice none 0 0) (.slice none 0 0) (.slice none 0 0) (.slice none 0 0)).other (p := ⟨w.heap.size + 2, 0, none⟩) hne3 _).other (p := ⟨w.heap.size + 2, 1, none⟩) hne3 _).ext ((Ext.refl _).drew)).cell rfl, ((((set13_other HXB.out hne2 (.int .i64 2) (.int .i64 (x1 : Int)) (.int .i64 0) (.int .i64 0) (.int .i64 0) (.int .i64 0) (.int .i64 0) (.int .i64 0) (.slice au lu cu) (.slice none 0 0) (.slice none 0 0) (.slice none 0 0) (.slice none 0 0)).other (p := ⟨w.heap.size + 2, 0, none⟩) hne4 _).other (p := ⟨w.heap.size + 2, 1, none⟩) hne4 _).ext ((Ext.refl _).drew)).cell rfl, ((((set13_other HXB.out hne2 (.int .i64 2) (.int .i64 (x1 : Int)) (.int .i64 0) (.int .i64 0) (.int .i64 0) (.int .i64 0) (.int .i64 0) (.int .i64 0) (.slice au lu cu) (.slice none 0 0) (.slice none 0 0) (.slice none 0 0) (.slice none 0 0)).other (p := ⟨w.heap.size + 2, 0, none⟩) hne4 _).other (p := ⟨w.heap.size + 2, 1, none⟩) hne4 _).ext ((Ext.refl _).drew)).cell rfl⟩) (fun hHeld => ?_)
      clear hK K hHeld
      try simp only [Act.put, List.setIfInBounds_toArray, List.set_cons_zero, List.set_cons_succ]
      refine wpAnyH_done (by kernel_rfl) ?_ _
      obtain ⟨GG, k1, k2⟩ := drop_mid (DrF.objD a d bs) HSk.out
      have hZ : Step F w _ _ := (Step.of_ext (F := F) HE6.out).trans HIk.out
      obtain ⟨z1, z2, z3, z4⟩ := fin_all ((DrF.objD a d bs).sep HoF.obj) k1 (hZ.sub k2) HB1.out (fun h => HN1.out (k2 _ h)) HB2.out (fun h => HN2.out (k2 _ h)) h12 HRB.out HEB.out (.int .i64 2) (.int .i64 (x1 : Int)) (.int .i64 0) (.int .i64 0) (.int .i64 0) (.int .i64 0) (.int .i64 0) (.int .i64 0) (.slice au lu cu) (.slice none 0 0) (.slice none 0 0) (.slice none 0 0) (.slice none 0 0) (.int .i64 0) (.slice none 0 0)
      have z1 := Obj.ext ((DrF.objD a d bs).sep HoF.obj) z1 ((Ext.refl _).drew)
      have z2 := z2.ext ((Ext.refl _).drew)
      have z3 := z3.ext ((Ext.refl _).drew)
      have z4 := z4.ext ((Ext.refl _).drew)
      clear ey0 ey1 yf0 yf1 k1 hZ
      generalize World.drew _ = wz at z1 z2 z3 z4 ⊢
      obtain ⟨⟨g0, g1, g2, g3, g4, g5, g6, g7, g8, g9, g10, g11, g12⟩, -⟩ := sq_cells z3
      have ey0 := z4.cell (i := 0) (v := .int .i64 0) rfl
      have ey1 := z4.cell (i := 1) (v := .slice none 0 0) rfl
      have HZ1 := Lib.hid z1
      have HZ2 := Lib.hid z2
      clear z1 z2 z3 z4
      go_wp2
      exact bodyPost_ret (v := .tuple #[.agg #[.int .i64 2, .int .i64 (x1 : Int), .int .i64 0, .int .i64 0, .int .i64 0, .int .i64 0, .int .i64 0, .int .i64 0, .slice au lu cu, .slice none 0 0, .slice none 0 0, .slice none 0 0, .slice none 0 0], .agg #[.int .i64 0, .slice none 0 0]]) (by simp [results, Tryz.results12, go_sem, g0, g1, g2, g3, g4, g5, g6, g7, g8, g9, g10, g11, g12, ey0, ey1]) rfl (RSqR.done (L := (.slice au lu cu)) (s0 := nilS) (s1 := nilS) (s2 := nilS) (s3 := nilS) HA.out HZ1.out HZ2.out (fun W h => ⟨⟨h.2.1, Ints.nil W, Ints.nil W, Ints.nil W, Ints.nil W⟩, RErrIs.zero⟩))
    · subst hf
      obtain ⟨hc5, -, -⟩ := hx5
      obtain rfl : c = 3 := hc5
      obtain ⟨⟨s0, s1, s2, s3, s4, s5, s6, s7, s8, s9, s10, s11, s12⟩, -⟩ := sq_cells (HKP.out _ _ HI5.out).1.get.1.2
      obtain ⟨⟨p0, p1, p2, p3, p4, p5, p6, p7, p8, p9, p10, p11, p12⟩, f0, f1, f2, f3, f4, f5, f6, f7, f8, f9, f10, f11, f12⟩ := sq_cells (bp_p HS5.out).1
      have ec0 := (bp_p HS5.out).2.cell (i := 0) (v := .int .i64 0) rfl
      have ec1 := (bp_p HS5.out).2.cell (i := 1) (v := .slice none 0 0) rfl
      have xf0 := (bp_p HS5.out).2.free (i := 0)
      have xf1 := (bp_p HS5.out).2.free (i := 1)
      have hs := bp_setp (DrF.objD a d bs) HS5.out 8 (.slice au lu cu)
      have HS6 : Hid (Sep (Sep (DrF a d bs) (BpF w7.heap.size (w7.heap.size + 1))) HoF (w5.setCell ⟨w7.heap.size, 8, none⟩ (.slice au lu cu)) _ ((_, (#[.int .i64 2, .int .i64 (x1 : Int), .int .i64 0, .int .i64 0, .int .i64 0, .int .i64 0, .int .i64 0, .int .i64 0, .slice au lu cu, .slice none 0 0, .slice none 0 0, .slice none 0 0, .slice none 0 0], #[.int .i64 0, .slice none 0 0])), _)) := hs.1
      have HI6 := Lib.hid (HI5.out.trans hs.2)
      clear hs
      have hs := bp_sete (DrF.objD a d bs) HS6.out 0 (.int .i64 3)
      have HS7 : Hid (Sep (Sep (DrF a d bs) (BpF w7.heap.size (w7.heap.size + 1))) HoF ((w5.setCell ⟨w7.heap.size, 8, none⟩ (.slice au lu cu)).setCell ⟨w7.heap.size + 1, 0, none⟩ (.int .i64 3)) _ ((_, (#[.int .i64 2, .int .i64 (x1 : Int), .int .i64 0, .int .i64 0, .int .i64 0, .int .i64 0, .int .i64 0, .int .i64 0, .slice au lu cu, .slice none 0 0, .slice none 0 0, .slice none 0 0, .slice none 0 0], #[.int .i64 3, .slice none 0 0])), _)) := hs.1
      have HI7 := Lib.hid (HI6.out.trans hs.2)
      clear hs
      have hs := bp_sete (DrF.objD a d bs) HS7.out 1 (.slice ra rn rk)
      have HS8 : Hid (Sep (Sep (DrF a d bs) (BpF w7.heap.size (w7.heap.size + 1))) HoF (((w5.setCell ⟨w7.heap.size, 8, none⟩ (.slice au lu cu)).setCell ⟨w7.heap.size + 1, 0, none⟩ (.int .i64 3)).setCell ⟨w7.heap.size + 1, 1, none⟩ (.slice ra rn rk)) _ ((_, (#[.int .i64 2, .int .i64 (x1 : Int), .int .i64 0, .int .i64 0, .int .i64 0, .int .i64 0, .int .i64 0, .int .i64 0, .slice au lu cu, .slice none 0 0, .slice none 0 0, .slice none 0 0, .slice none 0 0], #[.int .i64 3, .slice ra rn rk])), _)) := hs.1
      have HI8 := Lib.hid (HI7.out.trans hs.2)
      clear hs
      go_wp2_with fail
      refine wp_loop_rounds 2 ?_
      rw [rounds_succ]
      go_wp2_with fail
      clear s0 s1 s2 s3 s4 s5 s6 s7 s8 s9 s10 s11 s12 p0 p1 p2 p3 p4 p5 p6 p7 p8 p9 p10 p11 p12 f0 f1 f2 f3 f4 f5 f6 f7 f8 f9 f10 f11 f12 ec0 ec1 xf0 xf1
      generalize World.setCell _ _ _ = w9 at HS8 HI8 ⊢
      clear HS5 HS6 HS7 HI5 HI6 HI7
      have HA := Lib.hid (sq_run_bad HEK.out (HRUN.out.1 _ (by first | rfl | trivial)))
      refine (ok_any _ _ _).mono ?_; rintro e wk ⟨rfl, hxk⟩
      have HSk := Lib.hid (Obj.ext (((DrF.objD a d bs).sep (BpF.obj w7.heap.size (w7.heap.size + 1))).sep HoF.obj) HS8.out hxk)
      have HIk := Lib.hid (HI8.out.ext hxk)
      clear hxk HS8 HI8
      have pk := (bp_p HSk.out).1.cell (i := 0) (v := .int .i64 2) rfl
      have ec0 := (bp_p HSk.out).2.cell (i := 0) (v := .int .i64 3) rfl
      have ec1 := (bp_p HSk.out).2.cell (i := 1) (v := .slice ra rn rk) rfl
      go_wp2_with fail
      refine (rin_hold synS 2 _ _ _ _ [(coefS, iq)] _ (bp_has HSk.out).2.2 (Nat.le_refl 1)).mono ?_; rintro e wi ⟨ua, un, uk, X, rfl, hxi, hxx, hoi⟩
      clear pk ec0 ec1
      obtain ⟨qa, qd⟩ := HKP.out _ _ HIk.out
      have HRB := Lib.hid (qa.get.1.1.1.ext hxi)
      have HEB := Lib.hid (qa.get.1.1.2.ext hxi)
      have HN1 := Lib.hid (qd (w.heap.size + 1) (.inl (.inl (.inl rfl))))
      have HN2 := Lib.hid (qd (w.heap.size + 2) (.inl (.inl (.inr rfl))))
      have hb1l := qa.get.1.1.1.lt
      have hb2l := qa.get.1.1.2.lt
      clear qa qd
      obtain ⟨GG, k1, k2⟩ := drop_mid (DrF.objD a d bs) HSk.out
      have hZ : Step F w _ _ := (Step.of_ext (F := F) HE6.out).trans HIk.out
      obtain ⟨GN, m1, m2, m3⟩ := bag_addF (DrF.objD a d bs) k1 (hZ.sub k2) hxi hoi hxx
      have n1 : ¬ GN (w.heap.size + 1) := fun h => by rcases m3 _ h with h | h; exact HN1.out (k2 _ h); omega
      have n2 : ¬ GN (w.heap.size + 2) := fun h => by rcases m3 _ h with h | h; exact HN2.out (k2 _ h); omega
      obtain ⟨z1, z2, z3, z4⟩ := fin_all ((DrF.objD a d bs).sep HoF.obj) m1 m2 HB1.out n1 HB2.out n2 h12 HRB.out HEB.out (.int .i64 0) (.int .i64 0) (.int .i64 0) (.int .i64 0) (.int .i64 0) (.int .i64 0) (.int .i64 0) (.int .i64 0) (.slice none 0 0) (.slice none 0 0) (.slice none 0 0) (.slice none 0 0) (.slice none 0 0) (.int .i64 3) (.slice ua un uk)
      have HZ1 := Lib.hid z1
      have HZ2 := Lib.hid z2
      obtain ⟨⟨g0, g1, g2, g3, g4, g5, g6, g7, g8, g9, g10, g11, g12⟩, -⟩ := sq_cells z3
      have ey0 := z4.cell (i := 0) (v := .int .i64 3) rfl
      have ey1 := z4.cell (i := 1) (v := .slice ua un uk) rfl
      clear z1 z2 z3 z4 m1 m2 m3 n1 n2 k1 k2 hZ hxi hoi hxx
      obtain ⟨⟨e0, e1, e2, e3, e4, e5, e6, e7, e8, e9, e10, e11, e12⟩, f0, f1, f2, f3, f4, f5, f6, f7, f8, f9, f10, f11, f12⟩ := sq_cells HRB.out
      have w0' := (set13_other HEB.out h12 (.int .i64 0) (.int .i64 0) (.int .i64 0) (.int .i64 0) (.int .i64 0) (.int .i64 0) (.int .i64 0) (.int .i64 0) (.slice none 0 0) (.slice none 0 0) (.slice none 0 0) (.slice none 0 0) (.slice none 0 0)).cell (i := 0) (v := .int .i64 0) rfl
      have w1' := (set13_other HEB.out h12 (.int .i64 0) (.int .i64 0) (.int .i64 0) (.int .i64 0) (.int .i64 0) (.int .i64 0) (.int .i64 0) (.int .i64 0) (.slice none 0 0) (.slice none 0 0) (.slice none 0 0) (.slice none 0 0) (.slice none 0 0)).cell (i := 1) (v := .slice none 0 0) rfl
      have wf0 := (set13_other HEB.out h12 (.int .i64 0) (.int .i64 0) (.int .i64 0) (.int .i64 0) (.int .i64 0) (.int .i64 0) (.int .i64 0) (.int .i64 0) (.slice none 0 0) (.slice none 0 0) (.slice none 0 0) (.slice none 0 0) (.slice none 0 0)).free (i := 0)
      have wf1 := (set13_other HEB.out h12 (.int .i64 0) (.int .i64 0) (.int .i64 0) (.int .i64 0) (.int .i64 0) (.int .i64 0) (.int .i64 0) (.int .i64 0) (.slice none 0 0) (.slice none 0 0) (.slice none 0 0) (.slice none 0 0) (.slice none 0 0)).free (i := 1)
      go_wp2
      exact bodyPost_ret (v := .tuple #[.agg #[.int .i64 0, .int .i64 0, .int .i64 0, .int .i64 0, .int .i64 0, .int .i64 0, .int .i64 0, .int .i64 0, .slice none 0 0, .slice none 0 0, .slice none 0 0, .slice none 0 0, .slice none 0 0], .agg #[.int .i64 3, .slice ua un uk]]) (by simp [results, Tryz.results12, go_sem, g0, g1, g2, g3, g4, g5, g6, g7, g8, g9, g10, g11, g12, ey0, ey1]) rfl (RSqR.done (q := sq0) (L := nilS) (s0 := nilS) (s1 := nilS) (s2 := nilS) (s3 := nilS) HA.out HZ1.out HZ2.out (fun W h => ⟨SqIs.nil W 0, h.2⟩))
  by_cases hkk3 : kk = 3
  · subst hkk3
    have hlv0 : lvE (zsL 16) 16 = none := zs_lv 16
    have hll0 : (zsL 16).length = 16 := (lvE_none hlv0).1
    obtain ⟨⟨m0, q0⟩, e0⟩ : ∃ r, modeM (mY bs) t1 (cl3 (0)) = r := ⟨_, rfl⟩
    obtain ⟨⟨⟨f0, y0⟩, t2⟩, d0⟩ : ∃ r, (codP (zsL 16)).run (mY bs) q0 = r := ⟨_, rfl⟩
    have ka0 := mod_ok (mkY (bs := bs)) HK1.out e0
    have kb0 := cod_ok (mkY (bs := bs)) ka0 hll0 d0
    have UA0 := Lib.hid (fun G w' (h : (DrF a d bs) w' G t1) => drmode_any a _ d bs (0) t1 G w' h HK1.out (by omega))
    have UB0 := Lib.hid (fun Y G w' (h : (DrF a d bs) w' G q0) (hv : HoF w' Y (fun W => Ints W (.slice (some ⟨u0.heap.size, 0, none⟩) 16 16) (zsL 16))) (hd : ∀ k, Y k → ¬ G k) => drcode16 a _ d bs (zsL 16) _ Y q0 G w' h ka0 (by omega) hv hd (zs_facts' _) (zs_facts 16).2.1)
    rw [e0] at UA0
    rw [d0] at UB0
    have HC0 := Lib.hid (cod_two (.inl rfl) hlv0 d0)
    have hlv1 : lvE (zsL 16) 16 = none := zs_lv 16
    have hll1 : (zsL 16).length = 16 := (lvE_none hlv1).1
    obtain ⟨⟨m1, q1⟩, e1⟩ : ∃ r, modeM (mY bs) t2 (cl3 (0)) = r := ⟨_, rfl⟩
    obtain ⟨⟨⟨f1, y1⟩, t3⟩, d1⟩ : ∃ r, (codP (zsL 16)).run (mY bs) q1 = r := ⟨_, rfl⟩
    have ka1 := mod_ok (mkY (bs := bs)) kb0 e1
    have kb1 := cod_ok (mkY (bs := bs)) ka1 hll1 d1
    have UA1 := Lib.hid (fun G w' (h : (DrF a d bs) w' G t2) => drmode_any a _ d bs (0) t2 G w' h kb0 (by omega))
    have UB1 := Lib.hid (fun Y G w' (h : (DrF a d bs) w' G q1) (hv : HoF w' Y (fun W => Ints W (.slice (some ⟨u1.heap.size, 0, none⟩) 16 16) (zsL 16))) (hd : ∀ k, Y k → ¬ G k) => drcode16 a _ d bs (zsL 16) _ Y q1 G w' h ka1 (by omega) hv hd (zs_facts' _) (zs_facts 16).2.1)
    rw [e1] at UA1
    rw [d1] at UB1
    have HC1 := Lib.hid (cod_two (.inl rfl) hlv1 d1)
    have hlv2 : lvE (zsL 16) 16 = none := zs_lv 16
    have hll2 : (zsL 16).length = 16 := (lvE_none hlv2).1
    obtain ⟨⟨m2, q2⟩, e2⟩ : ∃ r, modeM (mY bs) t3 (cl3 (0)) = r := ⟨_, rfl⟩
    obtain ⟨⟨⟨f2, y2⟩, t4⟩, d2⟩ : ∃ r, (codP (zsL 16)).run (mY bs) q2 = r := ⟨_, rfl⟩
    have ka2 := mod_ok (mkY (bs := bs)) kb1 e2
    have kb2 := cod_ok (mkY (bs := bs)) ka2 hll2 d2
    have UA2 := Lib.hid (fun G w' (h : (DrF a d bs) w' G t3) => drmode_any a _ d bs (0) t3 G w' h kb1 (by omega))
    have UB2 := Lib.hid (fun Y G w' (h : (DrF a d bs) w' G q2) (hv : HoF w' Y (fun W => Ints W (.slice (some ⟨u2.heap.size, 0, none⟩) 16 16) (zsL 16))) (hd : ∀ k, Y k → ¬ G k) => drcode16 a _ d bs (zsL 16) _ Y q2 G w' h ka2 (by omega) hv hd (zs_facts' _) (zs_facts 16).2.1)
    rw [e2] at UA2
    rw [d2] at UB2
    have HC2 := Lib.hid (cod_two (.inl rfl) hlv2 d2)
    have hlv3 : lvE (zsL 16) 16 = none := zs_lv 16
    have hll3 : (zsL 16).length = 16 := (lvE_none hlv3).1
    obtain ⟨⟨m3, q3⟩, e3⟩ : ∃ r, modeM (mY bs) t4 (cl3 (0)) = r := ⟨_, rfl⟩
    obtain ⟨⟨⟨f3, y3⟩, t5⟩, d3⟩ : ∃ r, (codP (zsL 16)).run (mY bs) q3 = r := ⟨_, rfl⟩
    have ka3 := mod_ok (mkY (bs := bs)) kb2 e3
    have kb3 := cod_ok (mkY (bs := bs)) ka3 hll3 d3
    have UA3 := Lib.hid (fun G w' (h : (DrF a d bs) w' G t4) => drmode_any a _ d bs (0) t4 G w' h kb2 (by omega))
    have UB3 := Lib.hid (fun Y G w' (h : (DrF a d bs) w' G q3) (hv : HoF w' Y (fun W => Ints W (.slice (some ⟨u3.heap.size, 0, none⟩) 16 16) (zsL 16))) (hd : ∀ k, Y k → ¬ G k) => drcode16 a _ d bs (zsL 16) _ Y q3 G w' h ka3 (by omega) hv hd (zs_facts' _) (zs_facts 16).2.1)
    rw [e3] at UA3
    rw [d3] at UB3
    have HC3 := Lib.hid (cod_two (.inl rfl) hlv3 d3)
    have HRUN := Lib.hid (fo_runs (q := (blS 0)) e0 d0 e1 d1 e2 d2 e3 d3)
    clear e0 d0 e1 d1 e2 d2 e3 d3 ka0 ka1 ka2 ka3 kb0 kb1 kb2 kb3 hlv0 hlv1 hlv2 hlv3 hll0 hll1 hll2 hll3
    go_wp2_with fail
    refine wp_loop_rounds 6 ?_
    rw [rounds_succ]
    go_wp2_with fail
    rw [HW8.out]
    clear s0 s1 s2 s3 s4 s5 s6 s7 s8 s9 s10 s11 s12 p0 p1 p2 p3 p4 p5 p6 p7 p8 p9 p10 p11 p12 ec0 ec1
    refine (ok_any _ _ _).mono ?_; rintro e wka0 ⟨rfl, hxk⟩
    have HSa0 := Lib.hid (Obj.ext (((DrF.objD a d bs).sep (BpF.obj w7.heap.size (w7.heap.size + 1))).sep HoF.obj) HS0.out hxk)
    have HIa0 := Lib.hid (HI0.out.ext hxk)
    clear hxk HS0 HI0
    obtain ⟨⟨s0, s1, s2, s3, s4, s5, s6, s7, s8, s9, s10, s11, s12⟩, -⟩ := sq_cells (HKP.out _ _ HIa0.out).1.get.1.2
    go_wp2_with fail
    clear s0 s1 s2 s3 s4 s5 s6 s7 s8 s9 s10 s11 s12
    refine (bp_call HSa0.out (fun G hG => UA0.out G _ hG)).mono ?_; rintro e w1 ⟨rfl, G1, h1', st1⟩
    have HSb0 := Lib.hid h1'
    have HIb0 := Lib.hid (HIa0.out.trans st1)
    clear h1' st1 HSa0 HIa0 UA0
    obtain ⟨⟨s0, s1, s2, s3, s4, s5, s6, s7, s8, s9, s10, s11, s12⟩, -⟩ := sq_cells (HKP.out _ _ HIb0.out).1.get.1.2
    obtain ⟨⟨p0, p1, p2, p3, p4, p5, p6, p7, p8, p9, p10, p11, p12⟩, f0, f1, f2, f3, f4, f5, f6, f7, f8, f9, f10, f11, f12⟩ := sq_cells (bp_p HSb0.out).1
    have ec0 := (bp_p HSb0.out).2.cell (i := 0) (v := .int .i64 0) rfl
    have ec1 := (bp_p HSb0.out).2.cell (i := 1) (v := .slice none 0 0) rfl
    have xf0 := (bp_p HSb0.out).2.free (i := 0)
    have xf1 := (bp_p HSb0.out).2.free (i := 1)
    have hs := bp_setp (DrF.objD a d bs) HSb0.out 2 (.int .i64 (m0 : Int))
    have HSc0 : Hid (Sep (Sep (DrF a d bs) (BpF w7.heap.size (w7.heap.size + 1))) HoF (w1.setCell ⟨w7.heap.size, 2, none⟩ (.int .i64 (m0 : Int))) _ ((_, (#[.int .i64 3, .int .i64 0, .int .i64 (m0 : Int), .int .i64 0, .int .i64 0, .int .i64 0, .int .i64 0, .int .i64 0, .slice none 0 0, .slice none 0 0, .slice none 0 0, .slice none 0 0, .slice none 0 0], #[.int .i64 0, .slice none 0 0])), _)) := hs.1
    have HIc0 := Lib.hid (HIb0.out.trans hs.2)
    clear hs
    go_wp2_with fail
    clear s0 s1 s2 s3 s4 s5 s6 s7 s8 s9 s10 s11 s12 p0 p1 p2 p3 p4 p5 p6 p7 p8 p9 p10 p11 p12 f0 f1 f2 f3 f4 f5 f6 f7 f8 f9 f10 f11 f12 ec0 ec1 xf0 xf1
    generalize w1.setCell _ _ = w4 at HSc0 HIc0 ⊢
    clear HSb0 HIb0
    obtain ⟨kx, kd⟩ := HKP.out _ _ HIc0.out
    refine (sep_lqF (BpF.obj w7.heap.size (w7.heap.size + 1)) HSc0.out (fun G hG hs => UB0.out _ G _ hG (kx.imp (fun W h => h.2.2.1)) (fun k hk hg => kd k hk (hs k hg)))).mono ?_; rintro e w5 ⟨t, P0, G5, ⟨u0, c0, ra0, rn0, rk0, rfl, hp⟩, h5, st5⟩
    obtain ⟨rfl, rfl⟩ := Prod.mk.inj hp
    have HSd0 := Lib.hid h5
    have HId0 := Lib.hid (HIc0.out.trans st5)
    obtain ⟨au0, lu0, cu0, rfl⟩ := (bp_has h5).2.1.slf
    have hx5 := (bp_has h5).2.2
    clear h5 st5 kx kd hp HSc0 HIc0
    clear UB0
    rcases HC0.out with hf | ⟨iq, hf⟩
    · subst hf
      obtain ⟨rfl, hsl⟩ := hx5
      obtain ⟨rfl, rfl, rfl⟩ := by simpa using hsl
      obtain ⟨⟨s0, s1, s2, s3, s4, s5, s6, s7, s8, s9, s10, s11, s12⟩, -⟩ := sq_cells (HKP.out _ _ HId0.out).1.get.1.2
      obtain ⟨⟨p0, p1, p2, p3, p4, p5, p6, p7, p8, p9, p10, p11, p12⟩, f0, f1, f2, f3, f4, f5, f6, f7, f8, f9, f10, f11, f12⟩ := sq_cells (bp_p HSd0.out).1
      have ec0 := (bp_p HSd0.out).2.cell (i := 0) (v := .int .i64 0) rfl
      have ec1 := (bp_p HSd0.out).2.cell (i := 1) (v := .slice none 0 0) rfl
      have xf0 := (bp_p HSd0.out).2.free (i := 0)
      have xf1 := (bp_p HSd0.out).2.free (i := 1)
      have hs := bp_setp (DrF.objD a d bs) HSd0.out 9 (.slice au0 lu0 cu0)
      have HSe0 : Hid (Sep (Sep (DrF a d bs) (BpF w7.heap.size (w7.heap.size + 1))) HoF (w5.setCell ⟨w7.heap.size, 9, none⟩ (.slice au0 lu0 cu0)) _ ((_, (#[.int .i64 3, .int .i64 0, .int .i64 (m0 : Int), .int .i64 0, .int .i64 0, .int .i64 0, .int .i64 0, .int .i64 0, .slice none 0 0, .slice au0 lu0 cu0, .slice none 0 0, .slice none 0 0, .slice none 0 0], #[.int .i64 0, .slice none 0 0])), _)) := hs.1
      have HIe0 := Lib.hid (HId0.out.trans hs.2)
      clear hs
      have hs := bp_sete (DrF.objD a d bs) HSe0.out 0 (.int .i64 0)
      have HSf0 : Hid (Sep (Sep (DrF a d bs) (BpF w7.heap.size (w7.heap.size + 1))) HoF ((w5.setCell ⟨w7.heap.size, 9, none⟩ (.slice au0 lu0 cu0)).setCell ⟨w7.heap.size + 1, 0, none⟩ (.int .i64 0)) _ ((_, (#[.int .i64 3, .int .i64 0, .int .i64 (m0 : Int), .int .i64 0, .int .i64 0, .int .i64 0, .int .i64 0, .int .i64 0, .slice none 0 0, .slice au0 lu0 cu0, .slice none 0 0, .slice none 0 0, .slice none 0 0], #[.int .i64 0, .slice none 0 0])), _)) := hs.1
      have HIf0 := Lib.hid (HIe0.out.trans hs.2)
      clear hs
      have hs := bp_sete (DrF.objD a d bs) HSf0.out 1 (.slice none 0 0)
      have HSg0 : Hid (Sep (Sep (DrF a d bs) (BpF w7.heap.size (w7.heap.size + 1))) HoF (((w5.setCell ⟨w7.heap.size, 9, none⟩ (.slice au0 lu0 cu0)).setCell ⟨w7.heap.size + 1, 0, none⟩ (.int .i64 0)).setCell ⟨w7.heap.size + 1, 1, none⟩ (.slice none 0 0)) _ ((_, (#[.int .i64 3, .int .i64 0, .int .i64 (m0 : Int), .int .i64 0, .int .i64 0, .int .i64 0, .int .i64 0, .int .i64 0, .slice none 0 0, .slice au0 lu0 cu0, .slice none 0 0, .slice none 0 0, .slice none 0 0], #[.int .i64 0, .slice none 0 0])), _)) := hs.1
      have HIg0 := Lib.hid (HIf0.out.trans hs.2)
      clear hs
      go_wp2_with fail
      rw [rounds_succ]
      go_wp2_with fail
      clear s0 s1 s2 s3 s4 s5 s6 s7 s8 s9 s10 s11 s12 p0 p1 p2 p3 p4 p5 p6 p7 p8 p9 p10 p11 p12 f0 f1 f2 f3 f4 f5 f6 f7 f8 f9 f10 f11 f12 ec0 ec1 xf0 xf1
      generalize World.setCell _ _ _ = w9 at HSg0 HIg0 ⊢
      clear HSd0 HSe0 HSf0 HId0 HIe0 HIf0
      refine (ok_any _ _ _).mono ?_; rintro e wka1 ⟨rfl, hxk⟩
      have HSa1 := Lib.hid (Obj.ext (((DrF.objD a d bs).sep (BpF.obj w7.heap.size (w7.heap.size + 1))).sep HoF.obj) HSg0.out hxk)
      have HIa1 := Lib.hid (HIg0.out.ext hxk)
      clear hxk HSg0 HIg0
      obtain ⟨⟨s0, s1, s2, s3, s4, s5, s6, s7, s8, s9, s10, s11, s12⟩, -⟩ := sq_cells (HKP.out _ _ HIa1.out).1.get.1.2
      go_wp2_with fail
      clear s0 s1 s2 s3 s4 s5 s6 s7 s8 s9 s10 s11 s12
      refine (bp_call HSa1.out (fun G hG => UA1.out G _ hG)).mono ?_; rintro e w1 ⟨rfl, G1, h1', st1⟩
      have HSb1 := Lib.hid h1'
      have HIb1 := Lib.hid (HIa1.out.trans st1)
      clear h1' st1 HSa1 HIa1 UA1
      obtain ⟨⟨s0, s1, s2, s3, s4, s5, s6, s7, s8, s9, s10, s11, s12⟩, -⟩ := sq_cells (HKP.out _ _ HIb1.out).1.get.1.2
      obtain ⟨⟨p0, p1, p2, p3, p4, p5, p6, p7, p8, p9, p10, p11, p12⟩, f0, f1, f2, f3, f4, f5, f6, f7, f8, f9, f10, f11, f12⟩ := sq_cells (bp_p HSb1.out).1
      have ec0 := (bp_p HSb1.out).2.cell (i := 0) (v := .int .i64 0) rfl
      have ec1 := (bp_p HSb1.out).2.cell (i := 1) (v := .slice none 0 0) rfl
      have xf0 := (bp_p HSb1.out).2.free (i := 0)
      have xf1 := (bp_p HSb1.out).2.free (i := 1)
      have hs := bp_setp (DrF.objD a d bs) HSb1.out 3 (.int .i64 (m1 : Int))
      have HSc1 : Hid (Sep (Sep (DrF a d bs) (BpF w7.heap.size (w7.heap.size + 1))) HoF (w1.setCell ⟨w7.heap.size, 3, none⟩ (.int .i64 (m1 : Int))) _ ((_, (#[.int .i64 3, .int .i64 0, .int .i64 (m0 : Int), .int .i64 (m1 : Int), .int .i64 0, .int .i64 0, .int .i64 0, .int .i64 0, .slice none 0 0, .slice au0 lu0 cu0, .slice none 0 0, .slice none 0 0, .slice none 0 0], #[.int .i64 0, .slice none 0 0])), _)) := hs.1
      have HIc1 := Lib.hid (HIb1.out.trans hs.2)
      clear hs
      go_wp2_with fail
      clear s0 s1 s2 s3 s4 s5 s6 s7 s8 s9 s10 s11 s12 p0 p1 p2 p3 p4 p5 p6 p7 p8 p9 p10 p11 p12 f0 f1 f2 f3 f4 f5 f6 f7 f8 f9 f10 f11 f12 ec0 ec1 xf0 xf1
      generalize w1.setCell _ _ = w4 at HSc1 HIc1 ⊢
      clear HSb1 HIb1
      obtain ⟨kx, kd⟩ := HKP.out _ _ HIc1.out
      refine (sep_lqF (BpF.obj w7.heap.size (w7.heap.size + 1)) HSc1.out (fun G hG hs => UB1.out _ G _ hG (kx.imp (fun W h => h.2.2.2.1)) (fun k hk hg => kd k hk (hs k hg)))).mono ?_; rintro e w5 ⟨t, P1, G5, ⟨u1, c1, ra1, rn1, rk1, rfl, hp⟩, h5, st5⟩
      obtain ⟨rfl, rfl⟩ := Prod.mk.inj hp
      have HSd1 := Lib.hid h5
      have HId1 := Lib.hid (HIc1.out.trans st5)
      obtain ⟨au1, lu1, cu1, rfl⟩ := (bp_has h5).2.1.slf
      have hx5 := (bp_has h5).2.2
      clear h5 st5 kx kd hp HSc1 HIc1
      clear UB1
      rcases HC1.out with hf | ⟨iq, hf⟩
      · subst hf
        obtain ⟨rfl, hsl⟩ := hx5
        obtain ⟨rfl, rfl, rfl⟩ := by simpa using hsl
        obtain ⟨⟨s0, s1, s2, s3, s4, s5, s6, s7, s8, s9, s10, s11, s12⟩, -⟩ := sq_cells (HKP.out _ _ HId1.out).1.get.1.2
        obtain ⟨⟨p0, p1, p2, p3, p4, p5, p6, p7, p8, p9, p10, p11, p12⟩, f0, f1, f2, f3, f4, f5, f6, f7, f8, f9, f10, f11, f12⟩ := sq_cells (bp_p HSd1.out).1
        have ec0 := (bp_p HSd1.out).2.cell (i := 0) (v := .int .i64 0) rfl
        have ec1 := (bp_p HSd1.out).2.cell (i := 1) (v := .slice none 0 0) rfl
        have xf0 := (bp_p HSd1.out).2.free (i := 0)
        have xf1 := (bp_p HSd1.out).2.free (i := 1)
        have hs := bp_setp (DrF.objD a d bs) HSd1.out 10 (.slice au1 lu1 cu1)
        have HSe1 : Hid (Sep (Sep (DrF a d bs) (BpF w7.heap.size (w7.heap.size + 1))) HoF (w5.setCell ⟨w7.heap.size, 10, none⟩ (.slice au1 lu1 cu1)) _ ((_, (#[.int .i64 3, .int .i64 0, .int .i64 (m0 : Int), .int .i64 (m1 : Int), .int .i64 0, .int .i64 0, .int .i64 0, .int .i64 0, .slice none 0 0, .slice au0 lu0 cu0, .slice au1 lu1 cu1, .slice none 0 0, .slice none 0 0], #[.int .i64 0, .slice none 0 0])), _)) := hs.1
        have HIe1 := Lib.hid (HId1.out.trans hs.2)
        clear hs
        have hs := bp_sete (DrF.objD a d bs) HSe1.out 0 (.int .i64 0)
        have HSf1 : Hid (Sep (Sep (DrF a d bs) (BpF w7.heap.size (w7.heap.size + 1))) HoF ((w5.setCell ⟨w7.heap.size, 10, none⟩ (.slice au1 lu1 cu1)).setCell ⟨w7.heap.size + 1, 0, none⟩ (.int .i64 0)) _ ((_, (#[.int .i64 3, .int .i64 0, .int .i64 (m0 : Int), .int .i64 (m1 : Int), .int .i64 0, .int .i64 0, .int .i64 0, .int .i64 0, .slice none 0 0, .slice au0 lu0 cu0, .slice au1 lu1 cu1, .slice none 0 0, .slice none 0 0], #[.int .i64 0, .slice none 0 0])), _)) := hs.1
        have HIf1 := Lib.hid (HIe1.out.trans hs.2)
        clear hs
        have hs := bp_sete (DrF.objD a d bs) HSf1.out 1 (.slice none 0 0)
        have HSg1 : Hid (Sep (Sep (DrF a d bs) (BpF w7.heap.size (w7.heap.size + 1))) HoF (((w5.setCell ⟨w7.heap.size, 10, none⟩ (.slice au1 lu1 cu1)).setCell ⟨w7.heap.size + 1, 0, none⟩ (.int .i64 0)).setCell ⟨w7.heap.size + 1, 1, none⟩ (.slice none 0 0)) _ ((_, (#[.int .i64 3, .int .i64 0, .int .i64 (m0 : Int), .int .i64 (m1 : Int), .int .i64 0, .int .i64 0, .int .i64 0, .int .i64 0, .slice none 0 0, .slice au0 lu0 cu0, .slice au1 lu1 cu1, .slice none 0 0, .slice none 0 0], #[.int .i64 0, .slice none 0 0])), _)) := hs.1
        have HIg1 := Lib.hid (HIf1.out.trans hs.2)
        clear hs
        go_wp2_with fail
        rw [rounds_succ]
        go_wp2_with fail
        clear s0 s1 s2 s3 s4 s5 s6 s7 s8 s9 s10 s11 s12 p0 p1 p2 p3 p4 p5 p6 p7 p8 p9 p10 p11 p12 f0 f1 f2 f3 f4 f5 f6 f7 f8 f9 f10 f11 f12 ec0 ec1 xf0 xf1
        generalize World.setCell _ _ _ = w9 at HSg1 HIg1 ⊢
        clear HSd1 HSe1 HSf1 HId1 HIe1 HIf1
        refine (ok_any _ _ _).mono ?_; rintro e wka2 ⟨rfl, hxk⟩
        have HSa2 := Lib.hid (Obj.ext (((DrF.objD a d bs).sep (BpF.obj w7.heap.size (w7.heap.size + 1))).sep HoF.obj) HSg1.out hxk)
        have HIa2 := Lib.hid (HIg1.out.ext hxk)
        clear hxk HSg1 HIg1
        obtain ⟨⟨s0, s1, s2, s3, s4, s5, s6, s7, s8, s9, s10, s11, s12⟩, -⟩ := sq_cells (HKP.out _ _ HIa2.out).1.get.1.2
        go_wp2_with fail
        clear s0 s1 s2 s3 s4 s5 s6 s7 s8 s9 s10 s11 s12
        refine (bp_call HSa2.out (fun G hG => UA2.out G _ hG)).mono ?_; rintro e w1 ⟨rfl, G1, h1', st1⟩
        have HSb2 := Lib.hid h1'
        have HIb2 := Lib.hid (HIa2.out.trans st1)
        clear h1' st1 HSa2 HIa2 UA2
        obtain ⟨⟨s0, s1, s2, s3, s4, s5, s6, s7, s8, s9, s10, s11, s12⟩, -⟩ := sq_cells (HKP.out _ _ HIb2.out).1.get.1.2
        obtain ⟨⟨p0, p1, p2, p3, p4, p5, p6, p7, p8, p9, p10, p11, p12⟩, f0, f1, f2, f3, f4, f5, f6, f7, f8, f9, f10, f11, f12⟩ := sq_cells (bp_p HSb2.out).1
        have ec0 := (bp_p HSb2.out).2.cell (i := 0) (v := .int .i64 0) rfl
        have ec1 := (bp_p HSb2.out).2.cell (i := 1) (v := .slice none 0 0) rfl
        have xf0 := (bp_p HSb2.out).2.free (i := 0)
        have xf1 := (bp_p HSb2.out).2.free (i := 1)
        have hs := bp_setp (DrF.objD a d bs) HSb2.out 4 (.int .i64 (m2 : Int))
        have HSc2 : Hid (Sep (Sep (DrF a d bs) (BpF w7.heap.size (w7.heap.size + 1))) HoF (w1.setCell ⟨w7.heap.size, 4, none⟩ (.int .i64 (m2 : Int))) _ ((_, (#[.int .i64 3, .int .i64 0, .int .i64 (m0 : Int), .int .i64 (m1 : Int), .int .i64 (m2 : Int), .int .i64 0, .int .i64 0, .int .i64 0, .slice none 0 0, .slice au0 lu0 cu0, .slice au1 lu1 cu1, .slice none 0 0, .slice none 0 0], #[.int .i64 0, .slice none 0 0])), _)) := hs.1
        have HIc2 := Lib.hid (HIb2.out.trans hs.2)
        clear hs
        go_wp2_with fail
        clear s0 s1 s2 s3 s4 s5 s6 s7 s8 s9 s10 s11 s12 p0 p1 p2 p3 p4 p5 p6 p7 p8 p9 p10 p11 p12 f0 f1 f2 f3 f4 f5 f6 f7 f8 f9 f10 f11 f12 ec0 ec1 xf0 xf1
        generalize w1.setCell _ _ = w4 at HSc2 HIc2 ⊢
        clear HSb2 HIb2
        obtain ⟨kx, kd⟩ := HKP.out _ _ HIc2.out
        refine (sep_lqF (BpF.obj w7.heap.size (w7.heap.size + 1)) HSc2.out (fun G hG hs => UB2.out _ G _ hG (kx.imp (fun W h => h.2.2.2.2.1)) (fun k hk hg => kd k hk (hs k hg)))).mono ?_; rintro e w5 ⟨t, P2, G5, ⟨u2, c2, ra2, rn2, rk2, rfl, hp⟩, h5, st5⟩
        obtain ⟨rfl, rfl⟩ := Prod.mk.inj hp
        have HSd2 := Lib.hid h5
        have HId2 := Lib.hid (HIc2.out.trans st5)
        obtain ⟨au2, lu2, cu2, rfl⟩ := (bp_has h5).2.1.slf
        have hx5 := (bp_has h5).2.2
        clear h5 st5 kx kd hp HSc2 HIc2
        clear UB2
        rcases HC2.out with hf | ⟨iq, hf⟩
        · subst hf
          obtain ⟨rfl, hsl⟩ := hx5
          obtain ⟨rfl, rfl, rfl⟩ := by simpa using hsl
          obtain ⟨⟨s0, s1, s2, s3, s4, s5, s6, s7, s8, s9, s10, s11, s12⟩, -⟩ := sq_cells (HKP.out _ _ HId2.out).1.get.1.2
          obtain ⟨⟨p0, p1, p2, p3, p4, p5, p6, p7, p8, p9, p10, p11, p12⟩, f0, f1, f2, f3, f4, f5, f6, f7, f8, f9, f10, f11, f12⟩ := sq_cells (bp_p HSd2.out).1
          have ec0 := (bp_p HSd2.out).2.cell (i := 0) (v := .int .i64 0) rfl
          have ec1 := (bp_p HSd2.out).2.cell (i := 1) (v := .slice none 0 0) rfl
          have xf0 := (bp_p HSd2.out).2.free (i := 0)
          have xf1 := (bp_p HSd2.out).2.free (i := 1)
          have hs := bp_setp (DrF.objD a d bs) HSd2.out 11 (.slice au2 lu2 cu2)
          have HSe2 : Hid (Sep (Sep (DrF a d bs) (BpF w7.heap.size (w7.heap.size + 1))) HoF (w5.setCell ⟨w7.heap.size, 11, none⟩ (.slice au2 lu2 cu2)) _ ((_, (#[.int .i64 3, .int .i64 0, .int .i64 (m0 : Int), .int .i64 (m1 : Int), .int .i64 (m2 : Int), .int .i64 0, .int .i64 0, .int .i64 0, .slice none 0 0, .slice au0 lu0 cu0, .slice au1 lu1 cu1, .slice au2 lu2 cu2, .slice none 0 0], #[.int .i64 0, .slice none 0 0])), _)) := hs.1
          have HIe2 := Lib.hid (HId2.out.trans hs.2)
          clear hs
          have hs := bp_sete (DrF.objD a d bs) HSe2.out 0 (.int .i64 0)
          have HSf2 : Hid (Sep (Sep (DrF a d bs) (BpF w7.heap.size (w7.heap.size + 1))) HoF ((w5.setCell ⟨w7.heap.size, 11, none⟩ (.slice au2 lu2 cu2)).setCell ⟨w7.heap.size + 1, 0, none⟩ (.int .i64 0)) _ ((_, (#[.int .i64 3, .int .i64 0, .int .i64 (m0 : Int), .int .i64 (m1 : Int), .int .i64 (m2 : Int), .int .i64 0, .int .i64 0, .int .i64 0, .slice none 0 0, .slice au0 lu0 cu0, .slice au1 lu1 cu1, .slice au2 lu2 cu2, .slice none 0 0], #[.int .i64 0, .slice none 0 0])), _)) := hs.1
          have HIf2 := Lib.hid (HIe2.out.trans hs.2)
          clear hs
          have hs := bp_sete (DrF.objD a d bs) HSf2.out 1 (.slice none 0 0)
          have HSg2 : Hid (Sep (Sep (DrF a d bs) (BpF w7.heap.size (w7.heap.size + 1))) HoF (((w5.setCell ⟨w7.heap.size, 11, none⟩ (.slice au2 lu2 cu2)).setCell ⟨w7.heap.size + 1, 0, none⟩ (.int .i64 0)).setCell ⟨w7.heap.size + 1, 1, none⟩ (.slice none 0 0)) _ ((_, (#[.int .i64 3, .int .i64 0, .int .i64 (m0 : Int), .int .i64 (m1 : Int), .int .i64 (m2 : Int), .int .i64 0, .int .i64 0, .int .i64 0, .slice none 0 0, .slice au0 lu0 cu0, .slice au1 lu1 cu1, .slice au2 lu2 cu2, .slice none 0 0], #[.int .i64 0, .slice none 0 0])), _)) := hs.1
          have HIg2 := Lib.hid (HIf2.out.trans hs.2)
          clear hs
          go_wp2_with fail
          rw [rounds_succ]
          go_wp2_with fail
          clear s0 s1 s2 s3 s4 s5 s6 s7 s8 s9 s10 s11 s12 p0 p1 p2 p3 p4 p5 p6 p7 p8 p9 p10 p11 p12 f0 f1 f2 f3 f4 f5 f6 f7 f8 f9 f10 f11 f12 ec0 ec1 xf0 xf1
          generalize World.setCell _ _ _ = w9 at HSg2 HIg2 ⊢
          clear HSd2 HSe2 HSf2 HId2 HIe2 HIf2
          refine (ok_any _ _ _).mono ?_; rintro e wka3 ⟨rfl, hxk⟩
          have HSa3 := Lib.hid (Obj.ext (((DrF.objD a d bs).sep (BpF.obj w7.heap.size (w7.heap.size + 1))).sep HoF.obj) HSg2.out hxk)
          have HIa3 := Lib.hid (HIg2.out.ext hxk)
          clear hxk HSg2 HIg2
          obtain ⟨⟨s0, s1, s2, s3, s4, s5, s6, s7, s8, s9, s10, s11, s12⟩, -⟩ := sq_cells (HKP.out _ _ HIa3.out).1.get.1.2
          go_wp2_with fail
          clear s0 s1 s2 s3 s4 s5 s6 s7 s8 s9 s10 s11 s12
          refine (bp_call HSa3.out (fun G hG => UA3.out G _ hG)).mono ?_; rintro e w1 ⟨rfl, G1, h1', st1⟩
          have HSb3 := Lib.hid h1'
          have HIb3 := Lib.hid (HIa3.out.trans st1)
          clear h1' st1 HSa3 HIa3 UA3
          obtain ⟨⟨s0, s1, s2, s3, s4, s5, s6, s7, s8, s9, s10, s11, s12⟩, -⟩ := sq_cells (HKP.out _ _ HIb3.out).1.get.1.2
          obtain ⟨⟨p0, p1, p2, p3, p4, p5, p6, p7, p8, p9, p10, p11, p12⟩, f0, f1, f2, f3, f4, f5, f6, f7, f8, f9, f10, f11, f12⟩ := sq_cells (bp_p HSb3.out).1
          have ec0 := (bp_p HSb3.out).2.cell (i := 0) (v := .int .i64 0) rfl
          have ec1 := (bp_p HSb3.out).2.cell (i := 1) (v := .slice none 0 0) rfl
          have xf0 := (bp_p HSb3.out).2.free (i := 0)
          have xf1 := (bp_p HSb3.out).2.free (i := 1)
          have hs := bp_setp (DrF.objD a d bs) HSb3.out 5 (.int .i64 (m3 : Int))
          have HSc3 : Hid (Sep (Sep (DrF a d bs) (BpF w7.heap.size (w7.heap.size + 1))) HoF (w1.setCell ⟨w7.heap.size, 5, none⟩ (.int .i64 (m3 : Int))) _ ((_, (#[.int .i64 3, .int .i64 0, .int .i64 (m0 : Int), .int .i64 (m1 : Int), .int .i64 (m2 : Int), .int .i64 (m3 : Int), .int .i64 0, .int .i64 0, .slice none 0 0, .slice au0 lu0 cu0, .slice au1 lu1 cu1, .slice au2 lu2 cu2, .slice none 0 0], #[.int .i64 0, .slice none 0 0])), _)) := hs.1
          have HIc3 := Lib.hid (HIb3.out.trans hs.2)
          clear hs
          go_wp2_with fail
          clear s0 s1 s2 s3 s4 s5 s6 s7 s8 s9 s10 s11 s12 p0 p1 p2 p3 p4 p5 p6 p7 p8 p9 p10 p11 p12 f0 f1 f2 f3 f4 f5 f6 f7 f8 f9 f10 f11 f12 ec0 ec1 xf0 xf1
          generalize w1.setCell _ _ = w4 at HSc3 HIc3 ⊢
          clear HSb3 HIb3
          obtain ⟨kx, kd⟩ := HKP.out _ _ HIc3.out
          refine (sep_lqF (BpF.obj w7.heap.size (w7.heap.size + 1)) HSc3.out (fun G hG hs => UB3.out _ G _ hG (kx.imp (fun W h => h.2.2.2.2.2)) (fun k hk hg => kd k hk (hs k hg)))).mono ?_; rintro e w5 ⟨t, P3, G5, ⟨u3, c3, ra3, rn3, rk3, rfl, hp⟩, h5, st5⟩
          obtain ⟨rfl, rfl⟩ := Prod.mk.inj hp
          have HSd3 := Lib.hid h5
          have HId3 := Lib.hid (HIc3.out.trans st5)
          obtain ⟨au3, lu3, cu3, rfl⟩ := (bp_has h5).2.1.slf
          have hx5 := (bp_has h5).2.2
          clear h5 st5 kx kd hp HSc3 HIc3
          clear UB3
          rcases HC3.out with hf | ⟨iq, hf⟩
          · subst hf
            obtain ⟨rfl, hsl⟩ := hx5
            obtain ⟨rfl, rfl, rfl⟩ := by simpa using hsl
            obtain ⟨⟨s0, s1, s2, s3, s4, s5, s6, s7, s8, s9, s10, s11, s12⟩, -⟩ := sq_cells (HKP.out _ _ HId3.out).1.get.1.2
            obtain ⟨⟨p0, p1, p2, p3, p4, p5, p6, p7, p8, p9, p10, p11, p12⟩, f0, f1, f2, f3, f4, f5, f6, f7, f8, f9, f10, f11, f12⟩ := sq_cells (bp_p HSd3.out).1
            have ec0 := (bp_p HSd3.out).2.cell (i := 0) (v := .int .i64 0) rfl
            have ec1 := (bp_p HSd3.out).2.cell (i := 1) (v := .slice none 0 0) rfl
            have xf0 := (bp_p HSd3.out).2.free (i := 0)
            have xf1 := (bp_p HSd3.out).2.free (i := 1)
            have hs := bp_setp (DrF.objD a d bs) HSd3.out 12 (.slice au3 lu3 cu3)
            have HSe3 : Hid (Sep (Sep (DrF a d bs) (BpF w7.heap.size (w7.heap.size + 1))) HoF (w5.setCell ⟨w7.heap.size, 12, none⟩ (.slice au3 lu3 cu3)) _ ((_, (#[.int .i64 3, .int .i64 0, .int .i64 (m0 : Int), .int .i64 (m1 : Int), .int .i64 (m2 : Int), .int .i64 (m3 : Int), .int .i64 0, .int .i64 0, .slice none 0 0, .slice au0 lu0 cu0, .slice au1 lu1 cu1, .slice au2 lu2 cu2, .slice au3 lu3 cu3], #[.int .i64 0, .slice none 0 0])), _)) := hs.1
            have HIe3 := Lib.hid (HId3.out.trans hs.2)
            clear hs
            have hs := bp_sete (DrF.objD a d bs) HSe3.out 0 (.int .i64 0)
            have HSf3 : Hid (Sep (Sep (DrF a d bs) (BpF w7.heap.size (w7.heap.size + 1))) HoF ((w5.setCell ⟨w7.heap.size, 12, none⟩ (.slice au3 lu3 cu3)).setCell ⟨w7.heap.size + 1, 0, none⟩ (.int .i64 0)) _ ((_, (#[.int .i64 3, .int .i64 0, .int .i64 (m0 : Int), .int .i64 (m1 : Int), .int .i64 (m2 : Int), .int .i64 (m3 : Int), .int .i64 0, .int .i64 0, .slice none 0 0, .slice au0 lu0 cu0, .slice au1 lu1 cu1, .slice au2 lu2 cu2, .slice au3 lu3 cu3], #[.int .i64 0, .slice none 0 0])), _)) := hs.1
            have HIf3 := Lib.hid (HIe3.out.trans hs.2)
            clear hs
            have hs := bp_sete (DrF.objD a d bs) HSf3.out 1 (.slice none 0 0)
            have HSg3 : Hid (Sep (Sep (DrF a d bs) (BpF w7.heap.size (w7.heap.size + 1))) HoF (((w5.setCell ⟨w7.heap.size, 12, none⟩ (.slice au3 lu3 cu3)).setCell ⟨w7.heap.size + 1, 0, none⟩ (.int .i64 0)).setCell ⟨w7.heap.size + 1, 1, none⟩ (.slice none 0 0)) _ ((_, (#[.int .i64 3, .int .i64 0, .int .i64 (m0 : Int), .int .i64 (m1 : Int), .int .i64 (m2 : Int), .int .i64 (m3 : Int), .int .i64 0, .int .i64 0, .slice none 0 0, .slice au0 lu0 cu0, .slice au1 lu1 cu1, .slice au2 lu2 cu2, .slice au3 lu3 cu3], #[.int .i64 0, .slice none 0 0])), _)) := hs.1
            have HIg3 := Lib.hid (HIf3.out.trans hs.2)
            clear hs
            go_wp2_with fail
            rw [rounds_succ]
            go_wp2_with fail
            clear s0 s1 s2 s3 s4 s5 s6 s7 s8 s9 s10 s11 s12 p0 p1 p2 p3 p4 p5 p6 p7 p8 p9 p10 p11 p12 f0 f1 f2 f3 f4 f5 f6 f7 f8 f9 f10 f11 f12 ec0 ec1 xf0 xf1
            generalize World.setCell _ _ _ = w9 at HSg3 HIg3 ⊢
            clear HSd3 HSe3 HSf3 HId3 HIe3 HIf3
            have HA := Lib.hid (sq_run_ok HEK.out ((((HRUN.out.2 (by first | rfl | trivial)).2 (by first | rfl | trivial)).2 (by first | rfl | trivial)).2 (by first | rfl | trivial)))
            refine (ok_any _ _ _).mono ?_; rintro e wk ⟨rfl, hxk⟩
            have HSk := Lib.hid (Obj.ext (((DrF.objD a d bs).sep (BpF.obj w7.heap.size (w7.heap.size + 1))).sep HoF.obj) HSg3.out hxk)
            have HIk := Lib.hid (HIg3.out.ext hxk)
            clear hxk HSg3 HIg3
            go_wp2_with fail
            obtain ⟨qa, qd⟩ := HKP.out _ _ HIk.out
            have HRB := Lib.hid qa.get.1.1.1
            have HEB := Lib.hid qa.get.1.1.2
            have HN1 := Lib.hid (qd (w.heap.size + 1) (.inl (.inl (.inl rfl))))
            have HN2 := Lib.hid (qd (w.heap.size + 2) (.inl (.inl (.inr rfl))))
            clear qa qd
            have HPB := Lib.hid (bp_p HSk.out).1
            have HXB := Lib.hid (bp_p HSk.out).2
            have hne1 : w.heap.size + 1 ≠ w7.heap.size := fun e => HN1.out (by rw [e]; exact bp_in HSk.out (.inl rfl))
            have hne2 : w.heap.size + 1 ≠ w7.heap.size + 1 := fun e => HN1.out (by rw [e]; exact bp_in HSk.out (.inr rfl))
            have hne3 : w.heap.size + 2 ≠ w7.heap.size := fun e => HN2.out (by rw [e]; exact bp_in HSk.out (.inl rfl))
            have hne4 : w.heap.size + 2 ≠ w7.heap.size + 1 := fun e => HN2.out (by rw [e]; exact bp_in HSk.out (.inr rfl))
            refine wp_region_held_drew (S := fun w' => w'.cell? ⟨w7.heap.size, 0, none⟩ = some (.int .i64 3) ∧ w'.cell? ⟨w7.heap.size, 1, none⟩ = some (.int .i64 0) ∧ w'.cell? ⟨w7.heap.size, 2, none⟩ = some (.int .i64 (m0 : Int)) ∧ w'.cell? ⟨w7.heap.size, 3, none⟩ = some (.int .i64 (m1 : Int)) ∧ w'.cell? ⟨w7.heap.size, 4, none⟩ = some (.int .i64 (m2 : Int)) ∧ w'.cell? ⟨w7.heap.size, 5, none⟩ = some (.int .i64 (m3 : Int)) ∧ w'.cell? ⟨w7.heap.size, 6, none⟩ = some (.int .i64 0) ∧ w'.cell? ⟨w7.heap.size, 7, none⟩ = some (.int .i64 0) ∧ w'.cell? ⟨w7.heap.size, 8, none⟩ = some (.slice none 0 0) ∧ w'.cell? ⟨w7.heap.size, 9, none⟩ = some (.slice au0 lu0 cu0) ∧ w'.cell? ⟨w7.heap.size, 10, none⟩ = some (.slice au1 lu1 cu1) ∧ w'.cell? ⟨w7.heap.size, 11, none⟩ = some (.slice au2 lu2 cu2) ∧ w'.cell? ⟨w7.heap.size, 12, none⟩ = some (.slice au3 lu3 cu3) ∧ w'.cell? ⟨w7.heap.size + 1, 0, none⟩ = some (.int .i64 0) ∧ w'.cell? ⟨w7.heap.size + 1, 1, none⟩ = some (.slice none 0 0)) (by kernel_rfl) (⟨(HPB.out.ext ((Ext.refl _).drew)).cell rfl, (HPB.out.ext ((Ext.refl _).drew)).cell rfl, (HPB.out.ext ((Ext.refl _).drew)).cell rfl, (HPB.out.ext ((Ext.refl _).drew)).cell rfl, (HPB.out.ext ((Ext.refl _).drew)).cell rfl, (HPB.out.ext ((Ext.refl _).drew)).cell rfl, (HPB.out.ext ((Ext.refl _).drew)).cell rfl, (HPB.out.ext ((Ext.refl _).drew)).cell rfl, (HPB.out.ext ((Ext.refl _).drew)).cell rfl, (HPB.out.ext ((Ext.refl _).drew)).cell rfl, (HPB.out.ext ((Ext.refl _).drew)).cell rfl, (HPB.out.ext ((Ext.refl _).drew)).cell rfl, (HPB.out.ext ((Ext.refl _).drew)).cell rfl, (HXB.out.ext ((Ext.refl _).drew)).cell rfl, (HXB.out.ext ((Ext.refl _).drew)).cell rfl⟩) (fun hHeld => ?_)
            refine wpAnyH_take (i := 0) (oi := { dst := some 125, op := Op.load 42 (Operand.tmp 10), type := 42, pos := "ref.go:147", after := #[], guard := none }) (v := ?_) rfl (by kernel_rfl) (by kernel_rfl) (by kernel_rfl) (fun _ _ _ h => h) (Or.inl ⟨by rfl, ?_⟩) (by assumption) ?_
            case refine_2 => (intro w hSw; (try dsimp only at hSw); go_simp; (try with_reducible rfl))
            try simp only [Act.put, List.setIfInBounds_toArray, List.set_cons_zero, List.set_cons_succ]
            refine wpAnyH_take (i := 1) (oi := { dst := some 126, op := Op.load 46 (Operand.tmp 11), type := 46, pos := "ref.go:147", after := #[{ on := 2, ground := Ground.gcOnly Departure.lateStores }], guard := none }) (v := ?_) rfl (by kernel_rfl) (by kernel_rfl) (by kernel_rfl) (fun _ _ _ h => h) (Or.inl ⟨by rfl, ?_⟩) (by assumption) ?_
            case refine_2 => (intro w hSw; (try dsimp only at hSw); go_simp; (try with_reducible rfl))
            try simp only [Act.put, List.setIfInBounds_toArray, List.set_cons_zero, List.set_cons_succ]
            obtain ⟨⟨e0, e1, e2, e3, e4, e5, e6, e7, e8, e9, e10, e11, e12⟩, f0, f1, f2, f3, f4, f5, f6, f7, f8, f9, f10, f11, f12⟩ := sq_cells HRB.out
            refine wpAnyH_ready (rs := [2]) (by kernel_rfl) (by simp) ?_
            refine AllReadyH.cons (o := { dst := none, op := Op.store 42 (Operand.tmp 6) (Operand.tmp 125), type := 0, pos := "ref.go:147", after := #[{ on := 0, ground := Ground.data }, { on := 0, ground := Ground.phase }, { on := 1, ground := Ground.textOnly Departure.lateStores }], guard := none }) rfl (fun K hK => ?_) AllReadyH.nil
            go_simp
            refine hK.out _ _ (⟨((set13_other HPB.out hne1 (.int .i64 3) (.int .i64 0) (.int .i64 (m0 : Int)) (.int .i64 (m1 : Int)) (.int .i64 (m2 : Int)) (.int .i64 (m3 : Int)) (.int .i64 0) (.int .i64 0) (.slice none 0 0) (.slice au0 lu0 cu0) (.slice au1 lu1 cu1) (.slice au2 lu2 cu2) (.slice au3 lu3 cu3)).ext ((Ext.refl _).drew)).cell rfl, ((set13_other HPB.out hne1 (.int .i64 3) (.int .i64 0) (.int .i64 (m0 : Int)) (.int .i64 (m1 : Int)) (.int .i64 (m2 : Int)) (.int .i64 (m3 : Int)) (.int .i64 0) (.int .i64 0) (.slice none 0 0) (.slice au0 lu0 cu0) (.slice au1 lu1 cu1) (.slice au2 lu2 cu2) (.slice au3 lu3 cu3)).ext ((Ext.refl _).drew)).cell rfl, ((set13_other HPB.out hne1 (.int .i64 3) (.int .i64 0) (.int .i64 (m0 : Int)) (.int .i64 (m1 : Int)) (.int .i64 (m2 : Int)) (.int .i64 (m3 : Int)) (.int .i64 0) (.int .i64 0) (.slice none 0 0) (.slice au0 lu0 cu0) (.slice au1 lu1 cu1) (.slice au2 lu2 cu2) (.slice au3 lu3 cu3)).ext ((Ext.refl _).drew)).cell rfl, ((set13_other HPB.out hne1 (.int .i64 3) (.int .i64 0) (.int .i64 (m0 : Int)) (.int .i64 (m1 : Int)) (.int .i64 (m2 : Int)) (.int .i64 (m3 : Int)) (.int .i64 0) (.int .i64 0) (.slice none 0 0) (.slice au0 lu0 cu0) (.slice au1 lu1 cu1) (.slice au2 lu2 cu2) (.slice au3 lu3 cu3)).ext ((Ext.refl _).drew)).cell rfl, ((set13_other HPB.out hne1 (.int .i64 3) (.int .i64 0) (.int .i64 (m0 : Int)) (.int .i64 (m1 : Int)) (.int .i64 (m2 : Int)) (.int .i64 (m3 : Int)) (.int .i64 0) (.int .i64 0) (.slice none 0 0) (.slice au0 lu0 cu0) (.slice au1 lu1 cu1) (.slice au2 lu2 cu2) (.slice au3 lu3 cu3)).ext ((Ext.refl _).drew)).cell rfl, ((set13_other HPB.out hne1 (.int .i64 3) (.int .i64 0) (.int .i64 (m0 : Int)) (.int .i64 (m1 : Int)) (.int .i64 (m2 : Int)) (.int .i64 (m3 : Int)) (.int .i64 0) (.int .i64 0) (.slice none 0 0) (.slice au0 lu0 cu0) (.slice au1 lu1 cu1) (.slice au2 lu2 cu2) (.slice au3 lu3 cu3)).ext ((Ext.refl _).drew)).cell rfl, ((set13_other HPB.out hne1 (.int .i64 3) (.int .i64 0) (.int .i64 (m0 : Int)) (.int .i64 (m1 : Int)) (.int .i64 (m2 : Int)) (.int .i64 (m3 : Int)) (.int .i64 0) (.int .i64 0) (.slice none 0 0) (.slice au0 lu0 cu0) (.slice au1 lu1 cu1) (.slice au2 lu2 cu2) (.slice au3 lu3 cu3)).ext ((Ext.refl _).drew)).cell rfl, ((set13_other HPB.out hne1 (.int .i64 3) (.int .i64 0) (.int .i64 (m0 : Int)) (.int .i64 (m1 : Int)) (.int .i64 (m2 : Int)) (.int .i64 (m3 : Int)) (.int .i64 0) (.int .i64 0) (.slice none 0 0) (.slice au0 lu0 cu0) (.slice au1 lu1 cu1) (.slice au2 lu2 cu2) (.slice au3 lu3 cu3)).ext ((Ext.refl _).drew)).cell rfl, ((set13_other HPB.out hne1 (.int .i64 3) (.int .i64 0) (.int .i64 (m0 : Int)) (.int .i64 (m1 : Int)) (.int .i64 (m2 : Int)) (.int .i64 (m3 : Int)) (.int .i64 0) (.int .i64 0) (.slice none 0 0) (.slice au0 lu0 cu0) (.slice au1 lu1 cu1) (.slice au2 lu2 cu2) (.slice au3 lu3 cu3)).ext ((Ext.refl _).drew)).cell rfl, ((set13_other HPB.out hne1 (.int .i64 3) (.int .i64 0) (.int .i64 (m0 : Int)) (.int .i64 (m1 : Int)) (.int .i64 (m2 : Int)) (.int .i64 (m3 : Int)) (.int .i64 0) (.int .i64 0) (.slice none 0 0) (.slice au0 lu0 cu0) (.slice au1 lu1 cu1) (.slice au2 lu2 cu2) (.slice au3 lu3 cu3)).ext ((Ext.refl _).drew)).cell rfl, ((set13_other HPB.out hne1 (.int .i64 3) (.int .i64 0) (.int .i64 (m0 : Int)) (.int .i64 (m1 : Int)) (.int .i64 (m2 : Int)) (.int .i64 (m3 : Int)) (.int .i64 0) (.int .i64 0) (.slice none 0 0) (.slice au0 lu0 cu0) (.slice au1 lu1 cu1) (.slice au2 lu2 cu2) (.slice au3 lu3 cu3)).ext ((Ext.refl _).drew)).cell rfl, ((set13_other HPB.out hne1 (.int .i64 3) (.int .i64 0) (.int .i64 (m0 : Int)) (.int .i64 (m1 : Int)) (.int .i64 (m2 : Int)) (.int .i64 (m3 : Int)) (.int .i64 0) (.int .i64 0) (.slice none 0 0) (.slice au0 lu0 cu0) (.slice au1 lu1 cu1) (.slice au2 lu2 cu2) (.slice au3 lu3 cu3)).ext ((Ext.refl _).drew)).cell rfl, ((set13_other HPB.out hne1 (.int .i64 3) (.int .i64 0) (.int .i64 (m0 : Int)) (.int .i64 (m1 : Int)) (.int .i64 (m2 : Int)) (.int .i64 (m3 : Int)) (.int .i64 0) (.int .i64 0) (.slice none 0 0) (.slice au0 lu0 cu0) (.slice au1 lu1 cu1) (.slice au2 lu2 cu2) (.slice au3 lu3 cu3)).ext ((Ext.refl _).drew)).cell rfl, ((set13_other HXB.out hne2 (.int .i64 3) (.int .i64 0) (.int .i64 (m0 : Int)) (.int .i64 (m1 : Int)) (.int .i64 (m2 : Int)) (.int .i64 (m3 : Int)) (.int .i64 0) (.int .i64 0) (.slice none 0 0) (.slice au0 lu0 cu0) (.slice au1 lu1 cu1) (.slice au2 lu2 cu2) (.slice au3 lu3 cu3)).ext ((Ext.refl _).drew)).cell rfl, ((set13_other HXB.out hne2 (.int .i64 3) (.int .i64 0) (.int .i64 (m0 : Int)) (.int .i64 (m1 : Int)) (.int .i64 (m2 : Int)) (.int .i64 (m3 : Int)) (.int .i64 0) (.int .i64 0) (.slice none 0 0) (.slice au0 lu0 cu0) (.slice au1 lu1 cu1) (.slice au2 lu2 cu2) (.slice au3 lu3 cu3)).ext ((Ext.refl _).drew)).cell rfl⟩) (fun hHeld => ?_)
            clear hK K
            try simp only [Act.put, List.setIfInBounds_toArray, List.set_cons_zero, List.set_cons_succ]
            have ey0 := (set13_other HEB.out h12 (.int .i64 3) (.int .i64 0) (.int .i64 (m0 : Int)) (.int .i64 (m1 : Int)) (.int .i64 (m2 : Int)) (.int .i64 (m3 : Int)) (.int .i64 0) (.int .i64 0) (.slice none 0 0) (.slice au0 lu0 cu0) (.slice au1 lu1 cu1) (.slice au2 lu2 cu2) (.slice au3 lu3 cu3)).cell (i := 0) (v := .int .i64 0) rfl
            have ey1 := (set13_other HEB.out h12 (.int .i64 3) (.int .i64 0) (.int .i64 (m0 : Int)) (.int .i64 (m1 : Int)) (.int .i64 (m2 : Int)) (.int .i64 (m3 : Int)) (.int .i64 0) (.int .i64 0) (.slice none 0 0) (.slice au0 lu0 cu0) (.slice au1 lu1 cu1) (.slice au2 lu2 cu2) (.slice au3 lu3 cu3)).cell (i := 1) (v := .slice none 0 0) rfl
            have yf0 := (set13_other HEB.out h12 (.int .i64 3) (.int .i64 0) (.int .i64 (m0 : Int)) (.int .i64 (m1 : Int)) (.int .i64 (m2 : Int)) (.int .i64 (m3 : Int)) (.int .i64 0) (.int .i64 0) (.slice none 0 0) (.slice au0 lu0 cu0) (.slice au1 lu1 cu1) (.slice au2 lu2 cu2) (.slice au3 lu3 cu3)).free (i := 0)
            have yf1 := (set13_other HEB.out h12 (.int .i64 3) (.int .i64 0) (.int .i64 (m0 : Int)) (.int .i64 (m1 : Int)) (.int .i64 (m2 : Int)) (.int .i64 (m3 : Int)) (.int .i64 0) (.int .i64 0) (.slice none 0 0) (.slice au0 lu0 cu0) (.slice au1 lu1 cu1) (.slice au2 lu2 cu2) (.slice au3 lu3 cu3)).free (i := 1)
            clear e0 e1 e2 e3 e4 e5 e6 e7 e8 e9 e10 e11 e12 f0 f1 f2 f3 f4 f5 f6 f7 f8 f9 f10 f11 f12
            refine wpAnyH_ready (rs := [3]) (by kernel_rfl) (by simp) ?_
            refine AllReadyH.cons (o := { dst := none, op := Op.store 46 (Operand.tmp 7) (Operand.tmp 126), type := 0, pos := "ref.go:147", after := #[{ on := 1, ground := Ground.data }, { on := 2, ground := Ground.chain }, { on := 0, ground := Ground.phase }, { on := 1, ground := Ground.phase }, { on := 2, ground := Ground.phase }], guard := none }) rfl (fun K hK => ?_) AllReadyH.nil
            go_simp
            refine hK.out _ _ (⟨((((set13_other HPB.out hne1 (.int .i64 3) (.int .i64 0) (.int .i64 (m0 : Int)) (.int .i64 (m1 : Int)) (.int .i64 (m2 : Int)) (.int .i64 (m3 : Int)) (.int .i64 0) (.int .i64 0) (.slice none 0 0) (.slice au0 lu0 cu0) (.slice au1 lu1 cu1) (.slice au2 lu2 cu2) (.slice au3 lu3 cu3)).other (p := ⟨w.heap.size + 2, 0, none⟩) hne3 _).other (p := ⟨w.heap.size + 2, 1, none⟩) hne3 _).ext ((Ext.refl _).drew)).cell rfl, ((((set13_other HPB.out hne1 (.int .i64 3) (.int .i64 0) (.int .i64 (m0 : Int)) (.int .i64 (m1 : Int)) (.int .i64 (m2 : Int)) (.int .i64 (m3 : Int)) (.int .i64 0) (.int .i64 0) (.slice none 0 0) (.slice au0 lu0 cu0) (.slice au1 lu1 cu1) (.slice au2 lu2 cu2) (.slice au3 lu3 cu3)).other (p := ⟨w.heap.size + 2, 0, none⟩) hne3 _).other (p := ⟨w.heap.size + 2, 1, none⟩) hne3 _).ext ((Ext.refl _).drew)).cell rfl, ((((set13_other HPB.out hne1 (.int .i64 3) (.int .i64 0) (.int .i64 (m0 : Int)) (.int .i64 (m1 : Int)) (.int .i64 (m2 : Int)) (.int .i64 (m3 : Int)) (.int .i64 0) (.int .i64 0) (.slice none 0 0) (.slice au0 lu0 cu0) (.slice au1 lu1 cu1) (.slice au2 lu2 cu2) (.slice au3 lu3 cu3)).other (p := ⟨w.heap.size + 2, 0, none⟩) hne3 _).other (p := ⟨w.heap.size + 2, 1, none⟩) hne3 _).ext ((Ext.refl _).drew)).cell rfl, ((((set13_other HPB.out hne1 (.int .i64 3) (.int .i64 0) (.int .i64 (m0 : Int)) (.int .i64 (m1 : Int)) (.int .i64 (m2 : Int)) (.int .i64 (m3 : Int)) (.int .i64 0) (.int .i64 0) (.slice none 0 0) (.slice au0 lu0 cu0) (.slice au1 lu1 cu1) (.slice au2 lu2 cu2) (.slice au3 lu3 cu3)).other (p := ⟨w.heap.size + 2, 0, none⟩) hne3 _).other (p := ⟨w.heap.size + 2, 1, none⟩) hne3 _).ext ((Ext.refl _).drew)).cell rfl, ((((set13_other HPB.out hne1 (.int .i64 3) (.int .i64 0) (.int .i64 (m0 : Int)) (.int .i64 (m1 : Int)) (.int .i64 (m2 : Int)) (.int .i64 (m3 : Int)) (.int .i64 0) (.int .i64 0) (.slice none 0 0) (.slice au0 lu0 cu0) (.slice au1 lu1 cu1) (.slice au2 lu2 cu2) (.slice au3 lu3 cu3)).other (p := ⟨w.heap.size + 2, 0, none⟩) hne3 _).other (p := ⟨w.heap.size + 2, 1, none⟩) hne3 _).ext ((Ext.refl _).drew)).cell rfl, ((((set13_other HPB.out hne1 (.int .i64 3) (.int .i64 0) (.int .i64 (m0 : Int)) (.int .i64 (m1 : Int)) (.int .i64 (m2 : Int)) (.int .i64 (m3 : Int)) (.int .i64 0) (.int .i64 0) (.slice none 0 0) (.slice au0 lu0 cu0) (.slice au1 lu1 cu1) (.slice au2 lu2 cu2) (.slice au3 lu3 cu3)).other (p := ⟨w.heap.size + 2, 0, none⟩) hne3 _).other (p := ⟨w.heap.size + 2, 1, none⟩) hne3 _).ext ((Ext.refl _).drew)).cell rfl, ((((set13_other HPB.out hne1 (.int .i64 3) (.int .i64 0) (.int .i64 (m0 : Int)) (.int .i64 (m1 : Int)) (.int .i64 (m2 : Int)) (.int .i64 (m3 : Int)) (.int .i64 0) (.int .i64 0) (.slice none 0 0) (.slice au0 lu0 cu0) (.slice au1 lu1 cu1) (.slice au2 lu2 cu2) (.slice au3 lu3 cu3)).other (p := ⟨w.heap.size + 2, 0, none⟩) hne3 _).other (p := ⟨w.heap.size + 2, 1, none⟩) hne3 _).ext ((Ext.refl _).drew)).cell rfl, ((((set13_other HPB.out hne1 (.int .i64 3) (.int .i64 0) (.int .i64 (m0 : Int)) (.int .i64 (m1 : Int)) (.int .i64 (m2 : Int)) (.int .i64 (m3 : Int)) (.int .i64 0) (.int .i64 0) (.slice none 0 0) (.slice au0 lu0 cu0) (.slice au1 lu1 cu1) (.slice au2 lu2 cu2) (.slice au3 lu3 cu3)).other (p := ⟨w.heap.size + 2, 0, none⟩) hne3 _).other (p := ⟨w.heap.size + 2, 1, none⟩) hne3 _).ext ((Ext.refl _).drew)).cell rfl, ((((set13_other HPB.out hne1 (.int .i64 3) (.int .i64 0) (.int .i64 (m0 : Int)) (.int .i64 (m1 : Int)) (.int .i64 (m2 : Int)) (.int .i64 (m3 : Int)) (.int .i64 0) (.int .i64 0) (.slice none 0 0) (.slice au0 lu0 cu0) (.slice au1 lu1 cu1) (.slice au2 lu2 cu2) (.slice au3 lu3 cu3)).other (p := ⟨w.heap.size + 2, 0, none⟩) hne3 _).other (p := ⟨w.heap.size + 2, 1, none⟩) hne3 _).ext ((Ext.refl _).drew)).cell rfl, ((((set13_other HPB.out hne1 (.int .i64 3) (.int .i64 0) (.int .i64 (m0 : Int)) (.int .i64 (m1 : Int)) (.int .i64 (m2 : Int)) (.int .i64 (m3 : Int)) (.int .i64 0) (.int .i64 0) (.slice none 0 0) (.slice au0 lu0 cu0) (.slice au1 lu1 cu1) (.slice au2 lu2 cu2) (.slice au3 lu3 cu3)).other (p := ⟨w.heap.size + 2, 0, none⟩) hne3 _).other (p := ⟨w.heap.size + 2, 1, none⟩) hne3 _).ext ((Ext.refl _).drew)).cell rfl, ((((set13_other HPB.out hne1 (.int .i64 3) (.int .i64 0) (.int .i64 (m0 : Int)) (.int .i64 (m1 : Int)) (.int .i64 (m2 : Int)) (.int .i64 (m3 : Int)) (.int .i64 0) (.int .i64 0) (.slice none 0 0) (.slice au0 lu0 cu0) (.slice au1 lu1 cu1) (.slice au2 lu2 cu2) (.slice au3 lu3 cu3)).other (p := ⟨w.heap.size + 2, 0, none⟩) hne3 _).other (p := ⟨w.heap.size + 2, 1, none⟩) hne3 _).ext ((Ext.refl _).drew)).cell rfl, ((((set13_other HPB.out hne1 (.int .i64 3) (.int .i64 0) (.int .i64 (m0 : Int)) (.int .i64 (m1 : Int)) (.int .i64 (m2 : Int)) (.int .i64 (m3 : Int)) (.int .i64 0) (.int .i64 0) (.slice none 0 0) (.slice au0 lu0 cu0) (.slice au1 lu1 cu1) (.slice au2 lu2 cu2) (.slice au3 lu3 cu3)).other (p := ⟨w.heap.size + 2, 0, none⟩) hne3 _).other (p := ⟨w.heap.size + 2, 1, none⟩) hne3 _).ext ((Ext.refl _).drew)).cell rfl, ((((set13_other HPB.out hne1 (.int .i64 3) (.int .i64 0) (.int .i64 (m0 : Int)) (.int .i64 (m1 : Int)) (.int .i64 (m2 : Int)) (.int .i64 (m3 : Int)) (.int .i64 0) (.int .i64 0) (.slice none 0 0) (.slice au0 lu0 cu0) (.slice au1 lu1 cu1) (.slice au2 lu2 cu2) (.slice au3 lu3 cu3)).other (p := ⟨w.heap.size + 2, 0, none⟩) hne3 _).other (p := ⟨w.heap.size + 2, 1, none⟩) hne3 _).ext ((Ext.refl _).drew)).cell rfl, ((((set13_other HXB.out hne2 (.int .i64 3) (.int .i64 0) (.int .i64 (m0 : Int)) (.int .i64 (m1 : Int)) (.int .i64 (m2 : Int)) (.int .i64 (m3 : Int)) (.int .i64 0) (.int .i64 0) (.slice none 0 0) (.slice au0 lu0 cu0) (.slice au1 lu1 cu1) (.slice au2 lu2 cu2) (.slice au3 lu3 cu3)).other (p := ⟨w.heap.size + 2, 0, none⟩) hne4 _).other (p := ⟨w.heap.size + 2, 1, none⟩) hne4 _).ext ((Ext.refl _).drew)).cell rfl, ((((set13_other HXB.out hne2 (.int .i64 3) (.int .i64 0) (.int .i64 (m0 : Int)) (.int .i64 (m1 : Int)) (.int .i64 (m2 : Int)) (.int .i64 (m3 : Int)) (.int .i64 0) (.int .i64 0) (.slice none 0 0) (.slice au0 lu0 cu0) (.slice au1 lu1 cu1) (.slice au2 lu2 cu2) (.slice au3 lu3 cu3)).other (p := ⟨w.heap.size + 2, 0, none⟩) hne4 _).other (p := ⟨w.heap.size + 2, 1, none⟩) hne4 _).ext ((Ext.refl _).drew)).cell rfl⟩) (fun hHeld => ?_)
            clear hK K hHeld
            try simp only [Act.put, List.setIfInBounds_toArray, List.set_cons_zero, List.set_cons_succ]
            refine wpAnyH_done (by kernel_rfl) ?_ _
            obtain ⟨GG, k1, k2⟩ := drop_mid (DrF.objD a d bs) HSk.out
            have hZ : Step F w _ _ := (Step.of_ext (F := F) HE6.out).trans HIk.out
            obtain ⟨z1, z2, z3, z4⟩ := fin_all ((DrF.objD a d bs).sep HoF.obj) k1 (hZ.sub k2) HB1.out (fun h => HN1.out (k2 _ h)) HB2.out (fun h => HN2.out (k2 _ h)) h12 HRB.out HEB.out (.int .i64 3) (.int .i64 0) (.int .i64 (m0 : Int)) (.int .i64 (m1 : Int)) (.int .i64 (m2 : Int)) (.int .i64 (m3 : Int)) (.int .i64 0) (.int .i64 0) (.slice none 0 0) (.slice au0 lu0 cu0) (.slice au1 lu1 cu1) (.slice au2 lu2 cu2) (.slice au3 lu3 cu3) (.int .i64 0) (.slice none 0 0)
            have z1 := Obj.ext ((DrF.objD a d bs).sep HoF.obj) z1 ((Ext.refl _).drew)
            have z2 := z2.ext ((Ext.refl _).drew)
            have z3 := z3.ext ((Ext.refl _).drew)
            have z4 := z4.ext ((Ext.refl _).drew)
            clear ey0 ey1 yf0 yf1 k1 hZ
            generalize World.drew _ = wz at z1 z2 z3 z4 ⊢
            obtain ⟨⟨g0, g1, g2, g3, g4, g5, g6, g7, g8, g9, g10, g11, g12⟩, -⟩ := sq_cells z3
            have ey0 := z4.cell (i := 0) (v := .int .i64 0) rfl
            have ey1 := z4.cell (i := 1) (v := .slice none 0 0) rfl
            have HZ1 := Lib.hid z1
            have HZ2 := Lib.hid z2
            clear z1 z2 z3 z4
            go_wp2
            exact bodyPost_ret (v := .tuple #[.agg #[.int .i64 3, .int .i64 0, .int .i64 (m0 : Int), .int .i64 (m1 : Int), .int .i64 (m2 : Int), .int .i64 (m3 : Int), .int .i64 0, .int .i64 0, .slice none 0 0, .slice au0 lu0 cu0, .slice au1 lu1 cu1, .slice au2 lu2 cu2, .slice au3 lu3 cu3], .agg #[.int .i64 0, .slice none 0 0]]) (by simp [results, Tryz.results12, go_sem, g0, g1, g2, g3, g4, g5, g6, g7, g8, g9, g10, g11, g12, ey0, ey1]) rfl (RSqR.done (L := nilS) (s0 := (.slice au0 lu0 cu0)) (s1 := (.slice au1 lu1 cu1)) (s2 := (.slice au2 lu2 cu2)) (s3 := (.slice au3 lu3 cu3)) HA.out HZ1.out HZ2.out (fun W h => ⟨⟨Ints.nil W, h.1.1.1.2.1, h.1.1.2.1, h.1.2.1, h.2.1⟩, RErrIs.zero⟩))
          · subst hf
            obtain ⟨hc5, -, -⟩ := hx5
            obtain rfl : c3 = 3 := hc5
            obtain ⟨⟨s0, s1, s2, s3, s4, s5, s6, s7, s8, s9, s10, s11, s12⟩, -⟩ := sq_cells (HKP.out _ _ HId3.out).1.get.1.2
            obtain ⟨⟨p0, p1, p2, p3, p4, p5, p6, p7, p8, p9, p10, p11, p12⟩, f0, f1, f2, f3, f4, f5, f6, f7, f8, f9, f10, f11, f12⟩ := sq_cells (bp_p HSd3.out).1
            have ec0 := (bp_p HSd3.out).2.cell (i := 0) (v := .int .i64 0) rfl
            have ec1 := (bp_p HSd3.out).2.cell (i := 1) (v := .slice none 0 0) rfl
            have xf0 := (bp_p HSd3.out).2.free (i := 0)
            have xf1 := (bp_p HSd3.out).2.free (i := 1)
            have hs := bp_setp (DrF.objD a d bs) HSd3.out 12 (.slice au3 lu3 cu3)
            have HSe3 : Hid (Sep (Sep (DrF a d bs) (BpF w7.heap.size (w7.heap.size + 1))) HoF (w5.setCell ⟨w7.heap.size, 12, none⟩ (.slice au3 lu3 cu3)) _ ((_, (#[.int .i64 3, .int .i64 0, .int .i64 (m0 : Int), .int .i64 (m1 : Int), .int .i64 (m2 : Int), .int .i64 (m3 : Int), .int .i64 0, .int .i64 0, .slice none 0 0, .slice au0 lu0 cu0, .slice au1 lu1 cu1, .slice au2 lu2 cu2, .slice au3 lu3 cu3], #[.int .i64 0, .slice none 0 0])), _)) := hs.1
            have HIe3 := Lib.hid (HId3.out.trans hs.2)
            clear hs
            have hs := bp_sete (DrF.objD a d bs) HSe3.out 0 (.int .i64 3)
            have HSf3 : Hid (Sep (Sep (DrF a d bs) (BpF w7.heap.size (w7.heap.size + 1))) HoF ((w5.setCell ⟨w7.heap.size, 12, none⟩ (.slice au3 lu3 cu3)).setCell ⟨w7.heap.size + 1, 0, none⟩ (.int .i64 3)) _ ((_, (#[.int .i64 3, .int .i64 0, .int .i64 (m0 : Int), .int .i64 (m1 : Int), .int .i64 (m2 : Int), .int .i64 (m3 : Int), .int .i64 0, .int .i64 0, .slice none 0 0, .slice au0 lu0 cu0, .slice au1 lu1 cu1, .slice au2 lu2 cu2, .slice au3 lu3 cu3], #[.int .i64 3, .slice none 0 0])), _)) := hs.1
            have HIf3 := Lib.hid (HIe3.out.trans hs.2)
            clear hs
            have hs := bp_sete (DrF.objD a d bs) HSf3.out 1 (.slice ra3 rn3 rk3)
            have HSg3 : Hid (Sep (Sep (DrF a d bs) (BpF w7.heap.size (w7.heap.size + 1))) HoF (((w5.setCell ⟨w7.heap.size, 12, none⟩ (.slice au3 lu3 cu3)).setCell ⟨w7.heap.size + 1, 0, none⟩ (.int .i64 3)).setCell ⟨w7.heap.size + 1, 1, none⟩ (.slice ra3 rn3 rk3)) _ ((_, (#[.int .i64 3, .int .i64 0, .int .i64 (m0 : Int), .int .i64 (m1 : Int), .int .i64 (m2 : Int), .int .i64 (m3 : Int), .int .i64 0, .int .i64 0, .slice none 0 0, .slice au0 lu0 cu0, .slice au1 lu1 cu1, .slice au2 lu2 cu2, .slice au3 lu3 cu3], #[.int .i64 3, .slice ra3 rn3 rk3])), _)) := hs.1
            have HIg3 := Lib.hid (HIf3.out.trans hs.2)
            clear hs
            go_wp2_with fail
            rw [rounds_succ]
            go_wp2_with fail
            clear s0 s1 s2 s3 s4 s5 s6 s7 s8 s9 s10 s11 s12 p0 p1 p2 p3 p4 p5 p6 p7 p8 p9 p10 p11 p12 f0 f1 f2 f3 f4 f5 f6 f7 f8 f9 f10 f11 f12 ec0 ec1 xf0 xf1
            generalize World.setCell _ _ _ = w9 at HSg3 HIg3 ⊢
            clear HSd3 HSe3 HSf3 HId3 HIe3 HIf3
            have HA := Lib.hid (sq_run_bad HEK.out ((((HRUN.out.2 (by first | rfl | trivial)).2 (by first | rfl | trivial)).2 (by first | rfl | trivial)).1 _ (by first | rfl | trivial)))
            refine (ok_any _ _ _).mono ?_; rintro e wk ⟨rfl, hxk⟩
            have HSk := Lib.hid (Obj.ext (((DrF.objD a d bs).sep (BpF.obj w7.heap.size (w7.heap.size + 1))).sep HoF.obj) HSg3.out hxk)
            have HIk := Lib.hid (HIg3.out.ext hxk)
            clear hxk HSg3 HIg3
            have pk := (bp_p HSk.out).1.cell (i := 0) (v := .int .i64 3) rfl
            have ec0 := (bp_p HSk.out).2.cell (i := 0) (v := .int .i64 3) rfl
            have ec1 := (bp_p HSk.out).2.cell (i := 1) (v := .slice ra3 rn3 rk3) rfl
            go_wp2_with fail
            refine (rin_hold synS 3 _ _ _ _ [(coefS, iq)] _ (bp_has HSk.out).2.2 (Nat.le_refl 1)).mono ?_; rintro e wi ⟨ua, un, uk, X, rfl, hxi, hxx, hoi⟩
            clear pk ec0 ec1
            obtain ⟨qa, qd⟩ := HKP.out _ _ HIk.out
            have HRB := Lib.hid (qa.get.1.1.1.ext hxi)
            have HEB := Lib.hid (qa.get.1.1.2.ext hxi)
            have HN1 := Lib.hid (qd (w.heap.size + 1) (.inl (.inl (.inl rfl))))
            have HN2 := Lib.hid (qd (w.heap.size + 2) (.inl (.inl (.inr rfl))))
            have hb1l := qa.get.1.1.1.lt
            have hb2l := qa.get.1.1.2.lt
            clear qa qd
            obtain ⟨GG, k1, k2⟩ := drop_mid (DrF.objD a d bs) HSk.out
            have hZ : Step F w _ _ := (Step.of_ext (F := F) HE6.out).trans HIk.out
            obtain ⟨GN, m1, m2, m3⟩ := bag_addF (DrF.objD a d bs) k1 (hZ.sub k2) hxi hoi hxx
            have n1 : ¬ GN (w.heap.size + 1) := fun h => by rcases m3 _ h with h | h; exact HN1.out (k2 _ h); omega
            have n2 : ¬ GN (w.heap.size + 2) := fun h => by rcases m3 _ h with h | h; exact HN2.out (k2 _ h); omega
            obtain ⟨z1, z2, z3, z4⟩ := fin_all ((DrF.objD a d bs).sep HoF.obj) m1 m2 HB1.out n1 HB2.out n2 h12 HRB.out HEB.out (.int .i64 0) (.int .i64 0) (.int .i64 0) (.int .i64 0) (.int .i64 0) (.int .i64 0) (.int .i64 0) (.int .i64 0) (.slice none 0 0) (.slice none 0 0) (.slice none 0 0) (.slice none 0 0) (.slice none 0 0) (.int .i64 3) (.slice ua un uk)
            have HZ1 := Lib.hid z1
            have HZ2 := Lib.hid z2
            obtain ⟨⟨g0, g1, g2, g3, g4, g5, g6, g7, g8, g9, g10, g11, g12⟩, -⟩ := sq_cells z3
            have ey0 := z4.cell (i := 0) (v := .int .i64 3) rfl
            have ey1 := z4.cell (i := 1) (v := .slice ua un uk) rfl
            clear z1 z2 z3 z4 m1 m2 m3 n1 n2 k1 k2 hZ hxi hoi hxx
            obtain ⟨⟨e0, e1, e2, e3, e4, e5, e6, e7, e8, e9, e10, e11, e12⟩, f0, f1, f2, f3, f4, f5, f6, f7, f8, f9, f10, f11, f12⟩ := sq_cells HRB.out
            have w0' := (set13_other HEB.out h12 (.int .i64 0) (.int .i64 0) (.int .i64 0) (.int .i64 0) (.int .i64 0) (.int .i64 0) (.int .i64 0) (.int .i64 0) (.slice none 0 0) (.slice none 0 0) (.slice none 0 0) (.slice none 0 0) (.slice none 0 0)).cell (i := 0) (v := .int .i64 0) rfl
            have w1' := (set13_other HEB.out h12 (.int .i64 0) (.int .i64 0) (.int .i64 0) (.int .i64 0) (.int .i64 0) (.int .i64 0) (.int .i64 0) (.int .i64 0) (.slice none 0 0) (.slice none 0 0) (.slice none 0 0) (.slice none 0 0) (.slice none 0 0)).cell (i := 1) (v := .slice none 0 0) rfl
            have wf0 := (set13_other HEB.out h12 (.int .i64 0) (.int .i64 0) (.int .i64 0) (.int .i64 0) (.int .i64 0) (.int .i64 0) (.int .i64 0) (.int .i64 0) (.slice none 0 0) (.slice none 0 0) (.slice none 0 0) (.slice none 0 0) (.slice none 0 0)).free (i := 0)
            have wf1 := (set13_other HEB.out h12 (.int .i64 0) (.int .i64 0) (.int .i64 0) (.int .i64 0) (.int .i64 0) (.int .i64 0) (.int .i64 0) (.int .i64 0) (.slice none 0 0) (.slice none 0 0) (.slice none 0 0) (.slice none 0 0) (.slice none 0 0)).free (i := 1)
            go_wp2
            exact bodyPost_ret (v := .tuple #[.agg #[.int .i64 0, .int .i64 0, .int .i64 0, .int .i64 0, .int .i64 0, .int .i64 0, .int .i64 0, .int .i64 0, .slice none 0 0, .slice none 0 0, .slice none 0 0, .slice none 0 0, .slice none 0 0], .agg #[.int .i64 3, .slice ua un uk]]) (by simp [results, Tryz.results12, go_sem, g0, g1, g2, g3, g4, g5, g6, g7, g8, g9, g10, g11, g12, ey0, ey1]) rfl (RSqR.done (q := sq0) (L := nilS) (s0 := nilS) (s1 := nilS) (s2 := nilS) (s3 := nilS) HA.out HZ1.out HZ2.out (fun W h => ⟨SqIs.nil W 0, h.2⟩))
        · subst hf
          obtain ⟨hc5, -, -⟩ := hx5
          obtain rfl : c2 = 3 := hc5
          obtain ⟨⟨s0, s1, s2, s3, s4, s5, s6, s7, s8, s9, s10, s11, s12⟩, -⟩ := sq_cells (HKP.out _ _ HId2.out).1.get.1.2
          obtain ⟨⟨p0, p1, p2, p3, p4, p5, p6, p7, p8, p9, p10, p11, p12⟩, f0, f1, f2, f3, f4, f5, f6, f7, f8, f9, f10, f11, f12⟩ := sq_cells (bp_p HSd2.out).1
          have ec0 := (bp_p HSd2.out).2.cell (i := 0) (v := .int .i64 0) rfl
          have ec1 := (bp_p HSd2.out).2.cell (i := 1) (v := .slice none 0 0) rfl
          have xf0 := (bp_p HSd2.out).2.free (i := 0)
          have xf1 := (bp_p HSd2.out).2.free (i := 1)
          have hs := bp_setp (DrF.objD a d bs) HSd2.out 11 (.slice au2 lu2 cu2)
          have HSe2 : Hid (Sep (Sep (DrF a d bs) (BpF w7.heap.size (w7.heap.size + 1))) HoF (w5.setCell ⟨w7.heap.size, 11, none⟩ (.slice au2 lu2 cu2)) _ ((_, (#[.int .i64 3, .int .i64 0, .int .i64 (m0 : Int), .int .i64 (m1 : Int), .int .i64 (m2 : Int), .int .i64 0, .int .i64 0, .int .i64 0, .slice none 0 0, .slice au0 lu0 cu0, .slice au1 lu1 cu1, .slice au2 lu2 cu2, .slice none 0 0], #[.int .i64 0, .slice none 0 0])), _)) := hs.1
          have HIe2 := Lib.hid (HId2.out.trans hs.2)
          clear hs
          have hs := bp_sete (DrF.objD a d bs) HSe2.out 0 (.int .i64 3)
          have HSf2 : Hid (Sep (Sep (DrF a d bs) (BpF w7.heap.size (w7.heap.size + 1))) HoF ((w5.setCell ⟨w7.heap.size, 11, none⟩ (.slice au2 lu2 cu2)).setCell ⟨w7.heap.size + 1, 0, none⟩ (.int .i64 3)) _ ((_, (#[.int .i64 3, .int .i64 0, .int .i64 (m0 : Int), .int .i64 (m1 : Int), .int .i64 (m2 : Int), .int .i64 0, .int .i64 0, .int .i64 0, .slice none 0 0, .slice au0 lu0 cu0, .slice au1 lu1 cu1, .slice au2 lu2 cu2, .slice none 0 0], #[.int .i64 3, .slice none 0 0])), _)) := hs.1
          have HIf2 := Lib.hid (HIe2.out.trans hs.2)
          clear hs
          have hs := bp_sete (DrF.objD a d bs) HSf2.out 1 (.slice ra2 rn2 rk2)
          have HSg2 : Hid (Sep (Sep (DrF a d bs) (BpF w7.heap.size (w7.heap.size + 1))) HoF (((w5.setCell ⟨w7.heap.size, 11, none⟩ (.slice au2 lu2 cu2)).setCell ⟨w7.heap.size + 1, 0, none⟩ (.int .i64 3)).setCell ⟨w7.heap.size + 1, 1, none⟩ (.slice ra2 rn2 rk2)) _ ((_, (#[.int .i64 3, .int .i64 0, .int .i64 (m0 : Int), .int .i64 (m1 : Int), .int .i64 (m2 : Int), .int .i64 0, .int .i64 0, .int .i64 0, .slice none 0 0, .slice au0 lu0 cu0, .slice au1 lu1 cu1, .slice au2 lu2 cu2, .slice none 0 0], #[.int .i64 3, .slice ra2 rn2 rk2])), _)) := hs.1
          have HIg2 := Lib.hid (HIf2.out.trans hs.2)
          clear hs
          go_wp2_with fail
          rw [rounds_succ]
          go_wp2_with fail
          clear s0 s1 s2 s3 s4 s5 s6 s7 s8 s9 s10 s11 s12 p0 p1 p2 p3 p4 p5 p6 p7 p8 p9 p10 p11 p12 f0 f1 f2 f3 f4 f5 f6 f7 f8 f9 f10 f11 f12 ec0 ec1 xf0 xf1
          generalize World.setCell _ _ _ = w9 at HSg2 HIg2 ⊢
          clear HSd2 HSe2 HSf2 HId2 HIe2 HIf2
          refine (ok_any _ _ _).mono ?_; rintro e wkh2 ⟨rfl, hxk⟩
          have HSh2 := Lib.hid (Obj.ext (((DrF.objD a d bs).sep (BpF.obj w7.heap.size (w7.heap.size + 1))).sep HoF.obj) HSg2.out hxk)
          have HIh2 := Lib.hid (HIg2.out.ext hxk)
          clear hxk HSg2 HIg2
          have ec0 := (bp_p HSh2.out).2.cell (i := 0) (v := .int .i64 3) rfl
          have ec1 := (bp_p HSh2.out).2.cell (i := 1) (v := .slice ra2 rn2 rk2) rfl
          go_wp2_with fail
          clear ec0 ec1
          have HA := Lib.hid (sq_run_bad HEK.out (((HRUN.out.2 (by first | rfl | trivial)).2 (by first | rfl | trivial)).1 _ (by first | rfl | trivial)))
          refine (ok_any _ _ _).mono ?_; rintro e wk ⟨rfl, hxk⟩
          have HSk := Lib.hid (Obj.ext (((DrF.objD a d bs).sep (BpF.obj w7.heap.size (w7.heap.size + 1))).sep HoF.obj) HSh2.out hxk)
          have HIk := Lib.hid (HIh2.out.ext hxk)
          clear hxk HSh2 HIh2
          have pk := (bp_p HSk.out).1.cell (i := 0) (v := .int .i64 3) rfl
          have ec0 := (bp_p HSk.out).2.cell (i := 0) (v := .int .i64 3) rfl
          have ec1 := (bp_p HSk.out).2.cell (i := 1) (v := .slice ra2 rn2 rk2) rfl
          go_wp2_with fail
          refine (rin_hold synS 3 _ _ _ _ [(coefS, iq)] _ (bp_has HSk.out).2.2 (Nat.le_refl 1)).mono ?_; rintro e wi ⟨ua, un, uk, X, rfl, hxi, hxx, hoi⟩
          clear pk ec0 ec1
          obtain ⟨qa, qd⟩ := HKP.out _ _ HIk.out
          have HRB := Lib.hid (qa.get.1.1.1.ext hxi)
          have HEB := Lib.hid (qa.get.1.1.2.ext hxi)
          have HN1 := Lib.hid (qd (w.heap.size + 1) (.inl (.inl (.inl rfl))))
          have HN2 := Lib.hid (qd (w.heap.size + 2) (.inl (.inl (.inr rfl))))
          have hb1l := qa.get.1.1.1.lt
          have hb2l := qa.get.1.1.2.lt
          clear qa qd
          obtain ⟨GG, k1, k2⟩ := drop_mid (DrF.objD a d bs) HSk.out
          have hZ : Step F w _ _ := (Step.of_ext (F := F) HE6.out).trans HIk.out
          obtain ⟨GN, m1, m2, m3⟩ := bag_addF (DrF.objD a d bs) k1 (hZ.sub k2) hxi hoi hxx
          have n1 : ¬ GN (w.heap.size + 1) := fun h => by rcases m3 _ h with h | h; exact HN1.out (k2 _ h); omega
          have n2 : ¬ GN (w.heap.size + 2) := fun h => by rcases m3 _ h with h | h; exact HN2.out (k2 _ h); omega
          obtain ⟨z1, z2, z3, z4⟩ := fin_all ((DrF.objD a d bs).sep HoF.obj) m1 m2 HB1.out n1 HB2.out n2 h12 HRB.out HEB.out (.int .i64 0) (.int .i64 0) (.int .i64 0) (.int .i64 0) (.int .i64 0) (.int .i64 0) (.int .i64 0) (.int .i64 0) (.slice none 0 0) (.slice none 0 0) (.slice none 0 0) (.slice none 0 0) (.slice none 0 0) (.int .i64 3) (.slice ua un uk)
          have HZ1 := Lib.hid z1
          have HZ2 := Lib.hid z2
          obtain ⟨⟨g0, g1, g2, g3, g4, g5, g6, g7, g8, g9, g10, g11, g12⟩, -⟩ := sq_cells z3
          have ey0 := z4.cell (i := 0) (v := .int .i64 3) rfl
          have ey1 := z4.cell (i := 1) (v := .slice ua un uk) rfl
          clear z1 z2 z3 z4 m1 m2 m3 n1 n2 k1 k2 hZ hxi hoi hxx
          obtain ⟨⟨e0, e1, e2, e3, e4, e5, e6, e7, e8, e9, e10, e11, e12⟩, f0, f1, f2, f3, f4, f5, f6, f7, f8, f9, f10, f11, f12⟩ := sq_cells HRB.out
          have w0' := (set13_other HEB.out h12 (.int .i64 0) (.int .i64 0) (.int .i64 0) (.int .i64 0) (.int .i64 0) (.int .i64 0) (.int .i64 0) (.int .i64 0) (.slice none 0 0) (.slice none 0 0) (.slice none 0 0) (.slice none 0 0) (.slice none 0 0)).cell (i := 0) (v := .int .i64 0) rfl
          have w1' := (set13_other HEB.out h12 (.int .i64 0) (.int .i64 0) (.int .i64 0) (.int .i64 0) (.int .i64 0) (.int .i64 0) (.int .i64 0) (.int .i64 0) (.slice none 0 0) (.slice none 0 0) (.slice none 0 0) (.slice none 0 0) (.slice none 0 0)).cell (i := 1) (v := .slice none 0 0) rfl
          have wf0 := (set13_other HEB.out h12 (.int .i64 0) (.int .i64 0) (.int .i64 0) (.int .i64 0) (.int .i64 0) (.int .i64 0) (.int .i64 0) (.int .i64 0) (.slice none 0 0) (.slice none 0 0) (.slice none 0 0) (.slice none 0 0) (.slice none 0 0)).free (i := 0)
          have wf1 := (set13_other HEB.out h12 (.int .i64 0) (.int .i64 0) (.int .i64 0) (.int .i64 0) (.int .i64 0) (.int .i64 0) (.int .i64 0) (.int .i64 0) (.slice none 0 0) (.slice none 0 0) (.slice none 0 0) (.slice none 0 0) (.slice none 0 0)).free (i := 1)
          go_wp2
          exact bodyPost_ret (v := .tuple #[.agg #[.int .i64 0, .int .i64 0, .int .i64 0, .int .i64 0, .int .i64 0, .int .i64 0, .int .i64 0, .int .i64 0, .slice none 0 0, .slice none 0 0, .slice none 0 0, .slice none 0 0, .slice none 0 0], .agg #[.int .i64 3, .slice ua un uk]]) (by simp [results, Tryz.results12, go_sem, g0, g1, g2, g3, g4, g5, g6, g7, g8, g9, g10, g11, g12, ey0, ey1]) rfl (RSqR.done (q := sq0) (L := nilS) (s0 := nilS) (s1 := nilS) (s2 := nilS) (s3 := nilS) HA.out HZ1.out HZ2.out (fun W h => ⟨SqIs.nil W 0, h.2⟩))
      · subst hf
        obtain ⟨hc5, -, -⟩ := hx5
        obtain rfl : c1 = 3 := hc5
        obtain ⟨⟨s0, s1, s2, s3, s4, s5, s6, s7, s8, s9, s10, s11, s12⟩, -⟩ := sq_cells (HKP.out _ _ HId1.out).1.get.1.2
        obtain ⟨⟨p0, p1, p2, p3, p4, p5, p6, p7, p8, p9, p10, p11, p12⟩, f0, f1, f2, f3, f4, f5, f6, f7, f8, f9, f10, f11, f12⟩ := sq_cells (bp_p HSd1.out).1
        have ec0 := (bp_p HSd1.out).2.cell (i := 0) (v := .int .i64 0) rfl
        have ec1 := (bp_p HSd1.out).2.cell (i := 1) (v := .slice none 0 0) rfl
        have xf0 := (bp_p HSd1.out).2.free (i := 0)
        have xf1 := (bp_p HSd1.out).2.free (i := 1)
        have hs := bp_setp (DrF.objD a d bs) HSd1.out 10 (.slice au1 lu1 cu1)
        have HSe1 : Hid (Sep (Sep (DrF a d bs) (BpF w7.heap.size (w7.heap.size + 1))) HoF (w5.setCell ⟨w7.heap.size, 10, none⟩ (.slice au1 lu1 cu1)) _ ((_, (#[.int .i64 3, .int .i64 0, .int .i64 (m0 : Int), .int .i64 (m1 : Int), .int .i64 0, .int .i64 0, .int .i64 0, .int .i64 0, .slice none 0 0, .slice au0 lu0 cu0, .slice au1 lu1 cu1, .slice none 0 0, .slice none 0 0], #[.int .i64 0, .slice none 0 0])), _)) := hs.1
        have HIe1 := Lib.hid (HId1.out.trans hs.2)
        clear hs
        have hs := bp_sete (DrF.objD a d bs) HSe1.out 0 (.int .i64 3)
        have HSf1 : Hid (Sep (Sep (DrF a d bs) (BpF w7.heap.size (w7.heap.size + 1))) HoF ((w5.setCell ⟨w7.heap.size, 10, none⟩ (.slice au1 lu1 cu1)).setCell ⟨w7.heap.size + 1, 0, none⟩ (.int .i64 3)) _ ((_, (#[.int .i64 3, .int .i64 0, .int .i64 (m0 : Int), .int .i64 (m1 : Int), .int .i64 0, .int .i64 0, .int .i64 0, .int .i64 0, .slice none 0 0, .slice au0 lu0 cu0, .slice au1 lu1 cu1, .slice none 0 0, .slice none 0 0], #[.int .i64 3, .slice none 0 0])), _)) := hs.1
        have HIf1 := Lib.hid (HIe1.out.trans hs.2)
        clear hs
        have hs := bp_sete (DrF.objD a d bs) HSf1.out 1 (.slice ra1 rn1 rk1)
        have HSg1 : Hid (Sep (Sep (DrF a d bs) (BpF w7.heap.size (w7.heap.size + 1))) HoF (((w5.setCell ⟨w7.heap.size, 10, none⟩ (.slice au1 lu1 cu1)).setCell ⟨w7.heap.size + 1, 0, none⟩ (.int .i64 3)).setCell ⟨w7.heap.size + 1, 1, none⟩ (.slice ra1 rn1 rk1)) _ ((_, (#[.int .i64 3, .int .i64 0, .int .i64 (m0 : Int), .int .i64 (m1 : Int), .int .i64 0, .int .i64 0, .int .i64 0, .int .i64 0, .slice none 0 0, .slice au0 lu0 cu0, .slice au1 lu1 cu1, .slice none 0 0, .slice none 0 0], #[.int .i64 3, .slice ra1 rn1 rk1])), _)) := hs.1
        have HIg1 := Lib.hid (HIf1.out.trans hs.2)
        clear hs
        go_wp2_with fail
        rw [rounds_succ]
        go_wp2_with fail
        clear s0 s1 s2 s3 s4 s5 s6 s7 s8 s9 s10 s11 s12 p0 p1 p2 p3 p4 p5 p6 p7 p8 p9 p10 p11 p12 f0 f1 f2 f3 f4 f5 f6 f7 f8 f9 f10 f11 f12 ec0 ec1 xf0 xf1
        generalize World.setCell _ _ _ = w9 at HSg1 HIg1 ⊢
        clear HSd1 HSe1 HSf1 HId1 HIe1 HIf1
        refine (ok_any _ _ _).mono ?_; rintro e wkh1 ⟨rfl, hxk⟩
        have HSh1 := Lib.hid (Obj.ext (((DrF.objD a d bs).sep (BpF.obj w7.heap.size (w7.heap.size + 1))).sep HoF.obj) HSg1.out hxk)
        have HIh1 := Lib.hid (HIg1.out.ext hxk)
        clear hxk HSg1 HIg1
        have ec0 := (bp_p HSh1.out).2.cell (i := 0) (v := .int .i64 3) rfl
        have ec1 := (bp_p HSh1.out).2.cell (i := 1) (v := .slice ra1 rn1 rk1) rfl
        go_wp2_with fail
        clear ec0 ec1
        have HA := Lib.hid (sq_run_bad HEK.out ((HRUN.out.2 (by first | rfl | trivial)).1 _ (by first | rfl | trivial)))
        refine (ok_any _ _ _).mono ?_; rintro e wk ⟨rfl, hxk⟩
        have HSk := Lib.hid (Obj.ext (((DrF.objD a d bs).sep (BpF.obj w7.heap.size (w7.heap.size + 1))).sep HoF.obj) HSh1.out hxk)
        have HIk := Lib.hid (HIh1.out.ext hxk)
        clear hxk HSh1 HIh1
        have pk := (bp_p HSk.out).1.cell (i := 0) (v := .int .i64 3) rfl
        have ec0 := (bp_p HSk.out).2.cell (i := 0) (v := .int .i64 3) rfl
        have ec1 := (bp_p HSk.out).2.cell (i := 1) (v := .slice ra1 rn1 rk1) rfl
        go_wp2_with fail
        refine (rin_hold synS 3 _ _ _ _ [(coefS, iq)] _ (bp_has HSk.out).2.2 (Nat.le_refl 1)).mono ?_; rintro e wi ⟨ua, un, uk, X, rfl, hxi, hxx, hoi⟩
        clear pk ec0 ec1
        obtain ⟨qa, qd⟩ := HKP.out _ _ HIk.out
        have HRB := Lib.hid (qa.get.1.1.1.ext hxi)
        have HEB := Lib.hid (qa.get.1.1.2.ext hxi)
        have HN1 := Lib.hid (qd (w.heap.size + 1) (.inl (.inl (.inl rfl))))
        have HN2 := Lib.hid (qd (w.heap.size + 2) (.inl (.inl (.inr rfl))))
        have hb1l := qa.get.1.1.1.lt
        have hb2l := qa.get.1.1.2.lt
        clear qa qd
        obtain ⟨GG, k1, k2⟩ := drop_mid (DrF.objD a d bs) HSk.out
        have hZ : Step F w _ _ := (Step.of_ext (F := F) HE6.out).trans HIk.out
        obtain ⟨GN, m1, m2, m3⟩ := bag_addF (DrF.objD a d bs) k1 (hZ.sub k2) hxi hoi hxx
        have n1 : ¬ GN (w.heap.size + 1) := fun h => by rcases m3 _ h with h | h; exact HN1.out (k2 _ h); omega
        have n2 : ¬ GN (w.heap.size + 2) := fun h => by rcases m3 _ h with h | h; exact HN2.out (k2 _ h); omega
        obtain ⟨z1, z2, z3, z4⟩ := fin_all ((DrF.objD a d bs).sep HoF.obj) m1 m2 HB1.out n1 HB2.out n2 h12 HRB.out HEB.out (.int .i64 0) (.int .i64 0) (.int .i64 0) (.int .i64 0) (.int .i64 0) (.int .i64 0) (.int .i64 0) (.int .i64 0) (.slice none 0 0) (.slice none 0 0) (.slice none 0 0) (.slice none 0 0) (.slice none 0 0) (.int .i64 3) (.slice ua un uk)
        have HZ1 := Lib.hid z1
        have HZ2 := Lib.hid z2
        obtain ⟨⟨g0, g1, g2, g3, g4, g5, g6, g7, g8, g9, g10, g11, g12⟩, -⟩ := sq_cells z3
        have ey0 := z4.cell (i := 0) (v := .int .i64 3) rfl
        have ey1 := z4.cell (i := 1) (v := .slice ua un uk) rfl
        clear z1 z2 z3 z4 m1 m2 m3 n1 n2 k1 k2 hZ hxi hoi hxx
        obtain ⟨⟨e0, e1, e2, e3, e4, e5, e6, e7, e8, e9, e10, e11, e12⟩, f0, f1, f2, f3, f4, f5, f6, f7, f8, f9, f10, f11, f12⟩ := sq_cells HRB.out
        have w0' := (set13_other HEB.out h12 (.int .i64 0) (.int .i64 0) (.int .i64 0) (.int .i64 0) (.int .i64 0) (.int .i64 0) (.int .i64 0) (.int .i64 0) (.slice none 0 0) (.slice none 0 0) (.slice none 0 0) (.slice none 0 0) (.slice none 0 0)).cell (i := 0) (v := .int .i64 0) rfl
        have w1' := (set13_other HEB.out h12 (.int .i64 0) (.int .i64 0) (.int .i64 0) (.int .i64 0) (.int .i64 0) (.int .i64 0) (.int .i64 0) (.int .i64 0) (.slice none 0 0) (.slice none 0 0) (.slice none 0 0) (.slice none 0 0) (.slice none 0 0)).cell (i := 1) (v := .slice none 0 0) rfl
        have wf0 := (set13_other HEB.out h12 (.int .i64 0) (.int .i64 0) (.int .i64 0) (.int .i64 0) (.int .i64 0) (.int .i64 0) (.int .i64 0) (.int .i64 0) (.slice none 0 0) (.slice none 0 0) (.slice none 0 0) (.slice none 0 0) (.slice none 0 0)).free (i := 0)
        have wf1 := (set13_other HEB.out h12 (.int .i64 0) (.int .i64 0) (.int .i64 0) (.int .i64 0) (.int .i64 0) (.int .i64 0) (.int .i64 0) (.int .i64 0) (.slice none 0 0) (.slice none 0 0) (.slice none 0 0) (.slice none 0 0) (.slice none 0 0)).free (i := 1)
        go_wp2
        exact bodyPost_ret (v := .tuple #[.agg #[.int .i64 0, .int .i64 0, .int .i64 0, .int .i64 0, .int .i64 0, .int .i64 0, .int .i64 0, .int .i64 0, .slice none 0 0, .slice none 0 0, .slice none 0 0, .slice none 0 0, .slice none 0 0], .agg #[.int .i64 3, .slice ua un uk]]) (by simp [results, Tryz.results12, go_sem, g0, g1, g2, g3, g4, g5, g6, g7, g8, g9, g10, g11, g12, ey0, ey1]) rfl (RSqR.done (q := sq0) (L := nilS) (s0 := nilS) (s1 := nilS) (s2 := nilS) (s3 := nilS) HA.out HZ1.out HZ2.out (fun W h => ⟨SqIs.nil W 0, h.2⟩))
    · subst hf
      obtain ⟨hc5, -, -⟩ := hx5
      obtain rfl : c0 = 3 := hc5
      obtain ⟨⟨s0, s1, s2, s3, s4, s5, s6, s7, s8, s9, s10, s11, s12⟩, -⟩ := sq_cells (HKP.out _ _ HId0.out).1.get.1.2
      obtain ⟨⟨p0, p1, p2, p3, p4, p5, p6, p7, p8, p9, p10, p11, p12⟩, f0, f1, f2, f3, f4, f5, f6, f7, f8, f9, f10, f11, f12⟩ := sq_cells (bp_p HSd0.out).1
      have ec0 := (bp_p HSd0.out).2.cell (i := 0) (v := .int .i64 0) rfl
      have ec1 := (bp_p HSd0.out).2.cell (i := 1) (v := .slice none 0 0) rfl
      have xf0 := (bp_p HSd0.out).2.free (i := 0)
      have xf1 := (bp_p HSd0.out).2.free (i := 1)
      have hs := bp_setp (DrF.objD a d bs) HSd0.out 9 (.slice au0 lu0 cu0)
      have HSe0 : Hid (Sep (Sep (DrF a d bs) (BpF w7.heap.size (w7.heap.size + 1))) HoF (w5.setCell ⟨w7.heap.size, 9, none⟩ (.slice au0 lu0 cu0)) _ ((_, (#[.int .i64 3, .int .i64 0, .int .i64 (m0 : Int), .int .i64 0, .int .i64 0, .int .i64 0, .int .i64 0, .int .i64 0, .slice none 0 0, .slice au0 lu0 cu0, .slice none 0 0, .slice none 0 0, .slice none 0 0], #[.int .i64 0, .slice none 0 0])), _)) := hs.1
      have HIe0 := Lib.hid (HId0.out.trans hs.2)
      clear hs
      have hs := bp_sete (DrF.objD a d bs) HSe0.out 0 (.int .i64 3)
      have HSf0 : Hid (Sep (Sep (DrF a d bs) (BpF w7.heap.size (w7.heap.size + 1))) HoF ((w5.setCell ⟨w7.heap.size, 9, none⟩ (.slice au0 lu0 cu0)).setCell ⟨w7.heap.size + 1, 0, none⟩ (.int .i64 3)) _ ((_, (#[.int .i64 3, .int .i64 0, .int .i64 (m0 : Int), .int .i64 0, .int .i64 0, .int .i64 0, .int .i64 0, .int .i64 0, .slice none 0 0, .slice au0 lu0 cu0, .slice none 0 0, .slice none 0 0, .slice none 0 0], #[.int .i64 3, .slice none 0 0])), _)) := hs.1
      have HIf0 := Lib.hid (HIe0.out.trans hs.2)
      clear hs
      have hs := bp_sete (DrF.objD a d bs) HSf0.out 1 (.slice ra0 rn0 rk0)
      have HSg0 : Hid (Sep (Sep (DrF a d bs) (BpF w7.heap.size (w7.heap.size + 1))) HoF (((w5.setCell ⟨w7.heap.size, 9, none⟩ (.slice au0 lu0 cu0)).setCell ⟨w7.heap.size + 1, 0, none⟩ (.int .i64 3)).setCell ⟨w7.heap.size + 1, 1, none⟩ (.slice ra0 rn0 rk0)) _ ((_, (#[.int .i64 3, .int .i64 0, .int .i64 (m0 : Int), .int .i64 0, .int .i64 0, .int .i64 0, .int .i64 0, .int .i64 0, .slice none 0 0, .slice au0 lu0 cu0, .slice none 0 0, .slice none 0 0, .slice none 0 0], #[.int .i64 3, .slice ra0 rn0 rk0])), _)) := hs.1
      have HIg0 := Lib.hid (HIf0.out.trans hs.2)
      clear hs
      go_wp2_with fail
      rw [rounds_succ]
      go_wp2_with fail
      clear s0 s1 s2 s3 s4 s5 s6 s7 s8 s9 s10 s11 s12 p0 p1 p2 p3 p4 p5 p6 p7 p8 p9 p10 p11 p12 f0 f1 f2 f3 f4 f5 f6 f7 f8 f9 f10 f11 f12 ec0 ec1 xf0 xf1
      generalize World.setCell _ _ _ = w9 at HSg0 HIg0 ⊢
      clear HSd0 HSe0 HSf0 HId0 HIe0 HIf0
      refine (ok_any _ _ _).mono ?_; rintro e wkh0 ⟨rfl, hxk⟩
      have HSh0 := Lib.hid (Obj.ext (((DrF.objD a d bs).sep (BpF.obj w7.heap.size (w7.heap.size + 1))).sep HoF.obj) HSg0.out hxk)
      have HIh0 := Lib.hid (HIg0.out.ext hxk)
      clear hxk HSg0 HIg0
      have ec0 := (bp_p HSh0.out).2.cell (i := 0) (v := .int .i64 3) rfl
      have ec1 := (bp_p HSh0.out).2.cell (i := 1) (v := .slice ra0 rn0 rk0) rfl
      go_wp2_with fail
      clear ec0 ec1
      have HA := Lib.hid (sq_run_bad HEK.out (HRUN.out.1 _ (by first | rfl | trivial)))
      refine (ok_any _ _ _).mono ?_; rintro e wk ⟨rfl, hxk⟩
      have HSk := Lib.hid (Obj.ext (((DrF.objD a d bs).sep (BpF.obj w7.heap.size (w7.heap.size + 1))).sep HoF.obj) HSh0.out hxk)
      have HIk := Lib.hid (HIh0.out.ext hxk)
      clear hxk HSh0 HIh0
      have pk := (bp_p HSk.out).1.cell (i := 0) (v := .int .i64 3) rfl
      have ec0 := (bp_p HSk.out).2.cell (i := 0) (v := .int .i64 3) rfl
      have ec1 := (bp_p HSk.out).2.cell (i := 1) (v := .slice ra0 rn0 rk0) rfl
      go_wp2_with fail
      refine (rin_hold synS 3 _ _ _ _ [(coefS, iq)] _ (bp_has HSk.out).2.2 (Nat.le_refl 1)).mono ?_; rintro e wi ⟨ua, un, uk, X, rfl, hxi, hxx, hoi⟩
      clear pk ec0 ec1
      obtain ⟨qa, qd⟩ := HKP.out _ _ HIk.out
      have HRB := Lib.hid (qa.get.1.1.1.ext hxi)
      have HEB := Lib.hid (qa.get.1.1.2.ext hxi)
      have HN1 := Lib.hid (qd (w.heap.size + 1) (.inl (.inl (.inl rfl))))
      have HN2 := Lib.hid (qd (w.heap.size + 2) (.inl (.inl (.inr rfl))))
      have hb1l := qa.get.1.1.1.lt
      have hb2l := qa.get.1.1.2.lt
      clear qa qd
      obtain ⟨GG, k1, k2⟩ := drop_mid (DrF.objD a d bs) HSk.out
      have hZ : Step F w _ _ := (Step.of_ext (F := F) HE6.out).trans HIk.out
      obtain ⟨GN, m1, m2, m3⟩ := bag_addF (DrF.objD a d bs) k1 (hZ.sub k2) hxi hoi hxx
      have n1 : ¬ GN (w.heap.size + 1) := fun h => by rcases m3 _ h with h | h; exact HN1.out (k2 _ h); omega
      have n2 : ¬ GN (w.heap.size + 2) := fun h => by rcases m3 _ h with h | h; exact HN2.out (k2 _ h); omega
      obtain ⟨z1, z2, z3, z4⟩ := fin_all ((DrF.objD a d bs).sep HoF.obj) m1 m2 HB1.out n1 HB2.out n2 h12 HRB.out HEB.out (.int .i64 0) (.int .i64 0) (.int .i64 0) (.int .i64 0) (.int .i64 0) (.int .i64 0) (.int .i64 0) (.int .i64 0) (.slice none 0 0) (.slice none 0 0) (.slice none 0 0) (.slice none 0 0) (.slice none 0 0) (.int .i64 3) (.slice ua un uk)
      have HZ1 := Lib.hid z1
      have HZ2 := Lib.hid z2
      obtain ⟨⟨g0, g1, g2, g3, g4, g5, g6, g7, g8, g9, g10, g11, g12⟩, -⟩ := sq_cells z3
      have ey0 := z4.cell (i := 0) (v := .int .i64 3) rfl
      have ey1 := z4.cell (i := 1) (v := .slice ua un uk) rfl
      clear z1 z2 z3 z4 m1 m2 m3 n1 n2 k1 k2 hZ hxi hoi hxx
      obtain ⟨⟨e0, e1, e2, e3, e4, e5, e6, e7, e8, e9, e10, e11, e12⟩, f0, f1, f2, f3, f4, f5, f6, f7, f8, f9, f10, f11, f12⟩ := sq_cells HRB.out
      have w0' := (set13_other HEB.out h12 (.int .i64 0) (.int .i64 0) (.int .i64 0) (.int .i64 0) (.int .i64 0) (.int .i64 0) (.int .i64 0) (.int .i64 0) (.slice none 0 0) (.slice none 0 0) (.slice none 0 0) (.slice none 0 0) (.slice none 0 0)).cell (i := 0) (v := .int .i64 0) rfl
      have w1' := (set13_other HEB.out h12 (.int .i64 0) (.int .i64 0) (.int .i64 0) (.int .i64 0) (.int .i64 0) (.int .i64 0) (.int .i64 0) (.int .i64 0) (.slice none 0 0) (.slice none 0 0) (.slice none 0 0) (.slice none 0 0) (.slice none 0 0)).cell (i := 1) (v := .slice none 0 0) rfl
      have wf0 := (set13_other HEB.out h12 (.int .i64 0) (.int .i64 0) (.int .i64 0) (.int .i64 0) (.int .i64 0) (.int .i64 0) (.int .i64 0) (.int .i64 0) (.slice none 0 0) (.slice none 0 0) (.slice none 0 0) (.slice none 0 0) (.slice none 0 0)).free (i := 0)
      have wf1 := (set13_other HEB.out h12 (.int .i64 0) (.int .i64 0) (.int .i64 0) (.int .i64 0) (.int .i64 0) (.int .i64 0) (.int .i64 0) (.int .i64 0) (.slice none 0 0) (.slice none 0 0) (.slice none 0 0) (.slice none 0 0) (.slice none 0 0)).free (i := 1)
      go_wp2
      exact bodyPost_ret (v := .tuple #[.agg #[.int .i64 0, .int .i64 0, .int .i64 0, .int .i64 0, .int .i64 0, .int .i64 0, .int .i64 0, .int .i64 0, .slice none 0 0, .slice none 0 0, .slice none 0 0, .slice none 0 0, .slice none 0 0], .agg #[.int .i64 3, .slice ua un uk]]) (by simp [results, Tryz.results12, go_sem, g0, g1, g2, g3, g4, g5, g6, g7, g8, g9, g10, g11, g12, ey0, ey1]) rfl (RSqR.done (q := sq0) (L := nilS) (s0 := nilS) (s1 := nilS) (s2 := nilS) (s3 := nilS) HA.out HZ1.out HZ2.out (fun W h => ⟨SqIs.nil W 0, h.2⟩))
  omega
end Go.Proofs.YtpofabebmeickaaGreatDoor

