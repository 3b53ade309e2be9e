/- Calls that answer with more than an object: an object and what it told; objects made on the way. -/
import Derived.Test.YtdndambkaohgiaaGreatDoorZj
import Derived.Test.YtdndambkaohgiaaGreatDoorZb
namespace Go.Proofs.YtdndambkaohgiaaGreatDoor
set_option linter.unusedVariables false
set_option linter.unusedSimpArgs false
open Go.RowKit Go.Extern.Stop Go.Stop Go.Extern

/-- the object behind the call, of whatever kind, and what was told with it -/
def QPost {σ : Type} (A : World → (Nat → Prop) → σ → Prop) (R : Ending → σ → Prop) (F : Nat → Prop) (w : World) (e : Ending) (w' : World) : Prop := ∃ s G, R e s ∧ A w' G s ∧ Step F w G w'
section
variable {σ σ' τ τ' : Type} {A : World → (Nat → Prop) → σ → Prop} {A' : World → (Nat → Prop) → σ' → Prop} {B : World → (Nat → Prop) → τ → Prop} {B' : World → (Nat → Prop) → τ' → Prop} {w0 w w' : World}
theorem FPost.q {F : Nat → Prop} {v : Value} {s : σ} {e : Ending} (h : FPost A F w v s e w') : QPost A (fun e t => e = .returned v ∧ t = s) F w e w' := by
  obtain ⟨rfl, G, h1, h2⟩ := h
  exact ⟨s, G, ⟨rfl, rfl⟩, h1, h2⟩
theorem Sep.l (b : Obj B) {s : σ} {s' : σ'} {t : τ} {F F1 F1' F2 : Nat → Prop} (h2 : B w F2 t) (h3 : ∀ k, F2 k → ¬ F1 k) (h4 : ∀ k, F k ↔ (F1 k ∨ F2 k)) (k : A' w' F1' s') (st : Step F1 w F1' w') : Sep A' B w' (fun k => F1' k ∨ F2 k) (s', t) ∧ Step F w (fun k => F1' k ∨ F2 k) w' := by
  obtain ⟨k1, k2, k3⟩ := st.apart (b.lt h2) h3
  refine ⟨⟨F1', F2, k, b.same h2 k1, k2, fun _ => Iff.rfl⟩, ⟨st.1.1, st.1.2.1, fun k hk hn => st.1.2.2 k hk (fun hf => hn ((h4 k).2 (.inl hf)))⟩, ?_⟩
  rintro k (hk | hk)
  · exact (st.2 k hk).imp (fun h => (h4 k).2 (.inl h)) id
  · exact .inl ((h4 k).2 (.inr hk))
theorem Sep.r (a : Obj A) {s : σ} {t' : τ'} {F F1 F2 F2' : Nat → Prop} (h1 : A w F1 s) (h3 : ∀ k, F2 k → ¬ F1 k) (h4 : ∀ k, F k ↔ (F1 k ∨ F2 k)) (k : B' w' F2' t') (st : Step F2 w F2' w') : Sep A B' w' (fun k => F1 k ∨ F2' k) (s, t') ∧ Step F w (fun k => F1 k ∨ F2' k) w' := by
  obtain ⟨k1, k2, k3⟩ := st.apart (a.lt h1) (fun k hk hf => h3 k hf hk)
  refine ⟨⟨F1, F2', a.same h1 k1, k, fun k hk hf => k2 k hf hk, fun _ => Iff.rfl⟩, ⟨st.1.1, st.1.2.1, fun k hk hn => st.1.2.2 k hk (fun hf => hn ((h4 k).2 (.inr hf)))⟩, ?_⟩
  rintro k (hk | hk)
  · exact .inl ((h4 k).2 (.inl hk))
  · exact (st.2 k hk).imp (fun h => (h4 k).2 (.inr h)) id
theorem Sep.new (a : Obj A) {s : σ} {t : τ} {F G : Nat → Prop} (h : A w F s) (k : Ext w w') (hb : B w' G t) (hG : ∀ k, G k → w.heap.size ≤ k) : Sep A B w' (fun i => F i ∨ G i) (s, t) ∧ Step F w (fun i => F i ∨ G i) w' := by
  refine ⟨⟨F, G, a.same h (fun i hi => k.block (a.lt h i hi)), hb, fun i hi hf => by have := a.lt h i hf; have := hG i hi; omega, fun _ => Iff.rfl⟩, (Step.of_ext (F := F) k).1, ?_⟩
  rintro i (hi | hi)
  · exact .inl hi
  · exact .inr (hG i hi)
theorem Obj.ext (a : Obj A) {s : σ} {F : Nat → Prop} (h : A w F s) (k : Ext w w') : A w' F s := a.same h (fun i hi => k.block (a.lt h i hi))
/-- what stands beside the object is let go, another thing is new -/
theorem Sep.other {υ : Type} {C : World → (Nat → Prop) → υ → Prop} (a : Obj A) {s : σ} {t : τ} {u : υ} {F F0 H : Nat → Prop} {v0 : World} (h : Sep A B w F (s, t)) (k : Ext w w') (hc : C w' H u) (hH : ∀ k, H k → w.heap.size ≤ k) (st : Step F0 v0 F w) : ∃ G, Sep A C w' G (s, u) ∧ Step F0 v0 G w' := by
  obtain ⟨F1, F2, h1, h2, h3, h4⟩ := h
  obtain ⟨k1, k2⟩ := Sep.new a h1 k hc hH
  have st2 := st.ext k
  refine ⟨_, k1, st2.1, ?_⟩
  rintro i (hi | hi)
  · exact st2.2 i ((h4 i).2 (.inl hi))
  · exact .inr (Nat.le_trans st.1.2.1 (hH i hi))
theorem sep_lq (b : Obj B) {f : FuncId} {args : Array Value} {R : Ending → σ' → Prop} {s : σ} {t : τ} {F : Nat → Prop} (h : Sep A B w F (s, t)) (c : ∀ G, A w G s → Calls Tryz.prog f args w (QPost A' R G w)) : Calls Tryz.prog f args w (QPost (Sep A' B) (fun e p => R e p.1 ∧ p.2 = t) F w) := by
  obtain ⟨F1, F2, h1, h2, h3, h4⟩ := h
  refine (c F1 h1).mono ?_
  rintro e w' ⟨s', F', hr, h', st⟩
  obtain ⟨k1, k2⟩ := Sep.l b (s := s) h2 h3 h4 h' st
  exact ⟨(s', t), _, ⟨hr, rfl⟩, k1, k2⟩
theorem sep_rq (a : Obj A) {f : FuncId} {args : Array Value} {R : Ending → τ' → Prop} {s : σ} {t : τ} {F : Nat → Prop} (h : Sep A B w F (s, t)) (c : ∀ G, B w G t → Calls Tryz.prog f args w (QPost B' R G w)) : Calls Tryz.prog f args w (QPost (Sep A B') (fun e p => R e p.2 ∧ p.1 = s) F w) := by
  obtain ⟨F1, F2, h1, h2, h3, h4⟩ := h
  refine (c F2 h2).mono ?_
  rintro e w' ⟨t', F', hr, h', st⟩
  obtain ⟨k1, k2⟩ := Sep.r a h1 h3 h4 h' st
  exact ⟨(s, t'), _, ⟨hr, rfl⟩, k1, k2⟩
theorem Uno.q {f : FuncId} {args : Array Value} {R : Ending → σ' → Prop} {s : σ} (h : Uno A w0 w s) (c : ∀ F, A w F s → Calls Tryz.prog f args w (QPost A' R F w)) : Calls Tryz.prog f args w fun e w' => ∃ s', R e s' ∧ Uno A' w0 w' s' := by
  obtain ⟨F, h1, h2, h3⟩ := h
  refine (c F h1).mono ?_
  rintro e w' ⟨s', F', hr, h', st⟩
  obtain ⟨k1, k2⟩ := st.out h2 h3
  exact ⟨s', hr, F', h', k1, k2⟩
theorem Uno.lq (b : Obj B) {f : FuncId} {args : Array Value} {R : Ending → σ' → Prop} {s : σ} {t : τ} (h : Uno (Sep A B) w0 w (s, t)) (c : ∀ G, A w G s → Calls Tryz.prog f args w (QPost A' R G w)) : Calls Tryz.prog f args w fun e w' => ∃ s', R e s' ∧ Uno (Sep A' B) w0 w' (s', t) := by
  refine (h.q (fun _ hF => sep_lq b hF c)).mono ?_
  rintro e w' ⟨⟨s', t'⟩, ⟨hr, rfl⟩, hu⟩
  exact ⟨s', hr, hu⟩
theorem Uno.rq (a : Obj A) {f : FuncId} {args : Array Value} {R : Ending → τ' → Prop} {s : σ} {t : τ} (h : Uno (Sep A B) w0 w (s, t)) (c : ∀ G, B w G t → Calls Tryz.prog f args w (QPost B' R G w)) : Calls Tryz.prog f args w fun e w' => ∃ t', R e t' ∧ Uno (Sep A B') w0 w' (s, t') := by
  refine (h.q (fun _ hF => sep_rq a hF c)).mono ?_
  rintro e w' ⟨⟨s', t'⟩, ⟨hr, rfl⟩, hu⟩
  exact ⟨t', hr, hu⟩
/-- the parts of a pair, changed about -/
theorem Sep.swap {s : σ} {t : τ} {F : Nat → Prop} (h : Sep A B w F (s, t)) : Sep B A w F (t, s) := by
  obtain ⟨F1, F2, h1, h2, h3, h4⟩ := h
  exact ⟨F2, F1, h2, h1, fun k hk hf => h3 k hf hk, fun k => (h4 k).trans Or.comm⟩
theorem Uno.swap {s : σ} {t : τ} (h : Uno (Sep A B) w0 w (s, t)) : Uno (Sep B A) w0 w (t, s) := by
  obtain ⟨F, h1, h2, h3⟩ := h
  exact ⟨F, h1.swap, h2, h3⟩
theorem Uno.fst {s : σ} {t : τ} (h : Uno (Sep A B) w0 w (s, t)) : Uno A w0 w s := by
  obtain ⟨F, ⟨F1, F2, h1, h2, h3, h4⟩, h5, h6⟩ := h
  exact ⟨F1, h1, h5, fun k hk => h6 k ((h4 k).2 (.inl hk))⟩
theorem Uno.assoc {υ : Type} {C : World → (Nat → Prop) → υ → Prop} {s : σ} {t : τ} {u : υ} (h : Uno (Sep (Sep A B) C) w0 w ((s, t), u)) : Uno (Sep (Sep A C) B) w0 w ((s, u), t) := by
  obtain ⟨F, ⟨F1, F2, ⟨G1, G2, g1, g2, g3, g4⟩, h2, h3, h4⟩, h5, h6⟩ := h
  refine ⟨F, ⟨fun k => G1 k ∨ F2 k, G2, ⟨G1, F2, g1, h2, fun k hk hf => h3 k hk ((g4 k).2 (.inl hf)), fun _ => Iff.rfl⟩, g2, fun k hk hf => hf.elim (fun h => g3 k hk h) (fun h => h3 k h ((g4 k).2 (.inr hk))), fun k => ?_⟩, h5, h6⟩
  have e1 := h4 k
  have e2 := g4 k
  constructor
  · intro h
    rcases e1.1 h with h | h
    · rcases e2.1 h with h | h
      · exact .inl (.inl h)
      · exact .inr h
    · exact .inl (.inr h)
  · rintro ((h | h) | h)
    · exact e1.2 (.inl (e2.2 (.inl h)))
    · exact e1.2 (.inr h)
    · exact e1.2 (.inl (e2.2 (.inr h)))
end
/-- what holds as long as some blocks stay -/
def HoF (w : World) (F : Nat → Prop) (P : World → Prop) : Prop := (∀ k, F k → k < w.heap.size) ∧ ∀ w', (∀ i, F i → w'.heap[i]? = w.heap[i]?) → P w'
theorem lt_of_same {w w' : World} {F : Nat → Prop} (h : ∀ k, F k → k < w.heap.size) (k : ∀ i, F i → w'.heap[i]? = w.heap[i]?) : ∀ i, F i → i < w'.heap.size := fun i hi => by
  have e := k i hi
  rw [Array.getElem?_eq_getElem (h i hi)] at e
  exact (Array.getElem?_eq_some_iff.1 e).1
theorem HoF.obj : Obj HoF := ⟨fun h => h.1, fun h k => ⟨lt_of_same h.1 k, fun w2 k2 => h.2 w2 (fun i hi => (k2 i hi).trans (k i hi))⟩⟩
theorem HoF.get {w : World} {F : Nat → Prop} {P : World → Prop} (h : HoF w F P) : P w := h.2 w (fun _ _ => rfl)
theorem HoF.and {w : World} {F G : Nat → Prop} {P Q : World → Prop} (h : HoF w F P) (k : HoF w G Q) : HoF w (fun i => F i ∨ G i) (fun W => P W ∧ Q W) :=
  ⟨fun i hi => hi.elim (h.1 i) (k.1 i), fun w' a => ⟨h.2 w' (fun i hi => a i (.inl hi)), k.2 w' (fun i hi => a i (.inr hi))⟩⟩
theorem HoF.imp {w : World} {F : Nat → Prop} {P Q : World → Prop} (h : HoF w F P) (k : ∀ W, P W → Q W) : HoF w F Q := ⟨h.1, fun w' a => k w' (h.2 w' a)⟩
theorem HoF.all {w : World} {P : World → Prop} (h : ∀ W, P W) : HoF w (fun _ => False) P := ⟨fun _ h => h.elim, fun w' _ => h w'⟩
theorem HoF.ext {w w' : World} {F : Nat → Prop} {P : World → Prop} (h : HoF w F P) (k : Ext w w') : HoF w' F P := HoF.obj.same h (fun i hi => k.block (h.1 i hi))
theorem HoF.row {w : World} {base : Nat} {t : TypeId} {size n : Nat} {v : Value} {xs : List Value} (h : w.ownsRow base t size v n xs) : HoF w (fun k => v.ownBlock = some k) (fun W => W.ownsRow base t size v n xs) :=
  ⟨fun k hk => (h.lt k hk).2, fun _ a => own_block h (fun g hg => a g hg)⟩
theorem HoF.cell {w : World} {b o : Nat} {v : Value} (h : w.cell? ⟨b, o, none⟩ = some v) : HoF w (fun k => k = b) (fun W => W.cell? ⟨b, o, none⟩ = some v) :=
  ⟨fun k hk => by rw [hk]; exact Ext.lt h, fun _ a => (World.cell?_of_block (a := ⟨b, o, none⟩) (a b rfl)).trans h⟩
theorem HoF.and' {w : World} {F : Nat → Prop} {P Q : World → Prop} (h : HoF w F P) (k : HoF w F Q) : HoF w F (fun W => P W ∧ Q W) := ⟨h.1, fun w' a => ⟨h.2 w' a, k.2 w' a⟩⟩
theorem Uno.held {σ : Type} {A : World → (Nat → Prop) → σ → Prop} {w0 w : World} {s : σ} {P : World → Prop} (h : Uno (Sep A HoF) w0 w (s, P)) : P w := by
  obtain ⟨_, h⟩ := h.r
  exact h.get
theorem Sep.imp {σ τ τ' : Type} {A : World → (Nat → Prop) → σ → Prop} {B : World → (Nat → Prop) → τ → Prop} {B' : World → (Nat → Prop) → τ' → Prop} {w : World} {F : Nat → Prop} {s : σ} {t : τ} {t' : τ'} (h : Sep A B w F (s, t)) (k : ∀ G, B w G t → B' w G t') : Sep A B' w F (s, t') := by
  obtain ⟨F1, F2, h1, h2, h3, h4⟩ := h
  exact ⟨F1, F2, h1, k _ h2, h3, h4⟩
/-- nothing made beside the object -/
theorem Sep.pure {σ : Type} {A : World → (Nat → Prop) → σ → Prop} {w : World} {F : Nat → Prop} {s : σ} {P : World → Prop} (h : A w F s) (hp : ∀ W, P W) : Sep A HoF w F (s, P) := ⟨F, fun _ => False, h, HoF.all hp, fun _ hk => hk.elim, fun _ => ⟨.inl, fun k => k.elim id False.elim⟩⟩
/-- fault.In of a code: the Fault is new -/
theorem in_new (s : ByteArray) (n c : Int) (w : World) : Calls Tryz.prog 45 #[.string s, .int .i64 n, .iface 35 (.int .i64 c)] w fun e w' => ∃ u b, e = .returned u ∧ Ext w w' ∧ w.heap.size ≤ b ∧ HoF w' (fun k => k = b) (fun W => IsErr W [(s, n)] c u) := by
  have E1 : Ext w (w.alloc (.cells #[.string s, .int .i64 n, .iface 35 (.int .i64 c)] 141)) := (Ext.refl w).alloc _
  go_enter Tryz.func45, Tryz.ntmps45
  go_wp2
  go_ret
  refine ⟨_, w.heap.size, rfl, E1, Nat.le_refl _, ?_⟩
  exact ((HoF.cell (v := .string s) (o := 0) (by simp)).and' ((HoF.cell (v := .int .i64 n) (o := 1) (by simp)).and' (HoF.cell (v := .iface 35 (.int .i64 c)) (o := 2) (by simp)))).imp (fun W h => ⟨w.heap.size, _, rfl, h.1, h.2.1, h.2.2, rfl⟩)
end Go.Proofs.YtdndambkaohgiaaGreatDoor
