/- Contracts of this seat: CfB, CfW. -/
import Derived.Test.YtpofabebmeickaaDoorZq
import Derived.Test.YtpofabebmeickaaDoorCf9
/- Objects with all that was told on the way, held beside them. -/
namespace Go.Proofs.YtpofabebmeickaaDoor
set_option linter.unusedVariables false
set_option linter.unusedSimpArgs false
open Go.RowKit Go.Extern.Stop Go.Stop Go.Extern

section
variable {σ σ' τ τ' : Type} {A : World → (Nat → Prop) → σ → Prop} {A' : World → (Nat → Prop) → σ' → Prop} {B : World → (Nat → Prop) → τ → Prop} {B' : World → (Nat → Prop) → τ' → Prop} {w0 w w' : World} {P Q : World → Prop}
theorem Uno.bag (a : Obj A) {s : σ} (h : Uno A w0 w s) (hp : ∀ W, P W) : Uno (Sep A HoF) w0 w (s, P) := by
  obtain ⟨F, h1, h2, h3⟩ := h
  exact ⟨F, Sep.pure h1 hp, h2, h3⟩
theorem bag_imp {s : σ} (h : Uno (Sep A HoF) w0 w (s, P)) (k : ∀ W, P W → Q W) : Uno (Sep A HoF) w0 w (s, Q) := by
  obtain ⟨F, h1, h2, h3⟩ := h
  exact ⟨F, h1.imp (fun _ h => h.imp k), h2, h3⟩
theorem bag_ext (a : Obj A) {s : σ} (h : Uno (Sep A HoF) w0 w (s, P)) (k : Ext w w') : Uno (Sep A HoF) w0 w' (s, P) := h.ext (a.sep HoF.obj) k
theorem bag_add (a : Obj A) {s : σ} {X : Nat → Prop} (h : Uno (Sep A HoF) w0 w (s, P)) (k : Ext w w') (hq : HoF w' X Q) (hx : ∀ i, X i → w.heap.size ≤ i) : Uno (Sep A HoF) w0 w' (s, fun W => P W ∧ Q W) := by
  obtain ⟨F, ⟨F1, F2, h1, h2, h3, h4⟩, h5, h6⟩ := h
  refine ⟨fun i => F i ∨ X i, ⟨F1, fun i => F2 i ∨ X i, Obj.ext a h1 k, (h2.ext k).and hq, ?_, fun i => ?_⟩, h5.trans k, ?_⟩
  · rintro i (hi | hi) hf
    · exact h3 i hi hf
    · have := a.lt h1 i hf
      have := hx i hi
      omega
  · show (F i ∨ X i) ↔ (F1 i ∨ (F2 i ∨ X i))
    rw [h4 i, or_assoc]
  · rintro i (hi | hi)
    · exact h6 i hi
    · exact Nat.le_trans h5.size (hx i hi)
/-- what an argument reads as stays, whatever the call's own objects do -/
theorem Row.same {w w' : World} {v : Value} {n : Nat} {cells : List Value} (h : Row w v n cells) (k : ∀ i, i < w.heap.size → w'.heap[i]? = w.heap[i]?) : Row w' v n cells := by
  obtain ⟨a, cap, h1, h2, h3, h4, h5⟩ := h
  exact ⟨a, cap, h1, h2, h3, h4, fun g off hg j u hu => by
    have c := h5 g off hg j u hu
    exact (World.cell?_of_block (a := ⟨g, off + j, none⟩) (k g (Ext.lt c))).trans c⟩
theorem HoF.args {w0 w : World} {v : Value} {xs : List Int} (h : Ints w0 v xs) (k : Ext w0 w) : HoF w (fun i => i < w0.heap.size) (fun W => Ints W v xs) :=
  ⟨fun _ hi => Nat.lt_of_lt_of_le hi k.size, fun w' a => ⟨h.1.same (fun i hi => (a i hi).trans (k.block hi)), h.2⟩⟩
theorem bag_q {f : FuncId} {args : Array Value} {R : Ending → σ' × (World → Prop) → Prop} {s : σ} (h : Uno (Sep A HoF) w0 w (s, P)) (c : ∀ G X, A w G s → HoF w X P → (∀ i, X i → ¬ G i) → (∀ i, G i → w0.heap.size ≤ i) → Calls Tryd.prog f args w (QPost (Sep A' HoF) R G w)) :
    Calls Tryd.prog f args w fun e w' => ∃ s' P', R e (s', P') ∧ Uno (Sep A' HoF) w0 w' (s', fun W => P W ∧ P' W) := by
  obtain ⟨F, ⟨F1, F2, h1, h2, h3, h4⟩, h5, h6⟩ := h
  refine (c F1 F2 h1 h2 h3 (fun i hi => h6 i ((h4 i).2 (.inl hi)))).mono ?_
  rintro e w' ⟨⟨s', P'⟩, G, hr, ⟨G1, G2, k1, k2, k3, k4⟩, st⟩
  obtain ⟨a1, a2, a3⟩ := st.apart (HoF.obj.lt h2) h3
  obtain ⟨m1, m2⟩ := st.out h5 (fun i hi => h6 i ((h4 i).2 (.inl hi)))
  refine ⟨s', P', hr, fun i => G i ∨ F2 i, ⟨G1, fun i => F2 i ∨ G2 i, k1, (HoF.obj.same h2 a1).and k2, ?_, fun i => ?_⟩, m1, ?_⟩
  · rintro i (hi | hi) hf
    · exact a2 i hi ((k4 i).2 (.inl hf))
    · exact k3 i hi hf
  · have := k4 i
    constructor
    · rintro (hg | hf)
      · exact (this.1 hg).imp id .inr
      · exact .inr (.inl hf)
    · rintro (hg | hf | hg)
      · exact .inl (this.2 (.inl hg))
      · exact .inr hf
      · exact .inl (this.2 (.inr hg))
  · rintro i (hi | hi)
    · exact m2 i hi
    · exact h6 i ((h4 i).2 (.inr hi))
theorem bag_out {t : τ} {s : σ} (h : Uno (Sep (Sep A B) HoF) w0 w ((s, t), P)) : ∃ F F1 F2 F3 : Nat → Prop, A w F1 s ∧ B w F2 t ∧ HoF w F3 P ∧ (∀ i, F2 i → ¬ F1 i) ∧ (∀ i, F3 i → ¬ F1 i ∧ ¬ F2 i) ∧ (∀ i, F i ↔ (F1 i ∨ F2 i ∨ F3 i)) ∧ Ext w0 w ∧ ∀ i, F i → w0.heap.size ≤ i := by
  obtain ⟨F, ⟨F12, F3, ⟨F1, F2, g1, g2, g3, g4⟩, h2, h3, h4⟩, h5, h6⟩ := h
  refine ⟨F, F1, F2, F3, g1, g2, h2, g3, fun i hi => ⟨fun h => h3 i hi ((g4 i).2 (.inl h)), fun h => h3 i hi ((g4 i).2 (.inr h))⟩, fun i => ?_, h5, h6⟩
  rw [h4 i, g4 i, or_assoc]
/-- a call of the left of two, with what is held -/
theorem bag_ql (ob : Obj B) {f : FuncId} {args : Array Value} {R : Ending → σ' × (World → Prop) → Prop} {s : σ} {t : τ} (h : Uno (Sep (Sep A B) HoF) w0 w ((s, t), P)) (c : ∀ G X, A w G s → HoF w X P → (∀ i, X i → ¬ G i) → (∀ i, G i → w0.heap.size ≤ i) → Calls Tryd.prog f args w (QPost (Sep A' HoF) R G w)) :
    Calls Tryd.prog f args w fun e w' => ∃ s' P', R e (s', P') ∧ Uno (Sep (Sep A' B) HoF) w0 w' ((s', t), fun W => P W ∧ P' W) := by
  obtain ⟨F, F1, F2, F3, g1, g2, g3, d1, d2, hF, h5, h6⟩ := bag_out h
  refine (c F1 F3 g1 g3 (fun i hi => (d2 i hi).1) (fun i hi => h6 i ((hF i).2 (.inl hi)))).mono ?_
  rintro e w' ⟨⟨s', P'⟩, G, hr, ⟨G1, G2, k1, k2, k3, k4⟩, st⟩
  obtain ⟨a1, a2, a3⟩ := st.apart (HoF.obj.lt g3) (fun i hi => (d2 i hi).1)
  obtain ⟨b1, b2, b3⟩ := st.apart (ob.lt g2) d1
  obtain ⟨m1, m2⟩ := st.out h5 (fun i hi => h6 i ((hF i).2 (.inl hi)))
  refine ⟨s', P', hr, fun i => (G1 i ∨ F2 i) ∨ (F3 i ∨ G2 i), ⟨fun i => G1 i ∨ F2 i, fun i => F3 i ∨ G2 i, ⟨G1, F2, k1, ob.same g2 b1, fun i hi hg => b2 i hi ((k4 i).2 (.inl hg)), fun _ => Iff.rfl⟩, (HoF.obj.same g3 a1).and k2, ?_, fun _ => Iff.rfl⟩, m1, ?_⟩
  · rintro i (hi | hi) (hg | hg)
    · exact a2 i hi ((k4 i).2 (.inl hg))
    · exact (d2 i hi).2 hg
    · exact k3 i hi hg
    · exact b2 i hg ((k4 i).2 (.inr hi))
  · rintro i ((hi | hi) | (hi | hi))
    · exact m2 i ((k4 i).2 (.inl hi))
    · exact h6 i ((hF i).2 (.inr (.inl hi)))
    · exact h6 i ((hF i).2 (.inr (.inr hi)))
    · exact m2 i ((k4 i).2 (.inr hi))
theorem bag_swap {s : σ} {t : τ} (h : Uno (Sep (Sep A B) HoF) w0 w ((s, t), P)) : Uno (Sep (Sep B A) HoF) w0 w ((t, s), P) := by
  obtain ⟨F, F1, F2, F3, g1, g2, g3, d1, d2, hF, h5, h6⟩ := bag_out h
  refine ⟨F, ⟨fun i => F2 i ∨ F1 i, F3, ⟨F2, F1, g2, g1, fun i hi hf => d1 i hf hi, fun _ => Iff.rfl⟩, g3, fun i hi hf => hf.elim (d2 i hi).2 (d2 i hi).1, fun i => ?_⟩, h5, h6⟩
  rw [hF i]
  constructor
  · rintro (h | h | h)
    · exact .inl (.inr h)
    · exact .inl (.inl h)
    · exact .inr h
  · rintro ((h | h) | h)
    · exact .inr (.inl h)
    · exact .inl h
    · exact .inr (.inr h)
theorem bag_qr (oa : Obj A) {f : FuncId} {args : Array Value} {R : Ending → τ' × (World → Prop) → Prop} {s : σ} {t : τ} (h : Uno (Sep (Sep A B) HoF) w0 w ((s, t), P)) (c : ∀ G X, B w G t → HoF w X P → (∀ i, X i → ¬ G i) → (∀ i, G i → w0.heap.size ≤ i) → Calls Tryd.prog f args w (QPost (Sep B' HoF) R G w)) :
    Calls Tryd.prog f args w fun e w' => ∃ t' P', R e (t', P') ∧ Uno (Sep (Sep A B') HoF) w0 w' ((s, t'), fun W => P W ∧ P' W) := by
  refine (bag_ql oa (bag_swap h) c).mono ?_
  rintro e w' ⟨t', P', hr, hu⟩
  exact ⟨t', P', hr, bag_swap hu⟩
theorem Uno.fst' {s : σ} {t : τ} (h : Uno (Sep A B) w0 w (s, t)) : ∃ G, A w G s := by obtain ⟨_, ⟨F1, _, h1, _⟩, _⟩ := h; exact ⟨F1, h1⟩
end
end Go.Proofs.YtpofabebmeickaaDoor

/- coef.Code within the laws: beside another object, with what is held. -/
namespace Go.Proofs.YtpofabebmeickaaDoor
set_option linter.unusedVariables false
set_option linter.unusedSimpArgs false
open Go.RowKit Go.Extern.Stop Go.Stop Go.Extern

section
variable {σ τ : Type} {A : World → (Nat → Prop) → σ → Prop} {B : World → (Nat → Prop) → τ → Prop} {w0 w : World} {P : World → Prop}
/-- behind coef.Code: the object, the list and the error -/
def KoP {σ : Type} (B : World → (Nat → Prop) → σ → Prop) (P : World → Prop) (w0 : World) (s : σ) (r : Fall × List Int) (e : Ending) (w' : World) : Prop := ∃ u x, e = .returned (.tuple #[u, x]) ∧ Uno (Sep B HoF) w0 w' (s, fun W => P W ∧ Ints W u r.2 ∧ ErrIs W r.1 x)
theorem wl_code (ob : Obj B) {a N : Nat} {s : Ms Ec} {t : τ} {xs : List Int} {v : Value} (h : Uno (Sep (Sep (WrF a) B) HoF) w0 w ((s, t), P)) (hk : okS okEm N s) (hN : N ≤ 3900000) (hP : ∀ W, P W → Ints W v xs) :
    Calls Tryd.prog 51 #[.iface 54 (.pointer (some ⟨a, 0, none⟩)), v] w (KoP (Sep (WrF a) B) P w0 (((codP xs).run mE s).2, t) ((codP xs).run mE s).1) := by
  refine (bag_ql ob h (fun G X hG hX hd hb => mwcode_any a N xs v X s G w hG hk hN (hX.imp hP) hd)).mono ?_
  rintro e w' ⟨s', P', ⟨u, x, rfl, hp⟩, hu⟩
  obtain ⟨rfl, rfl⟩ := Prod.mk.inj hp
  exact ⟨u, x, rfl, hu⟩
theorem wl_arg (ob : Obj B) {a N : Nat} {s : Ms Ec} {t : τ} {xs : List Int} {v : Value} (h : Uno (Sep (Sep (WrF a) B) HoF) w0 w ((s, t), P)) (hk : okS okEm N s) (hN : N ≤ 3900000) (hv : Ints w0 v xs) :
    Calls Tryd.prog 51 #[.iface 54 (.pointer (some ⟨a, 0, none⟩)), v] w (KoP (Sep (WrF a) B) P w0 (((codP xs).run mE s).2, t) ((codP xs).run mE s).1) := by
  refine (bag_ql ob h (fun G X hG hX hd hb => mwcode_any a N xs v (fun i => i < w0.heap.size) s G w hG hk hN (HoF.args hv h.out) (fun i hi hg => by have := hb i hg; omega))).mono ?_
  rintro e w' ⟨s', P', ⟨u, x, rfl, hp⟩, hu⟩
  obtain ⟨rfl, rfl⟩ := Prod.mk.inj hp
  exact ⟨u, x, rfl, hu⟩
theorem rr_code (oa : Obj A) {a N : Nat} {bs : List Nat} (hb0 : ∀ x ∈ bs, x < 256) {s : σ} {t : Ms Dc} {xs : List Int} {v : Value} (h : Uno (Sep (Sep A (RdF a bs)) HoF) w0 w ((s, t), P)) (hk : okS okDm N t) (hN : N ≤ 3900000) (hP : ∀ W, P W → Ints W v xs) :
    Calls Tryd.prog 51 #[.iface 52 (.pointer (some ⟨a, 0, none⟩)), v] w (KoP (Sep A (RdF a bs)) P w0 (s, ((codP xs).run (mD bs) t).2) ((codP xs).run (mD bs) t).1) := by
  refine (bag_qr oa h (fun G X hG hX hd hb => mrcode_any a N bs hb0 xs v X t G w hG hk hN (hX.imp hP) hd)).mono ?_
  rintro e w' ⟨s', P', ⟨u, x, rfl, hp⟩, hu⟩
  obtain ⟨rfl, rfl⟩ := Prod.mk.inj hp
  exact ⟨u, x, rfl, hu⟩
/-- no object -/
def NoF (_ : World) (F : Nat → Prop) (_ : Unit) : Prop := ∀ k, ¬ F k
theorem NoF.obj : Obj NoF := ⟨fun h k hk => absurd hk (h k), fun h _ => h⟩
theorem Uno.no (a : Obj A) {s : σ} (h : Uno A w0 w s) : Uno (Sep A NoF) w0 w (s, ()) := h.add a (Ext.refl w) (B := NoF) (G := fun _ => False) (t := ()) (fun _ h => h) (fun _ h => h.elim)
/-- a list that was made -/
theorem ho_made {w : World} {v : Value} {n B : Nat} (hn : n ≤ 1000000) (h : w.ownsRow B 3 1 v n ((madeCells (Value.int .i64 0).cells (n * 1)).toList)) : HoF w (fun k => v.ownBlock = some k) (fun W => Ints W v (zsL n)) ∧ ∀ k, v.ownBlock = some k → B ≤ k := by
  rw [zsL_made] at h
  obtain ⟨h1, h2⟩ := TlF.new (n := n) (by simp [zsL]) h
  exact ⟨h1.ho (by simp [zsL]; omega), h2⟩
end
theorem zs_facts (n : Nat) : (zsL n).length = n ∧ (zsL n).any noLv = false ∧ (zsL n).any nzB = false := by
  refine ⟨by simp [zsL], ?_, ?_⟩
  · exact List.any_eq_false.2 (fun x hx => by rw [(List.mem_replicate.1 hx).2]; decide)
  · exact List.any_eq_false.2 (fun x hx => by rw [(List.mem_replicate.1 hx).2]; decide)
/-- a square of nothing but 0 -/
theorem cod_zero {σ : Type} {M : Mc σ} {n : Nat} {s s1 : Ms σ} (hn : n = 16 ∨ n = 64) (e : bitM M s ((sqB n : Nat) : Int) false = (false, s1)) : (codP (zsL n)).run M s = ((none, zsL n), s1) := by
  obtain ⟨h1, h2, h3⟩ := zs_facts n
  rw [cod_yes (b := false) (s1 := s1) (by rw [h1]; exact hn) h2 (by rw [h1, h3]; exact e), h1]
  rfl
theorem cod_zeroW {n : Nat} {s : Ms Ec} (hn : n = 16 ∨ n = 64) (g : gS s) : (codP (zsL n)).run mE s = ((none, zsL n), (bitM mE s ((sqB n : Nat) : Int) false).2) :=
  cod_zero hn (Prod.ext (bit_g g _ false).2 rfl)
end Go.Proofs.YtpofabebmeickaaDoor
