/- Contracts of this seat: CfB, CfW. -/
import Derived.Test.YtcekpngkfldgkaaGreatDoorXZq
import Derived.Test.YtcekpngkfldgkaaGreatDoorXCf9
namespace Go.Proofs.YtcekpngkfldgkaaGreatDoor
set_option linter.unusedVariables false
set_option linter.unusedSimpArgs false
open Go.RowKit Go.Extern.Stop Go.Stop Go.Extern
section
variable {σ σ' τ τ' : Type} {A : World → (Nat → Prop) → σ → Prop} {A' : World → (Nat → Prop) → σ' → Prop} {B : World → (Nat → Prop) → τ → Prop} {B' : World → (Nat → Prop) → τ' → Prop} {w0 w w' : World} {P Q : World → Prop}
theorem Uno.bag (a : Obj A) {s : σ} (h : Uno A w0 w s) (hp : ∀ W, P W) : Uno (Sep A HoF) w0 w (s, P) := by
 obtain ⟨F, h1, h2, h3⟩ := h
 exact ⟨F, Sep.pure h1 hp, h2, h3⟩
theorem bag_imp {s : σ} (h : Uno (Sep A HoF) w0 w (s, P)) (k : ∀ W, P W → Q W) : Uno (Sep A HoF) w0 w (s, Q) := by
 obtain ⟨F, h1, h2, h3⟩ := h
 exact ⟨F, h1.imp (fun _ h => h.imp k), h2, h3⟩
theorem bag_ext (a : Obj A) {s : σ} (h : Uno (Sep A HoF) w0 w (s, P)) (k : Ext w w') : Uno (Sep A HoF) w0 w' (s, P) := h.ext (a.sep HoF.obj) k
theorem bag_add (a : Obj A) {s : σ} {X : Nat → Prop} (h : Uno (Sep A HoF) w0 w (s, P)) (k : Ext w w') (hq : HoF w' X Q) (hx : ∀ i, X i → w.heap.size ≤ i) : Uno (Sep A HoF) w0 w' (s, fun W => P W ∧ Q W) := by
 obtain ⟨F, ⟨F1, F2, h1, h2, h3, h4⟩, h5, h6⟩ := h
 refine ⟨fun i => F i ∨ X i, ⟨F1, fun i => F2 i ∨ X i, Obj.ext a h1 k, (h2.ext k).and hq, ?_, fun i => ?_⟩, h5.trans k, ?_⟩
 · rintro i (hi | hi) hf
   · exact h3 i hi hf
   · have := a.lt h1 i hf
     have := hx i hi
     omega
 · show (F i ∨ X i) ↔ (F1 i ∨ (F2 i ∨ X i))
   rw [h4 i, or_assoc]
 · rintro i (hi | hi)
   · exact h6 i hi
   · exact Nat.le_trans h5.size (hx i hi)
theorem Row.same {w w' : World} {v : Value} {n : Nat} {cells : List Value} (h : Row w v n cells) (k : ∀ i, i < w.heap.size → w'.heap[i]? = w.heap[i]?) : Row w' v n cells := by
 obtain ⟨a, cap, h1, h2, h3, h4, h5⟩ := h
 exact ⟨a, cap, h1, h2, h3, h4, fun g off hg j u hu => by
  have c := h5 g off hg j u hu
  exact (World.cell?_of_block (a := ⟨g, off + j, none⟩) (k g (Ext.lt c))).trans c⟩
theorem HoF.args {w0 w : World} {v : Value} {xs : List Int} (h : Ints w0 v xs) (k : Ext w0 w) : HoF w (fun i => i < w0.heap.size) (fun W => Ints W v xs) :=
 ⟨fun _ hi => Nat.lt_of_lt_of_le hi k.size, fun w' a => ⟨h.1.same (fun i hi => (a i hi).trans (k.block hi)), h.2⟩⟩
theorem bag_out {t : τ} {s : σ} (h : Uno (Sep (Sep A B) HoF) w0 w ((s, t), P)) : ∃ F F1 F2 F3 : Nat → Prop, A w F1 s ∧ B w F2 t ∧ HoF w F3 P ∧ (∀ i, F2 i → ¬ F1 i) ∧ (∀ i, F3 i → ¬ F1 i ∧ ¬ F2 i) ∧ (∀ i, F i ↔ (F1 i ∨ F2 i ∨ F3 i)) ∧ Ext w0 w ∧ ∀ i, F i → w0.heap.size ≤ i := by
 obtain ⟨F, ⟨F12, F3, ⟨F1, F2, g1, g2, g3, g4⟩, h2, h3, h4⟩, h5, h6⟩ := h
 refine ⟨F, F1, F2, F3, g1, g2, h2, g3, fun i hi => ⟨fun h => h3 i hi ((g4 i).2 (.inl h)), fun h => h3 i hi ((g4 i).2 (.inr h))⟩, fun i => ?_, h5, h6⟩
 rw [h4 i, g4 i, or_assoc]
theorem bag_ql (ob : Obj B) {f : FuncId} {args : Array Value} {R : Ending → σ' × (World → Prop) → Prop} {s : σ} {t : τ} (h : Uno (Sep (Sep A B) HoF) w0 w ((s, t), P)) (c : ∀ G X, A w G s → HoF w X P → (∀ i, X i → ¬ G i) → (∀ i, G i → w0.heap.size ≤ i) → Calls Tryz.prog f args w (QPost (Sep A' HoF) R G w)) :
 Calls Tryz.prog f args w fun e w' => ∃ s' P', R e (s', P') ∧ Uno (Sep (Sep A' B) HoF) w0 w' ((s', t), fun W => P W ∧ P' W) := by
 obtain ⟨F, F1, F2, F3, g1, g2, g3, d1, d2, hF, h5, h6⟩ := bag_out h
 refine (c F1 F3 g1 g3 (fun i hi => (d2 i hi).1) (fun i hi => h6 i ((hF i).2 (.inl hi)))).mono ?_
 rintro e w' ⟨⟨s', P'⟩, G, hr, ⟨G1, G2, k1, k2, k3, k4⟩, st⟩
 obtain ⟨a1, a2, a3⟩ := st.apart (HoF.obj.lt g3) (fun i hi => (d2 i hi).1)
 obtain ⟨b1, b2, b3⟩ := st.apart (ob.lt g2) d1
 obtain ⟨m1, m2⟩ := st.out h5 (fun i hi => h6 i ((hF i).2 (.inl hi)))
 refine ⟨s', P', hr, fun i => (G1 i ∨ F2 i) ∨ (F3 i ∨ G2 i), ⟨fun i => G1 i ∨ F2 i, fun i => F3 i ∨ G2 i, ⟨G1, F2, k1, ob.same g2 b1, fun i hi hg => b2 i hi ((k4 i).2 (.inl hg)), fun _ => Iff.rfl⟩, (HoF.obj.same g3 a1).and k2, ?_, fun _ => Iff.rfl⟩, m1, ?_⟩
 · rintro i (hi | hi) (hg | hg)
   · exact a2 i hi ((k4 i).2 (.inl hg))
   · exact (d2 i hi).2 hg
   · exact k3 i hi hg
   · exact b2 i hg ((k4 i).2 (.inr hi))
 · rintro i ((hi | hi) | (hi | hi))
   · exact m2 i ((k4 i).2 (.inl hi))
   · exact h6 i ((hF i).2 (.inr (.inl hi)))
   · exact h6 i ((hF i).2 (.inr (.inr hi)))
   · exact m2 i ((k4 i).2 (.inr hi))
theorem bag_swap {s : σ} {t : τ} (h : Uno (Sep (Sep A B) HoF) w0 w ((s, t), P)) : Uno (Sep (Sep B A) HoF) w0 w ((t, s), P) := by
 obtain ⟨F, F1, F2, F3, g1, g2, g3, d1, d2, hF, h5, h6⟩ := bag_out h
 refine ⟨F, ⟨fun i => F2 i ∨ F1 i, F3, ⟨F2, F1, g2, g1, fun i hi hf => d1 i hf hi, fun _ => Iff.rfl⟩, g3, fun i hi hf => hf.elim (d2 i hi).2 (d2 i hi).1, fun i => ?_⟩, h5, h6⟩
 rw [hF i]
 constructor
 · rintro (h | h | h)
   · exact .inl (.inr h)
   · exact .inl (.inl h)
   · exact .inr h
 · rintro ((h | h) | h)
   · exact .inr (.inl h)
   · exact .inl h
   · exact .inr (.inr h)
theorem bag_qr (oa : Obj A) {f : FuncId} {args : Array Value} {R : Ending → τ' × (World → Prop) → Prop} {s : σ} {t : τ} (h : Uno (Sep (Sep A B) HoF) w0 w ((s, t), P)) (c : ∀ G X, B w G t → HoF w X P → (∀ i, X i → ¬ G i) → (∀ i, G i → w0.heap.size ≤ i) → Calls Tryz.prog f args w (QPost (Sep B' HoF) R G w)) :
 Calls Tryz.prog f args w fun e w' => ∃ t' P', R e (t', P') ∧ Uno (Sep (Sep A B') HoF) w0 w' ((s, t'), fun W => P W ∧ P' W) := by
 refine (bag_ql oa (bag_swap h) c).mono ?_
 rintro e w' ⟨t', P', hr, hu⟩
 exact ⟨t', P', hr, bag_swap hu⟩
end
section
variable {σ τ : Type} {A : World → (Nat → Prop) → σ → Prop} {B : World → (Nat → Prop) → τ → Prop} {w0 w : World} {P : World → Prop}
theorem ho_made {w : World} {v : Value} {n B : Nat} (hn : n ≤ 1000000) (h : w.ownsRow B 3 1 v n ((madeCells (Value.int .i64 0).cells (n * 1)).toList)) : HoF w (fun k => v.ownBlock = some k) (fun W => Ints W v (zsL n)) ∧ ∀ k, v.ownBlock = some k → B ≤ k := by
 rw [zsL_made] at h
 obtain ⟨h1, h2⟩ := TlF.new (n := n) (by simp [zsL]) h
 exact ⟨h1.ho (by simp [zsL]; omega), h2⟩
end
theorem zs_facts (n : Nat) : (zsL n).length = n ∧ (zsL n).any noLv = false ∧ (zsL n).any nzB = false := by
 refine ⟨by simp [zsL], ?_, ?_⟩
 · exact List.any_eq_false.2 (fun x hx => by rw [(List.mem_replicate.1 hx).2]; decide)
 · exact List.any_eq_false.2 (fun x hx => by rw [(List.mem_replicate.1 hx).2]; decide)
end Go.Proofs.YtcekpngkfldgkaaGreatDoor