/- syntax.Code of any square. -/
import Derived.Test.YtpofabebmeickaaGreatDoorVwSz7
namespace Go.Proofs.YtpofabebmeickaaGreatDoor
set_option linter.unusedVariables false
set_option linter.unusedSimpArgs false
open Go.RowKit Go.Extern.Stop Go.Stop Go.Extern

set_option maxRecDepth 20000 in
theorem tak_z (p : Nat) (m a b c d x y : Int) (vL v0 v1 v2 v3 : Value) (w : World) (hL : SlF vL) (h0 : SlF v0) (h1 : SlF v1) (h2 : SlF v2) (h3 : SlF v3) : Calls Tryz.prog 37 #[.pointer (some ⟨p, 0, none⟩), sqV 0 m a b c d x y vL v0 v1 v2 v3] w fun e w' => e = .returned (.tuple #[]) ∧ Ext w w' := by
  obtain ⟨aL, nL, cL, rfl⟩ := hL
  obtain ⟨a0, n0, c0, rfl⟩ := h0
  obtain ⟨a1, n1, c1, rfl⟩ := h1
  obtain ⟨a2, n2, c2, rfl⟩ := h2
  obtain ⟨a3, n3, c3, rfl⟩ := h3
  unfold sqV
  go_enter Tryz.func37, Tryz.ntmps37
  go_wp2
  go_end0
  exact ⟨rfl, (Ext.refl w).alloc _⟩
theorem take_any (p : Nat) (q : Sq) (L s0 s1 s2 s3 bL b0 b1 b2 b3 : Value) (w : World) (h : BoxIs w p (sqA (blS 0) bL b0 b1 b2 b3) 36) (hq : SqIs w q L s0 s1 s2 s3) (hk : 0 ≤ q.k ∧ q.k ≤ 3) : Calls Tryz.prog 37 #[.pointer (some ⟨p, 0, none⟩), sqQ q L s0 s1 s2 s3] w fun e w' => e = .returned (.tuple #[]) ∧ Kp p w w' ∧ ∃ L' s0' s1' s2' s3', BoxIs w' p (sqA (takeS q) L' s0' s1' s2' s3') 36 ∧ ∀ W, SqIs W (blS 0) bL b0 b1 b2 b3 → SqIs W q L s0 s1 s2 s3 → SqIs W (takeS q) L' s0' s1' s2' s3' := by
  obtain ⟨hL, h0, h1, h2, h3⟩ := hq
  obtain ⟨k, m, a, b, c, d, x, y, l, l0, l1, l2, l3⟩ := q
  unfold sqQ
  dsimp only at *
  rcases (by omega : k = 0 ∨ k = 1 ∨ k = 2 ∨ k = 3) with rfl | rfl | rfl | rfl
  · refine (tak_z p m a b c d x y _ _ _ _ _ w hL.slf h0.slf h1.slf h2.slf h3.slf).mono ?_
    rintro e w' ⟨rfl, hx⟩
    exact ⟨rfl, Kp.of_ext hx, bL, b0, b1, b2, b3, h.ext hx, fun W g _ => g⟩
  · refine (tak_1 p m a b c d x y _ _ _ _ _ _ _ _ _ _ _ _ _ _ _ _ _ _ w h hL.slf h0.slf h1.slf h2.slf h3.slf).mono ?_
    rintro e w' ⟨rfl, hb, hx⟩
    exact ⟨rfl, hx, L, b0, b1, b2, b3, hb, fun W g k => ⟨k.1, g.2⟩⟩
  · refine (tak_2 p m a b c d x y _ _ _ _ _ _ _ _ _ _ _ _ _ _ _ _ _ _ w h hL.slf h0.slf h1.slf h2.slf h3.slf).mono ?_
    rintro e w' ⟨rfl, hb, hx⟩
    exact ⟨rfl, hx, L, b0, b1, b2, b3, hb, fun W g k => ⟨k.1, g.2⟩⟩
  · refine (tak_3 p m a b c d x y _ _ _ _ _ _ _ _ _ _ _ _ _ _ _ _ _ _ w h hL.slf h0.slf h1.slf h2.slf h3.slf).mono ?_
    rintro e w' ⟨rfl, hb, hx⟩
    exact ⟨rfl, hx, bL, s0, s1, s2, s3, hb, fun W g k => ⟨g.1, k.2⟩⟩
section
variable {σ τ : Type} {A : World → (Nat → Prop) → σ → Prop} {B : World → (Nat → Prop) → τ → Prop} {w w' : World}
theorem Obj.setc (oa : Obj A) {F : Nat → Prop} {s : σ} {p : Addr} (h : A w F s) (hp : ¬ F p.block) (v : Value) : A (w.setCell p v) F s := oa.same h (fun i hi => Below.heap_setCell w p v i (fun e => hp (e ▸ hi)))
theorem Step.setc {F G : Nat → Prop} {p : Addr} (h : Step F w G w') (hp : w.heap.size ≤ p.block) (v : Value) : Step F w G (w'.setCell p v) :=
  ⟨⟨⟨h.1.1.1, h.1.1.2.1, h.1.1.2.2⟩, by have := h.1.2.1; simpa using this, fun k hk hn => (Below.heap_setCell w' p v k (by omega)).trans (h.1.2.2 k hk hn)⟩, h.2⟩
theorem Step.sub {F G G' : Nat → Prop} (h : Step F w G w') (hs : ∀ k, G' k → G k) : Step F w G' w' := ⟨h.1, fun k hk => h.2 k (hs k hk)⟩
theorem drop_mid (oa : Obj A) {F : Nat → Prop} {s : σ} {t : τ} {P : World → Prop} (h : Sep (Sep A B) HoF w F ((s, t), P)) : ∃ G, Sep A HoF w G (s, P) ∧ ∀ k, G k → F k := by
  obtain ⟨F12, F3, ⟨F1, F2, g1, g2, d1, g4⟩, g3, d2, hF⟩ := h
  exact ⟨fun k => F1 k ∨ F3 k, ⟨F1, F3, g1, g3, fun k hk hf => d2 k hk ((g4 k).2 (.inl hf)), fun _ => Iff.rfl⟩, fun k hk => hk.elim (fun h => (hF k).2 (.inl ((g4 k).2 (.inl h)))) (fun h => (hF k).2 (.inr h))⟩
end
theorem bag_addF {σ : Type} {A : World → (Nat → Prop) → σ → Prop} (a : Obj A) {w0 w w' : World} {F0 F : Nat → Prop} {s : σ} {X : Nat → Prop} {P Q : World → Prop} (h : Sep A HoF w F (s, P)) (st : Step F0 w0 F w) (k : Ext w w') (hq : HoF w' X Q) (hx : ∀ i, X i → w.heap.size ≤ i) : ∃ G, Sep A HoF w' G (s, fun W => P W ∧ Q W) ∧ Step F0 w0 G w' ∧ ∀ i, G i → F i ∨ w.heap.size ≤ i := by
  obtain ⟨F1, F2, h1, h2, h3, h4⟩ := h
  refine ⟨fun i => F i ∨ X i, ⟨F1, fun i => F2 i ∨ X i, Obj.ext a h1 k, (h2.ext k).and hq, ?_, fun i => ?_⟩, ⟨(st.ext k).1, ?_⟩, ?_⟩
  · rintro i (hi | hi) hf
    · exact h3 i hi hf
    · have := a.lt h1 i hf
      have := hx i hi
      omega
  · show (F i ∨ X i) ↔ (F1 i ∨ (F2 i ∨ X i))
    rw [h4 i, or_assoc]
  · rintro i (hi | hi)
    · exact st.2 i hi
    · exact .inr (Nat.le_trans st.1.2.1 (hx i hi))
  · rintro i (hi | hi)
    · exact .inl hi
    · exact .inr (hx i hi)
/-- what syntax.Code answers -/
def SqR {σ : Type} (r : (Fall × Sq) × Ms σ) (e : Ending) (z : Ms σ × (World → Prop)) : Prop := ∃ L s0 s1 s2 s3 x, e = .returned (.tuple #[sqQ r.1.2 L s0 s1 s2 s3, x]) ∧ z = (r.2, fun W => SqIs W r.1.2 L s0 s1 s2 s3 ∧ ErrIs W r.1.1 x)
theorem SqR.done {σ : Type} {A : World → (Nat → Prop) → Ms σ → Prop} {F G : Nat → Prop} {w w' : World} {r : (Fall × Sq) × Ms σ} {f : Fall} {q : Sq} {s : Ms σ} {L s0 s1 s2 s3 x : Value} {P : World → Prop} (hr : r = ((f, q), s)) (h : Sep A HoF w' G (s, P)) (st : Step F w G w') (hP : ∀ W, P W → SqIs W q L s0 s1 s2 s3 ∧ ErrIs W f x) : QPost (Sep A HoF) (SqR r) F w (.returned (.tuple #[sqQ q L s0 s1 s2 s3, x])) w' := by
  subst hr
  exact ⟨(s, fun W => SqIs W q L s0 s1 s2 s3 ∧ ErrIs W f x), G, ⟨L, s0, s1, s2, s3, x, rfl, rfl⟩, h.imp (fun _ h => h.imp hP), st⟩
theorem SqIs.nil (W : World) (k : Int) : SqIs W { sq0 with k := k } nilS nilS nilS nilS nilS := ⟨Ints.nil W, Ints.nil W, Ints.nil W, Ints.nil W, Ints.nil W⟩
theorem ret_set {σ : Type} {A : World → (Nat → Prop) → σ → Prop} (oa : Obj A) {F G : Nat → Prop} {w w' : World} {s : σ} {b : Nat} (h : A w' G s) (st : Step F w G w') (hb : w.heap.size ≤ b) (hn : ¬ G b) (v0 v1 v2 v3 v4 v5 v6 v7 v8 v9 v10 v11 v12 : Value) :
    A (((((((((((((w'.setCell ⟨b, 0, none⟩ v0).setCell ⟨b, 1, none⟩ v1).setCell ⟨b, 2, none⟩ v2).setCell ⟨b, 3, none⟩ v3).setCell ⟨b, 4, none⟩ v4).setCell ⟨b, 5, none⟩ v5).setCell ⟨b, 6, none⟩ v6).setCell ⟨b, 7, none⟩ v7).setCell ⟨b, 8, none⟩ v8).setCell ⟨b, 9, none⟩ v9).setCell ⟨b, 10, none⟩ v10).setCell ⟨b, 11, none⟩ v11).setCell ⟨b, 12, none⟩ v12) G s ∧ Step F w G (((((((((((((w'.setCell ⟨b, 0, none⟩ v0).setCell ⟨b, 1, none⟩ v1).setCell ⟨b, 2, none⟩ v2).setCell ⟨b, 3, none⟩ v3).setCell ⟨b, 4, none⟩ v4).setCell ⟨b, 5, none⟩ v5).setCell ⟨b, 6, none⟩ v6).setCell ⟨b, 7, none⟩ v7).setCell ⟨b, 8, none⟩ v8).setCell ⟨b, 9, none⟩ v9).setCell ⟨b, 10, none⟩ v10).setCell ⟨b, 11, none⟩ v11).setCell ⟨b, 12, none⟩ v12) := by
  constructor
  · repeat refine oa.setc ?_ (by exact hn) _
    exact h
  · repeat refine Step.setc ?_ (by exact hb) _
    exact st
theorem mwparts_any (a p N : Nat)  (k : Int) (q : Sq) (vL v0 v1 v2 v3 : Value) (X : Nat → Prop) (s : Ms Ec) (F : Nat → Prop) (w : World) (hk3 : 0 ≤ k ∧ k ≤ 3) (h : Sep (WrF a) (BxF p) w F (s, zeA k)) (hk : okS okEm N s) (hN : N ≤ 3850000) (hf : FullS q) (hx : HoF w X (fun W => SqIs W q vL v0 v1 v2 v3)) (hd : ∀ k, X k → ¬ F k) : Calls Tryz.prog 39 #[.pointer (some ⟨p, 0, none⟩), .iface 25 (.pointer (some ⟨a, 0, none⟩)), sqQ q vL v0 v1 v2 v3] w (QPost (Sep (Sep (WrF a) (BxF p)) HoF) (CpR k ((ptP k q).run mE s)) F w) := by
  obtain ⟨f1, f2, f3, f4, f5⟩ := hf
  have e2 := (lvE_none f2).1
  have e3 := (lvE_none f3).1
  have e4 := (lvE_none f4).1
  have e5 := (lvE_none f5).1
  obtain ⟨gk, gm, ga, gb, gc, gd, gx, gy, L, s0, s1, s2, s3⟩ := q
  dsimp only at *
  rcases (by omega : k = 0 ∨ k = 1 ∨ k = 2 ∨ k = 3) with rfl | rfl | rfl | rfl
  · exact mwparts_0 a p N  gk gm ga gb gc gd gx gy L s0 s1 s2 s3 vL v0 v1 v2 v3 X s F w h hx
  · exact mwparts_1 a p N  gk gm ga gb gc gd gx gy L s0 s1 s2 s3 vL v0 v1 v2 v3 X s F w h hk hN hx hd
  · exact mwparts_2 a p N  gk gm ga gb gc gd gx gy L s0 s1 s2 s3 vL v0 v1 v2 v3 X s F w h hk hN hx hd
  · exact mwparts_3 a p N  gk gm ga gb gc gd gx gy L s0 s1 s2 s3 vL v0 v1 v2 v3 X s F w h hk hN hx hd ⟨by omega, by omega, by omega, by omega⟩
/-- syntax.Code by a writer -/
def sqW (key : Bool) (q : Sq) (s : Ms Ec) : (Fall × Sq) × Ms Ec := match askE key q with
  | none => ((none, partS q), ((sqP key q.k (takeS q)).run mE s).2)
  | some e => ((some e, sq0), s)
set_option maxHeartbeats 8000000 in
set_option maxRecDepth 20000 in
theorem mwsq_any (a N : Nat) (key : Bool) (q : Sq) (vL v0 v1 v2 v3 : Value) (X : Nat → Prop) (s : Ms Ec) (F : Nat → Prop) (w : World) (h : WrF a w F s) (hk : okS okEm N s) (hg : gS s) (hN : N ≤ 3840000) (hx : HoF w X (fun W => SqIs W q vL v0 v1 v2 v3)) (hd : ∀ k, X k → ¬ F k) : Calls Tryz.prog 11 #[.iface 25 (.pointer (some ⟨a, 0, none⟩)), .bool key, sqQ q vL v0 v1 v2 v3] w (QPost (Sep (WrF a) HoF) (SqR (sqW key q s)) F w) := by
  have HQ := Lib.hid hx
  obtain ⟨aL, lL, cL, rfl⟩ := hx.get.1.slf
  obtain ⟨a0, l0, c0, rfl⟩ := hx.get.2.1.slf
  obtain ⟨a1, l1, c1, rfl⟩ := hx.get.2.2.1.slf
  obtain ⟨a2, l2, c2, rfl⟩ := hx.get.2.2.2.1.slf
  obtain ⟨a3, l3, c3, rfl⟩ := hx.get.2.2.2.2.slf
  have HW0 := Lib.hid h
  have hFl : ∀ k, F k → k < w.heap.size := fun k hk => (WrF.obj a).lt h k hk
  have HFL := Lib.hid hFl
  have HK := Lib.hid hk
  have HDX := Lib.hid hd
  have UC := Lib.hid (fun w' (h : Ext w w') => check_any key q _ _ _ _ _ w' (hx.get.ext h))
  have UT := Lib.hid (fun (p : Nat) (B0 B1 B2 B3 B4 : Value) w' (h : Ext w w') (hb : BoxIs w' p (sqA (blS 0) B0 B1 B2 B3 B4) 36) (hk : 0 ≤ q.k ∧ q.k ≤ 3) => take_any p q _ _ _ _ _ B0 B1 B2 B3 B4 w' hb (hx.get.ext h) hk)
  have HTD := Lib.hid (fun (h : askE key q = none) => sq_told (key := key) (q := q) hg h)
  have HFU := Lib.hid (fun (h : askE key q = none) => FullS.take (ask_out h).2.2)
  have HOK := Lib.hid (fun (h : askE key q = none) => (ask_out h).1)
  clear hx hd hg
  clear h hFl hk
  obtain ⟨gk, gm, ga, gb, gc, gd, gx, gy, L, s0, s1, s2, s3⟩ := q
  have A0 := (BoxIs.new w #[.int .i64 gk, .int .i64 gm, .int .i64 ga, .int .i64 gb, .int .i64 gc, .int .i64 gd, .int .i64 gx, .int .i64 gy, .slice aL lL cL, .slice a0 l0 c0, .slice a1 l1 c1, .slice a2 l2 c2, .slice a3 l3 c3] 36).ext ((Ext.refl _).alloc (.cells #[.int .i64 0, .int .i64 0, .int .i64 0, .int .i64 0, .int .i64 0, .int .i64 0, .int .i64 0, .int .i64 0, .slice none 0 0, .slice none 0 0, .slice none 0 0, .slice none 0 0, .slice none 0 0] 36))
  have A1 := BoxIs.new (w.alloc (.cells #[.int .i64 gk, .int .i64 gm, .int .i64 ga, .int .i64 gb, .int .i64 gc, .int .i64 gd, .int .i64 gx, .int .i64 gy, .slice aL lL cL, .slice a0 l0 c0, .slice a1 l1 c1, .slice a2 l2 c2, .slice a3 l3 c3] 36)) #[.int .i64 0, .int .i64 0, .int .i64 0, .int .i64 0, .int .i64 0, .int .i64 0, .int .i64 0, .int .i64 0, .slice none 0 0, .slice none 0 0, .slice none 0 0, .slice none 0 0, .slice none 0 0] 36
  have hs : (w.alloc (.cells #[.int .i64 gk, .int .i64 gm, .int .i64 ga, .int .i64 gb, .int .i64 gc, .int .i64 gd, .int .i64 gx, .int .i64 gy, .slice aL lL cL, .slice a0 l0 c0, .slice a1 l1 c1, .slice a2 l2 c2, .slice a3 l3 c3] 36)).heap.size = w.heap.size + 1 := by simp
  rw [hs] at A1
  have E2 := ((Ext.refl w).alloc (.cells #[.int .i64 gk, .int .i64 gm, .int .i64 ga, .int .i64 gb, .int .i64 gc, .int .i64 gd, .int .i64 gx, .int .i64 gy, .slice aL lL cL, .slice a0 l0 c0, .slice a1 l1 c1, .slice a2 l2 c2, .slice a3 l3 c3] 36)).alloc (.cells #[.int .i64 0, .int .i64 0, .int .i64 0, .int .i64 0, .int .i64 0, .int .i64 0, .int .i64 0, .int .i64 0, .slice none 0 0, .slice none 0 0, .slice none 0 0, .slice none 0 0, .slice none 0 0] 36)
  obtain ⟨w2, hw2⟩ : ∃ z, (w.alloc (.cells #[.int .i64 gk, .int .i64 gm, .int .i64 ga, .int .i64 gb, .int .i64 gc, .int .i64 gd, .int .i64 gx, .int .i64 gy, .slice aL lL cL, .slice a0 l0 c0, .slice a1 l1 c1, .slice a2 l2 c2, .slice a3 l3 c3] 36)).alloc (.cells #[.int .i64 0, .int .i64 0, .int .i64 0, .int .i64 0, .int .i64 0, .int .i64 0, .int .i64 0, .int .i64 0, .slice none 0 0, .slice none 0 0, .slice none 0 0, .slice none 0 0, .slice none 0 0] 36) = z := ⟨_, rfl⟩
  rw [hw2] at A0 A1 E2
  have HW2 := Lib.hid hw2
  have A0 := Lib.hid A0
  have A1 := Lib.hid A1
  have E2 := Lib.hid E2
  clear hw2 hs
  unfold sqQ sqV
  go_enter Tryz.func11, Tryz.ntmps11
  go_wp2_with fail
  have hw2 := HW2.out
  rw [hw2]
  clear hw2 HW2
  refine (blank_own _).mono ?_; rintro e w3 ⟨bL, b0, b1, b2, b3, Y, rfl, x3, y3, z3⟩
  have G0 := BoxIs.new w3 #[.int .i64 0, .int .i64 0, .int .i64 0, .int .i64 0, .int .i64 0, .int .i64 0, .int .i64 0, .int .i64 0, .slice (some bL) 64 64, .slice (some b0) 16 16, .slice (some b1) 16 16, .slice (some b2) 16 16, .slice (some b3) 16 16] 36
  have x3' := x3.alloc (.cells #[.int .i64 0, .int .i64 0, .int .i64 0, .int .i64 0, .int .i64 0, .int .i64 0, .int .i64 0, .int .i64 0, .slice (some bL) 64 64, .slice (some b0) 16 16, .slice (some b1) 16 16, .slice (some b2) 16 16, .slice (some b3) 16 16] 36)
  have y3' := y3.ext ((Ext.refl w3).alloc (.cells #[.int .i64 0, .int .i64 0, .int .i64 0, .int .i64 0, .int .i64 0, .int .i64 0, .int .i64 0, .int .i64 0, .slice (some bL) 64 64, .slice (some b0) 16 16, .slice (some b1) 16 16, .slice (some b2) 16 16, .slice (some b3) 16 16] 36))
  have hyl : ∀ k, Y k → w2.heap.size ≤ k ∧ k < w3.heap.size := fun k hk => ⟨z3 k hk, y3.1 k hk⟩
  have HG := Lib.hid G0
  have HX := Lib.hid x3'
  have HY := Lib.hid y3'
  have HYL := Lib.hid hyl
  have hlt : w2.heap.size ≤ w3.heap.size := x3.size
  clear G0 x3 x3' y3 y3' z3 hyl
  unfold sqV
  go_wp2_with fail
  generalize hu : w3.alloc (.cells #[.int .i64 0, .int .i64 0, .int .i64 0, .int .i64 0, .int .i64 0, .int .i64 0, .int .i64 0, .int .i64 0, .slice (some bL) 64 64, .slice (some b0) 16 16, .slice (some b1) 16 16, .slice (some b2) 16 16, .slice (some b3) 16 16] 36) = u3
  rw [hu] at HG HX HY
  clear hu
  refine (isr_w _ _).mono ?_; rintro e w4 ⟨rfl, x4⟩
  have E4 := Lib.hid (HX.out.trans x4)
  have G4 := Lib.hid (HG.out.ext x4)
  have Y4 := Lib.hid (HY.out.ext x4)
  have hsz : w.heap.size + 2 ≤ w2.heap.size := by have := A1.out.lt; omega
  clear x4 HG HX HY
  obtain ⟨⟨k0, k1, k2, k3, k4, k5, k6, k7, k8, k9, k10, k11, k12⟩, -⟩ := sq_cells (A0.out.ext E4.out)
  go_wp2_with fail
  refine (UC.out _ (E2.out.trans E4.out)).mono ?_; rintro e w5 ⟨x5, rfl, hx5, x5'⟩
  have E5 := Lib.hid (E4.out.trans x5')
  have G5 := Lib.hid (G4.out.ext x5')
  have Y5 := Lib.hid (Y4.out.ext x5')
  clear x5' k0 k1 k2 k3 k4 k5 k6 k7 k8 k9 k10 k11 k12 G4 Y4 E4
  obtain ⟨fa, hfa⟩ : ∃ f, askE key ⟨gk, gm, ga, gb, gc, gd, gx, gy, L, s0, s1, s2, s3⟩ = f := ⟨_, rfl⟩
  rw [hfa] at hx5 HTD HFU HOK
  have HFA := Lib.hid hfa
  clear hfa
  cases fa with
  | some f =>
    have HX5 := Lib.hid hx5
    obtain ⟨xt, xv, rfl⟩ := ErrIs.ne (hx5 w5)
    clear hx5
    have A5 := Lib.hid (A1.out.ext E5.out)
    obtain ⟨⟨e0, e1, e2, e3, e4, e5, e6, e7, e8, e9, e10, e11, e12⟩, f0, f1, f2, f3, f4, f5, f6, f7, f8, f9, f10, f11, f12⟩ := sq_cells A5.out
    go_wp2
    obtain ⟨⟨g0, g1, g2, g3, g4, g5, g6, g7, g8, g9, g10, g11, g12⟩, -⟩ := sq_cells (sq_put (v0 := .int .i64 0) (v1 := .int .i64 0) (v2 := .int .i64 0) (v3 := .int .i64 0) (v4 := .int .i64 0) (v5 := .int .i64 0) (v6 := .int .i64 0) (v7 := .int .i64 0) (v8 := .slice none 0 0) (v9 := .slice none 0 0) (v10 := .slice none 0 0) (v11 := .slice none 0 0) (v12 := .slice none 0 0) A5.out)
    have HZ := Lib.hid (Step.of_ext (F := F) (E2.out.trans E5.out))
    have HO := Lib.hid (Obj.ext (WrF.obj a) HW0.out (E2.out.trans E5.out))
    have HR : Hid (sqW key ⟨gk, gm, ga, gb, gc, gd, gx, gy, L, s0, s1, s2, s3⟩ s = ((some f, sq0), s)) := by show _ = _; unfold sqW; rw [HFA.out]
    exact bodyPost_ret (v := .tuple #[.agg #[.int .i64 0, .int .i64 0, .int .i64 0, .int .i64 0, .int .i64 0, .int .i64 0, .int .i64 0, .int .i64 0, .slice none 0 0, .slice none 0 0, .slice none 0 0, .slice none 0 0, .slice none 0 0], .iface xt xv]) (by simp [results, Tryz.results11, go_sem, g0, g1, g2, g3, g4, g5, g6, g7, g8, g9, g10, g11, g12]) rfl (by
        obtain ⟨o1, o2⟩ := ret_set (b := w.heap.size + 1) (WrF.obj a) HO.out HZ.out (by omega) (fun h => by have := HFL.out _ h; omega) (.int .i64 0) (.int .i64 0) (.int .i64 0) (.int .i64 0) (.int .i64 0) (.int .i64 0) (.int .i64 0) (.int .i64 0) (.slice none 0 0) (.slice none 0 0) (.slice none 0 0) (.slice none 0 0) (.slice none 0 0)
        exact SqR.done (q := sq0) (L := nilS) (s0 := nilS) (s1 := nilS) (s2 := nilS) (s3 := nilS) HR.out (Sep.pure (P := fun _ => True) o1 (fun _ => trivial)) o2 (fun W _ => ⟨SqIs.nil W 0, HX5.out W⟩))
  | none =>
    obtain rfl : x5 = .nilIface := hx5 w5
    have hok := HOK.out rfl
    have HFS := Lib.hid (HFU.out rfl)
    have HTL := Lib.hid (HTD.out rfl)
    clear HFU HTD
    have hq3 : 0 ≤ gk ∧ gk ≤ 3 := by simp only [okK, Bool.and_eq_true, decide_eq_true_eq] at hok; exact hok.1
    clear hok HOK UC
    obtain ⟨⟨k0, k1, k2, k3, k4, k5, k6, k7, k8, k9, k10, k11, k12⟩, -⟩ := sq_cells (A0.out.ext E5.out)
    have UT2 := Lib.hid (UT.out w3.heap.size _ _ _ _ _ w5 (E2.out.trans E5.out) G5.out hq3)
    clear UT
    go_wp2_with fail
    refine (UT2.out).mono ?_; rintro e w6 ⟨rfl, kp, L', s0', s1', s2', s3', hbx, hsq⟩
    clear UT2 k0 k1 k2 k3 k4 k5 k6 k7 k8 k9 k10 k11 k12
    have hA : HoF w5 (fun k => k = w.heap.size ∨ k = w.heap.size + 1) (fun W => BoxIs W w.heap.size #[.int .i64 gk, .int .i64 gm, .int .i64 ga, .int .i64 gb, .int .i64 gc, .int .i64 gd, .int .i64 gx, .int .i64 gy, .slice aL lL cL, .slice a0 l0 c0, .slice a1 l1 c1, .slice a2 l2 c2, .slice a3 l3 c3] 36 ∧ BoxIs W (w.heap.size + 1) #[.int .i64 0, .int .i64 0, .int .i64 0, .int .i64 0, .int .i64 0, .int .i64 0, .int .i64 0, .int .i64 0, .slice none 0 0, .slice none 0 0, .slice none 0 0, .slice none 0 0, .slice none 0 0] 36) := (HoF.box (A0.out.ext E5.out)).and (HoF.box (A1.out.ext E5.out))
    have hA6 : HoF w6 (fun k => k = w.heap.size ∨ k = w.heap.size + 1) (fun W => BoxIs W w.heap.size #[.int .i64 gk, .int .i64 gm, .int .i64 ga, .int .i64 gb, .int .i64 gc, .int .i64 gd, .int .i64 gx, .int .i64 gy, .slice aL lL cL, .slice a0 l0 c0, .slice a1 l1 c1, .slice a2 l2 c2, .slice a3 l3 c3] 36 ∧ BoxIs W (w.heap.size + 1) #[.int .i64 0, .int .i64 0, .int .i64 0, .int .i64 0, .int .i64 0, .int .i64 0, .int .i64 0, .int .i64 0, .slice none 0 0, .slice none 0 0, .slice none 0 0, .slice none 0 0, .slice none 0 0] 36) := HoF.obj.same hA (fun i hi => kp.block (hA.1 i hi) (by rcases hi with rfl | rfl <;> omega))
    have hY6 : HoF w6 Y (fun W => SqIs W (blS 0) (.slice (some bL) 64 64) (.slice (some b0) 16 16) (.slice (some b1) 16 16) (.slice (some b2) 16 16) (.slice (some b3) 16 16)) := HoF.obj.same Y5.out (fun i hi => kp.block (Y5.out.1 i hi) (by have := HYL.out i hi; omega))
    have hq6 := HoF.obj.same HQ.out (fun i hi => (kp.block (Nat.lt_of_lt_of_le (HQ.out.1 i hi) (E2.out.trans E5.out).size) (by have := HQ.out.1 i hi; omega)).trans ((E2.out.trans E5.out).block (HQ.out.1 i hi)))
    have hT6 := (hY6.and hq6).imp (fun W h => hsq W h.1 h.2)
    have e06 : Ext w w6 := Kp.out (E2.out.trans E5.out) kp (by omega)
    have hAll := (hA6.and (HoF.box hbx)).and hT6
    have hDD : ∀ k, (((k = w.heap.size ∨ k = w.heap.size + 1) ∨ k = w3.heap.size) ∨ (Y k ∨ X k)) → ¬ F k := by
      rintro k (((rfl | rfl) | rfl) | (hk | hk)) hf
      · have := HFL.out _ hf; omega
      · have := HFL.out _ hf; omega
      · have := HFL.out _ hf; omega
      · have := HFL.out _ hf; have := HYL.out _ hk; omega
      · exact HDX.out k hk hf
    have HE6 := Lib.hid e06
    have HAL := Lib.hid hAll
    have HDD := Lib.hid hDD
    clear kp hbx hsq hA hA6 hY6 hq6 hT6 e06 hAll hDD G5 Y5 HQ HDX HYL E5 A0 A1
    have k0 := HAL.out.get.1.1.1.cell (i := 0) (v := .int .i64 gk) rfl
    go_wp2_with fail
    obtain ⟨⟨kk, t1⟩, ek⟩ : ∃ r, (kyP key gk).run mE s = r := ⟨_, rfl⟩
    have hkk : 0 ≤ kk ∧ kk ≤ 3 := by have h := ky_in (M := mE) key gk s; rw [ek] at h; simp only [okK, Bool.and_eq_true, decide_eq_true_eq] at h; exact h.1
    have hk1 := Pg.ok mkE (ky_dep key gk) HK.out
    rw [ek] at hk1
    have U7 := mwckind_any a N  key gk s F w6 (Obj.ext (WrF.obj a) HW0.out HE6.out) HK.out (by omega)
    rw [ek] at U7
    refine U7.mono ?_; rintro e w7 ⟨rfl, F1, y1, st1⟩
    clear U7 k0
    dsimp only
    have N8 := BoxIs.new w7 #[.int .i64 kk, .int .i64 0, .int .i64 0, .int .i64 0, .int .i64 0, .int .i64 0, .int .i64 0, .int .i64 0, .slice none 0 0, .slice none 0 0, .slice none 0 0, .slice none 0 0, .slice none 0 0] 36
    have X8 := (Ext.refl w7).alloc (.cells #[.int .i64 kk, .int .i64 0, .int .i64 0, .int .i64 0, .int .i64 0, .int .i64 0, .int .i64 0, .int .i64 0, .slice none 0 0, .slice none 0 0, .slice none 0 0, .slice none 0 0, .slice none 0 0] 36)
    obtain ⟨w8, hw8⟩ : ∃ z, w7.alloc (.cells #[.int .i64 kk, .int .i64 0, .int .i64 0, .int .i64 0, .int .i64 0, .int .i64 0, .int .i64 0, .int .i64 0, .slice none 0 0, .slice none 0 0, .slice none 0 0, .slice none 0 0, .slice none 0 0] 36) = z := ⟨_, rfl⟩
    rw [hw8] at N8 X8
    obtain ⟨S8, T8⟩ := Sep.new (WrF.obj a) (B := BxF w7.heap.size) (G := fun k => k = w7.heap.size) (t := zeA kk) y1 X8 ⟨N8, fun _ => Iff.rfl⟩ (fun k hk => Nat.le_of_eq hk.symm)
    have I8 := Lib.hid (st1.trans T8)
    have HS8 := Lib.hid S8
    have HW8 := Lib.hid hw8
    obtain ⟨q8, d8⟩ := ho_keep HAL.out HDD.out I8.out
    have HQ8 := Lib.hid q8
    have HD8 := Lib.hid d8
    have HN8 := Lib.hid N8
    clear S8 T8 X8 hw8 y1 st1 q8 d8 N8
    have hgb : BoxIs (w7.alloc (.cells #[.int .i64 kk, .int .i64 0, .int .i64 0, .int .i64 0, .int .i64 0, .int .i64 0, .int .i64 0, .int .i64 0, .slice none 0 0, .slice none 0 0, .slice none 0 0, .slice none 0 0, .slice none 0 0] 36)) w3.heap.size (sqA (takeS ⟨gk, gm, ga, gb, gc, gd, gx, gy, L, s0, s1, s2, s3⟩) L' s0' s1' s2' s3') 36 := by rw [HW8.out]; exact HQ8.out.get.1.2
    obtain ⟨aL', lL', cL', rfl⟩ := HQ8.out.get.2.1.slf
    obtain ⟨a0', l0', c0', rfl⟩ := HQ8.out.get.2.2.1.slf
    obtain ⟨a1', l1', c1', rfl⟩ := HQ8.out.get.2.2.2.1.slf
    obtain ⟨a2', l2', c2', rfl⟩ := HQ8.out.get.2.2.2.2.1.slf
    obtain ⟨a3', l3', c3', rfl⟩ := HQ8.out.get.2.2.2.2.2.slf
    obtain ⟨⟨r0, r1, r2, r3, r4, r5, r6, r7, r8, r9, r10, r11, r12⟩, -⟩ := sq_cells hgb
    go_wp2_with fail
    rw [HW8.out]
    clear hgb HW8 r0 r1 r2 r3 r4 r5 r6 r7 r8 r9 r10 r11 r12
    obtain ⟨r, hr⟩ : ∃ r, (ptP kk (takeS ⟨gk, gm, ga, gb, gc, gd, gx, gy, L, s0, s1, s2, s3⟩)).run mE t1 = r := ⟨_, rfl⟩
    have UP := mwparts_any a w7.heap.size _  kk (takeS ⟨gk, gm, ga, gb, gc, gd, gx, gy, L, s0, s1, s2, s3⟩) _ _ _ _ _ _ t1 _ w8 hkk HS8.out hk1 (by omega) HFS.out (HQ8.out.imp (fun W h => h.2)) HD8.out
    rw [hr] at UP
    have HR := Lib.hid hr
    have HEK := Lib.hid ek
    refine UP.mono ?_; rintro e w9 ⟨⟨⟨t2, cs⟩, P9⟩, G9, hc, h9, st9⟩
    have I9 := Lib.hid (I8.out.trans st9)
    have HS9 := Lib.hid h9
    obtain ⟨q9, d9⟩ := ho_keep HAL.out HDD.out I9.out
    have A9 := Lib.hid q9.get.1.1.2
    have hn9 : ¬ G9 (w.heap.size + 1) := d9 _ (.inl (.inl (.inr rfl)))
    have HN9 := Lib.hid hn9
    have hZ : Step F w G9 w9 := (Step.of_ext (F := F) HE6.out).trans I9.out
    have HZ := Lib.hid hZ
    clear UP hr ek hk1 h9 st9 q9 d9 hn9 hZ I8 HS8 HQ8 HD8 HN8 HK
    obtain ⟨⟨f, q'⟩, t3⟩ := r
    obtain ⟨rfl, hc⟩ : t2 = t3 ∧ _ := hc
    have hans : (none, partS ⟨gk, gm, ga, gb, gc, gd, gx, gy, L, s0, s1, s2, s3⟩) = (f, q') ∧ sqW key ⟨gk, gm, ga, gb, gc, gd, gx, gy, L, s0, s1, s2, s3⟩ s = ((f, q'), t2) := by
      obtain ⟨a1, a2, a3⟩ := HTL.out
      have e1 : (sqP key gk (takeS ⟨gk, gm, ga, gb, gc, gd, gx, gy, L, s0, s1, s2, s3⟩)).run mE s = ((inF kk f, q'), t2) := by
        unfold sqP fiP
        rw [Pg.run_bind, HEK.out]
        show ((ptP kk (takeS ⟨gk, gm, ga, gb, gc, gd, gx, gy, L, s0, s1, s2, s3⟩)).bind _).run mE t1 = _
        rw [Pg.run_bind, HR.out]
        rfl
      have e2 := a2.symm.trans e1
      rw [a1] at e2
      have e3 : (none, partS ⟨gk, gm, ga, gb, gc, gd, gx, gy, L, s0, s1, s2, s3⟩) = (inF kk f, q') := congrArg Prod.fst e2
      have e4 : f = none := by cases f with | none => rfl | some g => exact absurd (congrArg Prod.fst e3) (by simp [inF])
      subst e4
      refine ⟨e3, ?_⟩
      unfold sqW
      rw [HFA.out]
      show ((none, partS ⟨gk, gm, ga, gb, gc, gd, gx, gy, L, s0, s1, s2, s3⟩), ((sqP key gk (takeS ⟨gk, gm, ga, gb, gc, gd, gx, gy, L, s0, s1, s2, s3⟩)).run mE s).2) = _
      rw [e1, show partS ⟨gk, gm, ga, gb, gc, gd, gx, gy, L, s0, s1, s2, s3⟩ = q' from congrArg Prod.snd e3]
    obtain ⟨hf1, hans⟩ := hans
    obtain rfl : f = none := (congrArg Prod.fst hf1).symm
    have HAN := Lib.hid hans
    clear hf1 hans
    obtain ⟨nL, n0, n1, n2, n3, rfl, hcs, hP⟩ := hc
    obtain rfl : cs = _ := hcs
    have hlists := hP _ (bx_has HS9.out)
    obtain ⟨aM, lM, cM, rfl⟩ := hlists.1.slf
    obtain ⟨z0, i0, j0, rfl⟩ := hlists.2.1.slf
    obtain ⟨z1, i1, j1, rfl⟩ := hlists.2.2.1.slf
    obtain ⟨z2, i2, j2, rfl⟩ := hlists.2.2.2.1.slf
    obtain ⟨z3, i3, j3, rfl⟩ := hlists.2.2.2.2.slf
    clear hlists
    obtain ⟨nk, nm, na, nb, nc, nd, nx, ny, nLs, n0s, n1s, n2s, n3s⟩ := q'
    obtain ⟨⟨r0, r1, r2, r3, r4, r5, r6, r7, r8, r9, r10, r11, r12⟩, -⟩ := sq_cells (bx_box HS9.out)
    obtain ⟨⟨e0, e1, e2, e3, e4, e5, e6, e7, e8, e9, e10, e11, e12⟩, f0, f1, f2, f3, f4, f5, f6, f7, f8, f9, f10, f11, f12⟩ := sq_cells A9.out
    skip
    go_wp2
    obtain ⟨⟨g0, g1, g2, g3, g4, g5, g6, g7, g8, g9, g10, g11, g12⟩, -⟩ := sq_cells (sq_put (v0 := .int .i64 nk) (v1 := .int .i64 nm) (v2 := .int .i64 na) (v3 := .int .i64 nb) (v4 := .int .i64 nc) (v5 := .int .i64 nd) (v6 := .int .i64 nx) (v7 := .int .i64 ny) (v8 := .slice aM lM cM) (v9 := .slice z0 i0 j0) (v10 := .slice z1 i1 j1) (v11 := .slice z2 i2 j2) (v12 := .slice z3 i3 j3) A9.out)
    exact bodyPost_ret (v := .tuple #[.agg #[.int .i64 nk, .int .i64 nm, .int .i64 na, .int .i64 nb, .int .i64 nc, .int .i64 nd, .int .i64 nx, .int .i64 ny, .slice aM lM cM, .slice z0 i0 j0, .slice z1 i1 j1, .slice z2 i2 j2, .slice z3 i3 j3], .nilIface]) (by simp [results, Tryz.results11, go_sem, g0, g1, g2, g3, g4, g5, g6, g7, g8, g9, g10, g11, g12]) rfl (by
        obtain ⟨GG, k1, k2⟩ := drop_mid (WrF.obj a) HS9.out
        obtain ⟨o1, o2⟩ := ret_set (b := w.heap.size + 1) ((WrF.obj a).sep HoF.obj) k1 (HZ.out.sub k2) (by omega) (fun h => HN9.out (k2 _ h)) (.int .i64 nk) (.int .i64 nm) (.int .i64 na) (.int .i64 nb) (.int .i64 nc) (.int .i64 nd) (.int .i64 nx) (.int .i64 ny) (.slice aM lM cM) (.slice z0 i0 j0) (.slice z1 i1 j1) (.slice z2 i2 j2) (.slice z3 i3 j3)
        exact SqR.done HAN.out o1 o2 (fun W h => ⟨hP W h, rfl⟩))
end Go.Proofs.YtpofabebmeickaaGreatDoor

