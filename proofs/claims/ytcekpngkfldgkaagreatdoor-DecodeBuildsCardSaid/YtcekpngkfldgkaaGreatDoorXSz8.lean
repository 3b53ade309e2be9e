/- syntax.Code of any square. -/
import Derived.Test.YtcekpngkfldgkaaGreatDoorXTk
import Derived.Test.YtcekpngkfldgkaaGreatDoorXSz7
namespace Go.Proofs.YtcekpngkfldgkaaGreatDoor
set_option linter.unusedVariables false
set_option linter.unusedSimpArgs false
open Go.RowKit Go.Extern.Stop Go.Stop Go.Extern
section
variable {σ τ : Type} {A : World → (Nat → Prop) → σ → Prop} {B : World → (Nat → Prop) → τ → Prop} {w w' : World}
theorem Obj.setc (oa : Obj A) {F : Nat → Prop} {s : σ} {p : Addr} (h : A w F s) (hp : ¬ F p.block) (v : Value) : A (w.setCell p v) F s := oa.same h (fun i hi => Below.heap_setCell w p v i (fun e => hp (e ▸ hi)))
theorem Step.setc {F G : Nat → Prop} {p : Addr} (h : Step F w G w') (hp : w.heap.size ≤ p.block) (v : Value) : Step F w G (w'.setCell p v) :=
 ⟨⟨⟨h.1.1.1, h.1.1.2.1, h.1.1.2.2⟩, by have := h.1.2.1; simpa using this, fun k hk hn => (Below.heap_setCell w' p v k (by omega)).trans (h.1.2.2 k hk hn)⟩, h.2⟩
theorem Step.sub {F G G' : Nat → Prop} (h : Step F w G w') (hs : ∀ k, G' k → G k) : Step F w G' w' := ⟨h.1, fun k hk => h.2 k (hs k hk)⟩
theorem drop_mid (oa : Obj A) {F : Nat → Prop} {s : σ} {t : τ} {P : World → Prop} (h : Sep (Sep A B) HoF w F ((s, t), P)) : ∃ G, Sep A HoF w G (s, P) ∧ ∀ k, G k → F k := by
 obtain ⟨F12, F3, ⟨F1, F2, g1, g2, d1, g4⟩, g3, d2, hF⟩ := h
 exact ⟨fun k => F1 k ∨ F3 k, ⟨F1, F3, g1, g3, fun k hk hf => d2 k hk ((g4 k).2 (.inl hf)), fun _ => Iff.rfl⟩, fun k hk => hk.elim (fun h => (hF k).2 (.inl ((g4 k).2 (.inl h)))) (fun h => (hF k).2 (.inr h))⟩
end
theorem bag_addF {σ : Type} {A : World → (Nat → Prop) → σ → Prop} (a : Obj A) {w0 w w' : World} {F0 F : Nat → Prop} {s : σ} {X : Nat → Prop} {P Q : World → Prop} (h : Sep A HoF w F (s, P)) (st : Step F0 w0 F w) (k : Ext w w') (hq : HoF w' X Q) (hx : ∀ i, X i → w.heap.size ≤ i) : ∃ G, Sep A HoF w' G (s, fun W => P W ∧ Q W) ∧ Step F0 w0 G w' ∧ ∀ i, G i → F i ∨ w.heap.size ≤ i := by
 obtain ⟨F1, F2, h1, h2, h3, h4⟩ := h
 refine ⟨fun i => F i ∨ X i, ⟨F1, fun i => F2 i ∨ X i, Obj.ext a h1 k, (h2.ext k).and hq, ?_, fun i => ?_⟩, ⟨(st.ext k).1, ?_⟩, ?_⟩
 · rintro i (hi | hi) hf
   · exact h3 i hi hf
   · have := a.lt h1 i hf
     have := hx i hi
     omega
 · show (F i ∨ X i) ↔ (F1 i ∨ (F2 i ∨ X i))
   rw [h4 i, or_assoc]
 · rintro i (hi | hi)
   · exact st.2 i hi
   · exact .inr (Nat.le_trans st.1.2.1 (hx i hi))
 · rintro i (hi | hi)
   · exact .inl hi
   · exact .inr (hx i hi)
theorem in_hold (s : ByteArray) (n : Int) (xt : TypeId) (xv : Value) (w : World) : Calls Tryz.prog 44 #[.string s, .int .i64 n, .iface xt xv] w fun e w' => ∃ u b, e = .returned u ∧ Ext w w' ∧ w.heap.size ≤ b ∧ HoF w' (fun k => k = b) (fun W => ∀ p c, IsErr W p c (.iface xt xv) → IsErr W ((s, n) :: p) c u) := by
 have E1 : Ext w (w.alloc (.cells #[.string s, .int .i64 n, .iface xt xv] 120)) := (Ext.refl w).alloc _
 go_enter Tryz.func44, Tryz.ntmps44
 go_wp2
 go_ret
 refine ⟨_, w.heap.size, rfl, E1, Nat.le_refl _, ?_⟩
 exact ((HoF.cell (v := .string s) (o := 0) (by simp)).and' ((HoF.cell (v := .int .i64 n) (o := 1) (by simp)).and' (HoF.cell (v := .iface xt xv) (o := 2) (by simp)))).imp (fun W h p c hi => ⟨w.heap.size, _, rfl, h.1, h.2.1, h.2.2, hi⟩)
def SqR {σ : Type} (r : (Fall × Sq) × Ms σ) (e : Ending) (z : Ms σ × (World → Prop)) : Prop := ∃ L s0 s1 s2 s3 x, e = .returned (.tuple #[sqQ r.1.2 L s0 s1 s2 s3, x]) ∧ z = (r.2, fun W => SqIs W r.1.2 L s0 s1 s2 s3 ∧ ErrIs W r.1.1 x)
theorem SqR.done {σ : Type} {A : World → (Nat → Prop) → Ms σ → Prop} {F G : Nat → Prop} {w w' : World} {r : (Fall × Sq) × Ms σ} {f : Fall} {q : Sq} {s : Ms σ} {L s0 s1 s2 s3 x : Value} {P : World → Prop} (hr : r = ((f, q), s)) (h : Sep A HoF w' G (s, P)) (st : Step F w G w') (hP : ∀ W, P W → SqIs W q L s0 s1 s2 s3 ∧ ErrIs W f x) : QPost (Sep A HoF) (SqR r) F w (.returned (.tuple #[sqQ q L s0 s1 s2 s3, x])) w' := by
 subst hr
 exact ⟨(s, fun W => SqIs W q L s0 s1 s2 s3 ∧ ErrIs W f x), G, ⟨L, s0, s1, s2, s3, x, rfl, rfl⟩, h.imp (fun _ h => h.imp hP), st⟩
theorem SqIs.nil (W : World) (k : Int) : SqIs W { sq0 with k := k } nilS nilS nilS nilS nilS := ⟨Ints.nil W, Ints.nil W, Ints.nil W, Ints.nil W, Ints.nil W⟩
theorem ret_set {σ : Type} {A : World → (Nat → Prop) → σ → Prop} (oa : Obj A) {F G : Nat → Prop} {w w' : World} {s : σ} {b : Nat} (h : A w' G s) (st : Step F w G w') (hb : w.heap.size ≤ b) (hn : ¬ G b) (v0 v1 v2 v3 v4 v5 v6 v7 v8 v9 v10 v11 v12 : Value) :
 A (((((((((((((w'.setCell ⟨b, 0, none⟩ v0).setCell ⟨b, 1, none⟩ v1).setCell ⟨b, 2, none⟩ v2).setCell ⟨b, 3, none⟩ v3).setCell ⟨b, 4, none⟩ v4).setCell ⟨b, 5, none⟩ v5).setCell ⟨b, 6, none⟩ v6).setCell ⟨b, 7, none⟩ v7).setCell ⟨b, 8, none⟩ v8).setCell ⟨b, 9, none⟩ v9).setCell ⟨b, 10, none⟩ v10).setCell ⟨b, 11, none⟩ v11).setCell ⟨b, 12, none⟩ v12) G s ∧ Step F w G (((((((((((((w'.setCell ⟨b, 0, none⟩ v0).setCell ⟨b, 1, none⟩ v1).setCell ⟨b, 2, none⟩ v2).setCell ⟨b, 3, none⟩ v3).setCell ⟨b, 4, none⟩ v4).setCell ⟨b, 5, none⟩ v5).setCell ⟨b, 6, none⟩ v6).setCell ⟨b, 7, none⟩ v7).setCell ⟨b, 8, none⟩ v8).setCell ⟨b, 9, none⟩ v9).setCell ⟨b, 10, none⟩ v10).setCell ⟨b, 11, none⟩ v11).setCell ⟨b, 12, none⟩ v12) := by
 constructor
 · repeat refine oa.setc ?_ (by exact hn) _
   exact h
 · repeat refine Step.setc ?_ (by exact hb) _
   exact st
theorem mrparts_any (a p N : Nat) (bs : List Nat) (hb : ∀ x ∈ bs, x < 256) (k : Int) (q : Sq) (vL v0 v1 v2 v3 : Value) (X : Nat → Prop) (s : Ms Dc) (F : Nat → Prop) (w : World) (hk3 : 0 ≤ k ∧ k ≤ 3) (h : Sep (RdF a bs) (BxF p) w F (s, zeA k)) (hk : okS okDm N s) (hN : N ≤ 3850000) (hf : FullS q) (hx : HoF w X (fun W => SqIs W q vL v0 v1 v2 v3)) (hd : ∀ k, X k → ¬ F k) : Calls Tryz.prog 113 #[.pointer (some ⟨p, 0, none⟩), .iface 122 (.pointer (some ⟨a, 0, none⟩)), sqQ q vL v0 v1 v2 v3] w (QPost (Sep (Sep (RdF a bs) (BxF p)) HoF) (CpR k ((ptP k q).run (mD bs) s)) F w) := by
 obtain ⟨f1, f2, f3, f4, f5⟩ := hf
 have e2 := (lvE_none f2).1
 have e3 := (lvE_none f3).1
 have e4 := (lvE_none f4).1
 have e5 := (lvE_none f5).1
 obtain ⟨gk, gm, ga, gb, gc, gd, gx, gy, L, s0, s1, s2, s3⟩ := q
 dsimp only at *
 rcases (by omega : k = 0 ∨ k = 1 ∨ k = 2 ∨ k = 3) with rfl | rfl | rfl | rfl
 · exact mrparts_0 a p N bs hb gk gm ga gb gc gd gx gy L s0 s1 s2 s3 vL v0 v1 v2 v3 X s F w h hx
 · exact mrparts_1 a p N bs hb gk gm ga gb gc gd gx gy L s0 s1 s2 s3 vL v0 v1 v2 v3 X s F w h hk hN hx hd
 · exact mrparts_2 a p N bs hb gk gm ga gb gc gd gx gy L s0 s1 s2 s3 vL v0 v1 v2 v3 X s F w h hk hN hx hd
 · exact mrparts_3 a p N bs hb gk gm ga gb gc gd gx gy L s0 s1 s2 s3 vL v0 v1 v2 v3 X s F w h hk hN hx hd ⟨by omega, by omega, by omega, by omega⟩
def sqD (key : Bool) (bs : List Nat) (k : Int) (s : Ms Dc) : (Fall × Sq) × Ms Dc := (sqP key k (blS 0)).run (mD bs) s
set_option maxHeartbeats 8000000 in
set_option maxRecDepth 20000 in
theorem mrsq_any (a N : Nat) (bs : List Nat) (hb : ∀ x ∈ bs, x < 256) (key : Bool) (q : Sq) (vL v0 v1 v2 v3 : Value) (s : Ms Dc) (F : Nat → Prop) (w : World) (h : RdF a bs w F s) (hk : okS okDm N s) (hN : N ≤ 3840000) (hL : SlF vL) (hs0 : SlF v0) (hs1 : SlF v1) (hs2 : SlF v2) (hs3 : SlF v3) : Calls Tryz.prog 76 #[.iface 122 (.pointer (some ⟨a, 0, none⟩)), .bool key, sqQ q vL v0 v1 v2 v3] w (QPost (Sep (RdF a bs) HoF) (SqR (sqD key bs q.k s)) F w) := by
 obtain ⟨aL, lL, cL, rfl⟩ := hL
 obtain ⟨a0, l0, c0, rfl⟩ := hs0
 obtain ⟨a1, l1, c1, rfl⟩ := hs1
 obtain ⟨a2, l2, c2, rfl⟩ := hs2
 obtain ⟨a3, l3, c3, rfl⟩ := hs3
 have HW0 := Lib.hid h
 have hFl : ∀ k, F k → k < w.heap.size := fun k hk => (RdF.obj a bs).lt h k hk
 have HFL := Lib.hid hFl
 have HK := Lib.hid hk
 clear h hFl hk
 obtain ⟨gk, gm, ga, gb, gc, gd, gx, gy, L, s0, s1, s2, s3⟩ := q
 have A0 := (BoxIs.new w #[.int .i64 gk, .int .i64 gm, .int .i64 ga, .int .i64 gb, .int .i64 gc, .int .i64 gd, .int .i64 gx, .int .i64 gy, .slice aL lL cL, .slice a0 l0 c0, .slice a1 l1 c1, .slice a2 l2 c2, .slice a3 l3 c3] 30).ext ((Ext.refl _).alloc (.cells #[.int .i64 0, .int .i64 0, .int .i64 0, .int .i64 0, .int .i64 0, .int .i64 0, .int .i64 0, .int .i64 0, .slice none 0 0, .slice none 0 0, .slice none 0 0, .slice none 0 0, .slice none 0 0] 30))
 have A1 := BoxIs.new (w.alloc (.cells #[.int .i64 gk, .int .i64 gm, .int .i64 ga, .int .i64 gb, .int .i64 gc, .int .i64 gd, .int .i64 gx, .int .i64 gy, .slice aL lL cL, .slice a0 l0 c0, .slice a1 l1 c1, .slice a2 l2 c2, .slice a3 l3 c3] 30)) #[.int .i64 0, .int .i64 0, .int .i64 0, .int .i64 0, .int .i64 0, .int .i64 0, .int .i64 0, .int .i64 0, .slice none 0 0, .slice none 0 0, .slice none 0 0, .slice none 0 0, .slice none 0 0] 30
 have hs : (w.alloc (.cells #[.int .i64 gk, .int .i64 gm, .int .i64 ga, .int .i64 gb, .int .i64 gc, .int .i64 gd, .int .i64 gx, .int .i64 gy, .slice aL lL cL, .slice a0 l0 c0, .slice a1 l1 c1, .slice a2 l2 c2, .slice a3 l3 c3] 30)).heap.size = w.heap.size + 1 := by simp
 rw [hs] at A1
 have E2 := ((Ext.refl w).alloc (.cells #[.int .i64 gk, .int .i64 gm, .int .i64 ga, .int .i64 gb, .int .i64 gc, .int .i64 gd, .int .i64 gx, .int .i64 gy, .slice aL lL cL, .slice a0 l0 c0, .slice a1 l1 c1, .slice a2 l2 c2, .slice a3 l3 c3] 30)).alloc (.cells #[.int .i64 0, .int .i64 0, .int .i64 0, .int .i64 0, .int .i64 0, .int .i64 0, .int .i64 0, .int .i64 0, .slice none 0 0, .slice none 0 0, .slice none 0 0, .slice none 0 0, .slice none 0 0] 30)
 obtain ⟨w2, hw2⟩ : ∃ z, (w.alloc (.cells #[.int .i64 gk, .int .i64 gm, .int .i64 ga, .int .i64 gb, .int .i64 gc, .int .i64 gd, .int .i64 gx, .int .i64 gy, .slice aL lL cL, .slice a0 l0 c0, .slice a1 l1 c1, .slice a2 l2 c2, .slice a3 l3 c3] 30)).alloc (.cells #[.int .i64 0, .int .i64 0, .int .i64 0, .int .i64 0, .int .i64 0, .int .i64 0, .int .i64 0, .int .i64 0, .slice none 0 0, .slice none 0 0, .slice none 0 0, .slice none 0 0, .slice none 0 0] 30) = z := ⟨_, rfl⟩
 rw [hw2] at A0 A1 E2
 have HW2 := Lib.hid hw2
 have A0 := Lib.hid A0
 have A1 := Lib.hid A1
 have E2 := Lib.hid E2
 clear hw2 hs
 unfold sqQ sqV
 go_enter Tryz.func76, Tryz.ntmps76
 go_wp2_with fail
 have hw2 := HW2.out
 rw [hw2]
 clear hw2 HW2
 refine (blank_own _).mono ?_; rintro e w3 ⟨bL, b0, b1, b2, b3, Y, rfl, x3, y3, z3⟩
 have G0 := BoxIs.new w3 #[.int .i64 0, .int .i64 0, .int .i64 0, .int .i64 0, .int .i64 0, .int .i64 0, .int .i64 0, .int .i64 0, .slice (some bL) 64 64, .slice (some b0) 16 16, .slice (some b1) 16 16, .slice (some b2) 16 16, .slice (some b3) 16 16] 30
 have x3' := x3.alloc (.cells #[.int .i64 0, .int .i64 0, .int .i64 0, .int .i64 0, .int .i64 0, .int .i64 0, .int .i64 0, .int .i64 0, .slice (some bL) 64 64, .slice (some b0) 16 16, .slice (some b1) 16 16, .slice (some b2) 16 16, .slice (some b3) 16 16] 30)
 have y3' := y3.ext ((Ext.refl w3).alloc (.cells #[.int .i64 0, .int .i64 0, .int .i64 0, .int .i64 0, .int .i64 0, .int .i64 0, .int .i64 0, .int .i64 0, .slice (some bL) 64 64, .slice (some b0) 16 16, .slice (some b1) 16 16, .slice (some b2) 16 16, .slice (some b3) 16 16] 30))
 have hyl : ∀ k, Y k → w2.heap.size ≤ k ∧ k < w3.heap.size := fun k hk => ⟨z3 k hk, y3.1 k hk⟩
 have HG := Lib.hid G0
 have HX := Lib.hid x3'
 have HY := Lib.hid y3'
 have HYL := Lib.hid hyl
 have hlt : w2.heap.size ≤ w3.heap.size := x3.size
 clear G0 x3 x3' y3 y3' z3 hyl
 unfold sqV
 go_wp2_with fail
 generalize hu : w3.alloc (.cells #[.int .i64 0, .int .i64 0, .int .i64 0, .int .i64 0, .int .i64 0, .int .i64 0, .int .i64 0, .int .i64 0, .slice (some bL) 64 64, .slice (some b0) 16 16, .slice (some b1) 16 16, .slice (some b2) 16 16, .slice (some b3) 16 16] 30) = u3
 rw [hu] at HG HX HY
 clear hu
 refine (isr_r _ _).mono ?_; rintro e w4 ⟨rfl, x4⟩
 have E4 := Lib.hid (HX.out.trans x4)
 have G4 := Lib.hid (HG.out.ext x4)
 have Y4 := Lib.hid (HY.out.ext x4)
 have hsz : w.heap.size + 2 ≤ w2.heap.size := by have := A1.out.lt; omega
 clear x4 HG HX HY
 obtain ⟨⟨k0, k1, k2, k3, k4, k5, k6, k7, k8, k9, k10, k11, k12⟩, -⟩ := sq_cells (A0.out.ext E4.out)
 have hA : HoF w4 (fun k => k = w.heap.size ∨ k = w.heap.size + 1) (fun W => BoxIs W w.heap.size #[.int .i64 gk, .int .i64 gm, .int .i64 ga, .int .i64 gb, .int .i64 gc, .int .i64 gd, .int .i64 gx, .int .i64 gy, .slice aL lL cL, .slice a0 l0 c0, .slice a1 l1 c1, .slice a2 l2 c2, .slice a3 l3 c3] 30 ∧ BoxIs W (w.heap.size + 1) #[.int .i64 0, .int .i64 0, .int .i64 0, .int .i64 0, .int .i64 0, .int .i64 0, .int .i64 0, .int .i64 0, .slice none 0 0, .slice none 0 0, .slice none 0 0, .slice none 0 0, .slice none 0 0] 30) := (HoF.box (A0.out.ext E4.out)).and (HoF.box (A1.out.ext E4.out))
 have e06 : Ext w w4 := E2.out.trans E4.out
 have hAll := (hA.and (HoF.box (cs := sqA (blS 0) (.slice (some bL) 64 64) (.slice (some b0) 16 16) (.slice (some b1) 16 16) (.slice (some b2) 16 16) (.slice (some b3) 16 16)) G4.out)).and Y4.out
 have hDD : ∀ k, (((k = w.heap.size ∨ k = w.heap.size + 1) ∨ k = w3.heap.size) ∨ Y k) → ¬ F k := by
  rintro k (((rfl | rfl) | rfl) | hk) hf
  · have := HFL.out _ hf; omega
  · have := HFL.out _ hf; omega
  · have := HFL.out _ hf; omega
  · have := HFL.out _ hf; have := HYL.out _ hk; omega
 have HE6 := Lib.hid e06
 have HAL := Lib.hid hAll
 have HDD := Lib.hid hDD
 have HFS := Lib.hid (FullS.bl 0)
 clear hA e06 hAll hDD G4 Y4 HYL E4 A0 A1
 obtain ⟨w6, h6⟩ : ∃ z, z = w4 := ⟨_, rfl⟩
 subst h6
 clear k0 k1 k2 k3 k4 k5 k6 k7 k8 k9 k10 k11 k12
 have k0 := HAL.out.get.1.1.1.cell (i := 0) (v := .int .i64 gk) rfl
 go_wp2_with fail
 obtain ⟨⟨kk, t1⟩, ek⟩ : ∃ r, (kyP key gk).run (mD bs) s = r := ⟨_, rfl⟩
 have hkk : 0 ≤ kk ∧ kk ≤ 3 := by have h := ky_in (M := (mD bs)) key gk s; rw [ek] at h; simp only [okK, Bool.and_eq_true, decide_eq_true_eq] at h; exact h.1
 have hk1 := Pg.ok (mkD hb) (ky_dep key gk) HK.out
 rw [ek] at hk1
 have U7 := mrckind_any a N bs hb key gk s F w6 (Obj.ext (RdF.obj a bs) HW0.out HE6.out) HK.out (by omega)
 rw [ek] at U7
 refine U7.mono ?_; rintro e w7 ⟨rfl, F1, y1, st1⟩
 clear U7 k0
 dsimp only
 have N8 := BoxIs.new w7 #[.int .i64 kk, .int .i64 0, .int .i64 0, .int .i64 0, .int .i64 0, .int .i64 0, .int .i64 0, .int .i64 0, .slice none 0 0, .slice none 0 0, .slice none 0 0, .slice none 0 0, .slice none 0 0] 30
 have X8 := (Ext.refl w7).alloc (.cells #[.int .i64 kk, .int .i64 0, .int .i64 0, .int .i64 0, .int .i64 0, .int .i64 0, .int .i64 0, .int .i64 0, .slice none 0 0, .slice none 0 0, .slice none 0 0, .slice none 0 0, .slice none 0 0] 30)
 obtain ⟨w8, hw8⟩ : ∃ z, w7.alloc (.cells #[.int .i64 kk, .int .i64 0, .int .i64 0, .int .i64 0, .int .i64 0, .int .i64 0, .int .i64 0, .int .i64 0, .slice none 0 0, .slice none 0 0, .slice none 0 0, .slice none 0 0, .slice none 0 0] 30) = z := ⟨_, rfl⟩
 rw [hw8] at N8 X8
 obtain ⟨S8, T8⟩ := Sep.new (RdF.obj a bs) (B := BxF w7.heap.size) (G := fun k => k = w7.heap.size) (t := zeA kk) y1 X8 ⟨N8, fun _ => Iff.rfl⟩ (fun k hk => Nat.le_of_eq hk.symm)
 have I8 := Lib.hid (st1.trans T8)
 have HS8 := Lib.hid S8
 have HW8 := Lib.hid hw8
 obtain ⟨q8, d8⟩ := ho_keep HAL.out HDD.out I8.out
 have HQ8 := Lib.hid q8
 have HD8 := Lib.hid d8
 have HN8 := Lib.hid N8
 clear S8 T8 X8 hw8 y1 st1 q8 d8 N8
 have hgb : BoxIs (w7.alloc (.cells #[.int .i64 kk, .int .i64 0, .int .i64 0, .int .i64 0, .int .i64 0, .int .i64 0, .int .i64 0, .int .i64 0, .slice none 0 0, .slice none 0 0, .slice none 0 0, .slice none 0 0, .slice none 0 0] 30)) w3.heap.size (sqA (blS 0) (.slice (some bL) 64 64) (.slice (some b0) 16 16) (.slice (some b1) 16 16) (.slice (some b2) 16 16) (.slice (some b3) 16 16)) 30 := by rw [HW8.out]; exact HQ8.out.get.1.2
 obtain ⟨⟨r0, r1, r2, r3, r4, r5, r6, r7, r8, r9, r10, r11, r12⟩, -⟩ := sq_cells hgb
 go_wp2_with fail
 rw [HW8.out]
 clear hgb HW8 r0 r1 r2 r3 r4 r5 r6 r7 r8 r9 r10 r11 r12
 obtain ⟨r, hr⟩ : ∃ r, (ptP kk (blS 0)).run (mD bs) t1 = r := ⟨_, rfl⟩
 have UP := mrparts_any a w7.heap.size _ bs hb kk (blS 0) _ _ _ _ _ _ t1 _ w8 hkk HS8.out hk1 (by omega) HFS.out (HQ8.out.imp (fun W h => h.2)) HD8.out
 rw [hr] at UP
 have HR := Lib.hid hr
 have HEK := Lib.hid ek
 refine UP.mono ?_; rintro e w9 ⟨⟨⟨t2, cs⟩, P9⟩, G9, hc, h9, st9⟩
 have I9 := Lib.hid (I8.out.trans st9)
 have HS9 := Lib.hid h9
 obtain ⟨q9, d9⟩ := ho_keep HAL.out HDD.out I9.out
 have A9 := Lib.hid q9.get.1.1.2
 have hn9 : ¬ G9 (w.heap.size + 1) := d9 _ (.inl (.inl (.inr rfl)))
 have HN9 := Lib.hid hn9
 have hZ : Step F w G9 w9 := (Step.of_ext (F := F) HE6.out).trans I9.out
 have HZ := Lib.hid hZ
 clear UP hr ek hk1 h9 st9 q9 d9 hn9 hZ I8 HS8 HQ8 HD8 HN8 HK
 obtain ⟨⟨f, q'⟩, t3⟩ := r
 obtain ⟨rfl, hc⟩ : t2 = t3 ∧ _ := hc
 have hans : sqD key bs gk s = ((inF kk f, q'), t2) := by
  unfold sqD sqP fiP
  rw [Pg.run_bind, HEK.out]
  show ((ptP kk (blS 0)).bind _).run _ t1 = _
  rw [Pg.run_bind, HR.out]
  rfl
 have HAN := Lib.hid hans
 clear hans
 have hq0 : ∀ g, f = some g → q' = sq0 ∧ g.1.length ≤ 1 ∧ g.2 ≠ 0 := fun g hg => by
  rcases pt_got (M := (mD bs)) hkk HFS.out t1 with ⟨i, h⟩ | ⟨r, h, -⟩
  · rw [HR.out] at h
    have h0 := congrArg Prod.fst h
    dsimp only at h0
    rw [hg] at h0
    obtain rfl := Option.some.inj h0
    exact ⟨congrArg Prod.snd h, by simp, by show (3 : Int) ≠ 0; decide⟩
  · rw [HR.out] at h; have := congrArg Prod.fst h; rw [hg] at this; cases this
 have HQ0 := Lib.hid hq0
 clear hq0
 cases f with
 | none =>
   obtain ⟨nL, n0, n1, n2, n3, rfl, hcs, hP⟩ := hc
   obtain rfl : cs = _ := hcs
   have hlists := hP _ (bx_has HS9.out)
   obtain ⟨aM, lM, cM, rfl⟩ := hlists.1.slf
   obtain ⟨z0, i0, j0, rfl⟩ := hlists.2.1.slf
   obtain ⟨z1, i1, j1, rfl⟩ := hlists.2.2.1.slf
   obtain ⟨z2, i2, j2, rfl⟩ := hlists.2.2.2.1.slf
   obtain ⟨z3, i3, j3, rfl⟩ := hlists.2.2.2.2.slf
   clear hlists
   obtain ⟨nk, nm, na, nb, nc, nd, nx, ny, nLs, n0s, n1s, n2s, n3s⟩ := q'
   obtain ⟨⟨r0, r1, r2, r3, r4, r5, r6, r7, r8, r9, r10, r11, r12⟩, -⟩ := sq_cells (bx_box HS9.out)
   obtain ⟨⟨e0, e1, e2, e3, e4, e5, e6, e7, e8, e9, e10, e11, e12⟩, f0, f1, f2, f3, f4, f5, f6, f7, f8, f9, f10, f11, f12⟩ := sq_cells A9.out
   skip
   go_wp2
   obtain ⟨⟨g0, g1, g2, g3, g4, g5, g6, g7, g8, g9, g10, g11, g12⟩, -⟩ := sq_cells (sq_put (v0 := .int .i64 nk) (v1 := .int .i64 nm) (v2 := .int .i64 na) (v3 := .int .i64 nb) (v4 := .int .i64 nc) (v5 := .int .i64 nd) (v6 := .int .i64 nx) (v7 := .int .i64 ny) (v8 := .slice aM lM cM) (v9 := .slice z0 i0 j0) (v10 := .slice z1 i1 j1) (v11 := .slice z2 i2 j2) (v12 := .slice z3 i3 j3) A9.out)
   exact bodyPost_ret (v := .tuple #[.agg #[.int .i64 nk, .int .i64 nm, .int .i64 na, .int .i64 nb, .int .i64 nc, .int .i64 nd, .int .i64 nx, .int .i64 ny, .slice aM lM cM, .slice z0 i0 j0, .slice z1 i1 j1, .slice z2 i2 j2, .slice z3 i3 j3], .nilIface]) (by simp [results, Tryz.results76, go_sem, g0, g1, g2, g3, g4, g5, g6, g7, g8, g9, g10, g11, g12]) rfl (by
    obtain ⟨GG, k1, k2⟩ := drop_mid (RdF.obj a bs) HS9.out
    obtain ⟨o1, o2⟩ := ret_set (b := w.heap.size + 1) ((RdF.obj a bs).sep HoF.obj) k1 (HZ.out.sub k2) (by omega) (fun h => HN9.out (k2 _ h)) (.int .i64 nk) (.int .i64 nm) (.int .i64 na) (.int .i64 nb) (.int .i64 nc) (.int .i64 nd) (.int .i64 nx) (.int .i64 ny) (.slice aM lM cM) (.slice z0 i0 j0) (.slice z1 i1 j1) (.slice z2 i2 j2) (.slice z3 i3 j3)
    exact SqR.done HAN.out o1 o2 (fun W h => ⟨hP W h, rfl⟩))
 | some g =>
   obtain ⟨hq0, hq1, hq2⟩ := HQ0.out _ rfl
   obtain rfl : q' = sq0 := hq0
   obtain ⟨x, c1, c2, c3, c4, c5, c6, c7, c8, c9, c10, c11, c12, rfl, hcs, hP⟩ := hc
   obtain rfl : cs = _ := hcs
   obtain ⟨xt, xv, rfl⟩ := ErrIs.ne (hP _ (bx_has HS9.out))
   obtain ⟨g1, g2⟩ := g
   have r0 := (bx_box HS9.out).cell (i := 0) (v := .int .i64 kk) rfl
   go_wp2_with fail
   refine (in_hold synS kk xt xv _).mono ?_; rintro e wa ⟨u, b, rfl, xa, hba, hoa⟩
   obtain ⟨ut, uv, rfl⟩ := (hoa.get _ _ (((hP _ (bx_has HS9.out) : ErrIs w9 _ _).1).ext xa)).ne_nil
   have AA := Lib.hid (A9.out.ext xa)
   obtain ⟨⟨e0, e1, e2, e3, e4, e5, e6, e7, e8, e9, e10, e11, e12⟩, f0, f1, f2, f3, f4, f5, f6, f7, f8, f9, f10, f11, f12⟩ := sq_cells AA.out
   clear r0
   go_wp2
   obtain ⟨⟨g0, g1, g2, g3, g4, g5, g6, g7, g8, g9, g10, g11, g12⟩, -⟩ := sq_cells (sq_put (v0 := .int .i64 0) (v1 := .int .i64 0) (v2 := .int .i64 0) (v3 := .int .i64 0) (v4 := .int .i64 0) (v5 := .int .i64 0) (v6 := .int .i64 0) (v7 := .int .i64 0) (v8 := .slice none 0 0) (v9 := .slice none 0 0) (v10 := .slice none 0 0) (v11 := .slice none 0 0) (v12 := .slice none 0 0) AA.out)
   exact bodyPost_ret (v := .tuple #[.agg #[.int .i64 0, .int .i64 0, .int .i64 0, .int .i64 0, .int .i64 0, .int .i64 0, .int .i64 0, .int .i64 0, .slice none 0 0, .slice none 0 0, .slice none 0 0, .slice none 0 0, .slice none 0 0], .iface ut uv]) (by simp [results, Tryz.results76, go_sem, g0, g1, g2, g3, g4, g5, g6, g7, g8, g9, g10, g11, g12]) rfl (by
    obtain ⟨GG, k1, k2⟩ := drop_mid (RdF.obj a bs) HS9.out
    obtain ⟨GN, m1, m2, m3⟩ := bag_addF (RdF.obj a bs) k1 (HZ.out.sub k2) xa hoa (fun k hk => by rw [hk]; exact hba)
    have hnn : ¬ GN (w.heap.size + 1) := fun h => by
     rcases m3 _ h with h | h
     · exact HN9.out (k2 _ h)
     · have := A9.out.lt; omega
    obtain ⟨o1, o2⟩ := ret_set (b := w.heap.size + 1) ((RdF.obj a bs).sep HoF.obj) m1 m2 (by omega) hnn (.int .i64 0) (.int .i64 0) (.int .i64 0) (.int .i64 0) (.int .i64 0) (.int .i64 0) (.int .i64 0) (.int .i64 0) (.slice none 0 0) (.slice none 0 0) (.slice none 0 0) (.slice none 0 0) (.slice none 0 0)
    exact SqR.done (q := sq0) (L := nilS) (s0 := nilS) (s1 := nilS) (s2 := nilS) (s3 := nilS) HAN.out o1 o2 (fun W h => ⟨SqIs.nil W 0, h.2 _ _ (hP W h.1).1, hq2, by simp only [List.length_cons]; have := hq1; omega⟩))
end Go.Proofs.YtcekpngkfldgkaaGreatDoor