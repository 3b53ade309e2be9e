/- kinlaw20.SyntaxKinds: the walk. -/
import Derived.Test.YtpofabebmeickaaDoorSz9
import Derived.Test.YtpofabebmeickaaDoorZm
import Derived.Test.YtpofabebmeickaaDoorOpL
import Derived.Test.YtpofabebmeickaaDoorZk
namespace Go.Proofs.YtpofabebmeickaaDoor
set_option linter.unusedVariables false
set_option linter.unusedSimpArgs false
open Go.RowKit Go.Extern.Stop Go.Stop Go.Extern

theorem Bls.formK {w : World} {v : Value} {L : List Bool} (h : Bls w v L) : ∃ a cap, v = .slice a L.length cap := by
  obtain ⟨a, cap, e, -⟩ := h
  exact ⟨a, cap, e⟩
theorem Bls.hadK {w : World} {a : Option Addr} {n cap : Nat} {L : List Bool} (h : Bls w (.slice a n cap) L) (hn : 0 < L.length) : ∃ g off, a = some ⟨g, off, none⟩ ∧ ∀ q x, L[q]? = some x → w.cell? ⟨g, off + q, none⟩ = some (.bool x) := by
  obtain ⟨a', cap', e, -, h3⟩ := h
  simp only [Value.slice.injEq] at e
  obtain ⟨rfl, -, -⟩ := e
  exact h3 hn
theorem Bls.smallK {w : World} {v : Value} {L : List Bool} (h : Bls w v L) : L.length ≤ maxLen := by
  obtain ⟨_, _, _, h, _⟩ := h
  exact h
section
variable {σ τ : Type} {A : World → (Nat → Prop) → σ → Prop} {B : World → (Nat → Prop) → τ → Prop} {w0 w : World} {P : World → Prop}
/-- behind syntax.Code: the objects, the square and the error -/
def KqP {σ : Type} (B : World → (Nat → Prop) → σ → Prop) (P : World → Prop) (w0 : World) (s : σ) (f : Fall) (q : Sq) (e : Ending) (w' : World) : Prop := ∃ L s0 s1 s2 s3 x, e = .returned (.tuple #[sqQ q L s0 s1 s2 s3, x]) ∧ Uno (Sep B HoF) w0 w' (s, fun W => P W ∧ SqIs W q L s0 s1 s2 s3 ∧ ErrIs W f x)
theorem rsq_l (ob : Obj B) {a N : Nat} {bs : List Nat} (hb : ∀ x ∈ bs, x < 256) {key : Bool} {q q' : Sq} {f : Fall} {vL v0 v1 v2 v3 : Value} {s s' : Ms Dc} {t : τ} (h : Uno (Sep (Sep (RdF a bs) B) HoF) w0 w ((s, t), P)) (hk : okS okDm N s) (hN : N ≤ 3840000) (hr : sqD key bs q.k s = ((f, q'), s')) (hL : SlF vL) (h0 : SlF v0) (h1 : SlF v1) (h2 : SlF v2) (h3 : SlF v3) :
    Calls Tryd.prog 19 #[.iface 52 (.pointer (some ⟨a, 0, none⟩)), .bool key, sqQ q vL v0 v1 v2 v3] w (KqP (Sep (RdF a bs) B) P w0 (s', t) f q') := by
  refine (bag_ql ob h (fun G X hG hX hd hb' => mrsq_any a N bs hb key q vL v0 v1 v2 v3 s G w hG hk hN hL h0 h1 h2 h3)).mono ?_
  rintro e w' ⟨s2, P', ⟨L, s0, s1, s2', s3, x, rfl, hp⟩, hu⟩
  rw [hr] at hp ⊢
  obtain ⟨rfl, rfl⟩ := Prod.mk.inj hp
  exact ⟨L, s0, s1, s2', s3, x, rfl, hu⟩
theorem wsq_r (oa : Obj A) {a N : Nat} {key : Bool} {q q' : Sq} {f : Fall} {vL v0 v1 v2 v3 : Value} {s : σ} {t t' : Ms Ec} (h : Uno (Sep (Sep A (WrF a)) HoF) w0 w ((s, t), P)) (hk : okS okEm N t) (hg : gS t) (hN : N ≤ 3840000) (hr : sqW key q t = ((f, q'), t')) (hP : ∀ W, P W → SqIs W q vL v0 v1 v2 v3) :
    Calls Tryd.prog 19 #[.iface 54 (.pointer (some ⟨a, 0, none⟩)), .bool key, sqQ q vL v0 v1 v2 v3] w (KqP (Sep A (WrF a)) P w0 (s, t') f q') := by
  refine (bag_qr oa h (fun G X hG hX hd hb' => mwsq_any a N key q vL v0 v1 v2 v3 X t G w hG hk hg hN (hX.imp hP) hd)).mono ?_
  rintro e w' ⟨s2, P', ⟨L, s0, s1, s2', s3, x, rfl, hp⟩, hu⟩
  rw [hr] at hp ⊢
  obtain ⟨rfl, rfl⟩ := Prod.mk.inj hp
  exact ⟨L, s0, s1, s2', s3, x, rfl, hu⟩
end
theorem sep_lqX {σ σ' τ : Type} {A : World → (Nat → Prop) → σ → Prop} {A' : World → (Nat → Prop) → σ' → Prop} {B : World → (Nat → Prop) → τ → Prop} {w : World} (ob : Obj B) {f : FuncId} {args : Array Value} {R : Ending → σ' × (World → Prop) → Prop} {s : σ} {t : τ} {F : Nat → Prop} {P : World → Prop} (h : Sep (Sep A B) HoF w F ((s, t), P)) (c : ∀ G X, A w G s → HoF w X P → (∀ i, X i → ¬ G i) → Calls Tryd.prog f args w (QPost (Sep A' HoF) R G w)) :
    Calls Tryd.prog f args w (QPost (Sep (Sep A' B) HoF) (fun e z => ∃ s' P', R e (s', P') ∧ z = ((s', t), fun W => P W ∧ P' W)) F w) := by
  obtain ⟨F12, F3, ⟨F1, F2, g1, g2, d1, g4⟩, g3, d2, hF⟩ := h
  refine (c F1 F3 g1 g3 (fun i hi hf => d2 i hi ((g4 i).2 (.inl hf)))).mono ?_
  rintro e w' ⟨⟨s', P'⟩, G, hr, ⟨G1, G2, k1, k2, k3, k4⟩, st⟩
  obtain ⟨a1, a2, a3⟩ := st.apart (HoF.obj.lt g3) (fun i hi hf => d2 i hi ((g4 i).2 (.inl hf)))
  obtain ⟨b1, b2, b3⟩ := st.apart (ob.lt g2) d1
  refine ⟨((s', t), fun W => P W ∧ P' W), fun i => (G1 i ∨ F2 i) ∨ (F3 i ∨ G2 i), ⟨s', P', hr, rfl⟩, ⟨fun i => G1 i ∨ F2 i, fun i => F3 i ∨ G2 i, ⟨G1, F2, k1, ob.same g2 b1, fun i hi hg => b2 i hi ((k4 i).2 (.inl hg)), fun _ => Iff.rfl⟩, (HoF.obj.same g3 a1).and k2, ?_, fun _ => Iff.rfl⟩, ⟨st.1.1, st.1.2.1, fun k hk hn => st.1.2.2 k hk (fun hf => hn ((hF k).2 (.inl ((g4 k).2 (.inl hf)))))⟩, ?_⟩
  · rintro i (hi | hi) (hg | hg)
    · exact a2 i hi ((k4 i).2 (.inl hg))
    · exact d2 i hi ((g4 i).2 (.inr hg))
    · exact k3 i hi hg
    · exact b2 i hg ((k4 i).2 (.inr hi))
  · rintro i ((hi | hi) | (hi | hi))
    · exact (st.2 i ((k4 i).2 (.inl hi))).imp (fun h => (hF i).2 (.inl ((g4 i).2 (.inl h)))) id
    · exact .inl ((hF i).2 (.inl ((g4 i).2 (.inr hi))))
    · exact .inl ((hF i).2 (.inr hi))
    · exact (st.2 i ((k4 i).2 (.inr hi))).imp (fun h => (hF i).2 (.inl ((g4 i).2 (.inl h)))) id
theorem sep_swapF {σ τ : Type} {A : World → (Nat → Prop) → σ → Prop} {B : World → (Nat → Prop) → τ → Prop} {w : World} {s : σ} {t : τ} {F : Nat → Prop} {P : World → Prop} (h : Sep (Sep A B) HoF w F ((s, t), P)) : Sep (Sep B A) HoF w F ((t, s), P) := by
  obtain ⟨F12, F3, g, h1, h2, h3⟩ := h
  exact ⟨F12, F3, g.swap, h1, h2, h3⟩
/-- the writer's call, with a box of the caller's own beside all -/
theorem wsq_b {σ : Type} {A : World → (Nat → Prop) → σ → Prop} (oa : Obj A) {w0 w : World} {P : World → Prop} {a N b : Nat} {cs : Array Value} {key : Bool} {q q' : Sq} {f : Fall} {vL v0 v1 v2 v3 : Value} {s : σ} {t t' : Ms Ec} (h : Uno (Sep (Sep (Sep A (WrF a)) HoF) (BxF b)) w0 w (((s, t), P), cs)) (hk : okS okEm N t) (hg : gS t) (hN : N ≤ 3840000) (hr : sqW key q t = ((f, q'), t')) (hP : ∀ W, P W → SqIs W q vL v0 v1 v2 v3) :
    Calls Tryd.prog 19 #[.iface 54 (.pointer (some ⟨a, 0, none⟩)), .bool key, sqQ q vL v0 v1 v2 v3] w fun e w' => ∃ L s0 s1 s2 s3 x, e = .returned (.tuple #[sqQ q' L s0 s1 s2 s3, x]) ∧ Uno (Sep (Sep (Sep A (WrF a)) HoF) (BxF b)) w0 w' (((s, t'), fun W => P W ∧ SqIs W q' L s0 s1 s2 s3 ∧ ErrIs W f x), cs) := by
  refine (Uno.lq (A' := Sep (Sep (WrF a) A) HoF) (R := fun e z => ∃ L s0 s1 s2 s3 x, e = .returned (.tuple #[sqQ q' L s0 s1 s2 s3, x]) ∧ z = ((t', s), fun W => P W ∧ SqIs W q' L s0 s1 s2 s3 ∧ ErrIs W f x)) (BxF.obj b) h (fun G hG => (sep_lqX oa (sep_swapF hG) (fun G1 X h1 hX hd => mwsq_any a N key q vL v0 v1 v2 v3 X t G1 w h1 hk hg hN (hX.imp hP) hd)).mono ?_)).mono ?_
  · rintro e w' ⟨z, G2, ⟨s', P', ⟨L, s0, s1, s2', s3, x, rfl, hp⟩, rfl⟩, k1, k2⟩
    rw [hr] at hp ⊢
    obtain ⟨rfl, rfl⟩ := Prod.mk.inj hp
    exact ⟨_, G2, ⟨L, s0, s1, s2', s3, x, rfl, rfl⟩, k1, k2⟩
  · rintro e w' ⟨z, ⟨L, s0, s1, s2', s3, x, rfl, rfl⟩, F, ⟨F1, F2, k1, k2, k3, k4⟩, k5, k6⟩
    exact ⟨L, s0, s1, s2', s3, x, rfl, F, ⟨F1, F2, sep_swapF k1, k2, k3, k4⟩, k5, k6⟩
theorem ubx_ne {F1 F2 : Nat → Prop} {b : Nat} (h3 : ∀ k, F2 k → ¬ F1 k) (hb : F2 b) : ∀ k, F1 k → k ≠ b := fun k hk e => h3 b hb (e ▸ hk)
theorem ubx_set {σ : Type} {A : World → (Nat → Prop) → σ → Prop} (oa : Obj A) {w0 w : World} {b : Nat} {s : σ} {cs : Array Value} (h : Uno (Sep A (BxF b)) w0 w (s, cs)) (i : Nat) (v : Value) : Uno (Sep A (BxF b)) w0 (w.setCell ⟨b, i, none⟩ v) (s, cs.setIfInBounds i v) := by
  obtain ⟨F, ⟨F1, F2, h1, h2, h3, h4⟩, h5, h6⟩ := h
  have hb : F2 b := (h2.2 b).2 rfl
  exact ⟨F, ⟨F1, F2, oa.same h1 (fun k hk => Below.heap_setCell w ⟨b, i, none⟩ v k (fun e => ubx_ne h3 hb k hk e)), ⟨h2.1.set (i := i) v, h2.2⟩, h3, h4⟩, h5.setCell (h6 b ((h4 b).2 (.inr hb))) v, h6⟩
theorem ubx_all {σ : Type} {A : World → (Nat → Prop) → σ → Prop} (oa : Obj A) {w0 w : World} {b : Nat} {s : σ} {c0 c1 c2 c3 c4 c5 c6 c7 c8 c9 c10 c11 c12 : Value} (h : Uno (Sep A (BxF b)) w0 w (s, #[c0, c1, c2, c3, c4, c5, c6, c7, c8, c9, c10, c11, c12])) (v0 v1 v2 v3 v4 v5 v6 v7 v8 v9 v10 v11 v12 : Value) :
    Uno (Sep A (BxF b)) w0 (((((((((((((w.setCell ⟨b, 0, none⟩ v0).setCell ⟨b, 1, none⟩ v1).setCell ⟨b, 2, none⟩ v2).setCell ⟨b, 3, none⟩ v3).setCell ⟨b, 4, none⟩ v4).setCell ⟨b, 5, none⟩ v5).setCell ⟨b, 6, none⟩ v6).setCell ⟨b, 7, none⟩ v7).setCell ⟨b, 8, none⟩ v8).setCell ⟨b, 9, none⟩ v9).setCell ⟨b, 10, none⟩ v10).setCell ⟨b, 11, none⟩ v11).setCell ⟨b, 12, none⟩ v12) (s, #[v0, v1, v2, v3, v4, v5, v6, v7, v8, v9, v10, v11, v12]) := by
  have k0 : Uno (Sep A (BxF b)) w0 (w.setCell ⟨b, 0, none⟩ v0) (s, #[v0, c1, c2, c3, c4, c5, c6, c7, c8, c9, c10, c11, c12]) := ubx_set oa h 0 v0
  have k1 : Uno (Sep A (BxF b)) w0 ((w.setCell ⟨b, 0, none⟩ v0).setCell ⟨b, 1, none⟩ v1) (s, #[v0, v1, c2, c3, c4, c5, c6, c7, c8, c9, c10, c11, c12]) := ubx_set oa k0 1 v1
  have k2 : Uno (Sep A (BxF b)) w0 (((w.setCell ⟨b, 0, none⟩ v0).setCell ⟨b, 1, none⟩ v1).setCell ⟨b, 2, none⟩ v2) (s, #[v0, v1, v2, c3, c4, c5, c6, c7, c8, c9, c10, c11, c12]) := ubx_set oa k1 2 v2
  have k3 : Uno (Sep A (BxF b)) w0 ((((w.setCell ⟨b, 0, none⟩ v0).setCell ⟨b, 1, none⟩ v1).setCell ⟨b, 2, none⟩ v2).setCell ⟨b, 3, none⟩ v3) (s, #[v0, v1, v2, v3, c4, c5, c6, c7, c8, c9, c10, c11, c12]) := ubx_set oa k2 3 v3
  have k4 : Uno (Sep A (BxF b)) w0 (((((w.setCell ⟨b, 0, none⟩ v0).setCell ⟨b, 1, none⟩ v1).setCell ⟨b, 2, none⟩ v2).setCell ⟨b, 3, none⟩ v3).setCell ⟨b, 4, none⟩ v4) (s, #[v0, v1, v2, v3, v4, c5, c6, c7, c8, c9, c10, c11, c12]) := ubx_set oa k3 4 v4
  have k5 : Uno (Sep A (BxF b)) w0 ((((((w.setCell ⟨b, 0, none⟩ v0).setCell ⟨b, 1, none⟩ v1).setCell ⟨b, 2, none⟩ v2).setCell ⟨b, 3, none⟩ v3).setCell ⟨b, 4, none⟩ v4).setCell ⟨b, 5, none⟩ v5) (s, #[v0, v1, v2, v3, v4, v5, c6, c7, c8, c9, c10, c11, c12]) := ubx_set oa k4 5 v5
  have k6 : Uno (Sep A (BxF b)) w0 (((((((w.setCell ⟨b, 0, none⟩ v0).setCell ⟨b, 1, none⟩ v1).setCell ⟨b, 2, none⟩ v2).setCell ⟨b, 3, none⟩ v3).setCell ⟨b, 4, none⟩ v4).setCell ⟨b, 5, none⟩ v5).setCell ⟨b, 6, none⟩ v6) (s, #[v0, v1, v2, v3, v4, v5, v6, c7, c8, c9, c10, c11, c12]) := ubx_set oa k5 6 v6
  have k7 : Uno (Sep A (BxF b)) w0 ((((((((w.setCell ⟨b, 0, none⟩ v0).setCell ⟨b, 1, none⟩ v1).setCell ⟨b, 2, none⟩ v2).setCell ⟨b, 3, none⟩ v3).setCell ⟨b, 4, none⟩ v4).setCell ⟨b, 5, none⟩ v5).setCell ⟨b, 6, none⟩ v6).setCell ⟨b, 7, none⟩ v7) (s, #[v0, v1, v2, v3, v4, v5, v6, v7, c8, c9, c10, c11, c12]) := ubx_set oa k6 7 v7
  have k8 : Uno (Sep A (BxF b)) w0 (((((((((w.setCell ⟨b, 0, none⟩ v0).setCell ⟨b, 1, none⟩ v1).setCell ⟨b, 2, none⟩ v2).setCell ⟨b, 3, none⟩ v3).setCell ⟨b, 4, none⟩ v4).setCell ⟨b, 5, none⟩ v5).setCell ⟨b, 6, none⟩ v6).setCell ⟨b, 7, none⟩ v7).setCell ⟨b, 8, none⟩ v8) (s, #[v0, v1, v2, v3, v4, v5, v6, v7, v8, c9, c10, c11, c12]) := ubx_set oa k7 8 v8
  have k9 : Uno (Sep A (BxF b)) w0 ((((((((((w.setCell ⟨b, 0, none⟩ v0).setCell ⟨b, 1, none⟩ v1).setCell ⟨b, 2, none⟩ v2).setCell ⟨b, 3, none⟩ v3).setCell ⟨b, 4, none⟩ v4).setCell ⟨b, 5, none⟩ v5).setCell ⟨b, 6, none⟩ v6).setCell ⟨b, 7, none⟩ v7).setCell ⟨b, 8, none⟩ v8).setCell ⟨b, 9, none⟩ v9) (s, #[v0, v1, v2, v3, v4, v5, v6, v7, v8, v9, c10, c11, c12]) := ubx_set oa k8 9 v9
  have k10 : Uno (Sep A (BxF b)) w0 (((((((((((w.setCell ⟨b, 0, none⟩ v0).setCell ⟨b, 1, none⟩ v1).setCell ⟨b, 2, none⟩ v2).setCell ⟨b, 3, none⟩ v3).setCell ⟨b, 4, none⟩ v4).setCell ⟨b, 5, none⟩ v5).setCell ⟨b, 6, none⟩ v6).setCell ⟨b, 7, none⟩ v7).setCell ⟨b, 8, none⟩ v8).setCell ⟨b, 9, none⟩ v9).setCell ⟨b, 10, none⟩ v10) (s, #[v0, v1, v2, v3, v4, v5, v6, v7, v8, v9, v10, c11, c12]) := ubx_set oa k9 10 v10
  have k11 : Uno (Sep A (BxF b)) w0 ((((((((((((w.setCell ⟨b, 0, none⟩ v0).setCell ⟨b, 1, none⟩ v1).setCell ⟨b, 2, none⟩ v2).setCell ⟨b, 3, none⟩ v3).setCell ⟨b, 4, none⟩ v4).setCell ⟨b, 5, none⟩ v5).setCell ⟨b, 6, none⟩ v6).setCell ⟨b, 7, none⟩ v7).setCell ⟨b, 8, none⟩ v8).setCell ⟨b, 9, none⟩ v9).setCell ⟨b, 10, none⟩ v10).setCell ⟨b, 11, none⟩ v11) (s, #[v0, v1, v2, v3, v4, v5, v6, v7, v8, v9, v10, v11, c12]) := ubx_set oa k10 11 v11
  have k12 : Uno (Sep A (BxF b)) w0 (((((((((((((w.setCell ⟨b, 0, none⟩ v0).setCell ⟨b, 1, none⟩ v1).setCell ⟨b, 2, none⟩ v2).setCell ⟨b, 3, none⟩ v3).setCell ⟨b, 4, none⟩ v4).setCell ⟨b, 5, none⟩ v5).setCell ⟨b, 6, none⟩ v6).setCell ⟨b, 7, none⟩ v7).setCell ⟨b, 8, none⟩ v8).setCell ⟨b, 9, none⟩ v9).setCell ⟨b, 10, none⟩ v10).setCell ⟨b, 11, none⟩ v11).setCell ⟨b, 12, none⟩ v12) (s, #[v0, v1, v2, v3, v4, v5, v6, v7, v8, v9, v10, v11, v12]) := ubx_set oa k11 12 v12
  exact k12
theorem sqD_ok {N : Nat} {key : Bool} {bs : List Nat} (hb : ∀ x ∈ bs, x < 256) {k : Int} {s s' : Ms Dc} {r : Fall × Sq} (h : okS okDm N s) (e : sqD key bs k s = (r, s')) : okS okDm (N + 22164) s' := by
  have := Pg.ok (mkD hb) (sq_dep key k (blS 0)) h
  rw [sz_full (FullS.bl 0)] at this
  rw [show (sqP key k (blS 0)).run (mD bs) s = (r, s') from e] at this
  exact this
theorem sqW_yes {N : Nat} {key : Bool} {q : Sq} {s : Ms Ec} (h : okS okEm N s) (hg : gS s) (ha : askE key q = none) : ∃ t, sqW key q s = ((none, partS q), t) ∧ t = ((sqP key q.k (takeS q)).run mE s).2 ∧ okS okEm (N + 22164) t ∧ gS t := by
  refine ⟨_, by unfold sqW; rw [ha], rfl, ?_, ?_⟩
  · have := Pg.ok mkE (sq_dep key q.k (takeS q)) h
    rw [sz_full (FullS.take (ask_out ha).2.2)] at this
    exact this
  · obtain ⟨-, e, g⟩ := sq_told hg ha
    rw [e]
    exact g
theorem sq_agg (q : Sq) (L s0 s1 s2 s3 : Value) : sqQ q L s0 s1 s2 s3 = .agg (sqA q L s0 s1 s2 s3) := rfl

set_option maxHeartbeats 16000000 in
set_option maxRecDepth 20000 in
theorem kinds20_law (bs : List Nat) (L : List Bool) (v u : Value) (w : World) (hg : EtIs w) (rb : Row w v bs.length (bs.map fun x : Nat => Value.int .u8 (x : Int))) (hb : ∀ x ∈ bs, x < 256) (hl : bs.length ≤ 140737488355328) (hL : Bls w u L) : Calls Tryd.prog 5 #[v, u] w fun e w' => e = .returned (.bool true) ∧ Ext w w' := by
  have hm := hL.smallK
  have HET := Lib.hid hg
  clear hg
  obtain ⟨la, lc, rfl⟩ := hL.formK
  obtain ⟨ba, bc, rfl⟩ := rb.form
  obtain ⟨m, hm'⟩ : ∃ m, L.length = m := ⟨_, rfl⟩
  obtain ⟨n, hn⟩ : ∃ n, bs.length = n := ⟨_, rfl⟩
  have HNL := Lib.hid hm'
  have HNB := Lib.hid hn
  have HOT : Hid (Bls w (.slice la m lc) L) := by show Bls _ _ _; rw [← hm']; exact hL
  rw [hm'] at hm ⊢
  rw [hn] at rb ⊢
  unfold maxLen at hm
  have HB : Hid (Bys w (.slice ba n bc) bs) := ⟨by rw [hn]; exact rb, hb, hl⟩
  have HBB := Lib.hid hb
  have UN := Lib.hid (mrnew_any bs)
  clear hL rb hm' hn hb hl
  go_enter Tryd.func5, Tryd.ntmps5
  go_wp2_with fail
  refine (first20_any _ HET.out).mono ?_; rintro e w1 ⟨rfl, hx1⟩
  have HE1 := Lib.hid hx1
  clear hx1
  go_wp2_with fail
  refine (UN.out _ _ (HB.out.ext HE1.out)).mono ?_; rintro e w3 ⟨d, F, rfl, hF, hD3, hx3⟩
  have HU0 := Lib.hid (Uno.first hD3 (HE1.out.trans hx3) (fun k hk => Nat.le_trans HE1.out.size (hF k hk)))
  clear hD3 hx3 hF HE1 UN
  go_wp2_with fail
  refine (mwnew_any _).mono ?_; rintro e w4 ⟨a, G, rfl, hG, hW, hx4⟩
  have HU : Hid (Uno (Sep (Sep (RdF d bs) (WrF a)) HoF) w w4 ((⟨ch0, newD bs⟩, ⟨ch0, newE⟩), fun _ => True)) := (HU0.out.add (RdF.obj d bs) hx4 hW hG).bag ((RdF.obj d bs).sep (WrF.obj a)) (fun _ => trivial)
  clear hW hx4 hG HU0
  by_cases h1 : 20000 < n
  · have h1' : (20000 : Int) < (n : Int) := by omega
    go_wp2_with fail
    refine (first20_any _ (HET.out.ext HU.out.out)).mono ?_; rintro e w6 ⟨rfl, hx6⟩
    go_wp2
    go_ret
    exact ⟨rfl, HU.out.out.trans hx6⟩
  have h1' : ¬ (20000 : Int) < (n : Int) := by omega
  go_wp2_with fail
  go_loopw [7] (fun iv wr => ∃ (i N : Nat) (s : Ms Dc) (t : Ms Ec), (i ≤ m ∧ i ≤ 100 ∧ N ≤ 4 + 22164 * i) ∧ iv = .int .i64 (i : Int) ∧ Hid (okS okDm N s) ∧ Hid (okS okEm N t) ∧ Hid (gS t) ∧ Hid (Uno (Sep (Sep (RdF d bs) (WrF a)) HoF) w wr ((s, t), fun _ => True))) (fun iv _ => m - (intOf iv).toNat)
  case atStart => exact ⟨0, 4, _, _, ⟨Nat.zero_le _, Nat.zero_le _, by omega⟩, rfl, okd13 HBB.out, okn13.mono mkE (by omega), gS_new, HU.out⟩
  case round =>
    clear HU
    obtain ⟨i, N, s, t, ⟨hi, hi2, hN⟩, rfl, HK, HT, HGT, HU⟩ := hrel
    by_cases hlt : i < m
    · by_cases hl2 : i < 100
      · obtain ⟨kb, hU⟩ : ∃ o, L[i]? = some o := ⟨_, List.getElem?_eq_getElem (by rw [HNL.out]; exact hlt)⟩
        obtain ⟨g, off, rfl, hq⟩ := HOT.out.hadK (by rw [HNL.out]; omega)
        have cw := hq i _ hU
        have ck := HU.out.out.cell cw
        have HCW := Lib.hid cw
        have x1 : (0 : Int) ≤ (i : Int) := by omega
        have x2 : (i : Int) < (m : Int) := by omega
        have x3 : (i : Int) < 100 := by omega
        clear hU hq cw
        cases kb
        · have HQ0 := Lib.hid ck
          obtain ⟨⟨⟨f, q⟩, s2⟩, hs⟩ : ∃ r, sqD false bs 9 s = r := ⟨_, rfl⟩
          have hgot : GotS false (f, q) := by have h := sq_got (M := mD bs) false 9 (FullS.bl 0) s; rw [show (sqP false 9 (blS 0)).run (mD bs) s = ((f, q), s2) from hs] at h; exact h
          have HK2 := Lib.hid (sqD_ok HBB.out HK.out hs)
          have UR := Lib.hid (rsq_l (q := ⟨9, 0, 0, 0, 0, 0, 0, 0, [], [], [], [], []⟩) (vL := nilS) (v0 := nilS) (v1 := nilS) (v2 := nilS) (v3 := nilS) (WrF.obj a) HBB.out HU.out HK.out (by omega) hs ⟨_, _, _, rfl⟩ ⟨_, _, _, rfl⟩ ⟨_, _, _, rfl⟩ ⟨_, _, _, rfl⟩ ⟨_, _, _, rfl⟩)
          have HGOT := Lib.hid hgot
          clear hs hgot
          go_wp2_with fail
          refine (UR.out).mono ?_; rintro e w5 ⟨L5, p0, p1, p2, p3, x5, rfl, h5⟩
          have H5 := Lib.hid h5
          obtain ⟨aL, lL, cL, rfl⟩ := h5.held.2.1.1.slf
          obtain ⟨a0, l0, c0, rfl⟩ := h5.held.2.1.2.1.slf
          obtain ⟨a1, l1, c1, rfl⟩ := h5.held.2.1.2.2.1.slf
          obtain ⟨a2, l2, c2, rfl⟩ := h5.held.2.1.2.2.2.1.slf
          obtain ⟨a3, l3, c3, rfl⟩ := h5.held.2.1.2.2.2.2.slf
          clear UR h5 HU HK
          rcases HGOT.out with ⟨k9, i9, hgot⟩ | ⟨q9, hgot, hask, hpart⟩
          · obtain ⟨rfl, rfl⟩ := Prod.mk.inj hgot
            obtain ⟨xt, xv, rfl⟩ := ErrIs.ne H5.out.held.2.2
            clear hgot HGOT
            have A6 := BoxIs.new w5 #[.int .i64 0, .int .i64 0, .int .i64 0, .int .i64 0, .int .i64 0, .int .i64 0, .int .i64 0, .int .i64 0, .slice aL 0 cL, .slice a0 l0 c0, .slice a1 l1 c1, .slice a2 l2 c2, .slice a3 l3 c3] 62
            have X6 := (Ext.refl w5).alloc (.cells #[.int .i64 0, .int .i64 0, .int .i64 0, .int .i64 0, .int .i64 0, .int .i64 0, .int .i64 0, .int .i64 0, .slice aL 0 cL, .slice a0 l0 c0, .slice a1 l1 c1, .slice a2 l2 c2, .slice a3 l3 c3] 62)
            obtain ⟨w6, hw6⟩ : ∃ z, w5.alloc (.cells #[.int .i64 0, .int .i64 0, .int .i64 0, .int .i64 0, .int .i64 0, .int .i64 0, .int .i64 0, .int .i64 0, .slice aL 0 cL, .slice a0 l0 c0, .slice a1 l1 c1, .slice a2 l2 c2, .slice a3 l3 c3] 62) = z := ⟨_, rfl⟩
            rw [hw6] at A6 X6
            have HA6 := Lib.hid A6
            have HX6 := Lib.hid X6
            have HW6 := Lib.hid hw6
            obtain rfl : lL = 0 := H5.out.held.2.1.1.len
            clear A6 X6 hw6 ck
            unfold sqQ sqV sq0
            go_wp2_with fail
            rw [HW6.out]
            refine (first20_any _ (HET.out.ext (H5.out.out.trans HX6.out))).mono ?_; rintro e w7 ⟨rfl, hx7⟩
            obtain ⟨⟨k0, k1, k2, k3, k4, k5, k6, k7, k8, k9, k10, k11, k12⟩, -⟩ := sq_cells (HA6.out.ext hx7)
            have HX7 := Lib.hid hx7
            clear hx7
            go_wp2
            go_ret
            exact ⟨rfl, H5.out.out.trans (HX6.out.trans HX7.out)⟩
          · obtain ⟨rfl, rfl⟩ := Prod.mk.inj hgot
            obtain rfl : x5 = .nilIface := H5.out.held.2.2
            clear hgot HGOT
            have HASK := Lib.hid hask
            have HPART := Lib.hid hpart
            have hok := (ask_out hask).1
            simp only [okK, Bool.and_eq_true, Bool.not_eq_true', decide_eq_true_eq] at hok
            have HK3 := Lib.hid hok.1
            have hk1 : 0 ≤ q.k := hok.1.1
            have hk2 : q.k ≤ 3 := hok.1.2
            clear hask hpart hok
            have UP := Lib.hid (fun w' (h : SqIs w' q (.slice aL lL cL) (.slice a0 l0 c0) (.slice a1 l1 c1) (.slice a2 l2 c2) (.slice a3 l3 c3)) => prts_any q _ _ _ _ _ w' h HK3.out)
            rw [HPART.out] at UP
            have US := Lib.hid (fun uL u0 u1 u2 u3 zL z0 z1 z2 z3 w' (h : SqIs w' q uL u0 u1 u2 u3) (k : SqIs w' q zL z0 z1 z2 z3) => same_sq q uL u0 u1 u2 u3 zL z0 z1 z2 z3 w' h k)
            obtain ⟨tt, ht1, ht2, ht3, ht4⟩ := sqW_yes HT.out HGT.out HASK.out
            rw [HPART.out] at ht1
            have HT1 := Lib.hid ht1
            have HT3 := Lib.hid ht3
            have HT4 := Lib.hid ht4
            have UQ := Lib.hid (fun uL u0 u1 u2 u3 w' (h : SlF uL) (h0 : SlF u0) (h1 : SlF u1) (h2 : SlF u2) (h3 : SlF u3) => plain_sq q.k q.m q.a q.b q.c q.d q.x q.y uL u0 u1 u2 u3 w' h h0 h1 h2 h3)
            have hN5 : N ≤ 3840000 := by omega
            have UW := Lib.hid (fun (P : World → Prop) w' (h : Uno (Sep (Sep (RdF d bs) (WrF a)) HoF) w w' ((s2, t), P)) (hP : ∀ W, P W → SqIs W q (.slice aL lL cL) (.slice a0 l0 c0) (.slice a1 l1 c1) (.slice a2 l2 c2) (.slice a3 l3 c3)) => wsq_r (RdF.obj d bs) h HT.out HGT.out hN5 HT1.out hP)
            have UB := Lib.hid (fun (P : World → Prop) b cs w' (h : Uno (Sep (Sep (Sep (RdF d bs) (WrF a)) HoF) (BxF b)) w w' (((s2, t), P), cs)) (hP : ∀ W, P W → SqIs W q (.slice aL lL cL) (.slice a0 l0 c0) (.slice a1 l1 c1) (.slice a2 l2 c2) (.slice a3 l3 c3)) => wsq_b (RdF.obj d bs) h HT.out HGT.out hN5 HT1.out hP)
            unfold KqP at UW
            clear ht1 ht2 ht3 ht4
            unfold sqQ sqV at UP US UQ UW UB ⊢
            obtain ⟨rk, hrk⟩ : ∃ z, q.k = z := ⟨_, rfl⟩
            obtain ⟨rm, hrm⟩ : ∃ z, q.m = z := ⟨_, rfl⟩
            obtain ⟨ra, hra⟩ : ∃ z, q.a = z := ⟨_, rfl⟩
            obtain ⟨rb, hrb⟩ : ∃ z, q.b = z := ⟨_, rfl⟩
            obtain ⟨rc, hrc⟩ : ∃ z, q.c = z := ⟨_, rfl⟩
            obtain ⟨rd, hrd⟩ : ∃ z, q.d = z := ⟨_, rfl⟩
            obtain ⟨rx, hrx⟩ : ∃ z, q.x = z := ⟨_, rfl⟩
            obtain ⟨ry, hry⟩ : ∃ z, q.y = z := ⟨_, rfl⟩
            rw [hrk, hrm, hra, hrb, hrc, hrd, hrx, hry] at UP US UQ UW UB ⊢
            rw [hrk] at hk1 hk2
            clear hrk hrm hra hrb hrc hrd hrx hry
            have A6 := BoxIs.new w5 #[.int .i64 rk, .int .i64 rm, .int .i64 ra, .int .i64 rb, .int .i64 rc, .int .i64 rd, .int .i64 rx, .int .i64 ry, .slice aL lL cL, .slice a0 l0 c0, .slice a1 l1 c1, .slice a2 l2 c2, .slice a3 l3 c3] 62
            have X6 := (Ext.refl w5).alloc (.cells #[.int .i64 rk, .int .i64 rm, .int .i64 ra, .int .i64 rb, .int .i64 rc, .int .i64 rd, .int .i64 rx, .int .i64 ry, .slice aL lL cL, .slice a0 l0 c0, .slice a1 l1 c1, .slice a2 l2 c2, .slice a3 l3 c3] 62)
            obtain ⟨w6, hw6⟩ : ∃ z, w5.alloc (.cells #[.int .i64 rk, .int .i64 rm, .int .i64 ra, .int .i64 rb, .int .i64 rc, .int .i64 rd, .int .i64 rx, .int .i64 ry, .slice aL lL cL, .slice a0 l0 c0, .slice a1 l1 c1, .slice a2 l2 c2, .slice a3 l3 c3] 62) = z := ⟨_, rfl⟩
            rw [hw6] at A6 X6
            have HA6 := Lib.hid A6
            have H6 := Lib.hid (bag_add ((RdF.obj d bs).sep (WrF.obj a)) H5.out X6 (HoF.box A6) (fun i hi => Nat.le_of_eq hi.symm))
            have HW6 := Lib.hid hw6
            have HC0 : Hid (∀ w', Ext w6 w' → w'.cell? ⟨g, off + i, none⟩ = some (.bool false)) := fun w' h => (H6.out.out.trans h).cell HCW.out
            clear A6 X6 hw6 H5 ck
            go_wp2_with fail
            rw [HW6.out]
            clear HW6
            have nk1 : decide (rk < 0) = false := decide_eq_false (by omega)
            have nk2 : decide (3 < rk) = false := decide_eq_false (by omega)
            refine wp_region_held_drew (S := fun w' => w'.cell? ⟨w5.heap.size, 0, none⟩ = some (.int .i64 rk) ∧ w'.cell? ⟨w5.heap.size, 1, none⟩ = some (.int .i64 rm) ∧ w'.cell? ⟨w5.heap.size, 2, none⟩ = some (.int .i64 ra) ∧ w'.cell? ⟨w5.heap.size, 3, none⟩ = some (.int .i64 rb) ∧ w'.cell? ⟨w5.heap.size, 4, none⟩ = some (.int .i64 rc) ∧ w'.cell? ⟨w5.heap.size, 5, none⟩ = some (.int .i64 rd) ∧ w'.cell? ⟨w5.heap.size, 6, none⟩ = some (.int .i64 rx) ∧ w'.cell? ⟨w5.heap.size, 7, none⟩ = some (.int .i64 ry) ∧ w'.cell? ⟨w5.heap.size, 8, none⟩ = some (.slice aL lL cL) ∧ w'.cell? ⟨w5.heap.size, 9, none⟩ = some (.slice a0 l0 c0) ∧ w'.cell? ⟨w5.heap.size, 10, none⟩ = some (.slice a1 l1 c1) ∧ w'.cell? ⟨w5.heap.size, 11, none⟩ = some (.slice a2 l2 c2) ∧ w'.cell? ⟨w5.heap.size, 12, none⟩ = some (.slice a3 l3 c3) ∧ w'.cell? ⟨g, off + i, none⟩ = some (.bool false)) (by kernel_rfl) (⟨(HA6.out.ext ((Ext.refl w6).drew)).cell rfl, (HA6.out.ext ((Ext.refl w6).drew)).cell rfl, (HA6.out.ext ((Ext.refl w6).drew)).cell rfl, (HA6.out.ext ((Ext.refl w6).drew)).cell rfl, (HA6.out.ext ((Ext.refl w6).drew)).cell rfl, (HA6.out.ext ((Ext.refl w6).drew)).cell rfl, (HA6.out.ext ((Ext.refl w6).drew)).cell rfl, (HA6.out.ext ((Ext.refl w6).drew)).cell rfl, (HA6.out.ext ((Ext.refl w6).drew)).cell rfl, (HA6.out.ext ((Ext.refl w6).drew)).cell rfl, (HA6.out.ext ((Ext.refl w6).drew)).cell rfl, (HA6.out.ext ((Ext.refl w6).drew)).cell rfl, (HA6.out.ext ((Ext.refl w6).drew)).cell rfl, HC0.out _ ((Ext.refl w6).drew)⟩) (fun hHeld => ?_)
            refine wpAnyH_take (i := 0) (oi := { dst := some 72, op := Op.fieldAddr 62 (Operand.tmp 8) 0, type := 0, pos := "extra.go:22", after := #[], guard := none }) (v := ?_) rfl (by kernel_rfl) (by kernel_rfl) (by kernel_rfl) (fun _ _ _ h => h) (Or.inl ⟨by rfl, ?_⟩) (by assumption) ?_
            case refine_2 => (intro w hSw; (try dsimp only at hSw); go_simp; (try with_reducible rfl))
            try simp only [Act.put, List.setIfInBounds_toArray, List.set_cons_zero, List.set_cons_succ]
            refine wpAnyH_take (i := 1) (oi := { dst := some 73, op := Op.load 3 (Operand.tmp 72), type := 3, pos := "extra.go:22", after := #[gD 0], guard := none }) (v := ?_) rfl (by kernel_rfl) (by kernel_rfl) (by kernel_rfl) (fun _ _ _ h => h) (Or.inl ⟨by rfl, ?_⟩) (by assumption) ?_
            case refine_2 => (intro w hSw; (try dsimp only at hSw); go_simp; (try with_reducible rfl))
            try simp only [Act.put, List.setIfInBounds_toArray, List.set_cons_zero, List.set_cons_succ]
            refine wpAnyH_take (i := 2) (oi := { dst := some 74, op := Op.binOp BinOp.lss 3 (Operand.tmp 73) (Operand.const (Value.int IntKind.i64 0)) 3, type := 4, pos := "extra.go:22", after := #[gD 1], guard := none }) (v := ?_) rfl (by kernel_rfl) (by kernel_rfl) (by kernel_rfl) (fun _ _ _ h => h) (Or.inl ⟨by rfl, ?_⟩) (by assumption) ?_
            case refine_2 => (intro w hSw; (try dsimp only at hSw); go_simp; (try with_reducible rfl))
            try simp only [Act.put, List.setIfInBounds_toArray, List.set_cons_zero, List.set_cons_succ]
            refine wpAnyH_take (i := 3) (oi := { dst := some 75, op := Op.move (Operand.tmp 74), type := 4, pos := "extra.go:22", after := #[gD 2], guard := none }) (v := ?_) rfl (by kernel_rfl) (by kernel_rfl) (by kernel_rfl) (fun _ _ _ h => h) (Or.inl ⟨by rfl, ?_⟩) (by assumption) ?_
            case refine_2 => (intro w hSw; (try dsimp only at hSw); go_simp; (try with_reducible rfl))
            try simp only [Act.put, List.setIfInBounds_toArray, List.set_cons_zero, List.set_cons_succ]
            refine wpAnyH_take (i := 4) (oi := { dst := some 76, op := Op.fieldAddr 62 (Operand.tmp 8) 0, type := 0, pos := "extra.go:22", after := #[gG 3], guard := some (3, false) }) (v := ?_) rfl (by kernel_rfl) (by kernel_rfl) (by kernel_rfl) (fun _ _ _ h => h) (Or.inl ⟨by rfl, ?_⟩) (by assumption) ?_
            case refine_2 => (intro w hSw; (try dsimp only at hSw); go_simp; (try with_reducible rfl))
            try simp only [Act.put, List.setIfInBounds_toArray, List.set_cons_zero, List.set_cons_succ]
            refine wpAnyH_take (i := 5) (oi := { dst := some 77, op := Op.load 3 (Operand.tmp 76), type := 3, pos := "extra.go:22", after := #[gD 4, gG 3], guard := some (3, false) }) (v := ?_) rfl (by kernel_rfl) (by kernel_rfl) (by kernel_rfl) (fun _ _ _ h => h) (Or.inl ⟨by rfl, ?_⟩) (by assumption) ?_
            case refine_2 => (intro w hSw; (try dsimp only at hSw); go_simp; (try with_reducible rfl))
            try simp only [Act.put, List.setIfInBounds_toArray, List.set_cons_zero, List.set_cons_succ]
            refine wpAnyH_take (i := 6) (oi := { dst := some 78, op := Op.binOp BinOp.gtr 3 (Operand.tmp 77) (Operand.const (Value.int IntKind.i64 3)) 3, type := 4, pos := "extra.go:22", after := #[gD 5, gG 3], guard := some (3, false) }) (v := ?_) rfl (by kernel_rfl) (by kernel_rfl) (by kernel_rfl) (fun _ _ _ h => h) (Or.inl ⟨by rfl, ?_⟩) (by assumption) ?_
            case refine_2 => (intro w hSw; (try dsimp only at hSw); go_simp; (try with_reducible rfl))
            try simp only [Act.put, List.setIfInBounds_toArray, List.set_cons_zero, List.set_cons_succ]
            refine wpAnyH_take (i := 7) (oi := { dst := some 79, op := Op.pick (Operand.tmp 75) (Operand.const (Value.bool true)) (Operand.tmp 78), type := 4, pos := "extra.go:22", after := #[gD 3, gD 6], guard := none }) (v := ?_) rfl (by kernel_rfl) (by kernel_rfl) (by kernel_rfl) (fun _ _ _ h => h) (Or.inl ⟨by rfl, ?_⟩) (by assumption) ?_
            case refine_2 => (intro w hSw; (try dsimp only at hSw); go_simp; (try with_reducible rfl))
            try simp only [Act.put, List.setIfInBounds_toArray, List.set_cons_zero, List.set_cons_succ]
            refine wpAnyH_take (i := 8) (oi := { dst := some 80, op := Op.move (Operand.tmp 79), type := 4, pos := "extra.go:22", after := #[gD 7, gC 3], guard := none }) (v := ?_) rfl (by kernel_rfl) (by kernel_rfl) (by kernel_rfl) (fun _ _ _ h => h) (Or.inl ⟨by rfl, ?_⟩) (by assumption) ?_
            case refine_2 => (intro w hSw; (try dsimp only at hSw); go_simp; (try with_reducible rfl))
            try simp only [Act.put, List.setIfInBounds_toArray, List.set_cons_zero, List.set_cons_succ]
            refine wpAnyH_take (i := 9) (oi := { dst := some 81, op := Op.move (Operand.tmp 1), type := 51, pos := "extra.go:22", after := #[gG 8], guard := some (8, false) }) (v := ?_) rfl (by kernel_rfl) (by kernel_rfl) (by kernel_rfl) (fun _ _ _ h => h) (Or.inl ⟨by rfl, ?_⟩) (by assumption) ?_
            case refine_2 => (intro w hSw; (try dsimp only at hSw); go_simp; (try with_reducible rfl))
            try simp only [Act.put, List.setIfInBounds_toArray, List.set_cons_zero, List.set_cons_succ]
            refine wpAnyH_take (i := 10) (oi := { dst := some 82, op := Op.move (Operand.tmp 7), type := 3, pos := "extra.go:22", after := #[gG 8], guard := some (8, false) }) (v := ?_) rfl (by kernel_rfl) (by kernel_rfl) (by kernel_rfl) (fun _ _ _ h => h) (Or.inl ⟨by rfl, ?_⟩) (by assumption) ?_
            case refine_2 => (intro w hSw; (try dsimp only at hSw); go_simp; (try with_reducible rfl))
            try simp only [Act.put, List.setIfInBounds_toArray, List.set_cons_zero, List.set_cons_succ]
            refine wpAnyH_take (i := 11) (oi := { dst := some 83, op := Op.indexAddr 51 (Operand.tmp 81) (Operand.tmp 82), type := 0, pos := "extra.go:22", after := #[gD 9, gD 10, gG 8], guard := some (8, false) }) (v := ?_) rfl (by kernel_rfl) (by kernel_rfl) (by kernel_rfl) (fun _ _ _ h => h) (Or.inl ⟨by rfl, ?_⟩) (by assumption) ?_
            case refine_2 => (intro w hSw; (try dsimp only at hSw); go_simp; (try with_reducible rfl))
            try simp only [Act.put, List.setIfInBounds_toArray, List.set_cons_zero, List.set_cons_succ]
            refine wpAnyH_take (i := 12) (oi := { dst := some 84, op := Op.load 4 (Operand.tmp 83), type := 4, pos := "extra.go:22", after := #[gD 11, gG 8], guard := some (8, false) }) (v := ?_) rfl (by kernel_rfl) (by kernel_rfl) (by kernel_rfl) (fun _ _ _ h => h) (Or.inl ⟨by rfl, ?_⟩) (by assumption) ?_
            case refine_2 => (intro w hSw; (try dsimp only at hSw); go_simp; (try with_reducible rfl))
            try simp only [Act.put, List.setIfInBounds_toArray, List.set_cons_zero, List.set_cons_succ]
            refine wpAnyH_take (i := 13) (oi := { dst := some 85, op := Op.move (Operand.tmp 84), type := 4, pos := "extra.go:22", after := #[gD 12, gC 8, gG 8], guard := some (8, false) }) (v := ?_) rfl (by kernel_rfl) (by kernel_rfl) (by kernel_rfl) (fun _ _ _ h => h) (Or.inl ⟨by rfl, ?_⟩) (by assumption) ?_
            case refine_2 => (intro w hSw; (try dsimp only at hSw); go_simp; (try with_reducible rfl))
            try simp only [Act.put, List.setIfInBounds_toArray, List.set_cons_zero, List.set_cons_succ]
            refine wpAnyH_take (i := 14) (oi := { dst := some 86, op := Op.fieldAddr 62 (Operand.tmp 8) 0, type := 0, pos := "extra.go:22", after := #[gG 13], guard := some (13, true) }) (v := undef) rfl (by kernel_rfl) (by kernel_rfl) (by kernel_rfl) (fun _ _ _ h => h) (Or.inr ⟨by rfl, rfl⟩) (by assumption) ?_
            try simp only [Act.put, List.setIfInBounds_toArray, List.set_cons_zero, List.set_cons_succ]
            refine wpAnyH_take (i := 15) (oi := { dst := some 87, op := Op.load 3 (Operand.tmp 86), type := 3, pos := "extra.go:22", after := #[gD 14, gG 13], guard := some (13, true) }) (v := undef) rfl (by kernel_rfl) (by kernel_rfl) (by kernel_rfl) (fun _ _ _ h => h) (Or.inr ⟨by rfl, rfl⟩) (by assumption) ?_
            try simp only [Act.put, List.setIfInBounds_toArray, List.set_cons_zero, List.set_cons_succ]
            refine wpAnyH_take (i := 16) (oi := { dst := some 88, op := Op.binOp BinOp.lss 3 (Operand.tmp 87) (Operand.const (Value.int IntKind.i64 2)) 3, type := 4, pos := "extra.go:22", after := #[gD 15, gG 13], guard := some (13, true) }) (v := undef) rfl (by kernel_rfl) (by kernel_rfl) (by kernel_rfl) (fun _ _ _ h => h) (Or.inr ⟨by rfl, rfl⟩) (by assumption) ?_
            try simp only [Act.put, List.setIfInBounds_toArray, List.set_cons_zero, List.set_cons_succ]
            refine wpAnyH_take (i := 17) (oi := { dst := some 89, op := Op.pick (Operand.tmp 85) (Operand.tmp 88) (Operand.const (Value.bool false)), type := 4, pos := "extra.go:22", after := #[gD 13, gD 16, gG 8], guard := some (8, false) }) (v := ?_) rfl (by kernel_rfl) (by kernel_rfl) (by kernel_rfl) (fun _ _ _ h => h) (Or.inl ⟨by rfl, ?_⟩) (by assumption) ?_
            case refine_2 => (intro w hSw; (try dsimp only at hSw); go_simp; (try with_reducible rfl))
            try simp only [Act.put, List.setIfInBounds_toArray, List.set_cons_zero, List.set_cons_succ]
            refine wpAnyH_take (i := 18) (oi := { dst := some 90, op := Op.pick (Operand.tmp 80) (Operand.const (Value.bool true)) (Operand.tmp 89), type := 4, pos := "extra.go:22", after := #[gD 8, gD 17], guard := none }) (v := ?_) rfl (by kernel_rfl) (by kernel_rfl) (by kernel_rfl) (fun _ _ _ h => h) (Or.inl ⟨by rfl, ?_⟩) (by assumption) ?_
            case refine_2 => (intro w hSw; (try dsimp only at hSw); go_simp; (try with_reducible rfl))
            try simp only [Act.put, List.setIfInBounds_toArray, List.set_cons_zero, List.set_cons_succ]
            refine wpAnyH_take (i := 19) (oi := { dst := some 91, op := Op.move (Operand.tmp 90), type := 4, pos := "extra.go:22", after := #[gD 18, gC 13], guard := none }) (v := ?_) rfl (by kernel_rfl) (by kernel_rfl) (by kernel_rfl) (fun _ _ _ h => h) (Or.inl ⟨by rfl, ?_⟩) (by assumption) ?_
            case refine_2 => (intro w hSw; (try dsimp only at hSw); go_simp; (try with_reducible rfl))
            try simp only [Act.put, List.setIfInBounds_toArray, List.set_cons_zero, List.set_cons_succ]
            refine wpAnyH_take (i := 20) (oi := { dst := some 92, op := Op.load 62 (Operand.tmp 8), type := 62, pos := "extra.go:22", after := #[gG 19], guard := some (19, false) }) (v := ?_) rfl (by kernel_rfl) (by kernel_rfl) (by kernel_rfl) (fun _ _ _ h => h) (Or.inl ⟨by rfl, ?_⟩) (by assumption) ?_
            case refine_2 => (intro w hSw; (try dsimp only at hSw); go_simp; (try with_reducible rfl))
            try simp only [Act.put, List.setIfInBounds_toArray, List.set_cons_zero, List.set_cons_succ]
            refine wpAnyH_take (i := 21) (oi := { dst := some 93, op := Op.load 62 (Operand.tmp 8), type := 62, pos := "extra.go:22", after := #[gG 19], guard := some (19, false) }) (v := ?_) rfl (by kernel_rfl) (by kernel_rfl) (by kernel_rfl) (fun _ _ _ h => h) (Or.inl ⟨by rfl, ?_⟩) (by assumption) ?_
            case refine_2 => (intro w hSw; (try dsimp only at hSw); go_simp; (try with_reducible rfl))
            try simp only [Act.put, List.setIfInBounds_toArray, List.set_cons_zero, List.set_cons_succ]
            refine wpAnyH_ready (rs := [22]) (by kernel_rfl) (by simp) ?_
            refine AllReadyH.cons (o := { dst := some 94, op := Op.call { callee := Callee.value (Operand.func 21), args := #[Operand.tmp 93], argTypes := #[62] }, type := 66, pos := "extra.go:22", after := #[gD 21, gC 19, gG 19], guard := some (19, false) }) rfl (fun K hK => ?_) AllReadyH.nil
            go_simp
            go_at_call 21
            have H6d := Lib.hid (bag_ext ((RdF.obj d bs).sep (WrF.obj a)) H6.out ((Ext.refl w6).drew))
            refine (UP.out _ H6d.out.held.1.2.1).mono ?_; rintro e w7 ⟨yL, y0, y1, y2, y3, rfl, hx7, hy⟩
            have H7 := Lib.hid (bag_ext ((RdF.obj d bs).sep (WrF.obj a)) H6d.out hx7)
            have E7 := Lib.hid (((Ext.refl w6).drew).trans hx7)
            have HY := Lib.hid (hy _ H7.out.held.1.2.1)
            clear hx7 hy H6d
            refine hK.out _ _ (⟨(HA6.out.ext (E7.out)).cell rfl, (HA6.out.ext (E7.out)).cell rfl, (HA6.out.ext (E7.out)).cell rfl, (HA6.out.ext (E7.out)).cell rfl, (HA6.out.ext (E7.out)).cell rfl, (HA6.out.ext (E7.out)).cell rfl, (HA6.out.ext (E7.out)).cell rfl, (HA6.out.ext (E7.out)).cell rfl, (HA6.out.ext (E7.out)).cell rfl, (HA6.out.ext (E7.out)).cell rfl, (HA6.out.ext (E7.out)).cell rfl, (HA6.out.ext (E7.out)).cell rfl, (HA6.out.ext (E7.out)).cell rfl, HC0.out _ (E7.out)⟩) (fun hHeld => ?_)
            clear hK K
            try simp only [Act.put, List.setIfInBounds_toArray, List.set_cons_zero, List.set_cons_succ]
            refine wpAnyH_ready (rs := [23]) (by kernel_rfl) (by simp) ?_
            refine AllReadyH.cons (o := { dst := some 95, op := Op.call { callee := Callee.value (Operand.func 20), args := #[Operand.tmp 92, Operand.tmp 94], argTypes := #[62, 66] }, type := 4, pos := "extra.go:22", after := #[gD 20, gD 22, gC 22, gG 19], guard := some (19, false) }) rfl (fun K hK => ?_) AllReadyH.nil
            go_simp
            go_at_call 20
            refine (US.out _ _ _ _ _ _ _ _ _ _ _ H7.out.held.1.2.1 HY.out).mono ?_; rintro e w8 ⟨rfl, hx8⟩
            have E8 := Lib.hid (E7.out.trans hx8)
            have H8 := Lib.hid (bag_ext ((RdF.obj d bs).sep (WrF.obj a)) H7.out hx8)
            clear hx8 H7 HY E7
            refine hK.out _ _ (⟨(HA6.out.ext (E8.out)).cell rfl, (HA6.out.ext (E8.out)).cell rfl, (HA6.out.ext (E8.out)).cell rfl, (HA6.out.ext (E8.out)).cell rfl, (HA6.out.ext (E8.out)).cell rfl, (HA6.out.ext (E8.out)).cell rfl, (HA6.out.ext (E8.out)).cell rfl, (HA6.out.ext (E8.out)).cell rfl, (HA6.out.ext (E8.out)).cell rfl, (HA6.out.ext (E8.out)).cell rfl, (HA6.out.ext (E8.out)).cell rfl, (HA6.out.ext (E8.out)).cell rfl, (HA6.out.ext (E8.out)).cell rfl, HC0.out _ (E8.out)⟩) (fun hHeld => ?_)
            clear hK K
            try simp only [Act.put, List.setIfInBounds_toArray, List.set_cons_zero, List.set_cons_succ]
            refine wpAnyH_take (i := 24) (oi := { dst := some 96, op := Op.unOp UnOp.not 4 (Operand.tmp 95), type := 4, pos := "extra.go:22", after := #[gD 23, gG 19], guard := some (19, false) }) (v := ?_) rfl (by kernel_rfl) (by kernel_rfl) (by kernel_rfl) (fun _ _ _ h => h) (Or.inl ⟨by rfl, ?_⟩) (by assumption) ?_
            case refine_2 => (intro w hSw; (try dsimp only at hSw); go_simp; (try with_reducible rfl))
            try simp only [Act.put, List.setIfInBounds_toArray, List.set_cons_zero, List.set_cons_succ]
            refine wpAnyH_take (i := 25) (oi := { dst := some 97, op := Op.pick (Operand.tmp 91) (Operand.const (Value.bool true)) (Operand.tmp 96), type := 4, pos := "extra.go:22", after := #[gD 19, gD 24], guard := none }) (v := ?_) rfl (by kernel_rfl) (by kernel_rfl) (by kernel_rfl) (fun _ _ _ h => h) (Or.inl ⟨by rfl, ?_⟩) (by assumption) ?_
            case refine_2 => (intro w hSw; (try dsimp only at hSw); go_simp; (try with_reducible rfl))
            try simp only [Act.put, List.setIfInBounds_toArray, List.set_cons_zero, List.set_cons_succ]
            refine wpAnyH_done (by kernel_rfl) ?_ _
            go_wp2_with fail
            refine wp_region_held_drew (S := fun w' => w'.cell? ⟨w5.heap.size, 0, none⟩ = some (.int .i64 rk) ∧ w'.cell? ⟨w5.heap.size, 1, none⟩ = some (.int .i64 rm) ∧ w'.cell? ⟨w5.heap.size, 2, none⟩ = some (.int .i64 ra) ∧ w'.cell? ⟨w5.heap.size, 3, none⟩ = some (.int .i64 rb) ∧ w'.cell? ⟨w5.heap.size, 4, none⟩ = some (.int .i64 rc) ∧ w'.cell? ⟨w5.heap.size, 5, none⟩ = some (.int .i64 rd) ∧ w'.cell? ⟨w5.heap.size, 6, none⟩ = some (.int .i64 rx) ∧ w'.cell? ⟨w5.heap.size, 7, none⟩ = some (.int .i64 ry) ∧ w'.cell? ⟨w5.heap.size, 8, none⟩ = some (.slice aL lL cL) ∧ w'.cell? ⟨w5.heap.size, 9, none⟩ = some (.slice a0 l0 c0) ∧ w'.cell? ⟨w5.heap.size, 10, none⟩ = some (.slice a1 l1 c1) ∧ w'.cell? ⟨w5.heap.size, 11, none⟩ = some (.slice a2 l2 c2) ∧ w'.cell? ⟨w5.heap.size, 12, none⟩ = some (.slice a3 l3 c3) ∧ w'.cell? ⟨g, off + i, none⟩ = some (.bool false)) (by kernel_rfl) (⟨(HA6.out.ext (E8.out.drew)).cell rfl, (HA6.out.ext (E8.out.drew)).cell rfl, (HA6.out.ext (E8.out.drew)).cell rfl, (HA6.out.ext (E8.out.drew)).cell rfl, (HA6.out.ext (E8.out.drew)).cell rfl, (HA6.out.ext (E8.out.drew)).cell rfl, (HA6.out.ext (E8.out.drew)).cell rfl, (HA6.out.ext (E8.out.drew)).cell rfl, (HA6.out.ext (E8.out.drew)).cell rfl, (HA6.out.ext (E8.out.drew)).cell rfl, (HA6.out.ext (E8.out.drew)).cell rfl, (HA6.out.ext (E8.out.drew)).cell rfl, (HA6.out.ext (E8.out.drew)).cell rfl, HC0.out _ (E8.out.drew)⟩) (fun hHeld => ?_)
            refine wpAnyH_take (i := 0) (oi := { dst := some 99, op := Op.move (Operand.tmp 6), type := 54, pos := "extra.go:25", after := #[], guard := none }) (v := ?_) rfl (by kernel_rfl) (by kernel_rfl) (by kernel_rfl) (fun _ _ _ h => h) (Or.inl ⟨by rfl, ?_⟩) (by assumption) ?_
            case refine_2 => (intro w hSw; (try dsimp only at hSw); go_simp; (try with_reducible rfl))
            try simp only [Act.put, List.setIfInBounds_toArray, List.set_cons_zero, List.set_cons_succ]
            refine wpAnyH_take (i := 1) (oi := { dst := some 100, op := Op.makeInterface 54 (Operand.tmp 99), type := 93, pos := "extra.go:25", after := #[gD 0], guard := none }) (v := ?_) rfl (by kernel_rfl) (by kernel_rfl) (by kernel_rfl) (fun _ _ _ h => h) (Or.inl ⟨by rfl, ?_⟩) (by assumption) ?_
            case refine_2 => (intro w hSw; (try dsimp only at hSw); go_simp; (try with_reducible rfl))
            try simp only [Act.put, List.setIfInBounds_toArray, List.set_cons_zero, List.set_cons_succ]
            refine wpAnyH_take (i := 2) (oi := { dst := some 101, op := Op.move (Operand.tmp 1), type := 51, pos := "extra.go:25", after := #[], guard := none }) (v := ?_) rfl (by kernel_rfl) (by kernel_rfl) (by kernel_rfl) (fun _ _ _ h => h) (Or.inl ⟨by rfl, ?_⟩) (by assumption) ?_
            case refine_2 => (intro w hSw; (try dsimp only at hSw); go_simp; (try with_reducible rfl))
            try simp only [Act.put, List.setIfInBounds_toArray, List.set_cons_zero, List.set_cons_succ]
            refine wpAnyH_take (i := 3) (oi := { dst := some 102, op := Op.move (Operand.tmp 7), type := 3, pos := "extra.go:25", after := #[], guard := none }) (v := ?_) rfl (by kernel_rfl) (by kernel_rfl) (by kernel_rfl) (fun _ _ _ h => h) (Or.inl ⟨by rfl, ?_⟩) (by assumption) ?_
            case refine_2 => (intro w hSw; (try dsimp only at hSw); go_simp; (try with_reducible rfl))
            try simp only [Act.put, List.setIfInBounds_toArray, List.set_cons_zero, List.set_cons_succ]
            refine wpAnyH_take (i := 4) (oi := { dst := some 103, op := Op.indexAddr 51 (Operand.tmp 101) (Operand.tmp 102), type := 0, pos := "extra.go:25", after := #[gD 2, gD 3], guard := none }) (v := ?_) rfl (by kernel_rfl) (by kernel_rfl) (by kernel_rfl) (fun _ _ _ h => h) (Or.inl ⟨by rfl, ?_⟩) (by assumption) ?_
            case refine_2 => (intro w hSw; (try dsimp only at hSw); go_simp; (try with_reducible rfl))
            try simp only [Act.put, List.setIfInBounds_toArray, List.set_cons_zero, List.set_cons_succ]
            refine wpAnyH_take (i := 5) (oi := { dst := some 104, op := Op.load 4 (Operand.tmp 103), type := 4, pos := "extra.go:25", after := #[gD 4], guard := none }) (v := ?_) rfl (by kernel_rfl) (by kernel_rfl) (by kernel_rfl) (fun _ _ _ h => h) (Or.inl ⟨by rfl, ?_⟩) (by assumption) ?_
            case refine_2 => (intro w hSw; (try dsimp only at hSw); go_simp; (try with_reducible rfl))
            try simp only [Act.put, List.setIfInBounds_toArray, List.set_cons_zero, List.set_cons_succ]
            refine wpAnyH_take (i := 6) (oi := { dst := some 105, op := Op.load 62 (Operand.tmp 8), type := 62, pos := "extra.go:25", after := #[], guard := none }) (v := ?_) rfl (by kernel_rfl) (by kernel_rfl) (by kernel_rfl) (fun _ _ _ h => h) (Or.inl ⟨by rfl, ?_⟩) (by assumption) ?_
            case refine_2 => (intro w hSw; (try dsimp only at hSw); go_simp; (try with_reducible rfl))
            try simp only [Act.put, List.setIfInBounds_toArray, List.set_cons_zero, List.set_cons_succ]
            have H8d := Lib.hid (bag_ext ((RdF.obj d bs).sep (WrF.obj a)) H8.out ((Ext.refl w8).drew))
            have E8d := Lib.hid E8.out.drew
            refine wpAnyH_ready (rs := [7, 11]) (by kernel_rfl) (by simp) ?_
            refine AllReadyH.cons (o := { dst := some 106, op := Op.call { callee := Callee.value (Operand.func 19), args := #[Operand.tmp 100, Operand.tmp 104, Operand.tmp 105], argTypes := #[93, 4, 62] }, type := 63, pos := "extra.go:25", after := #[gD 1, gD 5, gD 6], guard := none }) rfl (fun K hK => ?_) (AllReadyH.cons (o := { dst := some 10, op := Op.alloc 62, type := 0, pos := "extra.go:25", after := #[], guard := none }) rfl (fun K hK => ?_) AllReadyH.nil)
            · go_simp
              go_at_call 19
              refine (UW.out _ _ H8d.out (fun W h => h.1.2.1)).mono ?_; rintro e w9 ⟨vL, v0, v1, v2, v3, x9, rfl, h9⟩
              obtain ⟨bL, nL, dL, rfl⟩ := h9.held.2.1.1.slf
              obtain ⟨b0, n0, d0, rfl⟩ := h9.held.2.1.2.1.slf
              obtain ⟨b1, n1, d1, rfl⟩ := h9.held.2.1.2.2.1.slf
              obtain ⟨b2, n2, d2, rfl⟩ := h9.held.2.1.2.2.2.1.slf
              obtain ⟨b3, n3, d3, rfl⟩ := h9.held.2.1.2.2.2.2.slf
              obtain rfl : x9 = .nilIface := h9.held.2.2
              have H9 := Lib.hid h9
              clear h9
              refine hK.out _ _ (⟨(H9.out.held.1.2).cell rfl, (H9.out.held.1.2).cell rfl, (H9.out.held.1.2).cell rfl, (H9.out.held.1.2).cell rfl, (H9.out.held.1.2).cell rfl, (H9.out.held.1.2).cell rfl, (H9.out.held.1.2).cell rfl, (H9.out.held.1.2).cell rfl, (H9.out.held.1.2).cell rfl, (H9.out.held.1.2).cell rfl, (H9.out.held.1.2).cell rfl, (H9.out.held.1.2).cell rfl, (H9.out.held.1.2).cell rfl, H9.out.out.cell HCW.out⟩) (fun hHeld => ?_)
              clear hK K
              try simp only [Act.put, List.setIfInBounds_toArray, List.set_cons_zero, List.set_cons_succ]
              refine wpAnyH_take (i := 8) (oi := { dst := some 98, op := Op.move (Operand.tmp 106), type := 63, pos := "extra.go:25", after := #[gD 7], guard := none }) (v := ?_) rfl (by kernel_rfl) (by kernel_rfl) (by kernel_rfl) (fun _ _ _ h => h) (Or.inl ⟨by rfl, ?_⟩) (by assumption) ?_
              case refine_2 => (intro w hSw; (try dsimp only at hSw); go_simp; (try with_reducible rfl))
              try simp only [Act.put, List.setIfInBounds_toArray, List.set_cons_zero, List.set_cons_succ]
              refine wpAnyH_take (i := 9) (oi := { dst := some 107, op := Op.extract (Operand.tmp 98) 0, type := 62, pos := "extra.go:25", after := #[gD 8], guard := none }) (v := ?_) rfl (by kernel_rfl) (by kernel_rfl) (by kernel_rfl) (fun _ _ _ h => h) (Or.inl ⟨by rfl, ?_⟩) (by assumption) ?_
              case refine_2 => (intro w hSw; (try dsimp only at hSw); go_simp; (try with_reducible rfl))
              try simp only [Act.put, List.setIfInBounds_toArray, List.set_cons_zero, List.set_cons_succ]
              refine wpAnyH_take (i := 10) (oi := { dst := some 108, op := Op.extract (Operand.tmp 98) 1, type := 30, pos := "extra.go:25", after := #[gD 8, gO 12], guard := none }) (v := ?_) rfl (by kernel_rfl) (by kernel_rfl) (by kernel_rfl) (fun _ _ _ h => h) (Or.inl ⟨by rfl, ?_⟩) (by assumption) ?_
              case refine_2 => (intro w hSw; (try dsimp only at hSw); go_simp; (try with_reducible rfl))
              try simp only [Act.put, List.setIfInBounds_toArray, List.set_cons_zero, List.set_cons_succ]
              refine wpAnyH_ready (rs := [11]) (by kernel_rfl) (by simp) ?_
              refine AllReadyH.cons (o := { dst := some 10, op := Op.alloc 62, type := 0, pos := "extra.go:25", after := #[], guard := none }) rfl (fun K hK => ?_) AllReadyH.nil
              go_simp
              refine hK.out _ _ (⟨(H9.out.held.1.2.ext ((Ext.refl _).alloc _)).cell rfl, (H9.out.held.1.2.ext ((Ext.refl _).alloc _)).cell rfl, (H9.out.held.1.2.ext ((Ext.refl _).alloc _)).cell rfl, (H9.out.held.1.2.ext ((Ext.refl _).alloc _)).cell rfl, (H9.out.held.1.2.ext ((Ext.refl _).alloc _)).cell rfl, (H9.out.held.1.2.ext ((Ext.refl _).alloc _)).cell rfl, (H9.out.held.1.2.ext ((Ext.refl _).alloc _)).cell rfl, (H9.out.held.1.2.ext ((Ext.refl _).alloc _)).cell rfl, (H9.out.held.1.2.ext ((Ext.refl _).alloc _)).cell rfl, (H9.out.held.1.2.ext ((Ext.refl _).alloc _)).cell rfl, (H9.out.held.1.2.ext ((Ext.refl _).alloc _)).cell rfl, (H9.out.held.1.2.ext ((Ext.refl _).alloc _)).cell rfl, (H9.out.held.1.2.ext ((Ext.refl _).alloc _)).cell rfl, (H9.out.out.trans ((Ext.refl _).alloc _)).cell HCW.out⟩) (fun hHeld => ?_)
              clear hK K
              try simp only [Act.put, List.setIfInBounds_toArray, List.set_cons_zero, List.set_cons_succ]
              refine wpAnyH_ready (rs := [12]) (by kernel_rfl) (by simp) ?_
              refine AllReadyH.cons (o := { dst := none, op := Op.store 62 (Operand.tmp 10) (Operand.tmp 107), type := 0, pos := "extra.go:25", after := #[gD 11, gD 9, gC 7, gP 0, gP 1, gP 2, gP 3, gP 4, gP 5, gP 6, gP 7, gP 8, gP 9, gT 10, gP 11], guard := none }) rfl (fun K hK => ?_) AllReadyH.nil
              go_simp
              refine hK.out _ _ (⟨(H9.out.held.1.2.ext ((Ext.refl _).alloc _)).cell rfl, (H9.out.held.1.2.ext ((Ext.refl _).alloc _)).cell rfl, (H9.out.held.1.2.ext ((Ext.refl _).alloc _)).cell rfl, (H9.out.held.1.2.ext ((Ext.refl _).alloc _)).cell rfl, (H9.out.held.1.2.ext ((Ext.refl _).alloc _)).cell rfl, (H9.out.held.1.2.ext ((Ext.refl _).alloc _)).cell rfl, (H9.out.held.1.2.ext ((Ext.refl _).alloc _)).cell rfl, (H9.out.held.1.2.ext ((Ext.refl _).alloc _)).cell rfl, (H9.out.held.1.2.ext ((Ext.refl _).alloc _)).cell rfl, (H9.out.held.1.2.ext ((Ext.refl _).alloc _)).cell rfl, (H9.out.held.1.2.ext ((Ext.refl _).alloc _)).cell rfl, (H9.out.held.1.2.ext ((Ext.refl _).alloc _)).cell rfl, (H9.out.held.1.2.ext ((Ext.refl _).alloc _)).cell rfl, (H9.out.out.trans ((Ext.refl _).alloc _)).cell HCW.out⟩) (fun hHeld => ?_)
              clear hK K
              try simp only [Act.put, List.setIfInBounds_toArray, List.set_cons_zero, List.set_cons_succ]
              refine wpAnyH_take (i := 13) (oi := { dst := some 11, op := Op.assign (Operand.tmp 108), type := 30, pos := "extra.go:25", after := #[gD 10, gC 12, gP 0, gP 1, gP 2, gP 3, gP 4, gP 5, gP 6, gP 7, gP 8, gP 9, gP 10, gP 11, gP 12], guard := none }) (v := ?_) rfl (by kernel_rfl) (by kernel_rfl) (by kernel_rfl) (fun _ _ _ h => h) (Or.inl ⟨by rfl, ?_⟩) (by assumption) ?_
              case refine_2 => (intro w hSw; (try dsimp only at hSw); go_simp; (try with_reducible rfl))
              try simp only [Act.put, List.setIfInBounds_toArray, List.set_cons_zero, List.set_cons_succ]
              refine wpAnyH_done (by kernel_rfl) ?_ _
              have BZ := BoxIs.new w9 #[.int .i64 rk, .int .i64 rm, .int .i64 ra, .int .i64 rb, .int .i64 rc, .int .i64 rd, .int .i64 rx, .int .i64 ry, .slice bL nL dL, .slice b0 n0 d0, .slice b1 n1 d1, .slice b2 n2 d2, .slice b3 n3 d3] 62
              have XZ := (Ext.refl w9).alloc (.cells #[.int .i64 rk, .int .i64 rm, .int .i64 ra, .int .i64 rb, .int .i64 rc, .int .i64 rd, .int .i64 rx, .int .i64 ry, .slice bL nL dL, .slice b0 n0 d0, .slice b1 n1 d1, .slice b2 n2 d2, .slice b3 n3 d3] 62)
              obtain ⟨bb, hbb⟩ : ∃ b, w9.heap.size = b := ⟨_, rfl⟩
              rw [hbb] at BZ ⊢
              generalize w9.alloc _ = wz at BZ XZ ⊢
              have HZ := Lib.hid (bag_ext ((RdF.obj d bs).sep (WrF.obj a)) H9.out XZ)
              have HA9 := Lib.hid HZ.out.held.1.2
              have HBX := Lib.hid BZ
              clear BZ XZ hbb H9 H8d E8d hHeld
              go_wp2_with fail
              refine wp_region_held_drew (S := fun w' => w'.cell? ⟨w5.heap.size, 0, none⟩ = some (.int .i64 rk) ∧ w'.cell? ⟨w5.heap.size, 1, none⟩ = some (.int .i64 rm) ∧ w'.cell? ⟨w5.heap.size, 2, none⟩ = some (.int .i64 ra) ∧ w'.cell? ⟨w5.heap.size, 3, none⟩ = some (.int .i64 rb) ∧ w'.cell? ⟨w5.heap.size, 4, none⟩ = some (.int .i64 rc) ∧ w'.cell? ⟨w5.heap.size, 5, none⟩ = some (.int .i64 rd) ∧ w'.cell? ⟨w5.heap.size, 6, none⟩ = some (.int .i64 rx) ∧ w'.cell? ⟨w5.heap.size, 7, none⟩ = some (.int .i64 ry) ∧ w'.cell? ⟨w5.heap.size, 8, none⟩ = some (.slice aL lL cL) ∧ w'.cell? ⟨w5.heap.size, 9, none⟩ = some (.slice a0 l0 c0) ∧ w'.cell? ⟨w5.heap.size, 10, none⟩ = some (.slice a1 l1 c1) ∧ w'.cell? ⟨w5.heap.size, 11, none⟩ = some (.slice a2 l2 c2) ∧ w'.cell? ⟨w5.heap.size, 12, none⟩ = some (.slice a3 l3 c3) ∧ w'.cell? ⟨bb, 0, none⟩ = some (.int .i64 rk) ∧ w'.cell? ⟨bb, 1, none⟩ = some (.int .i64 rm) ∧ w'.cell? ⟨bb, 2, none⟩ = some (.int .i64 ra) ∧ w'.cell? ⟨bb, 3, none⟩ = some (.int .i64 rb) ∧ w'.cell? ⟨bb, 4, none⟩ = some (.int .i64 rc) ∧ w'.cell? ⟨bb, 5, none⟩ = some (.int .i64 rd) ∧ w'.cell? ⟨bb, 6, none⟩ = some (.int .i64 rx) ∧ w'.cell? ⟨bb, 7, none⟩ = some (.int .i64 ry) ∧ w'.cell? ⟨bb, 8, none⟩ = some (.slice bL nL dL) ∧ w'.cell? ⟨bb, 9, none⟩ = some (.slice b0 n0 d0) ∧ w'.cell? ⟨bb, 10, none⟩ = some (.slice b1 n1 d1) ∧ w'.cell? ⟨bb, 11, none⟩ = some (.slice b2 n2 d2) ∧ w'.cell? ⟨bb, 12, none⟩ = some (.slice b3 n3 d3)) (by kernel_rfl) (⟨(HA9.out.ext ((Ext.refl _).drew)).cell rfl, (HA9.out.ext ((Ext.refl _).drew)).cell rfl, (HA9.out.ext ((Ext.refl _).drew)).cell rfl, (HA9.out.ext ((Ext.refl _).drew)).cell rfl, (HA9.out.ext ((Ext.refl _).drew)).cell rfl, (HA9.out.ext ((Ext.refl _).drew)).cell rfl, (HA9.out.ext ((Ext.refl _).drew)).cell rfl, (HA9.out.ext ((Ext.refl _).drew)).cell rfl, (HA9.out.ext ((Ext.refl _).drew)).cell rfl, (HA9.out.ext ((Ext.refl _).drew)).cell rfl, (HA9.out.ext ((Ext.refl _).drew)).cell rfl, (HA9.out.ext ((Ext.refl _).drew)).cell rfl, (HA9.out.ext ((Ext.refl _).drew)).cell rfl, (HBX.out.ext ((Ext.refl _).drew)).cell rfl, (HBX.out.ext ((Ext.refl _).drew)).cell rfl, (HBX.out.ext ((Ext.refl _).drew)).cell rfl, (HBX.out.ext ((Ext.refl _).drew)).cell rfl, (HBX.out.ext ((Ext.refl _).drew)).cell rfl, (HBX.out.ext ((Ext.refl _).drew)).cell rfl, (HBX.out.ext ((Ext.refl _).drew)).cell rfl, (HBX.out.ext ((Ext.refl _).drew)).cell rfl, (HBX.out.ext ((Ext.refl _).drew)).cell rfl, (HBX.out.ext ((Ext.refl _).drew)).cell rfl, (HBX.out.ext ((Ext.refl _).drew)).cell rfl, (HBX.out.ext ((Ext.refl _).drew)).cell rfl, (HBX.out.ext ((Ext.refl _).drew)).cell rfl⟩) (fun hHeld => ?_)
              refine wpAnyH_take (i := 0) (oi := { dst := some 109, op := Op.move (Operand.tmp 11), type := 30, pos := "extra.go:26", after := #[], guard := none }) (v := ?_) rfl (by kernel_rfl) (by kernel_rfl) (by kernel_rfl) (fun _ _ _ h => h) (Or.inl ⟨by rfl, ?_⟩) (by assumption) ?_
              case refine_2 => (intro w hSw; (try dsimp only at hSw); go_simp; (try with_reducible rfl))
              try simp only [Act.put, List.setIfInBounds_toArray, List.set_cons_zero, List.set_cons_succ]
              refine wpAnyH_take (i := 1) (oi := { dst := some 110, op := Op.binOp BinOp.neq 30 (Operand.tmp 109) (Operand.const Value.nilIface) 30, type := 4, pos := "extra.go:26", after := #[gD 0], guard := none }) (v := ?_) rfl (by kernel_rfl) (by kernel_rfl) (by kernel_rfl) (fun _ _ _ h => h) (Or.inl ⟨by rfl, ?_⟩) (by assumption) ?_
              case refine_2 => (intro w hSw; (try dsimp only at hSw); go_simp; (try with_reducible rfl))
              try simp only [Act.put, List.setIfInBounds_toArray, List.set_cons_zero, List.set_cons_succ]
              refine wpAnyH_take (i := 2) (oi := { dst := some 111, op := Op.move (Operand.tmp 110), type := 4, pos := "extra.go:26", after := #[gD 1], guard := none }) (v := ?_) rfl (by kernel_rfl) (by kernel_rfl) (by kernel_rfl) (fun _ _ _ h => h) (Or.inl ⟨by rfl, ?_⟩) (by assumption) ?_
              case refine_2 => (intro w hSw; (try dsimp only at hSw); go_simp; (try with_reducible rfl))
              try simp only [Act.put, List.setIfInBounds_toArray, List.set_cons_zero, List.set_cons_succ]
              refine wpAnyH_take (i := 3) (oi := { dst := some 112, op := Op.load 62 (Operand.tmp 10), type := 62, pos := "extra.go:26", after := #[gG 2], guard := some (2, false) }) (v := ?_) rfl (by kernel_rfl) (by kernel_rfl) (by kernel_rfl) (fun _ _ _ h => h) (Or.inl ⟨by rfl, ?_⟩) (by assumption) ?_
              case refine_2 => (intro w hSw; (try dsimp only at hSw); go_simp; (try with_reducible rfl))
              try simp only [Act.put, List.setIfInBounds_toArray, List.set_cons_zero, List.set_cons_succ]
              refine wpAnyH_take (i := 4) (oi := { dst := some 113, op := Op.load 62 (Operand.tmp 8), type := 62, pos := "extra.go:26", after := #[gG 2], guard := some (2, false) }) (v := ?_) rfl (by kernel_rfl) (by kernel_rfl) (by kernel_rfl) (fun _ _ _ h => h) (Or.inl ⟨by rfl, ?_⟩) (by assumption) ?_
              case refine_2 => (intro w hSw; (try dsimp only at hSw); go_simp; (try with_reducible rfl))
              try simp only [Act.put, List.setIfInBounds_toArray, List.set_cons_zero, List.set_cons_succ]
              refine wpAnyH_ready (rs := [5]) (by kernel_rfl) (by simp) ?_
              refine AllReadyH.cons (o := { dst := some 114, op := Op.call { callee := Callee.value (Operand.func 22), args := #[Operand.tmp 113], argTypes := #[62] }, type := 66, pos := "extra.go:26", after := #[gD 4, gC 2, gG 2], guard := some (2, false) }) rfl (fun K hK => ?_) AllReadyH.nil
              go_simp
              go_at_call 22
              refine (UQ.out _ _ _ _ _ _ ⟨_, _, _, rfl⟩ ⟨_, _, _, rfl⟩ ⟨_, _, _, rfl⟩ ⟨_, _, _, rfl⟩ ⟨_, _, _, rfl⟩).mono ?_; rintro e wb ⟨rfl, hxb⟩
              have EB := Lib.hid (((Ext.refl wz).drew).trans hxb)
              have HB := Lib.hid (bag_ext ((RdF.obj d bs).sep (WrF.obj a)) HZ.out EB.out)
              clear hxb
              refine hK.out _ _ (⟨(HA9.out.ext (EB.out)).cell rfl, (HA9.out.ext (EB.out)).cell rfl, (HA9.out.ext (EB.out)).cell rfl, (HA9.out.ext (EB.out)).cell rfl, (HA9.out.ext (EB.out)).cell rfl, (HA9.out.ext (EB.out)).cell rfl, (HA9.out.ext (EB.out)).cell rfl, (HA9.out.ext (EB.out)).cell rfl, (HA9.out.ext (EB.out)).cell rfl, (HA9.out.ext (EB.out)).cell rfl, (HA9.out.ext (EB.out)).cell rfl, (HA9.out.ext (EB.out)).cell rfl, (HA9.out.ext (EB.out)).cell rfl, (HBX.out.ext (EB.out)).cell rfl, (HBX.out.ext (EB.out)).cell rfl, (HBX.out.ext (EB.out)).cell rfl, (HBX.out.ext (EB.out)).cell rfl, (HBX.out.ext (EB.out)).cell rfl, (HBX.out.ext (EB.out)).cell rfl, (HBX.out.ext (EB.out)).cell rfl, (HBX.out.ext (EB.out)).cell rfl, (HBX.out.ext (EB.out)).cell rfl, (HBX.out.ext (EB.out)).cell rfl, (HBX.out.ext (EB.out)).cell rfl, (HBX.out.ext (EB.out)).cell rfl, (HBX.out.ext (EB.out)).cell rfl⟩) (fun hHeld => ?_)
              clear hK K
              try simp only [Act.put, List.setIfInBounds_toArray, List.set_cons_zero, List.set_cons_succ]
              refine wpAnyH_ready (rs := [6]) (by kernel_rfl) (by simp) ?_
              refine AllReadyH.cons (o := { dst := some 115, op := Op.call { callee := Callee.value (Operand.func 20), args := #[Operand.tmp 112, Operand.tmp 114], argTypes := #[62, 66] }, type := 4, pos := "extra.go:26", after := #[gD 3, gD 5, gC 5, gG 2], guard := some (2, false) }) rfl (fun K hK => ?_) AllReadyH.nil
              go_simp
              go_at_call 20
              refine (US.out _ _ _ _ _ _ _ _ _ _ _ HB.out.held.2.1 HB.out.held.1.1.2.1).mono ?_; rintro e wd ⟨rfl, hxd⟩
              have HD := Lib.hid (bag_imp (bag_ext ((RdF.obj d bs).sep (WrF.obj a)) HB.out hxd) (fun _ _ => trivial) (Q := fun _ => True))
              have ED := Lib.hid (EB.out.trans hxd)
              clear hxd HB EB
              refine hK.out _ _ (⟨(HA9.out.ext (ED.out)).cell rfl, (HA9.out.ext (ED.out)).cell rfl, (HA9.out.ext (ED.out)).cell rfl, (HA9.out.ext (ED.out)).cell rfl, (HA9.out.ext (ED.out)).cell rfl, (HA9.out.ext (ED.out)).cell rfl, (HA9.out.ext (ED.out)).cell rfl, (HA9.out.ext (ED.out)).cell rfl, (HA9.out.ext (ED.out)).cell rfl, (HA9.out.ext (ED.out)).cell rfl, (HA9.out.ext (ED.out)).cell rfl, (HA9.out.ext (ED.out)).cell rfl, (HA9.out.ext (ED.out)).cell rfl, (HBX.out.ext (ED.out)).cell rfl, (HBX.out.ext (ED.out)).cell rfl, (HBX.out.ext (ED.out)).cell rfl, (HBX.out.ext (ED.out)).cell rfl, (HBX.out.ext (ED.out)).cell rfl, (HBX.out.ext (ED.out)).cell rfl, (HBX.out.ext (ED.out)).cell rfl, (HBX.out.ext (ED.out)).cell rfl, (HBX.out.ext (ED.out)).cell rfl, (HBX.out.ext (ED.out)).cell rfl, (HBX.out.ext (ED.out)).cell rfl, (HBX.out.ext (ED.out)).cell rfl, (HBX.out.ext (ED.out)).cell rfl⟩) (fun hHeld => ?_)
              clear hK K
              try simp only [Act.put, List.setIfInBounds_toArray, List.set_cons_zero, List.set_cons_succ]
              refine wpAnyH_take (i := 7) (oi := { dst := some 116, op := Op.unOp UnOp.not 4 (Operand.tmp 115), type := 4, pos := "extra.go:26", after := #[gD 6, gG 2], guard := some (2, false) }) (v := ?_) rfl (by kernel_rfl) (by kernel_rfl) (by kernel_rfl) (fun _ _ _ h => h) (Or.inl ⟨by rfl, ?_⟩) (by assumption) ?_
              case refine_2 => (intro w hSw; (try dsimp only at hSw); go_simp; (try with_reducible rfl))
              try simp only [Act.put, List.setIfInBounds_toArray, List.set_cons_zero, List.set_cons_succ]
              refine wpAnyH_take (i := 8) (oi := { dst := some 117, op := Op.pick (Operand.tmp 111) (Operand.const (Value.bool true)) (Operand.tmp 116), type := 4, pos := "extra.go:26", after := #[gD 2, gD 7], guard := none }) (v := ?_) rfl (by kernel_rfl) (by kernel_rfl) (by kernel_rfl) (fun _ _ _ h => h) (Or.inl ⟨by rfl, ?_⟩) (by assumption) ?_
              case refine_2 => (intro w hSw; (try dsimp only at hSw); go_simp; (try with_reducible rfl))
              try simp only [Act.put, List.setIfInBounds_toArray, List.set_cons_zero, List.set_cons_succ]
              refine wpAnyH_done (by kernel_rfl) ?_ _
              have HNR : Hid (N + 22164 ≤ 4 + 22164 * (i + 1)) := by show _ ≤ _; omega
              clear hN
              go_wp2
              go_roundw
              case rel => exact ⟨i + 1, N + 22164, s2, tt, ⟨by omega, by omega, HNR.out⟩, by go_num, HK2.out, HT3.out, HT4.out, HD.out⟩
              case measure => simp [intOf] <;> omega
            · go_simp
              have XZ : Ext w8 (w8.alloc (.cells #[.int .i64 0, .int .i64 0, .int .i64 0, .int .i64 0, .int .i64 0, .int .i64 0, .int .i64 0, .int .i64 0, .slice none 0 0, .slice none 0 0, .slice none 0 0, .slice none 0 0, .slice none 0 0] 62)).drew := ((Ext.refl w8).alloc _).drew
              have BZ := (BoxIs.new w8 #[.int .i64 0, .int .i64 0, .int .i64 0, .int .i64 0, .int .i64 0, .int .i64 0, .int .i64 0, .int .i64 0, .slice none 0 0, .slice none 0 0, .slice none 0 0, .slice none 0 0, .slice none 0 0] 62).ext ((Ext.refl _).drew)
              have H8a := Lib.hid (H8.out.add (((RdF.obj d bs).sep (WrF.obj a)).sep HoF.obj) (B := BxF w8.heap.size) (G := fun k => k = w8.heap.size) XZ ⟨BZ, fun _ => Iff.rfl⟩ (fun k hk => Nat.le_of_eq hk.symm))
              have E8a := E8.out.trans XZ
              refine hK.out _ _ (⟨(HA6.out.ext (E8a)).cell rfl, (HA6.out.ext (E8a)).cell rfl, (HA6.out.ext (E8a)).cell rfl, (HA6.out.ext (E8a)).cell rfl, (HA6.out.ext (E8a)).cell rfl, (HA6.out.ext (E8a)).cell rfl, (HA6.out.ext (E8a)).cell rfl, (HA6.out.ext (E8a)).cell rfl, (HA6.out.ext (E8a)).cell rfl, (HA6.out.ext (E8a)).cell rfl, (HA6.out.ext (E8a)).cell rfl, (HA6.out.ext (E8a)).cell rfl, (HA6.out.ext (E8a)).cell rfl, HC0.out _ (E8a)⟩) (fun hHeld => ?_)
              clear hK K
              try simp only [Act.put, List.setIfInBounds_toArray, List.set_cons_zero, List.set_cons_succ]
              obtain ⟨bb, hbb⟩ : ∃ b, w8.heap.size = b := ⟨_, rfl⟩
              rw [hbb] at H8a BZ
              try rw [hbb]
              generalize World.drew (World.alloc _ _) = w8a at H8a BZ XZ E8a hHeld ⊢
              clear BZ XZ
              refine wpAnyH_ready (rs := [7]) (by kernel_rfl) (by simp) ?_
              refine AllReadyH.cons (o := { dst := some 106, op := Op.call { callee := Callee.value (Operand.func 19), args := #[Operand.tmp 100, Operand.tmp 104, Operand.tmp 105], argTypes := #[93, 4, 62] }, type := 63, pos := "extra.go:25", after := #[gD 1, gD 5, gD 6], guard := none }) rfl (fun K hK => ?_) AllReadyH.nil
              go_simp
              go_at_call 19
              refine (UB.out _ _ _ _ H8a.out (fun W h => h.1.2.1)).mono ?_; rintro e w9 ⟨vL, v0, v1, v2, v3, x9, rfl, h9⟩
              obtain ⟨bL, nL, dL, rfl⟩ := h9.fst.held.2.1.1.slf
              obtain ⟨b0, n0, d0, rfl⟩ := h9.fst.held.2.1.2.1.slf
              obtain ⟨b1, n1, d1, rfl⟩ := h9.fst.held.2.1.2.2.1.slf
              obtain ⟨b2, n2, d2, rfl⟩ := h9.fst.held.2.1.2.2.2.1.slf
              obtain ⟨b3, n3, d3, rfl⟩ := h9.fst.held.2.1.2.2.2.2.slf
              obtain rfl : x9 = .nilIface := h9.fst.held.2.2
              have H9 := Lib.hid h9
              clear h9 H8a E8a
              refine hK.out _ _ (⟨(H9.out.fst.held.1.2).cell rfl, (H9.out.fst.held.1.2).cell rfl, (H9.out.fst.held.1.2).cell rfl, (H9.out.fst.held.1.2).cell rfl, (H9.out.fst.held.1.2).cell rfl, (H9.out.fst.held.1.2).cell rfl, (H9.out.fst.held.1.2).cell rfl, (H9.out.fst.held.1.2).cell rfl, (H9.out.fst.held.1.2).cell rfl, (H9.out.fst.held.1.2).cell rfl, (H9.out.fst.held.1.2).cell rfl, (H9.out.fst.held.1.2).cell rfl, (H9.out.fst.held.1.2).cell rfl, H9.out.out.cell HCW.out⟩) (fun hHeld => ?_)
              clear hK K
              try simp only [Act.put, List.setIfInBounds_toArray, List.set_cons_zero, List.set_cons_succ]
              refine wpAnyH_take (i := 8) (oi := { dst := some 98, op := Op.move (Operand.tmp 106), type := 63, pos := "extra.go:25", after := #[gD 7], guard := none }) (v := ?_) rfl (by kernel_rfl) (by kernel_rfl) (by kernel_rfl) (fun _ _ _ h => h) (Or.inl ⟨by rfl, ?_⟩) (by assumption) ?_
              case refine_2 => (intro w hSw; (try dsimp only at hSw); go_simp; (try with_reducible rfl))
              try simp only [Act.put, List.setIfInBounds_toArray, List.set_cons_zero, List.set_cons_succ]
              refine wpAnyH_take (i := 9) (oi := { dst := some 107, op := Op.extract (Operand.tmp 98) 0, type := 62, pos := "extra.go:25", after := #[gD 8], guard := none }) (v := ?_) rfl (by kernel_rfl) (by kernel_rfl) (by kernel_rfl) (fun _ _ _ h => h) (Or.inl ⟨by rfl, ?_⟩) (by assumption) ?_
              case refine_2 => (intro w hSw; (try dsimp only at hSw); go_simp; (try with_reducible rfl))
              try simp only [Act.put, List.setIfInBounds_toArray, List.set_cons_zero, List.set_cons_succ]
              refine wpAnyH_take (i := 10) (oi := { dst := some 108, op := Op.extract (Operand.tmp 98) 1, type := 30, pos := "extra.go:25", after := #[gD 8, gO 12], guard := none }) (v := ?_) rfl (by kernel_rfl) (by kernel_rfl) (by kernel_rfl) (fun _ _ _ h => h) (Or.inl ⟨by rfl, ?_⟩) (by assumption) ?_
              case refine_2 => (intro w hSw; (try dsimp only at hSw); go_simp; (try with_reducible rfl))
              try simp only [Act.put, List.setIfInBounds_toArray, List.set_cons_zero, List.set_cons_succ]
              obtain ⟨GB, hGB⟩ := H9.out.r
              obtain ⟨⟨e0, e1, e2, e3, e4, e5, e6, e7, e8, e9, e10, e11, e12⟩, f0, f1, f2, f3, f4, f5, f6, f7, f8, f9, f10, f11, f12⟩ := sq_cells hGB.1
              have H9s := Lib.hid (ubx_all (((RdF.obj d bs).sep (WrF.obj a)).sep HoF.obj) H9.out (.int .i64 rk) (.int .i64 rm) (.int .i64 ra) (.int .i64 rb) (.int .i64 rc) (.int .i64 rd) (.int .i64 rx) (.int .i64 ry) (.slice bL nL dL) (.slice b0 n0 d0) (.slice b1 n1 d1) (.slice b2 n2 d2) (.slice b3 n3 d3))
              refine wpAnyH_ready (rs := [12]) (by kernel_rfl) (by simp) ?_
              refine AllReadyH.cons (o := { dst := none, op := Op.store 62 (Operand.tmp 10) (Operand.tmp 107), type := 0, pos := "extra.go:25", after := #[gD 11, gD 9, gC 7, gP 0, gP 1, gP 2, gP 3, gP 4, gP 5, gP 6, gP 7, gP 8, gP 9, gT 10, gP 11], guard := none }) rfl (fun K hK => ?_) AllReadyH.nil
              go_simp
              refine hK.out _ _ (⟨(H9s.out.fst.held.1.2).cell rfl, (H9s.out.fst.held.1.2).cell rfl, (H9s.out.fst.held.1.2).cell rfl, (H9s.out.fst.held.1.2).cell rfl, (H9s.out.fst.held.1.2).cell rfl, (H9s.out.fst.held.1.2).cell rfl, (H9s.out.fst.held.1.2).cell rfl, (H9s.out.fst.held.1.2).cell rfl, (H9s.out.fst.held.1.2).cell rfl, (H9s.out.fst.held.1.2).cell rfl, (H9s.out.fst.held.1.2).cell rfl, (H9s.out.fst.held.1.2).cell rfl, (H9s.out.fst.held.1.2).cell rfl, H9s.out.out.cell HCW.out⟩) (fun hHeld => ?_)
              clear hK K
              try simp only [Act.put, List.setIfInBounds_toArray, List.set_cons_zero, List.set_cons_succ]
              refine wpAnyH_take (i := 13) (oi := { dst := some 11, op := Op.assign (Operand.tmp 108), type := 30, pos := "extra.go:25", after := #[gD 10, gC 12, gP 0, gP 1, gP 2, gP 3, gP 4, gP 5, gP 6, gP 7, gP 8, gP 9, gP 10, gP 11, gP 12], guard := none }) (v := ?_) rfl (by kernel_rfl) (by kernel_rfl) (by kernel_rfl) (fun _ _ _ h => h) (Or.inl ⟨by rfl, ?_⟩) (by assumption) ?_
              case refine_2 => (intro w hSw; (try dsimp only at hSw); go_simp; (try with_reducible rfl))
              try simp only [Act.put, List.setIfInBounds_toArray, List.set_cons_zero, List.set_cons_succ]
              refine wpAnyH_done (by kernel_rfl) ?_ _
              clear e0 e1 e2 e3 e4 e5 e6 e7 e8 e9 e10 e11 e12 f0 f1 f2 f3 f4 f5 f6 f7 f8 f9 f10 f11 f12 hHeld
              generalize World.setCell _ _ _ = wz at H9s ⊢
              have HZ := Lib.hid H9s.out.fst
              have HA9 := Lib.hid HZ.out.held.1.2
              obtain ⟨GC, hGC⟩ := H9s.out.r
              have HBX := Lib.hid hGC.1
              clear hGC hGB hbb H9 H9s H8d E8d
              go_wp2_with fail
              refine wp_region_held_drew (S := fun w' => w'.cell? ⟨w5.heap.size, 0, none⟩ = some (.int .i64 rk) ∧ w'.cell? ⟨w5.heap.size, 1, none⟩ = some (.int .i64 rm) ∧ w'.cell? ⟨w5.heap.size, 2, none⟩ = some (.int .i64 ra) ∧ w'.cell? ⟨w5.heap.size, 3, none⟩ = some (.int .i64 rb) ∧ w'.cell? ⟨w5.heap.size, 4, none⟩ = some (.int .i64 rc) ∧ w'.cell? ⟨w5.heap.size, 5, none⟩ = some (.int .i64 rd) ∧ w'.cell? ⟨w5.heap.size, 6, none⟩ = some (.int .i64 rx) ∧ w'.cell? ⟨w5.heap.size, 7, none⟩ = some (.int .i64 ry) ∧ w'.cell? ⟨w5.heap.size, 8, none⟩ = some (.slice aL lL cL) ∧ w'.cell? ⟨w5.heap.size, 9, none⟩ = some (.slice a0 l0 c0) ∧ w'.cell? ⟨w5.heap.size, 10, none⟩ = some (.slice a1 l1 c1) ∧ w'.cell? ⟨w5.heap.size, 11, none⟩ = some (.slice a2 l2 c2) ∧ w'.cell? ⟨w5.heap.size, 12, none⟩ = some (.slice a3 l3 c3) ∧ w'.cell? ⟨bb, 0, none⟩ = some (.int .i64 rk) ∧ w'.cell? ⟨bb, 1, none⟩ = some (.int .i64 rm) ∧ w'.cell? ⟨bb, 2, none⟩ = some (.int .i64 ra) ∧ w'.cell? ⟨bb, 3, none⟩ = some (.int .i64 rb) ∧ w'.cell? ⟨bb, 4, none⟩ = some (.int .i64 rc) ∧ w'.cell? ⟨bb, 5, none⟩ = some (.int .i64 rd) ∧ w'.cell? ⟨bb, 6, none⟩ = some (.int .i64 rx) ∧ w'.cell? ⟨bb, 7, none⟩ = some (.int .i64 ry) ∧ w'.cell? ⟨bb, 8, none⟩ = some (.slice bL nL dL) ∧ w'.cell? ⟨bb, 9, none⟩ = some (.slice b0 n0 d0) ∧ w'.cell? ⟨bb, 10, none⟩ = some (.slice b1 n1 d1) ∧ w'.cell? ⟨bb, 11, none⟩ = some (.slice b2 n2 d2) ∧ w'.cell? ⟨bb, 12, none⟩ = some (.slice b3 n3 d3)) (by kernel_rfl) (⟨(HA9.out.ext ((Ext.refl _).drew)).cell rfl, (HA9.out.ext ((Ext.refl _).drew)).cell rfl, (HA9.out.ext ((Ext.refl _).drew)).cell rfl, (HA9.out.ext ((Ext.refl _).drew)).cell rfl, (HA9.out.ext ((Ext.refl _).drew)).cell rfl, (HA9.out.ext ((Ext.refl _).drew)).cell rfl, (HA9.out.ext ((Ext.refl _).drew)).cell rfl, (HA9.out.ext ((Ext.refl _).drew)).cell rfl, (HA9.out.ext ((Ext.refl _).drew)).cell rfl, (HA9.out.ext ((Ext.refl _).drew)).cell rfl, (HA9.out.ext ((Ext.refl _).drew)).cell rfl, (HA9.out.ext ((Ext.refl _).drew)).cell rfl, (HA9.out.ext ((Ext.refl _).drew)).cell rfl, (HBX.out.ext ((Ext.refl _).drew)).cell rfl, (HBX.out.ext ((Ext.refl _).drew)).cell rfl, (HBX.out.ext ((Ext.refl _).drew)).cell rfl, (HBX.out.ext ((Ext.refl _).drew)).cell rfl, (HBX.out.ext ((Ext.refl _).drew)).cell rfl, (HBX.out.ext ((Ext.refl _).drew)).cell rfl, (HBX.out.ext ((Ext.refl _).drew)).cell rfl, (HBX.out.ext ((Ext.refl _).drew)).cell rfl, (HBX.out.ext ((Ext.refl _).drew)).cell rfl, (HBX.out.ext ((Ext.refl _).drew)).cell rfl, (HBX.out.ext ((Ext.refl _).drew)).cell rfl, (HBX.out.ext ((Ext.refl _).drew)).cell rfl, (HBX.out.ext ((Ext.refl _).drew)).cell rfl⟩) (fun hHeld => ?_)
              refine wpAnyH_take (i := 0) (oi := { dst := some 109, op := Op.move (Operand.tmp 11), type := 30, pos := "extra.go:26", after := #[], guard := none }) (v := ?_) rfl (by kernel_rfl) (by kernel_rfl) (by kernel_rfl) (fun _ _ _ h => h) (Or.inl ⟨by rfl, ?_⟩) (by assumption) ?_
              case refine_2 => (intro w hSw; (try dsimp only at hSw); go_simp; (try with_reducible rfl))
              try simp only [Act.put, List.setIfInBounds_toArray, List.set_cons_zero, List.set_cons_succ]
              refine wpAnyH_take (i := 1) (oi := { dst := some 110, op := Op.binOp BinOp.neq 30 (Operand.tmp 109) (Operand.const Value.nilIface) 30, type := 4, pos := "extra.go:26", after := #[gD 0], guard := none }) (v := ?_) rfl (by kernel_rfl) (by kernel_rfl) (by kernel_rfl) (fun _ _ _ h => h) (Or.inl ⟨by rfl, ?_⟩) (by assumption) ?_
              case refine_2 => (intro w hSw; (try dsimp only at hSw); go_simp; (try with_reducible rfl))
              try simp only [Act.put, List.setIfInBounds_toArray, List.set_cons_zero, List.set_cons_succ]
              refine wpAnyH_take (i := 2) (oi := { dst := some 111, op := Op.move (Operand.tmp 110), type := 4, pos := "extra.go:26", after := #[gD 1], guard := none }) (v := ?_) rfl (by kernel_rfl) (by kernel_rfl) (by kernel_rfl) (fun _ _ _ h => h) (Or.inl ⟨by rfl, ?_⟩) (by assumption) ?_
              case refine_2 => (intro w hSw; (try dsimp only at hSw); go_simp; (try with_reducible rfl))
              try simp only [Act.put, List.setIfInBounds_toArray, List.set_cons_zero, List.set_cons_succ]
              refine wpAnyH_take (i := 3) (oi := { dst := some 112, op := Op.load 62 (Operand.tmp 10), type := 62, pos := "extra.go:26", after := #[gG 2], guard := some (2, false) }) (v := ?_) rfl (by kernel_rfl) (by kernel_rfl) (by kernel_rfl) (fun _ _ _ h => h) (Or.inl ⟨by rfl, ?_⟩) (by assumption) ?_
              case refine_2 => (intro w hSw; (try dsimp only at hSw); go_simp; (try with_reducible rfl))
              try simp only [Act.put, List.setIfInBounds_toArray, List.set_cons_zero, List.set_cons_succ]
              refine wpAnyH_take (i := 4) (oi := { dst := some 113, op := Op.load 62 (Operand.tmp 8), type := 62, pos := "extra.go:26", after := #[gG 2], guard := some (2, false) }) (v := ?_) rfl (by kernel_rfl) (by kernel_rfl) (by kernel_rfl) (fun _ _ _ h => h) (Or.inl ⟨by rfl, ?_⟩) (by assumption) ?_
              case refine_2 => (intro w hSw; (try dsimp only at hSw); go_simp; (try with_reducible rfl))
              try simp only [Act.put, List.setIfInBounds_toArray, List.set_cons_zero, List.set_cons_succ]
              refine wpAnyH_ready (rs := [5]) (by kernel_rfl) (by simp) ?_
              refine AllReadyH.cons (o := { dst := some 114, op := Op.call { callee := Callee.value (Operand.func 22), args := #[Operand.tmp 113], argTypes := #[62] }, type := 66, pos := "extra.go:26", after := #[gD 4, gC 2, gG 2], guard := some (2, false) }) rfl (fun K hK => ?_) AllReadyH.nil
              go_simp
              go_at_call 22
              refine (UQ.out _ _ _ _ _ _ ⟨_, _, _, rfl⟩ ⟨_, _, _, rfl⟩ ⟨_, _, _, rfl⟩ ⟨_, _, _, rfl⟩ ⟨_, _, _, rfl⟩).mono ?_; rintro e wb ⟨rfl, hxb⟩
              have EB := Lib.hid (((Ext.refl wz).drew).trans hxb)
              have HB := Lib.hid (bag_ext ((RdF.obj d bs).sep (WrF.obj a)) HZ.out EB.out)
              clear hxb
              refine hK.out _ _ (⟨(HA9.out.ext (EB.out)).cell rfl, (HA9.out.ext (EB.out)).cell rfl, (HA9.out.ext (EB.out)).cell rfl, (HA9.out.ext (EB.out)).cell rfl, (HA9.out.ext (EB.out)).cell rfl, (HA9.out.ext (EB.out)).cell rfl, (HA9.out.ext (EB.out)).cell rfl, (HA9.out.ext (EB.out)).cell rfl, (HA9.out.ext (EB.out)).cell rfl, (HA9.out.ext (EB.out)).cell rfl, (HA9.out.ext (EB.out)).cell rfl, (HA9.out.ext (EB.out)).cell rfl, (HA9.out.ext (EB.out)).cell rfl, (HBX.out.ext (EB.out)).cell rfl, (HBX.out.ext (EB.out)).cell rfl, (HBX.out.ext (EB.out)).cell rfl, (HBX.out.ext (EB.out)).cell rfl, (HBX.out.ext (EB.out)).cell rfl, (HBX.out.ext (EB.out)).cell rfl, (HBX.out.ext (EB.out)).cell rfl, (HBX.out.ext (EB.out)).cell rfl, (HBX.out.ext (EB.out)).cell rfl, (HBX.out.ext (EB.out)).cell rfl, (HBX.out.ext (EB.out)).cell rfl, (HBX.out.ext (EB.out)).cell rfl, (HBX.out.ext (EB.out)).cell rfl⟩) (fun hHeld => ?_)
              clear hK K
              try simp only [Act.put, List.setIfInBounds_toArray, List.set_cons_zero, List.set_cons_succ]
              refine wpAnyH_ready (rs := [6]) (by kernel_rfl) (by simp) ?_
              refine AllReadyH.cons (o := { dst := some 115, op := Op.call { callee := Callee.value (Operand.func 20), args := #[Operand.tmp 112, Operand.tmp 114], argTypes := #[62, 66] }, type := 4, pos := "extra.go:26", after := #[gD 3, gD 5, gC 5, gG 2], guard := some (2, false) }) rfl (fun K hK => ?_) AllReadyH.nil
              go_simp
              go_at_call 20
              refine (US.out _ _ _ _ _ _ _ _ _ _ _ HB.out.held.2.1 HB.out.held.1.1.2.1).mono ?_; rintro e wd ⟨rfl, hxd⟩
              have HD := Lib.hid (bag_imp (bag_ext ((RdF.obj d bs).sep (WrF.obj a)) HB.out hxd) (fun _ _ => trivial) (Q := fun _ => True))
              have ED := Lib.hid (EB.out.trans hxd)
              clear hxd HB EB
              refine hK.out _ _ (⟨(HA9.out.ext (ED.out)).cell rfl, (HA9.out.ext (ED.out)).cell rfl, (HA9.out.ext (ED.out)).cell rfl, (HA9.out.ext (ED.out)).cell rfl, (HA9.out.ext (ED.out)).cell rfl, (HA9.out.ext (ED.out)).cell rfl, (HA9.out.ext (ED.out)).cell rfl, (HA9.out.ext (ED.out)).cell rfl, (HA9.out.ext (ED.out)).cell rfl, (HA9.out.ext (ED.out)).cell rfl, (HA9.out.ext (ED.out)).cell rfl, (HA9.out.ext (ED.out)).cell rfl, (HA9.out.ext (ED.out)).cell rfl, (HBX.out.ext (ED.out)).cell rfl, (HBX.out.ext (ED.out)).cell rfl, (HBX.out.ext (ED.out)).cell rfl, (HBX.out.ext (ED.out)).cell rfl, (HBX.out.ext (ED.out)).cell rfl, (HBX.out.ext (ED.out)).cell rfl, (HBX.out.ext (ED.out)).cell rfl, (HBX.out.ext (ED.out)).cell rfl, (HBX.out.ext (ED.out)).cell rfl, (HBX.out.ext (ED.out)).cell rfl, (HBX.out.ext (ED.out)).cell rfl, (HBX.out.ext (ED.out)).cell rfl, (HBX.out.ext (ED.out)).cell rfl⟩) (fun hHeld => ?_)
              clear hK K
              try simp only [Act.put, List.setIfInBounds_toArray, List.set_cons_zero, List.set_cons_succ]
              refine wpAnyH_take (i := 7) (oi := { dst := some 116, op := Op.unOp UnOp.not 4 (Operand.tmp 115), type := 4, pos := "extra.go:26", after := #[gD 6, gG 2], guard := some (2, false) }) (v := ?_) rfl (by kernel_rfl) (by kernel_rfl) (by kernel_rfl) (fun _ _ _ h => h) (Or.inl ⟨by rfl, ?_⟩) (by assumption) ?_
              case refine_2 => (intro w hSw; (try dsimp only at hSw); go_simp; (try with_reducible rfl))
              try simp only [Act.put, List.setIfInBounds_toArray, List.set_cons_zero, List.set_cons_succ]
              refine wpAnyH_take (i := 8) (oi := { dst := some 117, op := Op.pick (Operand.tmp 111) (Operand.const (Value.bool true)) (Operand.tmp 116), type := 4, pos := "extra.go:26", after := #[gD 2, gD 7], guard := none }) (v := ?_) rfl (by kernel_rfl) (by kernel_rfl) (by kernel_rfl) (fun _ _ _ h => h) (Or.inl ⟨by rfl, ?_⟩) (by assumption) ?_
              case refine_2 => (intro w hSw; (try dsimp only at hSw); go_simp; (try with_reducible rfl))
              try simp only [Act.put, List.setIfInBounds_toArray, List.set_cons_zero, List.set_cons_succ]
              refine wpAnyH_done (by kernel_rfl) ?_ _
              have HNR : Hid (N + 22164 ≤ 4 + 22164 * (i + 1)) := by show _ ≤ _; omega
              clear hN
              go_wp2
              go_roundw
              case rel => exact ⟨i + 1, N + 22164, s2, tt, ⟨by omega, by omega, HNR.out⟩, by go_num, HK2.out, HT3.out, HT4.out, HD.out⟩
              case measure => simp [intOf] <;> omega
        · have HQ0 := Lib.hid ck
          obtain ⟨⟨⟨f, q⟩, s2⟩, hs⟩ : ∃ r, sqD true bs 9 s = r := ⟨_, rfl⟩
          have hgot : GotS true (f, q) := by have h := sq_got (M := mD bs) true 9 (FullS.bl 0) s; rw [show (sqP true 9 (blS 0)).run (mD bs) s = ((f, q), s2) from hs] at h; exact h
          have HK2 := Lib.hid (sqD_ok HBB.out HK.out hs)
          have UR := Lib.hid (rsq_l (q := ⟨9, 0, 0, 0, 0, 0, 0, 0, [], [], [], [], []⟩) (vL := nilS) (v0 := nilS) (v1 := nilS) (v2 := nilS) (v3 := nilS) (WrF.obj a) HBB.out HU.out HK.out (by omega) hs ⟨_, _, _, rfl⟩ ⟨_, _, _, rfl⟩ ⟨_, _, _, rfl⟩ ⟨_, _, _, rfl⟩ ⟨_, _, _, rfl⟩)
          have HGOT := Lib.hid hgot
          clear hs hgot
          go_wp2_with fail
          refine (UR.out).mono ?_; rintro e w5 ⟨L5, p0, p1, p2, p3, x5, rfl, h5⟩
          have H5 := Lib.hid h5
          obtain ⟨aL, lL, cL, rfl⟩ := h5.held.2.1.1.slf
          obtain ⟨a0, l0, c0, rfl⟩ := h5.held.2.1.2.1.slf
          obtain ⟨a1, l1, c1, rfl⟩ := h5.held.2.1.2.2.1.slf
          obtain ⟨a2, l2, c2, rfl⟩ := h5.held.2.1.2.2.2.1.slf
          obtain ⟨a3, l3, c3, rfl⟩ := h5.held.2.1.2.2.2.2.slf
          clear UR h5 HU HK
          rcases HGOT.out with ⟨k9, i9, hgot⟩ | ⟨q9, hgot, hask, hpart⟩
          · obtain ⟨rfl, rfl⟩ := Prod.mk.inj hgot
            obtain ⟨xt, xv, rfl⟩ := ErrIs.ne H5.out.held.2.2
            clear hgot HGOT
            have A6 := BoxIs.new w5 #[.int .i64 0, .int .i64 0, .int .i64 0, .int .i64 0, .int .i64 0, .int .i64 0, .int .i64 0, .int .i64 0, .slice aL 0 cL, .slice a0 l0 c0, .slice a1 l1 c1, .slice a2 l2 c2, .slice a3 l3 c3] 62
            have X6 := (Ext.refl w5).alloc (.cells #[.int .i64 0, .int .i64 0, .int .i64 0, .int .i64 0, .int .i64 0, .int .i64 0, .int .i64 0, .int .i64 0, .slice aL 0 cL, .slice a0 l0 c0, .slice a1 l1 c1, .slice a2 l2 c2, .slice a3 l3 c3] 62)
            obtain ⟨w6, hw6⟩ : ∃ z, w5.alloc (.cells #[.int .i64 0, .int .i64 0, .int .i64 0, .int .i64 0, .int .i64 0, .int .i64 0, .int .i64 0, .int .i64 0, .slice aL 0 cL, .slice a0 l0 c0, .slice a1 l1 c1, .slice a2 l2 c2, .slice a3 l3 c3] 62) = z := ⟨_, rfl⟩
            rw [hw6] at A6 X6
            have HA6 := Lib.hid A6
            have HX6 := Lib.hid X6
            have HW6 := Lib.hid hw6
            obtain rfl : lL = 0 := H5.out.held.2.1.1.len
            clear A6 X6 hw6 ck
            unfold sqQ sqV sq0
            go_wp2_with fail
            rw [HW6.out]
            refine (first20_any _ (HET.out.ext (H5.out.out.trans HX6.out))).mono ?_; rintro e w7 ⟨rfl, hx7⟩
            obtain ⟨⟨k0, k1, k2, k3, k4, k5, k6, k7, k8, k9, k10, k11, k12⟩, -⟩ := sq_cells (HA6.out.ext hx7)
            have HX7 := Lib.hid hx7
            clear hx7
            go_wp2
            go_ret
            exact ⟨rfl, H5.out.out.trans (HX6.out.trans HX7.out)⟩
          · obtain ⟨rfl, rfl⟩ := Prod.mk.inj hgot
            obtain rfl : x5 = .nilIface := H5.out.held.2.2
            clear hgot HGOT
            have HASK := Lib.hid hask
            have HPART := Lib.hid hpart
            have hok := (ask_out hask).1
            simp only [okK, Bool.and_eq_true, Bool.not_eq_true', decide_eq_true_eq] at hok
            have HK3 := Lib.hid hok.1
            have hk1 : 0 ≤ q.k := hok.1.1
            have hk2 : q.k ≤ 3 := hok.1.2
            have hk3 : ¬ q.k < 2 := by simpa using hok.2
            clear hask hpart hok
            have UP := Lib.hid (fun w' (h : SqIs w' q (.slice aL lL cL) (.slice a0 l0 c0) (.slice a1 l1 c1) (.slice a2 l2 c2) (.slice a3 l3 c3)) => prts_any q _ _ _ _ _ w' h HK3.out)
            rw [HPART.out] at UP
            have US := Lib.hid (fun uL u0 u1 u2 u3 zL z0 z1 z2 z3 w' (h : SqIs w' q uL u0 u1 u2 u3) (k : SqIs w' q zL z0 z1 z2 z3) => same_sq q uL u0 u1 u2 u3 zL z0 z1 z2 z3 w' h k)
            obtain ⟨tt, ht1, ht2, ht3, ht4⟩ := sqW_yes HT.out HGT.out HASK.out
            rw [HPART.out] at ht1
            have HT1 := Lib.hid ht1
            have HT3 := Lib.hid ht3
            have HT4 := Lib.hid ht4
            have UQ := Lib.hid (fun uL u0 u1 u2 u3 w' (h : SlF uL) (h0 : SlF u0) (h1 : SlF u1) (h2 : SlF u2) (h3 : SlF u3) => plain_sq q.k q.m q.a q.b q.c q.d q.x q.y uL u0 u1 u2 u3 w' h h0 h1 h2 h3)
            have hN5 : N ≤ 3840000 := by omega
            have UW := Lib.hid (fun (P : World → Prop) w' (h : Uno (Sep (Sep (RdF d bs) (WrF a)) HoF) w w' ((s2, t), P)) (hP : ∀ W, P W → SqIs W q (.slice aL lL cL) (.slice a0 l0 c0) (.slice a1 l1 c1) (.slice a2 l2 c2) (.slice a3 l3 c3)) => wsq_r (RdF.obj d bs) h HT.out HGT.out hN5 HT1.out hP)
            have UB := Lib.hid (fun (P : World → Prop) b cs w' (h : Uno (Sep (Sep (Sep (RdF d bs) (WrF a)) HoF) (BxF b)) w w' (((s2, t), P), cs)) (hP : ∀ W, P W → SqIs W q (.slice aL lL cL) (.slice a0 l0 c0) (.slice a1 l1 c1) (.slice a2 l2 c2) (.slice a3 l3 c3)) => wsq_b (RdF.obj d bs) h HT.out HGT.out hN5 HT1.out hP)
            unfold KqP at UW
            clear ht1 ht2 ht3 ht4
            unfold sqQ sqV at UP US UQ UW UB ⊢
            obtain ⟨rk, hrk⟩ : ∃ z, q.k = z := ⟨_, rfl⟩
            obtain ⟨rm, hrm⟩ : ∃ z, q.m = z := ⟨_, rfl⟩
            obtain ⟨ra, hra⟩ : ∃ z, q.a = z := ⟨_, rfl⟩
            obtain ⟨rb, hrb⟩ : ∃ z, q.b = z := ⟨_, rfl⟩
            obtain ⟨rc, hrc⟩ : ∃ z, q.c = z := ⟨_, rfl⟩
            obtain ⟨rd, hrd⟩ : ∃ z, q.d = z := ⟨_, rfl⟩
            obtain ⟨rx, hrx⟩ : ∃ z, q.x = z := ⟨_, rfl⟩
            obtain ⟨ry, hry⟩ : ∃ z, q.y = z := ⟨_, rfl⟩
            rw [hrk, hrm, hra, hrb, hrc, hrd, hrx, hry] at UP US UQ UW UB ⊢
            rw [hrk] at hk1 hk2 hk3
            clear hrk hrm hra hrb hrc hrd hrx hry
            have A6 := BoxIs.new w5 #[.int .i64 rk, .int .i64 rm, .int .i64 ra, .int .i64 rb, .int .i64 rc, .int .i64 rd, .int .i64 rx, .int .i64 ry, .slice aL lL cL, .slice a0 l0 c0, .slice a1 l1 c1, .slice a2 l2 c2, .slice a3 l3 c3] 62
            have X6 := (Ext.refl w5).alloc (.cells #[.int .i64 rk, .int .i64 rm, .int .i64 ra, .int .i64 rb, .int .i64 rc, .int .i64 rd, .int .i64 rx, .int .i64 ry, .slice aL lL cL, .slice a0 l0 c0, .slice a1 l1 c1, .slice a2 l2 c2, .slice a3 l3 c3] 62)
            obtain ⟨w6, hw6⟩ : ∃ z, w5.alloc (.cells #[.int .i64 rk, .int .i64 rm, .int .i64 ra, .int .i64 rb, .int .i64 rc, .int .i64 rd, .int .i64 rx, .int .i64 ry, .slice aL lL cL, .slice a0 l0 c0, .slice a1 l1 c1, .slice a2 l2 c2, .slice a3 l3 c3] 62) = z := ⟨_, rfl⟩
            rw [hw6] at A6 X6
            have HA6 := Lib.hid A6
            have H6 := Lib.hid (bag_add ((RdF.obj d bs).sep (WrF.obj a)) H5.out X6 (HoF.box A6) (fun i hi => Nat.le_of_eq hi.symm))
            have HW6 := Lib.hid hw6
            have HC0 : Hid (∀ w', Ext w6 w' → w'.cell? ⟨g, off + i, none⟩ = some (.bool true)) := fun w' h => (H6.out.out.trans h).cell HCW.out
            clear A6 X6 hw6 H5 ck
            go_wp2_with fail
            rw [HW6.out]
            clear HW6
            have nk1 : decide (rk < 0) = false := decide_eq_false (by omega)
            have nk2 : decide (3 < rk) = false := decide_eq_false (by omega)
            have nk3 : decide (rk < 2) = false := decide_eq_false (by omega)
            refine wp_region_held_drew (S := fun w' => w'.cell? ⟨w5.heap.size, 0, none⟩ = some (.int .i64 rk) ∧ w'.cell? ⟨w5.heap.size, 1, none⟩ = some (.int .i64 rm) ∧ w'.cell? ⟨w5.heap.size, 2, none⟩ = some (.int .i64 ra) ∧ w'.cell? ⟨w5.heap.size, 3, none⟩ = some (.int .i64 rb) ∧ w'.cell? ⟨w5.heap.size, 4, none⟩ = some (.int .i64 rc) ∧ w'.cell? ⟨w5.heap.size, 5, none⟩ = some (.int .i64 rd) ∧ w'.cell? ⟨w5.heap.size, 6, none⟩ = some (.int .i64 rx) ∧ w'.cell? ⟨w5.heap.size, 7, none⟩ = some (.int .i64 ry) ∧ w'.cell? ⟨w5.heap.size, 8, none⟩ = some (.slice aL lL cL) ∧ w'.cell? ⟨w5.heap.size, 9, none⟩ = some (.slice a0 l0 c0) ∧ w'.cell? ⟨w5.heap.size, 10, none⟩ = some (.slice a1 l1 c1) ∧ w'.cell? ⟨w5.heap.size, 11, none⟩ = some (.slice a2 l2 c2) ∧ w'.cell? ⟨w5.heap.size, 12, none⟩ = some (.slice a3 l3 c3) ∧ w'.cell? ⟨g, off + i, none⟩ = some (.bool true)) (by kernel_rfl) (⟨(HA6.out.ext ((Ext.refl w6).drew)).cell rfl, (HA6.out.ext ((Ext.refl w6).drew)).cell rfl, (HA6.out.ext ((Ext.refl w6).drew)).cell rfl, (HA6.out.ext ((Ext.refl w6).drew)).cell rfl, (HA6.out.ext ((Ext.refl w6).drew)).cell rfl, (HA6.out.ext ((Ext.refl w6).drew)).cell rfl, (HA6.out.ext ((Ext.refl w6).drew)).cell rfl, (HA6.out.ext ((Ext.refl w6).drew)).cell rfl, (HA6.out.ext ((Ext.refl w6).drew)).cell rfl, (HA6.out.ext ((Ext.refl w6).drew)).cell rfl, (HA6.out.ext ((Ext.refl w6).drew)).cell rfl, (HA6.out.ext ((Ext.refl w6).drew)).cell rfl, (HA6.out.ext ((Ext.refl w6).drew)).cell rfl, HC0.out _ ((Ext.refl w6).drew)⟩) (fun hHeld => ?_)
            refine wpAnyH_take (i := 0) (oi := { dst := some 72, op := Op.fieldAddr 62 (Operand.tmp 8) 0, type := 0, pos := "extra.go:22", after := #[], guard := none }) (v := ?_) rfl (by kernel_rfl) (by kernel_rfl) (by kernel_rfl) (fun _ _ _ h => h) (Or.inl ⟨by rfl, ?_⟩) (by assumption) ?_
            case refine_2 => (intro w hSw; (try dsimp only at hSw); go_simp; (try with_reducible rfl))
            try simp only [Act.put, List.setIfInBounds_toArray, List.set_cons_zero, List.set_cons_succ]
            refine wpAnyH_take (i := 1) (oi := { dst := some 73, op := Op.load 3 (Operand.tmp 72), type := 3, pos := "extra.go:22", after := #[gD 0], guard := none }) (v := ?_) rfl (by kernel_rfl) (by kernel_rfl) (by kernel_rfl) (fun _ _ _ h => h) (Or.inl ⟨by rfl, ?_⟩) (by assumption) ?_
            case refine_2 => (intro w hSw; (try dsimp only at hSw); go_simp; (try with_reducible rfl))
            try simp only [Act.put, List.setIfInBounds_toArray, List.set_cons_zero, List.set_cons_succ]
            refine wpAnyH_take (i := 2) (oi := { dst := some 74, op := Op.binOp BinOp.lss 3 (Operand.tmp 73) (Operand.const (Value.int IntKind.i64 0)) 3, type := 4, pos := "extra.go:22", after := #[gD 1], guard := none }) (v := ?_) rfl (by kernel_rfl) (by kernel_rfl) (by kernel_rfl) (fun _ _ _ h => h) (Or.inl ⟨by rfl, ?_⟩) (by assumption) ?_
            case refine_2 => (intro w hSw; (try dsimp only at hSw); go_simp; (try with_reducible rfl))
            try simp only [Act.put, List.setIfInBounds_toArray, List.set_cons_zero, List.set_cons_succ]
            refine wpAnyH_take (i := 3) (oi := { dst := some 75, op := Op.move (Operand.tmp 74), type := 4, pos := "extra.go:22", after := #[gD 2], guard := none }) (v := ?_) rfl (by kernel_rfl) (by kernel_rfl) (by kernel_rfl) (fun _ _ _ h => h) (Or.inl ⟨by rfl, ?_⟩) (by assumption) ?_
            case refine_2 => (intro w hSw; (try dsimp only at hSw); go_simp; (try with_reducible rfl))
            try simp only [Act.put, List.setIfInBounds_toArray, List.set_cons_zero, List.set_cons_succ]
            refine wpAnyH_take (i := 4) (oi := { dst := some 76, op := Op.fieldAddr 62 (Operand.tmp 8) 0, type := 0, pos := "extra.go:22", after := #[gG 3], guard := some (3, false) }) (v := ?_) rfl (by kernel_rfl) (by kernel_rfl) (by kernel_rfl) (fun _ _ _ h => h) (Or.inl ⟨by rfl, ?_⟩) (by assumption) ?_
            case refine_2 => (intro w hSw; (try dsimp only at hSw); go_simp; (try with_reducible rfl))
            try simp only [Act.put, List.setIfInBounds_toArray, List.set_cons_zero, List.set_cons_succ]
            refine wpAnyH_take (i := 5) (oi := { dst := some 77, op := Op.load 3 (Operand.tmp 76), type := 3, pos := "extra.go:22", after := #[gD 4, gG 3], guard := some (3, false) }) (v := ?_) rfl (by kernel_rfl) (by kernel_rfl) (by kernel_rfl) (fun _ _ _ h => h) (Or.inl ⟨by rfl, ?_⟩) (by assumption) ?_
            case refine_2 => (intro w hSw; (try dsimp only at hSw); go_simp; (try with_reducible rfl))
            try simp only [Act.put, List.setIfInBounds_toArray, List.set_cons_zero, List.set_cons_succ]
            refine wpAnyH_take (i := 6) (oi := { dst := some 78, op := Op.binOp BinOp.gtr 3 (Operand.tmp 77) (Operand.const (Value.int IntKind.i64 3)) 3, type := 4, pos := "extra.go:22", after := #[gD 5, gG 3], guard := some (3, false) }) (v := ?_) rfl (by kernel_rfl) (by kernel_rfl) (by kernel_rfl) (fun _ _ _ h => h) (Or.inl ⟨by rfl, ?_⟩) (by assumption) ?_
            case refine_2 => (intro w hSw; (try dsimp only at hSw); go_simp; (try with_reducible rfl))
            try simp only [Act.put, List.setIfInBounds_toArray, List.set_cons_zero, List.set_cons_succ]
            refine wpAnyH_take (i := 7) (oi := { dst := some 79, op := Op.pick (Operand.tmp 75) (Operand.const (Value.bool true)) (Operand.tmp 78), type := 4, pos := "extra.go:22", after := #[gD 3, gD 6], guard := none }) (v := ?_) rfl (by kernel_rfl) (by kernel_rfl) (by kernel_rfl) (fun _ _ _ h => h) (Or.inl ⟨by rfl, ?_⟩) (by assumption) ?_
            case refine_2 => (intro w hSw; (try dsimp only at hSw); go_simp; (try with_reducible rfl))
            try simp only [Act.put, List.setIfInBounds_toArray, List.set_cons_zero, List.set_cons_succ]
            refine wpAnyH_take (i := 8) (oi := { dst := some 80, op := Op.move (Operand.tmp 79), type := 4, pos := "extra.go:22", after := #[gD 7, gC 3], guard := none }) (v := ?_) rfl (by kernel_rfl) (by kernel_rfl) (by kernel_rfl) (fun _ _ _ h => h) (Or.inl ⟨by rfl, ?_⟩) (by assumption) ?_
            case refine_2 => (intro w hSw; (try dsimp only at hSw); go_simp; (try with_reducible rfl))
            try simp only [Act.put, List.setIfInBounds_toArray, List.set_cons_zero, List.set_cons_succ]
            refine wpAnyH_take (i := 9) (oi := { dst := some 81, op := Op.move (Operand.tmp 1), type := 51, pos := "extra.go:22", after := #[gG 8], guard := some (8, false) }) (v := ?_) rfl (by kernel_rfl) (by kernel_rfl) (by kernel_rfl) (fun _ _ _ h => h) (Or.inl ⟨by rfl, ?_⟩) (by assumption) ?_
            case refine_2 => (intro w hSw; (try dsimp only at hSw); go_simp; (try with_reducible rfl))
            try simp only [Act.put, List.setIfInBounds_toArray, List.set_cons_zero, List.set_cons_succ]
            refine wpAnyH_take (i := 10) (oi := { dst := some 82, op := Op.move (Operand.tmp 7), type := 3, pos := "extra.go:22", after := #[gG 8], guard := some (8, false) }) (v := ?_) rfl (by kernel_rfl) (by kernel_rfl) (by kernel_rfl) (fun _ _ _ h => h) (Or.inl ⟨by rfl, ?_⟩) (by assumption) ?_
            case refine_2 => (intro w hSw; (try dsimp only at hSw); go_simp; (try with_reducible rfl))
            try simp only [Act.put, List.setIfInBounds_toArray, List.set_cons_zero, List.set_cons_succ]
            refine wpAnyH_take (i := 11) (oi := { dst := some 83, op := Op.indexAddr 51 (Operand.tmp 81) (Operand.tmp 82), type := 0, pos := "extra.go:22", after := #[gD 9, gD 10, gG 8], guard := some (8, false) }) (v := ?_) rfl (by kernel_rfl) (by kernel_rfl) (by kernel_rfl) (fun _ _ _ h => h) (Or.inl ⟨by rfl, ?_⟩) (by assumption) ?_
            case refine_2 => (intro w hSw; (try dsimp only at hSw); go_simp; (try with_reducible rfl))
            try simp only [Act.put, List.setIfInBounds_toArray, List.set_cons_zero, List.set_cons_succ]
            refine wpAnyH_take (i := 12) (oi := { dst := some 84, op := Op.load 4 (Operand.tmp 83), type := 4, pos := "extra.go:22", after := #[gD 11, gG 8], guard := some (8, false) }) (v := ?_) rfl (by kernel_rfl) (by kernel_rfl) (by kernel_rfl) (fun _ _ _ h => h) (Or.inl ⟨by rfl, ?_⟩) (by assumption) ?_
            case refine_2 => (intro w hSw; (try dsimp only at hSw); go_simp; (try with_reducible rfl))
            try simp only [Act.put, List.setIfInBounds_toArray, List.set_cons_zero, List.set_cons_succ]
            refine wpAnyH_take (i := 13) (oi := { dst := some 85, op := Op.move (Operand.tmp 84), type := 4, pos := "extra.go:22", after := #[gD 12, gC 8, gG 8], guard := some (8, false) }) (v := ?_) rfl (by kernel_rfl) (by kernel_rfl) (by kernel_rfl) (fun _ _ _ h => h) (Or.inl ⟨by rfl, ?_⟩) (by assumption) ?_
            case refine_2 => (intro w hSw; (try dsimp only at hSw); go_simp; (try with_reducible rfl))
            try simp only [Act.put, List.setIfInBounds_toArray, List.set_cons_zero, List.set_cons_succ]
            refine wpAnyH_take (i := 14) (oi := { dst := some 86, op := Op.fieldAddr 62 (Operand.tmp 8) 0, type := 0, pos := "extra.go:22", after := #[gG 13], guard := some (13, true) }) (v := ?_) rfl (by kernel_rfl) (by kernel_rfl) (by kernel_rfl) (fun _ _ _ h => h) (Or.inl ⟨by rfl, ?_⟩) (by assumption) ?_
            case refine_2 => (intro w hSw; (try dsimp only at hSw); go_simp; (try with_reducible rfl))
            try simp only [Act.put, List.setIfInBounds_toArray, List.set_cons_zero, List.set_cons_succ]
            refine wpAnyH_take (i := 15) (oi := { dst := some 87, op := Op.load 3 (Operand.tmp 86), type := 3, pos := "extra.go:22", after := #[gD 14, gG 13], guard := some (13, true) }) (v := ?_) rfl (by kernel_rfl) (by kernel_rfl) (by kernel_rfl) (fun _ _ _ h => h) (Or.inl ⟨by rfl, ?_⟩) (by assumption) ?_
            case refine_2 => (intro w hSw; (try dsimp only at hSw); go_simp; (try with_reducible rfl))
            try simp only [Act.put, List.setIfInBounds_toArray, List.set_cons_zero, List.set_cons_succ]
            refine wpAnyH_take (i := 16) (oi := { dst := some 88, op := Op.binOp BinOp.lss 3 (Operand.tmp 87) (Operand.const (Value.int IntKind.i64 2)) 3, type := 4, pos := "extra.go:22", after := #[gD 15, gG 13], guard := some (13, true) }) (v := ?_) rfl (by kernel_rfl) (by kernel_rfl) (by kernel_rfl) (fun _ _ _ h => h) (Or.inl ⟨by rfl, ?_⟩) (by assumption) ?_
            case refine_2 => (intro w hSw; (try dsimp only at hSw); go_simp; (try with_reducible rfl))
            try simp only [Act.put, List.setIfInBounds_toArray, List.set_cons_zero, List.set_cons_succ]
            refine wpAnyH_take (i := 17) (oi := { dst := some 89, op := Op.pick (Operand.tmp 85) (Operand.tmp 88) (Operand.const (Value.bool false)), type := 4, pos := "extra.go:22", after := #[gD 13, gD 16, gG 8], guard := some (8, false) }) (v := ?_) rfl (by kernel_rfl) (by kernel_rfl) (by kernel_rfl) (fun _ _ _ h => h) (Or.inl ⟨by rfl, ?_⟩) (by assumption) ?_
            case refine_2 => (intro w hSw; (try dsimp only at hSw); go_simp; (try with_reducible rfl))
            try simp only [Act.put, List.setIfInBounds_toArray, List.set_cons_zero, List.set_cons_succ]
            refine wpAnyH_take (i := 18) (oi := { dst := some 90, op := Op.pick (Operand.tmp 80) (Operand.const (Value.bool true)) (Operand.tmp 89), type := 4, pos := "extra.go:22", after := #[gD 8, gD 17], guard := none }) (v := ?_) rfl (by kernel_rfl) (by kernel_rfl) (by kernel_rfl) (fun _ _ _ h => h) (Or.inl ⟨by rfl, ?_⟩) (by assumption) ?_
            case refine_2 => (intro w hSw; (try dsimp only at hSw); go_simp; (try with_reducible rfl))
            try simp only [Act.put, List.setIfInBounds_toArray, List.set_cons_zero, List.set_cons_succ]
            refine wpAnyH_take (i := 19) (oi := { dst := some 91, op := Op.move (Operand.tmp 90), type := 4, pos := "extra.go:22", after := #[gD 18, gC 13], guard := none }) (v := ?_) rfl (by kernel_rfl) (by kernel_rfl) (by kernel_rfl) (fun _ _ _ h => h) (Or.inl ⟨by rfl, ?_⟩) (by assumption) ?_
            case refine_2 => (intro w hSw; (try dsimp only at hSw); go_simp; (try with_reducible rfl))
            try simp only [Act.put, List.setIfInBounds_toArray, List.set_cons_zero, List.set_cons_succ]
            refine wpAnyH_take (i := 20) (oi := { dst := some 92, op := Op.load 62 (Operand.tmp 8), type := 62, pos := "extra.go:22", after := #[gG 19], guard := some (19, false) }) (v := ?_) rfl (by kernel_rfl) (by kernel_rfl) (by kernel_rfl) (fun _ _ _ h => h) (Or.inl ⟨by rfl, ?_⟩) (by assumption) ?_
            case refine_2 => (intro w hSw; (try dsimp only at hSw); go_simp; (try with_reducible rfl))
            try simp only [Act.put, List.setIfInBounds_toArray, List.set_cons_zero, List.set_cons_succ]
            refine wpAnyH_take (i := 21) (oi := { dst := some 93, op := Op.load 62 (Operand.tmp 8), type := 62, pos := "extra.go:22", after := #[gG 19], guard := some (19, false) }) (v := ?_) rfl (by kernel_rfl) (by kernel_rfl) (by kernel_rfl) (fun _ _ _ h => h) (Or.inl ⟨by rfl, ?_⟩) (by assumption) ?_
            case refine_2 => (intro w hSw; (try dsimp only at hSw); go_simp; (try with_reducible rfl))
            try simp only [Act.put, List.setIfInBounds_toArray, List.set_cons_zero, List.set_cons_succ]
            refine wpAnyH_ready (rs := [22]) (by kernel_rfl) (by simp) ?_
            refine AllReadyH.cons (o := { dst := some 94, op := Op.call { callee := Callee.value (Operand.func 21), args := #[Operand.tmp 93], argTypes := #[62] }, type := 66, pos := "extra.go:22", after := #[gD 21, gC 19, gG 19], guard := some (19, false) }) rfl (fun K hK => ?_) AllReadyH.nil
            go_simp
            go_at_call 21
            have H6d := Lib.hid (bag_ext ((RdF.obj d bs).sep (WrF.obj a)) H6.out ((Ext.refl w6).drew))
            refine (UP.out _ H6d.out.held.1.2.1).mono ?_; rintro e w7 ⟨yL, y0, y1, y2, y3, rfl, hx7, hy⟩
            have H7 := Lib.hid (bag_ext ((RdF.obj d bs).sep (WrF.obj a)) H6d.out hx7)
            have E7 := Lib.hid (((Ext.refl w6).drew).trans hx7)
            have HY := Lib.hid (hy _ H7.out.held.1.2.1)
            clear hx7 hy H6d
            refine hK.out _ _ (⟨(HA6.out.ext (E7.out)).cell rfl, (HA6.out.ext (E7.out)).cell rfl, (HA6.out.ext (E7.out)).cell rfl, (HA6.out.ext (E7.out)).cell rfl, (HA6.out.ext (E7.out)).cell rfl, (HA6.out.ext (E7.out)).cell rfl, (HA6.out.ext (E7.out)).cell rfl, (HA6.out.ext (E7.out)).cell rfl, (HA6.out.ext (E7.out)).cell rfl, (HA6.out.ext (E7.out)).cell rfl, (HA6.out.ext (E7.out)).cell rfl, (HA6.out.ext (E7.out)).cell rfl, (HA6.out.ext (E7.out)).cell rfl, HC0.out _ (E7.out)⟩) (fun hHeld => ?_)
            clear hK K
            try simp only [Act.put, List.setIfInBounds_toArray, List.set_cons_zero, List.set_cons_succ]
            refine wpAnyH_ready (rs := [23]) (by kernel_rfl) (by simp) ?_
            refine AllReadyH.cons (o := { dst := some 95, op := Op.call { callee := Callee.value (Operand.func 20), args := #[Operand.tmp 92, Operand.tmp 94], argTypes := #[62, 66] }, type := 4, pos := "extra.go:22", after := #[gD 20, gD 22, gC 22, gG 19], guard := some (19, false) }) rfl (fun K hK => ?_) AllReadyH.nil
            go_simp
            go_at_call 20
            refine (US.out _ _ _ _ _ _ _ _ _ _ _ H7.out.held.1.2.1 HY.out).mono ?_; rintro e w8 ⟨rfl, hx8⟩
            have E8 := Lib.hid (E7.out.trans hx8)
            have H8 := Lib.hid (bag_ext ((RdF.obj d bs).sep (WrF.obj a)) H7.out hx8)
            clear hx8 H7 HY E7
            refine hK.out _ _ (⟨(HA6.out.ext (E8.out)).cell rfl, (HA6.out.ext (E8.out)).cell rfl, (HA6.out.ext (E8.out)).cell rfl, (HA6.out.ext (E8.out)).cell rfl, (HA6.out.ext (E8.out)).cell rfl, (HA6.out.ext (E8.out)).cell rfl, (HA6.out.ext (E8.out)).cell rfl, (HA6.out.ext (E8.out)).cell rfl, (HA6.out.ext (E8.out)).cell rfl, (HA6.out.ext (E8.out)).cell rfl, (HA6.out.ext (E8.out)).cell rfl, (HA6.out.ext (E8.out)).cell rfl, (HA6.out.ext (E8.out)).cell rfl, HC0.out _ (E8.out)⟩) (fun hHeld => ?_)
            clear hK K
            try simp only [Act.put, List.setIfInBounds_toArray, List.set_cons_zero, List.set_cons_succ]
            refine wpAnyH_take (i := 24) (oi := { dst := some 96, op := Op.unOp UnOp.not 4 (Operand.tmp 95), type := 4, pos := "extra.go:22", after := #[gD 23, gG 19], guard := some (19, false) }) (v := ?_) rfl (by kernel_rfl) (by kernel_rfl) (by kernel_rfl) (fun _ _ _ h => h) (Or.inl ⟨by rfl, ?_⟩) (by assumption) ?_
            case refine_2 => (intro w hSw; (try dsimp only at hSw); go_simp; (try with_reducible rfl))
            try simp only [Act.put, List.setIfInBounds_toArray, List.set_cons_zero, List.set_cons_succ]
            refine wpAnyH_take (i := 25) (oi := { dst := some 97, op := Op.pick (Operand.tmp 91) (Operand.const (Value.bool true)) (Operand.tmp 96), type := 4, pos := "extra.go:22", after := #[gD 19, gD 24], guard := none }) (v := ?_) rfl (by kernel_rfl) (by kernel_rfl) (by kernel_rfl) (fun _ _ _ h => h) (Or.inl ⟨by rfl, ?_⟩) (by assumption) ?_
            case refine_2 => (intro w hSw; (try dsimp only at hSw); go_simp; (try with_reducible rfl))
            try simp only [Act.put, List.setIfInBounds_toArray, List.set_cons_zero, List.set_cons_succ]
            refine wpAnyH_done (by kernel_rfl) ?_ _
            go_wp2_with fail
            refine wp_region_held_drew (S := fun w' => w'.cell? ⟨w5.heap.size, 0, none⟩ = some (.int .i64 rk) ∧ w'.cell? ⟨w5.heap.size, 1, none⟩ = some (.int .i64 rm) ∧ w'.cell? ⟨w5.heap.size, 2, none⟩ = some (.int .i64 ra) ∧ w'.cell? ⟨w5.heap.size, 3, none⟩ = some (.int .i64 rb) ∧ w'.cell? ⟨w5.heap.size, 4, none⟩ = some (.int .i64 rc) ∧ w'.cell? ⟨w5.heap.size, 5, none⟩ = some (.int .i64 rd) ∧ w'.cell? ⟨w5.heap.size, 6, none⟩ = some (.int .i64 rx) ∧ w'.cell? ⟨w5.heap.size, 7, none⟩ = some (.int .i64 ry) ∧ w'.cell? ⟨w5.heap.size, 8, none⟩ = some (.slice aL lL cL) ∧ w'.cell? ⟨w5.heap.size, 9, none⟩ = some (.slice a0 l0 c0) ∧ w'.cell? ⟨w5.heap.size, 10, none⟩ = some (.slice a1 l1 c1) ∧ w'.cell? ⟨w5.heap.size, 11, none⟩ = some (.slice a2 l2 c2) ∧ w'.cell? ⟨w5.heap.size, 12, none⟩ = some (.slice a3 l3 c3) ∧ w'.cell? ⟨g, off + i, none⟩ = some (.bool true)) (by kernel_rfl) (⟨(HA6.out.ext (E8.out.drew)).cell rfl, (HA6.out.ext (E8.out.drew)).cell rfl, (HA6.out.ext (E8.out.drew)).cell rfl, (HA6.out.ext (E8.out.drew)).cell rfl, (HA6.out.ext (E8.out.drew)).cell rfl, (HA6.out.ext (E8.out.drew)).cell rfl, (HA6.out.ext (E8.out.drew)).cell rfl, (HA6.out.ext (E8.out.drew)).cell rfl, (HA6.out.ext (E8.out.drew)).cell rfl, (HA6.out.ext (E8.out.drew)).cell rfl, (HA6.out.ext (E8.out.drew)).cell rfl, (HA6.out.ext (E8.out.drew)).cell rfl, (HA6.out.ext (E8.out.drew)).cell rfl, HC0.out _ (E8.out.drew)⟩) (fun hHeld => ?_)
            refine wpAnyH_take (i := 0) (oi := { dst := some 99, op := Op.move (Operand.tmp 6), type := 54, pos := "extra.go:25", after := #[], guard := none }) (v := ?_) rfl (by kernel_rfl) (by kernel_rfl) (by kernel_rfl) (fun _ _ _ h => h) (Or.inl ⟨by rfl, ?_⟩) (by assumption) ?_
            case refine_2 => (intro w hSw; (try dsimp only at hSw); go_simp; (try with_reducible rfl))
            try simp only [Act.put, List.setIfInBounds_toArray, List.set_cons_zero, List.set_cons_succ]
            refine wpAnyH_take (i := 1) (oi := { dst := some 100, op := Op.makeInterface 54 (Operand.tmp 99), type := 93, pos := "extra.go:25", after := #[gD 0], guard := none }) (v := ?_) rfl (by kernel_rfl) (by kernel_rfl) (by kernel_rfl) (fun _ _ _ h => h) (Or.inl ⟨by rfl, ?_⟩) (by assumption) ?_
            case refine_2 => (intro w hSw; (try dsimp only at hSw); go_simp; (try with_reducible rfl))
            try simp only [Act.put, List.setIfInBounds_toArray, List.set_cons_zero, List.set_cons_succ]
            refine wpAnyH_take (i := 2) (oi := { dst := some 101, op := Op.move (Operand.tmp 1), type := 51, pos := "extra.go:25", after := #[], guard := none }) (v := ?_) rfl (by kernel_rfl) (by kernel_rfl) (by kernel_rfl) (fun _ _ _ h => h) (Or.inl ⟨by rfl, ?_⟩) (by assumption) ?_
            case refine_2 => (intro w hSw; (try dsimp only at hSw); go_simp; (try with_reducible rfl))
            try simp only [Act.put, List.setIfInBounds_toArray, List.set_cons_zero, List.set_cons_succ]
            refine wpAnyH_take (i := 3) (oi := { dst := some 102, op := Op.move (Operand.tmp 7), type := 3, pos := "extra.go:25", after := #[], guard := none }) (v := ?_) rfl (by kernel_rfl) (by kernel_rfl) (by kernel_rfl) (fun _ _ _ h => h) (Or.inl ⟨by rfl, ?_⟩) (by assumption) ?_
            case refine_2 => (intro w hSw; (try dsimp only at hSw); go_simp; (try with_reducible rfl))
            try simp only [Act.put, List.setIfInBounds_toArray, List.set_cons_zero, List.set_cons_succ]
            refine wpAnyH_take (i := 4) (oi := { dst := some 103, op := Op.indexAddr 51 (Operand.tmp 101) (Operand.tmp 102), type := 0, pos := "extra.go:25", after := #[gD 2, gD 3], guard := none }) (v := ?_) rfl (by kernel_rfl) (by kernel_rfl) (by kernel_rfl) (fun _ _ _ h => h) (Or.inl ⟨by rfl, ?_⟩) (by assumption) ?_
            case refine_2 => (intro w hSw; (try dsimp only at hSw); go_simp; (try with_reducible rfl))
            try simp only [Act.put, List.setIfInBounds_toArray, List.set_cons_zero, List.set_cons_succ]
            refine wpAnyH_take (i := 5) (oi := { dst := some 104, op := Op.load 4 (Operand.tmp 103), type := 4, pos := "extra.go:25", after := #[gD 4], guard := none }) (v := ?_) rfl (by kernel_rfl) (by kernel_rfl) (by kernel_rfl) (fun _ _ _ h => h) (Or.inl ⟨by rfl, ?_⟩) (by assumption) ?_
            case refine_2 => (intro w hSw; (try dsimp only at hSw); go_simp; (try with_reducible rfl))
            try simp only [Act.put, List.setIfInBounds_toArray, List.set_cons_zero, List.set_cons_succ]
            refine wpAnyH_take (i := 6) (oi := { dst := some 105, op := Op.load 62 (Operand.tmp 8), type := 62, pos := "extra.go:25", after := #[], guard := none }) (v := ?_) rfl (by kernel_rfl) (by kernel_rfl) (by kernel_rfl) (fun _ _ _ h => h) (Or.inl ⟨by rfl, ?_⟩) (by assumption) ?_
            case refine_2 => (intro w hSw; (try dsimp only at hSw); go_simp; (try with_reducible rfl))
            try simp only [Act.put, List.setIfInBounds_toArray, List.set_cons_zero, List.set_cons_succ]
            have H8d := Lib.hid (bag_ext ((RdF.obj d bs).sep (WrF.obj a)) H8.out ((Ext.refl w8).drew))
            have E8d := Lib.hid E8.out.drew
            refine wpAnyH_ready (rs := [7, 11]) (by kernel_rfl) (by simp) ?_
            refine AllReadyH.cons (o := { dst := some 106, op := Op.call { callee := Callee.value (Operand.func 19), args := #[Operand.tmp 100, Operand.tmp 104, Operand.tmp 105], argTypes := #[93, 4, 62] }, type := 63, pos := "extra.go:25", after := #[gD 1, gD 5, gD 6], guard := none }) rfl (fun K hK => ?_) (AllReadyH.cons (o := { dst := some 10, op := Op.alloc 62, type := 0, pos := "extra.go:25", after := #[], guard := none }) rfl (fun K hK => ?_) AllReadyH.nil)
            · go_simp
              go_at_call 19
              refine (UW.out _ _ H8d.out (fun W h => h.1.2.1)).mono ?_; rintro e w9 ⟨vL, v0, v1, v2, v3, x9, rfl, h9⟩
              obtain ⟨bL, nL, dL, rfl⟩ := h9.held.2.1.1.slf
              obtain ⟨b0, n0, d0, rfl⟩ := h9.held.2.1.2.1.slf
              obtain ⟨b1, n1, d1, rfl⟩ := h9.held.2.1.2.2.1.slf
              obtain ⟨b2, n2, d2, rfl⟩ := h9.held.2.1.2.2.2.1.slf
              obtain ⟨b3, n3, d3, rfl⟩ := h9.held.2.1.2.2.2.2.slf
              obtain rfl : x9 = .nilIface := h9.held.2.2
              have H9 := Lib.hid h9
              clear h9
              refine hK.out _ _ (⟨(H9.out.held.1.2).cell rfl, (H9.out.held.1.2).cell rfl, (H9.out.held.1.2).cell rfl, (H9.out.held.1.2).cell rfl, (H9.out.held.1.2).cell rfl, (H9.out.held.1.2).cell rfl, (H9.out.held.1.2).cell rfl, (H9.out.held.1.2).cell rfl, (H9.out.held.1.2).cell rfl, (H9.out.held.1.2).cell rfl, (H9.out.held.1.2).cell rfl, (H9.out.held.1.2).cell rfl, (H9.out.held.1.2).cell rfl, H9.out.out.cell HCW.out⟩) (fun hHeld => ?_)
              clear hK K
              try simp only [Act.put, List.setIfInBounds_toArray, List.set_cons_zero, List.set_cons_succ]
              refine wpAnyH_take (i := 8) (oi := { dst := some 98, op := Op.move (Operand.tmp 106), type := 63, pos := "extra.go:25", after := #[gD 7], guard := none }) (v := ?_) rfl (by kernel_rfl) (by kernel_rfl) (by kernel_rfl) (fun _ _ _ h => h) (Or.inl ⟨by rfl, ?_⟩) (by assumption) ?_
              case refine_2 => (intro w hSw; (try dsimp only at hSw); go_simp; (try with_reducible rfl))
              try simp only [Act.put, List.setIfInBounds_toArray, List.set_cons_zero, List.set_cons_succ]
              refine wpAnyH_take (i := 9) (oi := { dst := some 107, op := Op.extract (Operand.tmp 98) 0, type := 62, pos := "extra.go:25", after := #[gD 8], guard := none }) (v := ?_) rfl (by kernel_rfl) (by kernel_rfl) (by kernel_rfl) (fun _ _ _ h => h) (Or.inl ⟨by rfl, ?_⟩) (by assumption) ?_
              case refine_2 => (intro w hSw; (try dsimp only at hSw); go_simp; (try with_reducible rfl))
              try simp only [Act.put, List.setIfInBounds_toArray, List.set_cons_zero, List.set_cons_succ]
              refine wpAnyH_take (i := 10) (oi := { dst := some 108, op := Op.extract (Operand.tmp 98) 1, type := 30, pos := "extra.go:25", after := #[gD 8, gO 12], guard := none }) (v := ?_) rfl (by kernel_rfl) (by kernel_rfl) (by kernel_rfl) (fun _ _ _ h => h) (Or.inl ⟨by rfl, ?_⟩) (by assumption) ?_
              case refine_2 => (intro w hSw; (try dsimp only at hSw); go_simp; (try with_reducible rfl))
              try simp only [Act.put, List.setIfInBounds_toArray, List.set_cons_zero, List.set_cons_succ]
              refine wpAnyH_ready (rs := [11]) (by kernel_rfl) (by simp) ?_
              refine AllReadyH.cons (o := { dst := some 10, op := Op.alloc 62, type := 0, pos := "extra.go:25", after := #[], guard := none }) rfl (fun K hK => ?_) AllReadyH.nil
              go_simp
              refine hK.out _ _ (⟨(H9.out.held.1.2.ext ((Ext.refl _).alloc _)).cell rfl, (H9.out.held.1.2.ext ((Ext.refl _).alloc _)).cell rfl, (H9.out.held.1.2.ext ((Ext.refl _).alloc _)).cell rfl, (H9.out.held.1.2.ext ((Ext.refl _).alloc _)).cell rfl, (H9.out.held.1.2.ext ((Ext.refl _).alloc _)).cell rfl, (H9.out.held.1.2.ext ((Ext.refl _).alloc _)).cell rfl, (H9.out.held.1.2.ext ((Ext.refl _).alloc _)).cell rfl, (H9.out.held.1.2.ext ((Ext.refl _).alloc _)).cell rfl, (H9.out.held.1.2.ext ((Ext.refl _).alloc _)).cell rfl, (H9.out.held.1.2.ext ((Ext.refl _).alloc _)).cell rfl, (H9.out.held.1.2.ext ((Ext.refl _).alloc _)).cell rfl, (H9.out.held.1.2.ext ((Ext.refl _).alloc _)).cell rfl, (H9.out.held.1.2.ext ((Ext.refl _).alloc _)).cell rfl, (H9.out.out.trans ((Ext.refl _).alloc _)).cell HCW.out⟩) (fun hHeld => ?_)
              clear hK K
              try simp only [Act.put, List.setIfInBounds_toArray, List.set_cons_zero, List.set_cons_succ]
              refine wpAnyH_ready (rs := [12]) (by kernel_rfl) (by simp) ?_
              refine AllReadyH.cons (o := { dst := none, op := Op.store 62 (Operand.tmp 10) (Operand.tmp 107), type := 0, pos := "extra.go:25", after := #[gD 11, gD 9, gC 7, gP 0, gP 1, gP 2, gP 3, gP 4, gP 5, gP 6, gP 7, gP 8, gP 9, gT 10, gP 11], guard := none }) rfl (fun K hK => ?_) AllReadyH.nil
              go_simp
              refine hK.out _ _ (⟨(H9.out.held.1.2.ext ((Ext.refl _).alloc _)).cell rfl, (H9.out.held.1.2.ext ((Ext.refl _).alloc _)).cell rfl, (H9.out.held.1.2.ext ((Ext.refl _).alloc _)).cell rfl, (H9.out.held.1.2.ext ((Ext.refl _).alloc _)).cell rfl, (H9.out.held.1.2.ext ((Ext.refl _).alloc _)).cell rfl, (H9.out.held.1.2.ext ((Ext.refl _).alloc _)).cell rfl, (H9.out.held.1.2.ext ((Ext.refl _).alloc _)).cell rfl, (H9.out.held.1.2.ext ((Ext.refl _).alloc _)).cell rfl, (H9.out.held.1.2.ext ((Ext.refl _).alloc _)).cell rfl, (H9.out.held.1.2.ext ((Ext.refl _).alloc _)).cell rfl, (H9.out.held.1.2.ext ((Ext.refl _).alloc _)).cell rfl, (H9.out.held.1.2.ext ((Ext.refl _).alloc _)).cell rfl, (H9.out.held.1.2.ext ((Ext.refl _).alloc _)).cell rfl, (H9.out.out.trans ((Ext.refl _).alloc _)).cell HCW.out⟩) (fun hHeld => ?_)
              clear hK K
              try simp only [Act.put, List.setIfInBounds_toArray, List.set_cons_zero, List.set_cons_succ]
              refine wpAnyH_take (i := 13) (oi := { dst := some 11, op := Op.assign (Operand.tmp 108), type := 30, pos := "extra.go:25", after := #[gD 10, gC 12, gP 0, gP 1, gP 2, gP 3, gP 4, gP 5, gP 6, gP 7, gP 8, gP 9, gP 10, gP 11, gP 12], guard := none }) (v := ?_) rfl (by kernel_rfl) (by kernel_rfl) (by kernel_rfl) (fun _ _ _ h => h) (Or.inl ⟨by rfl, ?_⟩) (by assumption) ?_
              case refine_2 => (intro w hSw; (try dsimp only at hSw); go_simp; (try with_reducible rfl))
              try simp only [Act.put, List.setIfInBounds_toArray, List.set_cons_zero, List.set_cons_succ]
              refine wpAnyH_done (by kernel_rfl) ?_ _
              have BZ := BoxIs.new w9 #[.int .i64 rk, .int .i64 rm, .int .i64 ra, .int .i64 rb, .int .i64 rc, .int .i64 rd, .int .i64 rx, .int .i64 ry, .slice bL nL dL, .slice b0 n0 d0, .slice b1 n1 d1, .slice b2 n2 d2, .slice b3 n3 d3] 62
              have XZ := (Ext.refl w9).alloc (.cells #[.int .i64 rk, .int .i64 rm, .int .i64 ra, .int .i64 rb, .int .i64 rc, .int .i64 rd, .int .i64 rx, .int .i64 ry, .slice bL nL dL, .slice b0 n0 d0, .slice b1 n1 d1, .slice b2 n2 d2, .slice b3 n3 d3] 62)
              obtain ⟨bb, hbb⟩ : ∃ b, w9.heap.size = b := ⟨_, rfl⟩
              rw [hbb] at BZ ⊢
              generalize w9.alloc _ = wz at BZ XZ ⊢
              have HZ := Lib.hid (bag_ext ((RdF.obj d bs).sep (WrF.obj a)) H9.out XZ)
              have HA9 := Lib.hid HZ.out.held.1.2
              have HBX := Lib.hid BZ
              clear BZ XZ hbb H9 H8d E8d hHeld
              go_wp2_with fail
              refine wp_region_held_drew (S := fun w' => w'.cell? ⟨w5.heap.size, 0, none⟩ = some (.int .i64 rk) ∧ w'.cell? ⟨w5.heap.size, 1, none⟩ = some (.int .i64 rm) ∧ w'.cell? ⟨w5.heap.size, 2, none⟩ = some (.int .i64 ra) ∧ w'.cell? ⟨w5.heap.size, 3, none⟩ = some (.int .i64 rb) ∧ w'.cell? ⟨w5.heap.size, 4, none⟩ = some (.int .i64 rc) ∧ w'.cell? ⟨w5.heap.size, 5, none⟩ = some (.int .i64 rd) ∧ w'.cell? ⟨w5.heap.size, 6, none⟩ = some (.int .i64 rx) ∧ w'.cell? ⟨w5.heap.size, 7, none⟩ = some (.int .i64 ry) ∧ w'.cell? ⟨w5.heap.size, 8, none⟩ = some (.slice aL lL cL) ∧ w'.cell? ⟨w5.heap.size, 9, none⟩ = some (.slice a0 l0 c0) ∧ w'.cell? ⟨w5.heap.size, 10, none⟩ = some (.slice a1 l1 c1) ∧ w'.cell? ⟨w5.heap.size, 11, none⟩ = some (.slice a2 l2 c2) ∧ w'.cell? ⟨w5.heap.size, 12, none⟩ = some (.slice a3 l3 c3) ∧ w'.cell? ⟨bb, 0, none⟩ = some (.int .i64 rk) ∧ w'.cell? ⟨bb, 1, none⟩ = some (.int .i64 rm) ∧ w'.cell? ⟨bb, 2, none⟩ = some (.int .i64 ra) ∧ w'.cell? ⟨bb, 3, none⟩ = some (.int .i64 rb) ∧ w'.cell? ⟨bb, 4, none⟩ = some (.int .i64 rc) ∧ w'.cell? ⟨bb, 5, none⟩ = some (.int .i64 rd) ∧ w'.cell? ⟨bb, 6, none⟩ = some (.int .i64 rx) ∧ w'.cell? ⟨bb, 7, none⟩ = some (.int .i64 ry) ∧ w'.cell? ⟨bb, 8, none⟩ = some (.slice bL nL dL) ∧ w'.cell? ⟨bb, 9, none⟩ = some (.slice b0 n0 d0) ∧ w'.cell? ⟨bb, 10, none⟩ = some (.slice b1 n1 d1) ∧ w'.cell? ⟨bb, 11, none⟩ = some (.slice b2 n2 d2) ∧ w'.cell? ⟨bb, 12, none⟩ = some (.slice b3 n3 d3)) (by kernel_rfl) (⟨(HA9.out.ext ((Ext.refl _).drew)).cell rfl, (HA9.out.ext ((Ext.refl _).drew)).cell rfl, (HA9.out.ext ((Ext.refl _).drew)).cell rfl, (HA9.out.ext ((Ext.refl _).drew)).cell rfl, (HA9.out.ext ((Ext.refl _).drew)).cell rfl, (HA9.out.ext ((Ext.refl _).drew)).cell rfl, (HA9.out.ext ((Ext.refl _).drew)).cell rfl, (HA9.out.ext ((Ext.refl _).drew)).cell rfl, (HA9.out.ext ((Ext.refl _).drew)).cell rfl, (HA9.out.ext ((Ext.refl _).drew)).cell rfl, (HA9.out.ext ((Ext.refl _).drew)).cell rfl, (HA9.out.ext ((Ext.refl _).drew)).cell rfl, (HA9.out.ext ((Ext.refl _).drew)).cell rfl, (HBX.out.ext ((Ext.refl _).drew)).cell rfl, (HBX.out.ext ((Ext.refl _).drew)).cell rfl, (HBX.out.ext ((Ext.refl _).drew)).cell rfl, (HBX.out.ext ((Ext.refl _).drew)).cell rfl, (HBX.out.ext ((Ext.refl _).drew)).cell rfl, (HBX.out.ext ((Ext.refl _).drew)).cell rfl, (HBX.out.ext ((Ext.refl _).drew)).cell rfl, (HBX.out.ext ((Ext.refl _).drew)).cell rfl, (HBX.out.ext ((Ext.refl _).drew)).cell rfl, (HBX.out.ext ((Ext.refl _).drew)).cell rfl, (HBX.out.ext ((Ext.refl _).drew)).cell rfl, (HBX.out.ext ((Ext.refl _).drew)).cell rfl, (HBX.out.ext ((Ext.refl _).drew)).cell rfl⟩) (fun hHeld => ?_)
              refine wpAnyH_take (i := 0) (oi := { dst := some 109, op := Op.move (Operand.tmp 11), type := 30, pos := "extra.go:26", after := #[], guard := none }) (v := ?_) rfl (by kernel_rfl) (by kernel_rfl) (by kernel_rfl) (fun _ _ _ h => h) (Or.inl ⟨by rfl, ?_⟩) (by assumption) ?_
              case refine_2 => (intro w hSw; (try dsimp only at hSw); go_simp; (try with_reducible rfl))
              try simp only [Act.put, List.setIfInBounds_toArray, List.set_cons_zero, List.set_cons_succ]
              refine wpAnyH_take (i := 1) (oi := { dst := some 110, op := Op.binOp BinOp.neq 30 (Operand.tmp 109) (Operand.const Value.nilIface) 30, type := 4, pos := "extra.go:26", after := #[gD 0], guard := none }) (v := ?_) rfl (by kernel_rfl) (by kernel_rfl) (by kernel_rfl) (fun _ _ _ h => h) (Or.inl ⟨by rfl, ?_⟩) (by assumption) ?_
              case refine_2 => (intro w hSw; (try dsimp only at hSw); go_simp; (try with_reducible rfl))
              try simp only [Act.put, List.setIfInBounds_toArray, List.set_cons_zero, List.set_cons_succ]
              refine wpAnyH_take (i := 2) (oi := { dst := some 111, op := Op.move (Operand.tmp 110), type := 4, pos := "extra.go:26", after := #[gD 1], guard := none }) (v := ?_) rfl (by kernel_rfl) (by kernel_rfl) (by kernel_rfl) (fun _ _ _ h => h) (Or.inl ⟨by rfl, ?_⟩) (by assumption) ?_
              case refine_2 => (intro w hSw; (try dsimp only at hSw); go_simp; (try with_reducible rfl))
              try simp only [Act.put, List.setIfInBounds_toArray, List.set_cons_zero, List.set_cons_succ]
              refine wpAnyH_take (i := 3) (oi := { dst := some 112, op := Op.load 62 (Operand.tmp 10), type := 62, pos := "extra.go:26", after := #[gG 2], guard := some (2, false) }) (v := ?_) rfl (by kernel_rfl) (by kernel_rfl) (by kernel_rfl) (fun _ _ _ h => h) (Or.inl ⟨by rfl, ?_⟩) (by assumption) ?_
              case refine_2 => (intro w hSw; (try dsimp only at hSw); go_simp; (try with_reducible rfl))
              try simp only [Act.put, List.setIfInBounds_toArray, List.set_cons_zero, List.set_cons_succ]
              refine wpAnyH_take (i := 4) (oi := { dst := some 113, op := Op.load 62 (Operand.tmp 8), type := 62, pos := "extra.go:26", after := #[gG 2], guard := some (2, false) }) (v := ?_) rfl (by kernel_rfl) (by kernel_rfl) (by kernel_rfl) (fun _ _ _ h => h) (Or.inl ⟨by rfl, ?_⟩) (by assumption) ?_
              case refine_2 => (intro w hSw; (try dsimp only at hSw); go_simp; (try with_reducible rfl))
              try simp only [Act.put, List.setIfInBounds_toArray, List.set_cons_zero, List.set_cons_succ]
              refine wpAnyH_ready (rs := [5]) (by kernel_rfl) (by simp) ?_
              refine AllReadyH.cons (o := { dst := some 114, op := Op.call { callee := Callee.value (Operand.func 22), args := #[Operand.tmp 113], argTypes := #[62] }, type := 66, pos := "extra.go:26", after := #[gD 4, gC 2, gG 2], guard := some (2, false) }) rfl (fun K hK => ?_) AllReadyH.nil
              go_simp
              go_at_call 22
              refine (UQ.out _ _ _ _ _ _ ⟨_, _, _, rfl⟩ ⟨_, _, _, rfl⟩ ⟨_, _, _, rfl⟩ ⟨_, _, _, rfl⟩ ⟨_, _, _, rfl⟩).mono ?_; rintro e wb ⟨rfl, hxb⟩
              have EB := Lib.hid (((Ext.refl wz).drew).trans hxb)
              have HB := Lib.hid (bag_ext ((RdF.obj d bs).sep (WrF.obj a)) HZ.out EB.out)
              clear hxb
              refine hK.out _ _ (⟨(HA9.out.ext (EB.out)).cell rfl, (HA9.out.ext (EB.out)).cell rfl, (HA9.out.ext (EB.out)).cell rfl, (HA9.out.ext (EB.out)).cell rfl, (HA9.out.ext (EB.out)).cell rfl, (HA9.out.ext (EB.out)).cell rfl, (HA9.out.ext (EB.out)).cell rfl, (HA9.out.ext (EB.out)).cell rfl, (HA9.out.ext (EB.out)).cell rfl, (HA9.out.ext (EB.out)).cell rfl, (HA9.out.ext (EB.out)).cell rfl, (HA9.out.ext (EB.out)).cell rfl, (HA9.out.ext (EB.out)).cell rfl, (HBX.out.ext (EB.out)).cell rfl, (HBX.out.ext (EB.out)).cell rfl, (HBX.out.ext (EB.out)).cell rfl, (HBX.out.ext (EB.out)).cell rfl, (HBX.out.ext (EB.out)).cell rfl, (HBX.out.ext (EB.out)).cell rfl, (HBX.out.ext (EB.out)).cell rfl, (HBX.out.ext (EB.out)).cell rfl, (HBX.out.ext (EB.out)).cell rfl, (HBX.out.ext (EB.out)).cell rfl, (HBX.out.ext (EB.out)).cell rfl, (HBX.out.ext (EB.out)).cell rfl, (HBX.out.ext (EB.out)).cell rfl⟩) (fun hHeld => ?_)
              clear hK K
              try simp only [Act.put, List.setIfInBounds_toArray, List.set_cons_zero, List.set_cons_succ]
              refine wpAnyH_ready (rs := [6]) (by kernel_rfl) (by simp) ?_
              refine AllReadyH.cons (o := { dst := some 115, op := Op.call { callee := Callee.value (Operand.func 20), args := #[Operand.tmp 112, Operand.tmp 114], argTypes := #[62, 66] }, type := 4, pos := "extra.go:26", after := #[gD 3, gD 5, gC 5, gG 2], guard := some (2, false) }) rfl (fun K hK => ?_) AllReadyH.nil
              go_simp
              go_at_call 20
              refine (US.out _ _ _ _ _ _ _ _ _ _ _ HB.out.held.2.1 HB.out.held.1.1.2.1).mono ?_; rintro e wd ⟨rfl, hxd⟩
              have HD := Lib.hid (bag_imp (bag_ext ((RdF.obj d bs).sep (WrF.obj a)) HB.out hxd) (fun _ _ => trivial) (Q := fun _ => True))
              have ED := Lib.hid (EB.out.trans hxd)
              clear hxd HB EB
              refine hK.out _ _ (⟨(HA9.out.ext (ED.out)).cell rfl, (HA9.out.ext (ED.out)).cell rfl, (HA9.out.ext (ED.out)).cell rfl, (HA9.out.ext (ED.out)).cell rfl, (HA9.out.ext (ED.out)).cell rfl, (HA9.out.ext (ED.out)).cell rfl, (HA9.out.ext (ED.out)).cell rfl, (HA9.out.ext (ED.out)).cell rfl, (HA9.out.ext (ED.out)).cell rfl, (HA9.out.ext (ED.out)).cell rfl, (HA9.out.ext (ED.out)).cell rfl, (HA9.out.ext (ED.out)).cell rfl, (HA9.out.ext (ED.out)).cell rfl, (HBX.out.ext (ED.out)).cell rfl, (HBX.out.ext (ED.out)).cell rfl, (HBX.out.ext (ED.out)).cell rfl, (HBX.out.ext (ED.out)).cell rfl, (HBX.out.ext (ED.out)).cell rfl, (HBX.out.ext (ED.out)).cell rfl, (HBX.out.ext (ED.out)).cell rfl, (HBX.out.ext (ED.out)).cell rfl, (HBX.out.ext (ED.out)).cell rfl, (HBX.out.ext (ED.out)).cell rfl, (HBX.out.ext (ED.out)).cell rfl, (HBX.out.ext (ED.out)).cell rfl, (HBX.out.ext (ED.out)).cell rfl⟩) (fun hHeld => ?_)
              clear hK K
              try simp only [Act.put, List.setIfInBounds_toArray, List.set_cons_zero, List.set_cons_succ]
              refine wpAnyH_take (i := 7) (oi := { dst := some 116, op := Op.unOp UnOp.not 4 (Operand.tmp 115), type := 4, pos := "extra.go:26", after := #[gD 6, gG 2], guard := some (2, false) }) (v := ?_) rfl (by kernel_rfl) (by kernel_rfl) (by kernel_rfl) (fun _ _ _ h => h) (Or.inl ⟨by rfl, ?_⟩) (by assumption) ?_
              case refine_2 => (intro w hSw; (try dsimp only at hSw); go_simp; (try with_reducible rfl))
              try simp only [Act.put, List.setIfInBounds_toArray, List.set_cons_zero, List.set_cons_succ]
              refine wpAnyH_take (i := 8) (oi := { dst := some 117, op := Op.pick (Operand.tmp 111) (Operand.const (Value.bool true)) (Operand.tmp 116), type := 4, pos := "extra.go:26", after := #[gD 2, gD 7], guard := none }) (v := ?_) rfl (by kernel_rfl) (by kernel_rfl) (by kernel_rfl) (fun _ _ _ h => h) (Or.inl ⟨by rfl, ?_⟩) (by assumption) ?_
              case refine_2 => (intro w hSw; (try dsimp only at hSw); go_simp; (try with_reducible rfl))
              try simp only [Act.put, List.setIfInBounds_toArray, List.set_cons_zero, List.set_cons_succ]
              refine wpAnyH_done (by kernel_rfl) ?_ _
              have HNR : Hid (N + 22164 ≤ 4 + 22164 * (i + 1)) := by show _ ≤ _; omega
              clear hN
              go_wp2
              go_roundw
              case rel => exact ⟨i + 1, N + 22164, s2, tt, ⟨by omega, by omega, HNR.out⟩, by go_num, HK2.out, HT3.out, HT4.out, HD.out⟩
              case measure => simp [intOf] <;> omega
            · go_simp
              have XZ : Ext w8 (w8.alloc (.cells #[.int .i64 0, .int .i64 0, .int .i64 0, .int .i64 0, .int .i64 0, .int .i64 0, .int .i64 0, .int .i64 0, .slice none 0 0, .slice none 0 0, .slice none 0 0, .slice none 0 0, .slice none 0 0] 62)).drew := ((Ext.refl w8).alloc _).drew
              have BZ := (BoxIs.new w8 #[.int .i64 0, .int .i64 0, .int .i64 0, .int .i64 0, .int .i64 0, .int .i64 0, .int .i64 0, .int .i64 0, .slice none 0 0, .slice none 0 0, .slice none 0 0, .slice none 0 0, .slice none 0 0] 62).ext ((Ext.refl _).drew)
              have H8a := Lib.hid (H8.out.add (((RdF.obj d bs).sep (WrF.obj a)).sep HoF.obj) (B := BxF w8.heap.size) (G := fun k => k = w8.heap.size) XZ ⟨BZ, fun _ => Iff.rfl⟩ (fun k hk => Nat.le_of_eq hk.symm))
              have E8a := E8.out.trans XZ
              refine hK.out _ _ (⟨(HA6.out.ext (E8a)).cell rfl, (HA6.out.ext (E8a)).cell rfl, (HA6.out.ext (E8a)).cell rfl, (HA6.out.ext (E8a)).cell rfl, (HA6.out.ext (E8a)).cell rfl, (HA6.out.ext (E8a)).cell rfl, (HA6.out.ext (E8a)).cell rfl, (HA6.out.ext (E8a)).cell rfl, (HA6.out.ext (E8a)).cell rfl, (HA6.out.ext (E8a)).cell rfl, (HA6.out.ext (E8a)).cell rfl, (HA6.out.ext (E8a)).cell rfl, (HA6.out.ext (E8a)).cell rfl, HC0.out _ (E8a)⟩) (fun hHeld => ?_)
              clear hK K
              try simp only [Act.put, List.setIfInBounds_toArray, List.set_cons_zero, List.set_cons_succ]
              obtain ⟨bb, hbb⟩ : ∃ b, w8.heap.size = b := ⟨_, rfl⟩
              rw [hbb] at H8a BZ
              try rw [hbb]
              generalize World.drew (World.alloc _ _) = w8a at H8a BZ XZ E8a hHeld ⊢
              clear BZ XZ
              refine wpAnyH_ready (rs := [7]) (by kernel_rfl) (by simp) ?_
              refine AllReadyH.cons (o := { dst := some 106, op := Op.call { callee := Callee.value (Operand.func 19), args := #[Operand.tmp 100, Operand.tmp 104, Operand.tmp 105], argTypes := #[93, 4, 62] }, type := 63, pos := "extra.go:25", after := #[gD 1, gD 5, gD 6], guard := none }) rfl (fun K hK => ?_) AllReadyH.nil
              go_simp
              go_at_call 19
              refine (UB.out _ _ _ _ H8a.out (fun W h => h.1.2.1)).mono ?_; rintro e w9 ⟨vL, v0, v1, v2, v3, x9, rfl, h9⟩
              obtain ⟨bL, nL, dL, rfl⟩ := h9.fst.held.2.1.1.slf
              obtain ⟨b0, n0, d0, rfl⟩ := h9.fst.held.2.1.2.1.slf
              obtain ⟨b1, n1, d1, rfl⟩ := h9.fst.held.2.1.2.2.1.slf
              obtain ⟨b2, n2, d2, rfl⟩ := h9.fst.held.2.1.2.2.2.1.slf
              obtain ⟨b3, n3, d3, rfl⟩ := h9.fst.held.2.1.2.2.2.2.slf
              obtain rfl : x9 = .nilIface := h9.fst.held.2.2
              have H9 := Lib.hid h9
              clear h9 H8a E8a
              refine hK.out _ _ (⟨(H9.out.fst.held.1.2).cell rfl, (H9.out.fst.held.1.2).cell rfl, (H9.out.fst.held.1.2).cell rfl, (H9.out.fst.held.1.2).cell rfl, (H9.out.fst.held.1.2).cell rfl, (H9.out.fst.held.1.2).cell rfl, (H9.out.fst.held.1.2).cell rfl, (H9.out.fst.held.1.2).cell rfl, (H9.out.fst.held.1.2).cell rfl, (H9.out.fst.held.1.2).cell rfl, (H9.out.fst.held.1.2).cell rfl, (H9.out.fst.held.1.2).cell rfl, (H9.out.fst.held.1.2).cell rfl, H9.out.out.cell HCW.out⟩) (fun hHeld => ?_)
              clear hK K
              try simp only [Act.put, List.setIfInBounds_toArray, List.set_cons_zero, List.set_cons_succ]
              refine wpAnyH_take (i := 8) (oi := { dst := some 98, op := Op.move (Operand.tmp 106), type := 63, pos := "extra.go:25", after := #[gD 7], guard := none }) (v := ?_) rfl (by kernel_rfl) (by kernel_rfl) (by kernel_rfl) (fun _ _ _ h => h) (Or.inl ⟨by rfl, ?_⟩) (by assumption) ?_
              case refine_2 => (intro w hSw; (try dsimp only at hSw); go_simp; (try with_reducible rfl))
              try simp only [Act.put, List.setIfInBounds_toArray, List.set_cons_zero, List.set_cons_succ]
              refine wpAnyH_take (i := 9) (oi := { dst := some 107, op := Op.extract (Operand.tmp 98) 0, type := 62, pos := "extra.go:25", after := #[gD 8], guard := none }) (v := ?_) rfl (by kernel_rfl) (by kernel_rfl) (by kernel_rfl) (fun _ _ _ h => h) (Or.inl ⟨by rfl, ?_⟩) (by assumption) ?_
              case refine_2 => (intro w hSw; (try dsimp only at hSw); go_simp; (try with_reducible rfl))
              try simp only [Act.put, List.setIfInBounds_toArray, List.set_cons_zero, List.set_cons_succ]
              refine wpAnyH_take (i := 10) (oi := { dst := some 108, op := Op.extract (Operand.tmp 98) 1, type := 30, pos := "extra.go:25", after := #[gD 8, gO 12], guard := none }) (v := ?_) rfl (by kernel_rfl) (by kernel_rfl) (by kernel_rfl) (fun _ _ _ h => h) (Or.inl ⟨by rfl, ?_⟩) (by assumption) ?_
              case refine_2 => (intro w hSw; (try dsimp only at hSw); go_simp; (try with_reducible rfl))
              try simp only [Act.put, List.setIfInBounds_toArray, List.set_cons_zero, List.set_cons_succ]
              obtain ⟨GB, hGB⟩ := H9.out.r
              obtain ⟨⟨e0, e1, e2, e3, e4, e5, e6, e7, e8, e9, e10, e11, e12⟩, f0, f1, f2, f3, f4, f5, f6, f7, f8, f9, f10, f11, f12⟩ := sq_cells hGB.1
              have H9s := Lib.hid (ubx_all (((RdF.obj d bs).sep (WrF.obj a)).sep HoF.obj) H9.out (.int .i64 rk) (.int .i64 rm) (.int .i64 ra) (.int .i64 rb) (.int .i64 rc) (.int .i64 rd) (.int .i64 rx) (.int .i64 ry) (.slice bL nL dL) (.slice b0 n0 d0) (.slice b1 n1 d1) (.slice b2 n2 d2) (.slice b3 n3 d3))
              refine wpAnyH_ready (rs := [12]) (by kernel_rfl) (by simp) ?_
              refine AllReadyH.cons (o := { dst := none, op := Op.store 62 (Operand.tmp 10) (Operand.tmp 107), type := 0, pos := "extra.go:25", after := #[gD 11, gD 9, gC 7, gP 0, gP 1, gP 2, gP 3, gP 4, gP 5, gP 6, gP 7, gP 8, gP 9, gT 10, gP 11], guard := none }) rfl (fun K hK => ?_) AllReadyH.nil
              go_simp
              refine hK.out _ _ (⟨(H9s.out.fst.held.1.2).cell rfl, (H9s.out.fst.held.1.2).cell rfl, (H9s.out.fst.held.1.2).cell rfl, (H9s.out.fst.held.1.2).cell rfl, (H9s.out.fst.held.1.2).cell rfl, (H9s.out.fst.held.1.2).cell rfl, (H9s.out.fst.held.1.2).cell rfl, (H9s.out.fst.held.1.2).cell rfl, (H9s.out.fst.held.1.2).cell rfl, (H9s.out.fst.held.1.2).cell rfl, (H9s.out.fst.held.1.2).cell rfl, (H9s.out.fst.held.1.2).cell rfl, (H9s.out.fst.held.1.2).cell rfl, H9s.out.out.cell HCW.out⟩) (fun hHeld => ?_)
              clear hK K
              try simp only [Act.put, List.setIfInBounds_toArray, List.set_cons_zero, List.set_cons_succ]
              refine wpAnyH_take (i := 13) (oi := { dst := some 11, op := Op.assign (Operand.tmp 108), type := 30, pos := "extra.go:25", after := #[gD 10, gC 12, gP 0, gP 1, gP 2, gP 3, gP 4, gP 5, gP 6, gP 7, gP 8, gP 9, gP 10, gP 11, gP 12], guard := none }) (v := ?_) rfl (by kernel_rfl) (by kernel_rfl) (by kernel_rfl) (fun _ _ _ h => h) (Or.inl ⟨by rfl, ?_⟩) (by assumption) ?_
              case refine_2 => (intro w hSw; (try dsimp only at hSw); go_simp; (try with_reducible rfl))
              try simp only [Act.put, List.setIfInBounds_toArray, List.set_cons_zero, List.set_cons_succ]
              refine wpAnyH_done (by kernel_rfl) ?_ _
              clear e0 e1 e2 e3 e4 e5 e6 e7 e8 e9 e10 e11 e12 f0 f1 f2 f3 f4 f5 f6 f7 f8 f9 f10 f11 f12 hHeld
              generalize World.setCell _ _ _ = wz at H9s ⊢
              have HZ := Lib.hid H9s.out.fst
              have HA9 := Lib.hid HZ.out.held.1.2
              obtain ⟨GC, hGC⟩ := H9s.out.r
              have HBX := Lib.hid hGC.1
              clear hGC hGB hbb H9 H9s H8d E8d
              go_wp2_with fail
              refine wp_region_held_drew (S := fun w' => w'.cell? ⟨w5.heap.size, 0, none⟩ = some (.int .i64 rk) ∧ w'.cell? ⟨w5.heap.size, 1, none⟩ = some (.int .i64 rm) ∧ w'.cell? ⟨w5.heap.size, 2, none⟩ = some (.int .i64 ra) ∧ w'.cell? ⟨w5.heap.size, 3, none⟩ = some (.int .i64 rb) ∧ w'.cell? ⟨w5.heap.size, 4, none⟩ = some (.int .i64 rc) ∧ w'.cell? ⟨w5.heap.size, 5, none⟩ = some (.int .i64 rd) ∧ w'.cell? ⟨w5.heap.size, 6, none⟩ = some (.int .i64 rx) ∧ w'.cell? ⟨w5.heap.size, 7, none⟩ = some (.int .i64 ry) ∧ w'.cell? ⟨w5.heap.size, 8, none⟩ = some (.slice aL lL cL) ∧ w'.cell? ⟨w5.heap.size, 9, none⟩ = some (.slice a0 l0 c0) ∧ w'.cell? ⟨w5.heap.size, 10, none⟩ = some (.slice a1 l1 c1) ∧ w'.cell? ⟨w5.heap.size, 11, none⟩ = some (.slice a2 l2 c2) ∧ w'.cell? ⟨w5.heap.size, 12, none⟩ = some (.slice a3 l3 c3) ∧ w'.cell? ⟨bb, 0, none⟩ = some (.int .i64 rk) ∧ w'.cell? ⟨bb, 1, none⟩ = some (.int .i64 rm) ∧ w'.cell? ⟨bb, 2, none⟩ = some (.int .i64 ra) ∧ w'.cell? ⟨bb, 3, none⟩ = some (.int .i64 rb) ∧ w'.cell? ⟨bb, 4, none⟩ = some (.int .i64 rc) ∧ w'.cell? ⟨bb, 5, none⟩ = some (.int .i64 rd) ∧ w'.cell? ⟨bb, 6, none⟩ = some (.int .i64 rx) ∧ w'.cell? ⟨bb, 7, none⟩ = some (.int .i64 ry) ∧ w'.cell? ⟨bb, 8, none⟩ = some (.slice bL nL dL) ∧ w'.cell? ⟨bb, 9, none⟩ = some (.slice b0 n0 d0) ∧ w'.cell? ⟨bb, 10, none⟩ = some (.slice b1 n1 d1) ∧ w'.cell? ⟨bb, 11, none⟩ = some (.slice b2 n2 d2) ∧ w'.cell? ⟨bb, 12, none⟩ = some (.slice b3 n3 d3)) (by kernel_rfl) (⟨(HA9.out.ext ((Ext.refl _).drew)).cell rfl, (HA9.out.ext ((Ext.refl _).drew)).cell rfl, (HA9.out.ext ((Ext.refl _).drew)).cell rfl, (HA9.out.ext ((Ext.refl _).drew)).cell rfl, (HA9.out.ext ((Ext.refl _).drew)).cell rfl, (HA9.out.ext ((Ext.refl _).drew)).cell rfl, (HA9.out.ext ((Ext.refl _).drew)).cell rfl, (HA9.out.ext ((Ext.refl _).drew)).cell rfl, (HA9.out.ext ((Ext.refl _).drew)).cell rfl, (HA9.out.ext ((Ext.refl _).drew)).cell rfl, (HA9.out.ext ((Ext.refl _).drew)).cell rfl, (HA9.out.ext ((Ext.refl _).drew)).cell rfl, (HA9.out.ext ((Ext.refl _).drew)).cell rfl, (HBX.out.ext ((Ext.refl _).drew)).cell rfl, (HBX.out.ext ((Ext.refl _).drew)).cell rfl, (HBX.out.ext ((Ext.refl _).drew)).cell rfl, (HBX.out.ext ((Ext.refl _).drew)).cell rfl, (HBX.out.ext ((Ext.refl _).drew)).cell rfl, (HBX.out.ext ((Ext.refl _).drew)).cell rfl, (HBX.out.ext ((Ext.refl _).drew)).cell rfl, (HBX.out.ext ((Ext.refl _).drew)).cell rfl, (HBX.out.ext ((Ext.refl _).drew)).cell rfl, (HBX.out.ext ((Ext.refl _).drew)).cell rfl, (HBX.out.ext ((Ext.refl _).drew)).cell rfl, (HBX.out.ext ((Ext.refl _).drew)).cell rfl, (HBX.out.ext ((Ext.refl _).drew)).cell rfl⟩) (fun hHeld => ?_)
              refine wpAnyH_take (i := 0) (oi := { dst := some 109, op := Op.move (Operand.tmp 11), type := 30, pos := "extra.go:26", after := #[], guard := none }) (v := ?_) rfl (by kernel_rfl) (by kernel_rfl) (by kernel_rfl) (fun _ _ _ h => h) (Or.inl ⟨by rfl, ?_⟩) (by assumption) ?_
              case refine_2 => (intro w hSw; (try dsimp only at hSw); go_simp; (try with_reducible rfl))
              try simp only [Act.put, List.setIfInBounds_toArray, List.set_cons_zero, List.set_cons_succ]
              refine wpAnyH_take (i := 1) (oi := { dst := some 110, op := Op.binOp BinOp.neq 30 (Operand.tmp 109) (Operand.const Value.nilIface) 30, type := 4, pos := "extra.go:26", after := #[gD 0], guard := none }) (v := ?_) rfl (by kernel_rfl) (by kernel_rfl) (by kernel_rfl) (fun _ _ _ h => h) (Or.inl ⟨by rfl, ?_⟩) (by assumption) ?_
              case refine_2 => (intro w hSw; (try dsimp only at hSw); go_simp; (try with_reducible rfl))
              try simp only [Act.put, List.setIfInBounds_toArray, List.set_cons_zero, List.set_cons_succ]
              refine wpAnyH_take (i := 2) (oi := { dst := some 111, op := Op.move (Operand.tmp 110), type := 4, pos := "extra.go:26", after := #[gD 1], guard := none }) (v := ?_) rfl (by kernel_rfl) (by kernel_rfl) (by kernel_rfl) (fun _ _ _ h => h) (Or.inl ⟨by rfl, ?_⟩) (by assumption) ?_
              case refine_2 => (intro w hSw; (try dsimp only at hSw); go_simp; (try with_reducible rfl))
              try simp only [Act.put, List.setIfInBounds_toArray, List.set_cons_zero, List.set_cons_succ]
              refine wpAnyH_take (i := 3) (oi := { dst := some 112, op := Op.load 62 (Operand.tmp 10), type := 62, pos := "extra.go:26", after := #[gG 2], guard := some (2, false) }) (v := ?_) rfl (by kernel_rfl) (by kernel_rfl) (by kernel_rfl) (fun _ _ _ h => h) (Or.inl ⟨by rfl, ?_⟩) (by assumption) ?_
              case refine_2 => (intro w hSw; (try dsimp only at hSw); go_simp; (try with_reducible rfl))
              try simp only [Act.put, List.setIfInBounds_toArray, List.set_cons_zero, List.set_cons_succ]
              refine wpAnyH_take (i := 4) (oi := { dst := some 113, op := Op.load 62 (Operand.tmp 8), type := 62, pos := "extra.go:26", after := #[gG 2], guard := some (2, false) }) (v := ?_) rfl (by kernel_rfl) (by kernel_rfl) (by kernel_rfl) (fun _ _ _ h => h) (Or.inl ⟨by rfl, ?_⟩) (by assumption) ?_
              case refine_2 => (intro w hSw; (try dsimp only at hSw); go_simp; (try with_reducible rfl))
              try simp only [Act.put, List.setIfInBounds_toArray, List.set_cons_zero, List.set_cons_succ]
              refine wpAnyH_ready (rs := [5]) (by kernel_rfl) (by simp) ?_
              refine AllReadyH.cons (o := { dst := some 114, op := Op.call { callee := Callee.value (Operand.func 22), args := #[Operand.tmp 113], argTypes := #[62] }, type := 66, pos := "extra.go:26", after := #[gD 4, gC 2, gG 2], guard := some (2, false) }) rfl (fun K hK => ?_) AllReadyH.nil
              go_simp
              go_at_call 22
              refine (UQ.out _ _ _ _ _ _ ⟨_, _, _, rfl⟩ ⟨_, _, _, rfl⟩ ⟨_, _, _, rfl⟩ ⟨_, _, _, rfl⟩ ⟨_, _, _, rfl⟩).mono ?_; rintro e wb ⟨rfl, hxb⟩
              have EB := Lib.hid (((Ext.refl wz).drew).trans hxb)
              have HB := Lib.hid (bag_ext ((RdF.obj d bs).sep (WrF.obj a)) HZ.out EB.out)
              clear hxb
              refine hK.out _ _ (⟨(HA9.out.ext (EB.out)).cell rfl, (HA9.out.ext (EB.out)).cell rfl, (HA9.out.ext (EB.out)).cell rfl, (HA9.out.ext (EB.out)).cell rfl, (HA9.out.ext (EB.out)).cell rfl, (HA9.out.ext (EB.out)).cell rfl, (HA9.out.ext (EB.out)).cell rfl, (HA9.out.ext (EB.out)).cell rfl, (HA9.out.ext (EB.out)).cell rfl, (HA9.out.ext (EB.out)).cell rfl, (HA9.out.ext (EB.out)).cell rfl, (HA9.out.ext (EB.out)).cell rfl, (HA9.out.ext (EB.out)).cell rfl, (HBX.out.ext (EB.out)).cell rfl, (HBX.out.ext (EB.out)).cell rfl, (HBX.out.ext (EB.out)).cell rfl, (HBX.out.ext (EB.out)).cell rfl, (HBX.out.ext (EB.out)).cell rfl, (HBX.out.ext (EB.out)).cell rfl, (HBX.out.ext (EB.out)).cell rfl, (HBX.out.ext (EB.out)).cell rfl, (HBX.out.ext (EB.out)).cell rfl, (HBX.out.ext (EB.out)).cell rfl, (HBX.out.ext (EB.out)).cell rfl, (HBX.out.ext (EB.out)).cell rfl, (HBX.out.ext (EB.out)).cell rfl⟩) (fun hHeld => ?_)
              clear hK K
              try simp only [Act.put, List.setIfInBounds_toArray, List.set_cons_zero, List.set_cons_succ]
              refine wpAnyH_ready (rs := [6]) (by kernel_rfl) (by simp) ?_
              refine AllReadyH.cons (o := { dst := some 115, op := Op.call { callee := Callee.value (Operand.func 20), args := #[Operand.tmp 112, Operand.tmp 114], argTypes := #[62, 66] }, type := 4, pos := "extra.go:26", after := #[gD 3, gD 5, gC 5, gG 2], guard := some (2, false) }) rfl (fun K hK => ?_) AllReadyH.nil
              go_simp
              go_at_call 20
              refine (US.out _ _ _ _ _ _ _ _ _ _ _ HB.out.held.2.1 HB.out.held.1.1.2.1).mono ?_; rintro e wd ⟨rfl, hxd⟩
              have HD := Lib.hid (bag_imp (bag_ext ((RdF.obj d bs).sep (WrF.obj a)) HB.out hxd) (fun _ _ => trivial) (Q := fun _ => True))
              have ED := Lib.hid (EB.out.trans hxd)
              clear hxd HB EB
              refine hK.out _ _ (⟨(HA9.out.ext (ED.out)).cell rfl, (HA9.out.ext (ED.out)).cell rfl, (HA9.out.ext (ED.out)).cell rfl, (HA9.out.ext (ED.out)).cell rfl, (HA9.out.ext (ED.out)).cell rfl, (HA9.out.ext (ED.out)).cell rfl, (HA9.out.ext (ED.out)).cell rfl, (HA9.out.ext (ED.out)).cell rfl, (HA9.out.ext (ED.out)).cell rfl, (HA9.out.ext (ED.out)).cell rfl, (HA9.out.ext (ED.out)).cell rfl, (HA9.out.ext (ED.out)).cell rfl, (HA9.out.ext (ED.out)).cell rfl, (HBX.out.ext (ED.out)).cell rfl, (HBX.out.ext (ED.out)).cell rfl, (HBX.out.ext (ED.out)).cell rfl, (HBX.out.ext (ED.out)).cell rfl, (HBX.out.ext (ED.out)).cell rfl, (HBX.out.ext (ED.out)).cell rfl, (HBX.out.ext (ED.out)).cell rfl, (HBX.out.ext (ED.out)).cell rfl, (HBX.out.ext (ED.out)).cell rfl, (HBX.out.ext (ED.out)).cell rfl, (HBX.out.ext (ED.out)).cell rfl, (HBX.out.ext (ED.out)).cell rfl, (HBX.out.ext (ED.out)).cell rfl⟩) (fun hHeld => ?_)
              clear hK K
              try simp only [Act.put, List.setIfInBounds_toArray, List.set_cons_zero, List.set_cons_succ]
              refine wpAnyH_take (i := 7) (oi := { dst := some 116, op := Op.unOp UnOp.not 4 (Operand.tmp 115), type := 4, pos := "extra.go:26", after := #[gD 6, gG 2], guard := some (2, false) }) (v := ?_) rfl (by kernel_rfl) (by kernel_rfl) (by kernel_rfl) (fun _ _ _ h => h) (Or.inl ⟨by rfl, ?_⟩) (by assumption) ?_
              case refine_2 => (intro w hSw; (try dsimp only at hSw); go_simp; (try with_reducible rfl))
              try simp only [Act.put, List.setIfInBounds_toArray, List.set_cons_zero, List.set_cons_succ]
              refine wpAnyH_take (i := 8) (oi := { dst := some 117, op := Op.pick (Operand.tmp 111) (Operand.const (Value.bool true)) (Operand.tmp 116), type := 4, pos := "extra.go:26", after := #[gD 2, gD 7], guard := none }) (v := ?_) rfl (by kernel_rfl) (by kernel_rfl) (by kernel_rfl) (fun _ _ _ h => h) (Or.inl ⟨by rfl, ?_⟩) (by assumption) ?_
              case refine_2 => (intro w hSw; (try dsimp only at hSw); go_simp; (try with_reducible rfl))
              try simp only [Act.put, List.setIfInBounds_toArray, List.set_cons_zero, List.set_cons_succ]
              refine wpAnyH_done (by kernel_rfl) ?_ _
              have HNR : Hid (N + 22164 ≤ 4 + 22164 * (i + 1)) := by show _ ≤ _; omega
              clear hN
              go_wp2
              go_roundw
              case rel => exact ⟨i + 1, N + 22164, s2, tt, ⟨by omega, by omega, HNR.out⟩, by go_num, HK2.out, HT3.out, HT4.out, HD.out⟩
              case measure => simp [intOf] <;> omega
      · have x3 : ¬ (i : Int) < 100 := by omega
        have x2 : (i : Int) < (m : Int) := by omega
        go_wp2_with fail
        refine (first20_any _ (HET.out.ext HU.out.out)).mono ?_; rintro e w6 ⟨rfl, hx6⟩
        go_wp2
        go_ret
        exact ⟨rfl, HU.out.out.trans hx6⟩
    · have x2 : ¬ (i : Int) < (m : Int) := by omega
      go_wp2_with fail
      refine (first20_any _ (HET.out.ext HU.out.out)).mono ?_; rintro e w6 ⟨rfl, hx6⟩
      go_wp2
      go_ret
      exact ⟨rfl, HU.out.out.trans hx6⟩
end Go.Proofs.YtpofabebmeickaaDoor
