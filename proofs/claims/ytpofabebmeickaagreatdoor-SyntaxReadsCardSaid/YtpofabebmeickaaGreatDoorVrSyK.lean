/- kinlaw20.SyntaxKinds: the walk. -/
import Derived.Test.YtpofabebmeickaaGreatDoorVrSz9
import Derived.Test.YtpofabebmeickaaGreatDoorVrZm
import Derived.Test.YtpofabebmeickaaGreatDoorVrOpL
import Derived.Test.YtpofabebmeickaaGreatDoorVrZk
namespace Go.Proofs.YtpofabebmeickaaGreatDoor
set_option linter.unusedVariables false
set_option linter.unusedSimpArgs false
open Go.RowKit Go.Extern.Stop Go.Stop Go.Extern

theorem Bls.formK {w : World} {v : Value} {L : List Bool} (h : Bls w v L) : ∃ a cap, v = .slice a L.length cap := by
  obtain ⟨a, cap, e, -⟩ := h
  exact ⟨a, cap, e⟩
theorem Bls.hadK {w : World} {a : Option Addr} {n cap : Nat} {L : List Bool} (h : Bls w (.slice a n cap) L) (hn : 0 < L.length) : ∃ g off, a = some ⟨g, off, none⟩ ∧ ∀ q x, L[q]? = some x → w.cell? ⟨g, off + q, none⟩ = some (.bool x) := by
  obtain ⟨a', cap', e, -, h3⟩ := h
  simp only [Value.slice.injEq] at e
  obtain ⟨rfl, -, -⟩ := e
  exact h3 hn
theorem Bls.smallK {w : World} {v : Value} {L : List Bool} (h : Bls w v L) : L.length ≤ maxLen := by
  obtain ⟨_, _, _, h, _⟩ := h
  exact h
section
variable {σ τ : Type} {A : World → (Nat → Prop) → σ → Prop} {B : World → (Nat → Prop) → τ → Prop} {w0 w : World} {P : World → Prop}
/-- behind syntax.Code: the objects, the square and the error -/
def KqP {σ : Type} (B : World → (Nat → Prop) → σ → Prop) (P : World → Prop) (w0 : World) (s : σ) (f : Fall) (q : Sq) (e : Ending) (w' : World) : Prop := ∃ L s0 s1 s2 s3 x, e = .returned (.tuple #[sqQ q L s0 s1 s2 s3, x]) ∧ Uno (Sep B HoF) w0 w' (s, fun W => P W ∧ SqIs W q L s0 s1 s2 s3 ∧ ErrIs W f x)
theorem rsq_l (ob : Obj B) {a N : Nat} {bs : List Nat} (hb : ∀ x ∈ bs, x < 256) {key : Bool} {q q' : Sq} {f : Fall} {vL v0 v1 v2 v3 : Value} {s s' : Ms Dc} {t : τ} (h : Uno (Sep (Sep (RdF a bs) B) HoF) w0 w ((s, t), P)) (hk : okS okDm N s) (hN : N ≤ 3840000) (hr : sqD key bs q.k s = ((f, q'), s')) (hL : SlF vL) (h0 : SlF v0) (h1 : SlF v1) (h2 : SlF v2) (h3 : SlF v3) :
    Calls Tryz.prog 11 #[.iface 61 (.pointer (some ⟨a, 0, none⟩)), .bool key, sqQ q vL v0 v1 v2 v3] w (KqP (Sep (RdF a bs) B) P w0 (s', t) f q') := by
  refine (bag_ql ob h (fun G X hG hX hd hb' => mrsq_any a N bs hb key q vL v0 v1 v2 v3 s G w hG hk hN hL h0 h1 h2 h3)).mono ?_
  rintro e w' ⟨s2, P', ⟨L, s0, s1, s2', s3, x, rfl, hp⟩, hu⟩
  rw [hr] at hp ⊢
  obtain ⟨rfl, rfl⟩ := Prod.mk.inj hp
  exact ⟨L, s0, s1, s2', s3, x, rfl, hu⟩
end
end Go.Proofs.YtpofabebmeickaaGreatDoor

