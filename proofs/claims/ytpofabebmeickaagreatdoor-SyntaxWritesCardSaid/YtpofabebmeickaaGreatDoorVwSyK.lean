/- kinlaw20.SyntaxKinds: the walk. -/
import Derived.Test.YtpofabebmeickaaGreatDoorVwSz9
import Derived.Test.YtpofabebmeickaaGreatDoorVwZm
import Derived.Test.YtpofabebmeickaaGreatDoorVwOpL
import Derived.Test.YtpofabebmeickaaGreatDoorVwZk
namespace Go.Proofs.YtpofabebmeickaaGreatDoor
set_option linter.unusedVariables false
set_option linter.unusedSimpArgs false
open Go.RowKit Go.Extern.Stop Go.Stop Go.Extern

theorem Bls.formK {w : World} {v : Value} {L : List Bool} (h : Bls w v L) : ∃ a cap, v = .slice a L.length cap := by
  obtain ⟨a, cap, e, -⟩ := h
  exact ⟨a, cap, e⟩
theorem Bls.hadK {w : World} {a : Option Addr} {n cap : Nat} {L : List Bool} (h : Bls w (.slice a n cap) L) (hn : 0 < L.length) : ∃ g off, a = some ⟨g, off, none⟩ ∧ ∀ q x, L[q]? = some x → w.cell? ⟨g, off + q, none⟩ = some (.bool x) := by
  obtain ⟨a', cap', e, -, h3⟩ := h
  simp only [Value.slice.injEq] at e
  obtain ⟨rfl, -, -⟩ := e
  exact h3 hn
theorem Bls.smallK {w : World} {v : Value} {L : List Bool} (h : Bls w v L) : L.length ≤ maxLen := by
  obtain ⟨_, _, _, h, _⟩ := h
  exact h
section
variable {σ τ : Type} {A : World → (Nat → Prop) → σ → Prop} {B : World → (Nat → Prop) → τ → Prop} {w0 w : World} {P : World → Prop}
/-- behind syntax.Code: the objects, the square and the error -/
def KqP {σ : Type} (B : World → (Nat → Prop) → σ → Prop) (P : World → Prop) (w0 : World) (s : σ) (f : Fall) (q : Sq) (e : Ending) (w' : World) : Prop := ∃ L s0 s1 s2 s3 x, e = .returned (.tuple #[sqQ q L s0 s1 s2 s3, x]) ∧ Uno (Sep B HoF) w0 w' (s, fun W => P W ∧ SqIs W q L s0 s1 s2 s3 ∧ ErrIs W f x)
end
end Go.Proofs.YtpofabebmeickaaGreatDoor

