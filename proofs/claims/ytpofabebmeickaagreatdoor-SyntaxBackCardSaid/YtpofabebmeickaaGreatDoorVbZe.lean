/- Contracts of this seat: Px4, Pf1, Pc1, Py1, Py2, Py3, Pw1. -/
import Derived.Test.YtpofabebmeickaaGreatDoorVbZd
import Derived.Test.YtpofabebmeickaaGreatDoorVbPa7
import Derived.Test.YtpofabebmeickaaGreatDoorVbZb
import Derived.BigQuiet
import Derived.Deep.QuietTactic
import Derived.BigRegion
/- kinref12.Encoder's End: its contract over this seat's translation. -/
namespace Go.Proofs.YtpofabebmeickaaGreatDoor
set_option linter.unusedVariables false
set_option linter.unusedSimpArgs false
open Go.RowKit Go.Extern.Stop Go.Stop Go.Extern

end Go.Proofs.YtpofabebmeickaaGreatDoor

/- kinlaw12.first; an encoder and a decoder beside each other. -/
namespace Go.Proofs.YtpofabebmeickaaGreatDoor
set_option linter.unusedVariables false
set_option linter.unusedSimpArgs false
open Go.RowKit Go.Extern.Stop Go.Stop Go.Extern

theorem EcAt.kp {w w' : World} {b d : Nat} {B : Nat → Prop} {s : Ec} (h : EcAt w b B s) (k : Kp d w w') (hd : b ≠ d) (hdB : B d) : EcAt w' b B s := by
  obtain ⟨v, h1, h2, h3, h4, h5⟩ := h
  refine ⟨v, h1.same (k.block h1.lt hd), ?_, h3, h4, fun g hg => Nat.lt_of_lt_of_le (h5 g hg) k.size⟩
  exact h2.kept (row := some d) k (.inr (fun e => h3 _ e hdB))
theorem d12 : upD (newD []) ((newD []).wid / 2) = false ∧ ovrD [] (parD [] (newD []) ((newD []).wid / 2)) = 4 := by decide +kernel
end Go.Proofs.YtpofabebmeickaaGreatDoor

/- The landed encoder and the document's beside each other: contracts. -/
namespace Go.Proofs.YtpofabebmeickaaGreatDoor
set_option linter.unusedVariables false
set_option linter.unusedSimpArgs false
open Go.RowKit Go.Extern.Stop Go.Stop Go.Extern

theorem own_block {w w' : World} {base : Nat} {e : TypeId} {size n : Nat} {v : Value} {xs : List Value} (h : w.ownsRow base e size v n xs) (k : ∀ g, v.ownBlock = some g → w'.heap[g]? = w.heap[g]?) : w'.ownsRow base e size v n xs := by
  obtain ⟨h1, h2⟩ := h
  refine ⟨h1, ?_⟩
  rcases h2 with h2 | ⟨g, cap, cur, rfl, hg, hh, r⟩
  · exact .inl h2
  · exact .inr ⟨g, cap, cur, rfl, hg, (k g rfl).trans hh, r⟩
end Go.Proofs.YtpofabebmeickaaGreatDoor

/- A document's decoder of bits (kinref12): plain; next: its contract over this seat's translation. -/
namespace Go.Proofs.YtpofabebmeickaaGreatDoor
set_option linter.unusedVariables false
set_option linter.unusedSimpArgs false
open Go.RowKit Go.Extern.Stop Go.Stop Go.Extern

structure Xc where
  pos : Nat
  dd : Nat
  rr : Nat
section
variable {w w' : World} {b : Nat} {v : Value} {s : Xc}
end
end Go.Proofs.YtpofabebmeickaaGreatDoor

/- kinref12's decoder: narrows, Flat, Code, Over: contracts over this seat's translation. -/
namespace Go.Proofs.YtpofabebmeickaaGreatDoor
set_option linter.unusedVariables false
set_option linter.unusedSimpArgs false
open Go.RowKit Go.Extern.Stop Go.Stop Go.Extern

end Go.Proofs.YtpofabebmeickaaGreatDoor

/- kinref12's decoder: Code, NewDecoder: contracts over this seat's translation; the two decoders side by side. -/
namespace Go.Proofs.YtpofabebmeickaaGreatDoor
set_option linter.unusedVariables false
set_option linter.unusedSimpArgs false
open Go.RowKit Go.Extern.Stop Go.Stop Go.Extern

theorem ResAt.kp {w w' : World} {B b : Nat} (h : ResAt w B) (k : Kp b w w') (hb : B ≠ b) : ResAt w' B := by
  obtain ⟨h0, h1, h2, h3⟩ := h
  have e := k.block (Ext.lt (p := ⟨B, 0, none⟩) h0) hb
  exact ⟨(World.cell?_of_block (a := ⟨B, 0, none⟩) e).trans h0, (World.cell?_of_block (a := ⟨B, 1, none⟩) e).trans h1, (World.frozen?_of_block (a := ⟨B, 0, none⟩) e).trans h2, (World.frozen?_of_block (a := ⟨B, 1, none⟩) e).trans h3⟩
end Go.Proofs.YtpofabebmeickaaGreatDoor

/- The landed decoder and the document's, step by step: plain. -/
namespace Go.Proofs.YtpofabebmeickaaGreatDoor
set_option linter.unusedVariables false
set_option linter.unusedSimpArgs false
open Go.RowKit Go.Extern.Stop Go.Stop Go.Extern

end Go.Proofs.YtpofabebmeickaaGreatDoor

