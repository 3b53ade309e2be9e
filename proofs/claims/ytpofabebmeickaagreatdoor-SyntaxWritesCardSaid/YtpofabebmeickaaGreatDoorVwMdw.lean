/- kinlaw13.ModelWrites: the walk. -/
import Derived.Test.YtpofabebmeickaaGreatDoorVwZj
import Derived.Test.YtpofabebmeickaaGreatDoorVwZt
import Derived.Test.YtpofabebmeickaaGreatDoorVwOpM
import Derived.Deep.RegionLaw
import Derived.Deep.CutRange
import Derived.Deep.RegionHeld3
namespace Go.Proofs.YtpofabebmeickaaGreatDoor
set_option linter.unusedVariables false
set_option linter.unusedSimpArgs false
open Go.RowKit Go.Extern.Stop Go.Stop Go.Extern

theorem DwF.obj (a : Nat) : Obj (DwF a) := ⟨fun h => h.lt, fun h => h.same⟩
def Ral (N : Nat) (s : Ec) (x : Xe) : Prop := alX N s x ∧ 16777216 ≤ s.wid
theorem ral_ok {N : Nat} {s : Ms Ec} {t : Ms Xe} (h : rS Ral N s t) : okS okEm N s ∧ okS okXm (N + 5) t := by
  obtain ⟨h1, h2, h3, h4⟩ := h
  exact ⟨⟨h2, h3.1.1, h4⟩, by rw [← h1]; exact h2, al_ok h3, by rw [h3.2.2]; exact h4⟩
theorem ral_new : rS Ral 0 ⟨ch0, newE⟩ ⟨ch0, newX⟩ := ⟨rfl, ch0_ok, al_new, by decide⟩
theorem uw_end {a c N : Nat} {w0 w : World} {s : Ms Ec} {t : Ms Xe} (h : Uno (Sep (WrF a) (DwF c)) w0 w (s, t)) (hk : okS okEm N s) (hN : N ≤ 4000000) : Calls Tryz.prog 17 #[.pointer (some ⟨a, 0, none⟩)] w (EePost w s.co) := by
  obtain ⟨G, h1⟩ := h.l
  exact mwend_any a N s G w h1 hk hN
theorem ux_end {a c N xb : Nat} {w0 w : World} {s : Ms Ec} {t : Ms Xe} (h : Uno (Sep (WrF a) (DwF c)) w0 w (s, t)) (cx : w.cell? ⟨c, 1, none⟩ = some (.pointer (some ⟨xb, 0, none⟩))) (hk : okS okXm N t) (hN : N ≤ 4000000) : Calls Tryz.prog 18 #[.pointer (some ⟨xb, 0, none⟩)] w (XvPost w (trimE t.co.bs)) := by
  obtain ⟨_, b, G, h1, _, ⟨_, h3⟩, _⟩ := h.r
  rw [cx] at h3
  simp only [Option.some.injEq, Value.pointer.injEq, Addr.mk.injEq, and_true] at h3
  subst h3
  exact xnf_end xb N t.co G w h1 hk.2 hN
end Go.Proofs.YtpofabebmeickaaGreatDoor

