/- kinlaw13.ModelReads: the walk. -/
import Derived.Test.YtpofabebmeickaaGreatDoorVrZj
import Derived.Test.YtpofabebmeickaaGreatDoorVrZt
import Derived.Test.YtpofabebmeickaaGreatDoorVrOpM
import Derived.Deep.CutRange
import Derived.Deep.RegionHeld3
namespace Go.Proofs.YtpofabebmeickaaGreatDoor
set_option linter.unusedVariables false
set_option linter.unusedSimpArgs false
open Go.RowKit Go.Extern.Stop Go.Stop Go.Extern

theorem DrF.obj (a d : Nat) (bs : List Nat) : Obj (DrF a d bs) := ⟨fun h => h.lt, fun h => h.same⟩
def Rbl (N : Nat) (s : Dc) (x : Xc) : Prop := lkI s x ∧ okD N s ∧ okX N x ∧ 16777216 ≤ s.wid
theorem rbl_ok {N : Nat} {s : Ms Dc} {t : Ms Xc} (h : rS Rbl N s t) : okS okDm N s ∧ okS okYm N t := by
  obtain ⟨h1, h2, h3, h4, h5, h6⟩ := h
  exact ⟨⟨h2, h4, h6⟩, by rw [← h1]; exact h2, h5, by rw [← h3.2.1]; exact h6⟩
theorem rbl_new {bs : List Nat} (hb : ∀ x ∈ bs, x < 256) : rS Rbl 4 ⟨ch0, newD bs⟩ ⟨ch0, nxN bs 4⟩ := ⟨rfl, ch0_ok, lk_new hb, (newD_ok hb).1, nxN_ok bs 4, by rw [(newD_ok hb).2.1]; decide⟩
section
variable {d c y : Nat} {bs : List Nat} {w0 w : World} {s : Ms Dc} {t : Ms Xc}
theorem two_o {N : Nat} (h : Uno (Sep (RdF d bs) (DrF c y bs)) w0 w (s, t)) (hr : rS Rbl N s t) (hN : N ≤ 4000000) (hl : bs.length ≤ 4500000) :
    (Calls Tryz.prog 21 #[.pointer (some ⟨d, 0, none⟩)] w fun e w' => e = .returned (.int .i64 (ovrD bs s.co : Int)) ∧ Ext w w') ∧ (Calls Tryz.prog 22 #[.pointer (some ⟨y, 0, none⟩)] w fun e w' => e = .returned (.int .i64 (ovrD bs s.co : Int)) ∧ Ext w w') ∧ w.cell? ⟨c, 2, none⟩ = some (.pointer (some ⟨y, 0, none⟩)) := by
  obtain ⟨G, h1⟩ := h.l
  obtain ⟨_, E, h2, -, h3, -⟩ := h.r
  obtain ⟨o1, o2⟩ := rbl_ok hr
  refine ⟨mrover_any d N bs s G w h1 o1 hN hl, ?_, h3.2⟩
  have := xover_any E y N bs t.co w h2 o2.2.1 hN hl
  rwa [show ovrX bs t.co = ovrD bs s.co by unfold ovrD ovrX; rw [hr.2.2.1.1]] at this
theorem two_c (h : Uno (Sep (RdF d bs) (DrF c y bs)) w0 w (s, t)) : w.cell? ⟨c, 2, none⟩ = some (.pointer (some ⟨y, 0, none⟩)) := by
  obtain ⟨_, E, h2, -, h3, -⟩ := h.r
  exact h3.2
end
end Go.Proofs.YtpofabebmeickaaGreatDoor

