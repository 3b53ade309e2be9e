/-
  DERIVED. GIVEN WITH THE SEED: THE CARDS: each row of YtbhlbiandelimaaDoorRows.lean that lists a variable, with what it lists TIED to the program's text (the seventh form; the later family's looks); each row that meets fmt, with fmt's text TOLD by the authors' own Lean function (tested against real Go, not proved from fmt's source: count such statements apart). THE CARD IS WHAT COUNTS. Prove the row's statement (the work); the ties are given (YtbhlbiandelimaaDoorTie.lean); close each card by the builder's one call (the guide's Derived/Test/ToyasCard.lean, 'card_holds'). Laid BY PROGRAM, IN A SANDBOX (cutbox-door.mjs). By AI agents, Wed Nov 11 2026. No macro, syntax, notation, axiom, sorry.
-/
import Derived.Test.YtbhlbiandelimaaDoorRows
import GoSem.ClaimSeven
namespace Go.Proofs.YtbhlbiandelimaaDoor
namespace Rows

/-- THE TIED CARD OF 'kinlaw10.IntraEdges'. -/
def intraEdgesCard : Claim7 := { stood := { row := intraEdgesRow, standIns := [], harness := (true, "12cfd506cf696afc06b1ff9d94e7a7c103cb25777050a35892d00ed5f59cd80e"), looks := true }, kinds := [], alts := [], laidByText := true, laidKinds := [.handle], laidTests := true, laidLooks := .later }
def IntraEdgesCardSaid : Prop := Claim7.holds Tryd.pinned (.plain (OpenSpec.ofChange intraEdgesSpec)) intraEdgesCard

/-- THE TIED CARD OF 'kinlaw10.IntraPredicts'. -/
def intraPredictsCard : Claim7 := { stood := { row := intraPredictsRow, standIns := [], harness := (true, "12cfd506cf696afc06b1ff9d94e7a7c103cb25777050a35892d00ed5f59cd80e"), looks := true }, kinds := [], alts := [], laidByText := true, laidKinds := [.handle], laidTests := true, laidLooks := .later }
def IntraPredictsCardSaid : Prop := Claim7.holds Tryd.pinned (.plain (OpenSpec.ofChange intraPredictsSpec)) intraPredictsCard

/-- THE TIED CARD OF 'kinlaw10.IntraChooses'. -/
def intraChoosesCard : Claim7 := { stood := { row := intraChoosesRow, standIns := [], harness := (true, "12cfd506cf696afc06b1ff9d94e7a7c103cb25777050a35892d00ed5f59cd80e"), looks := true }, kinds := [], alts := [], laidByText := true, laidKinds := [.handle], laidTests := true, laidLooks := .later }
def IntraChoosesCardSaid : Prop := Claim7.holds Tryd.pinned (.plain (OpenSpec.ofChange intraChoosesSpec)) intraChoosesCard

/-- THE TIED CARD OF 'kinlaw10.IntraSamples'. -/
def intraSamplesCard : Claim7 := { stood := { row := intraSamplesRow, standIns := [], harness := (true, "12cfd506cf696afc06b1ff9d94e7a7c103cb25777050a35892d00ed5f59cd80e"), looks := true }, kinds := [], alts := [], laidByText := true, laidKinds := [.handle], laidTests := true, laidLooks := .later }
def IntraSamplesCardSaid : Prop := Claim7.holds Tryd.pinned (.plain (OpenSpec.ofChange intraSamplesSpec)) intraSamplesCard

/-- THE TIED CARD OF 'kinlaw10.IntraLeast'. -/
def intraLeastCard : Claim7 := { stood := { row := intraLeastRow, standIns := [], harness := (true, "12cfd506cf696afc06b1ff9d94e7a7c103cb25777050a35892d00ed5f59cd80e"), looks := true }, kinds := [], alts := [], laidByText := true, laidKinds := [.handle], laidTests := true, laidLooks := .later }
def IntraLeastCardSaid : Prop := Claim7.holds Tryd.pinned (.plain (OpenSpec.ofChange intraLeastSpec)) intraLeastCard

/-- THE TIED CARD OF 'kinlaw10.IntraGrey'. -/
def intraGreyCard : Claim7 := { stood := { row := intraGreyRow, standIns := [], harness := (true, "12cfd506cf696afc06b1ff9d94e7a7c103cb25777050a35892d00ed5f59cd80e"), looks := true }, kinds := [], alts := [], laidByText := true, laidKinds := [.handle], laidTests := true, laidLooks := .later }
def IntraGreyCardSaid : Prop := Claim7.holds Tryd.pinned (.plain (OpenSpec.ofChange intraGreySpec)) intraGreyCard

/-- THE TIED CARD OF 'kinlaw10.IntraTurned'. -/
def intraTurnedCard : Claim7 := { stood := { row := intraTurnedRow, standIns := [], harness := (true, "12cfd506cf696afc06b1ff9d94e7a7c103cb25777050a35892d00ed5f59cd80e"), looks := true }, kinds := [], alts := [], laidByText := true, laidKinds := [.handle], laidTests := true, laidLooks := .later }
def IntraTurnedCardSaid : Prop := Claim7.holds Tryd.pinned (.plain (OpenSpec.ofChange intraTurnedSpec)) intraTurnedCard

/-- THE TIED CARD OF 'kinlaw16.SceneUnlikes'. -/
def sceneUnlikesCard : Claim7 := { stood := { row := sceneUnlikesRow, standIns := [], harness := (true, "12cfd506cf696afc06b1ff9d94e7a7c103cb25777050a35892d00ed5f59cd80e"), looks := true }, kinds := [], alts := [], laidByText := true, laidKinds := [.handle], laidTests := true, laidLooks := .later }
def SceneUnlikesCardSaid : Prop := Claim7.holds Tryd.pinned (.plain (OpenSpec.ofChange sceneUnlikesSpec)) sceneUnlikesCard

/-- THE TIED CARD OF 'kinlaw16.SceneGroups'. -/
def sceneGroupsCard : Claim7 := { stood := { row := sceneGroupsRow, standIns := [], harness := (true, "12cfd506cf696afc06b1ff9d94e7a7c103cb25777050a35892d00ed5f59cd80e"), looks := true }, kinds := [], alts := [], laidByText := true, laidKinds := [.handle], laidTests := true, laidLooks := .later }
def SceneGroupsCardSaid : Prop := Claim7.holds Tryd.pinned (.plain (OpenSpec.ofChange sceneGroupsSpec)) sceneGroupsCard

/-- THE TIED CARD OF 'kinlaw16.SceneOnce'. -/
def sceneOnceCard : Claim7 := { stood := { row := sceneOnceRow, standIns := [], harness := (true, "12cfd506cf696afc06b1ff9d94e7a7c103cb25777050a35892d00ed5f59cd80e"), looks := true }, kinds := [], alts := [], laidByText := true, laidKinds := [.handle], laidTests := true, laidLooks := .later }
def SceneOnceCardSaid : Prop := Claim7.holds Tryd.pinned (.plain (OpenSpec.ofChange sceneOnceSpec)) sceneOnceCard

/-- THE TIED CARD OF 'kinlaw16.SceneTurned'. -/
def sceneTurnedCard : Claim7 := { stood := { row := sceneTurnedRow, standIns := [], harness := (true, "12cfd506cf696afc06b1ff9d94e7a7c103cb25777050a35892d00ed5f59cd80e"), looks := true }, kinds := [], alts := [], laidByText := true, laidKinds := [.handle], laidTests := true, laidLooks := .later }
def SceneTurnedCardSaid : Prop := Claim7.holds Tryd.pinned (.plain (OpenSpec.ofChange sceneTurnedSpec)) sceneTurnedCard

/-- THE TIED CARD OF 'kinlaw16.SceneCuts'. -/
def sceneCutsCard : Claim7 := { stood := { row := sceneCutsRow, standIns := [], harness := (true, "12cfd506cf696afc06b1ff9d94e7a7c103cb25777050a35892d00ed5f59cd80e"), looks := true }, kinds := [], alts := [], laidByText := true, laidKinds := [.handle], laidTests := true, laidLooks := .later }
def SceneCutsCardSaid : Prop := Claim7.holds Tryd.pinned (.plain (OpenSpec.ofChange sceneCutsSpec)) sceneCutsCard

/-- THE SECOND FORM's CARD OF 'kinlaw10.IntraEdges'. -/
def intraEdgesUptoCard : Claim7 := { stood := { row := intraEdgesUptoRow, standIns := [], harness := (true, "12cfd506cf696afc06b1ff9d94e7a7c103cb25777050a35892d00ed5f59cd80e"), looks := true }, kinds := [], alts := [], laidByText := true, laidKinds := [.handle], laidTests := true, laidLooks := .later }
def IntraEdgesUptoCardSaid : Prop := Claim7.holds Tryd.pinned (.plain (OpenSpec.upto intraEdgesSpec)) intraEdgesUptoCard

/-- THE SECOND FORM's CARD OF 'kinlaw10.IntraPredicts'. -/
def intraPredictsUptoCard : Claim7 := { stood := { row := intraPredictsUptoRow, standIns := [], harness := (true, "12cfd506cf696afc06b1ff9d94e7a7c103cb25777050a35892d00ed5f59cd80e"), looks := true }, kinds := [], alts := [], laidByText := true, laidKinds := [.handle], laidTests := true, laidLooks := .later }
def IntraPredictsUptoCardSaid : Prop := Claim7.holds Tryd.pinned (.plain (OpenSpec.upto intraPredictsSpec)) intraPredictsUptoCard

/-- THE SECOND FORM's CARD OF 'kinlaw10.IntraChooses'. -/
def intraChoosesUptoCard : Claim7 := { stood := { row := intraChoosesUptoRow, standIns := [], harness := (true, "12cfd506cf696afc06b1ff9d94e7a7c103cb25777050a35892d00ed5f59cd80e"), looks := true }, kinds := [], alts := [], laidByText := true, laidKinds := [.handle], laidTests := true, laidLooks := .later }
def IntraChoosesUptoCardSaid : Prop := Claim7.holds Tryd.pinned (.plain (OpenSpec.upto intraChoosesSpec)) intraChoosesUptoCard

/-- THE SECOND FORM's CARD OF 'kinlaw10.IntraSamples'. -/
def intraSamplesUptoCard : Claim7 := { stood := { row := intraSamplesUptoRow, standIns := [], harness := (true, "12cfd506cf696afc06b1ff9d94e7a7c103cb25777050a35892d00ed5f59cd80e"), looks := true }, kinds := [], alts := [], laidByText := true, laidKinds := [.handle], laidTests := true, laidLooks := .later }
def IntraSamplesUptoCardSaid : Prop := Claim7.holds Tryd.pinned (.plain (OpenSpec.upto intraSamplesSpec)) intraSamplesUptoCard

/-- THE SECOND FORM's CARD OF 'kinlaw10.IntraLeast'. -/
def intraLeastUptoCard : Claim7 := { stood := { row := intraLeastUptoRow, standIns := [], harness := (true, "12cfd506cf696afc06b1ff9d94e7a7c103cb25777050a35892d00ed5f59cd80e"), looks := true }, kinds := [], alts := [], laidByText := true, laidKinds := [.handle], laidTests := true, laidLooks := .later }
def IntraLeastUptoCardSaid : Prop := Claim7.holds Tryd.pinned (.plain (OpenSpec.upto intraLeastSpec)) intraLeastUptoCard

/-- THE SECOND FORM's CARD OF 'kinlaw10.IntraGrey'. -/
def intraGreyUptoCard : Claim7 := { stood := { row := intraGreyUptoRow, standIns := [], harness := (true, "12cfd506cf696afc06b1ff9d94e7a7c103cb25777050a35892d00ed5f59cd80e"), looks := true }, kinds := [], alts := [], laidByText := true, laidKinds := [.handle], laidTests := true, laidLooks := .later }
def IntraGreyUptoCardSaid : Prop := Claim7.holds Tryd.pinned (.plain (OpenSpec.upto intraGreySpec)) intraGreyUptoCard

/-- THE SECOND FORM's CARD OF 'kinlaw10.IntraTurned'. -/
def intraTurnedUptoCard : Claim7 := { stood := { row := intraTurnedUptoRow, standIns := [], harness := (true, "12cfd506cf696afc06b1ff9d94e7a7c103cb25777050a35892d00ed5f59cd80e"), looks := true }, kinds := [], alts := [], laidByText := true, laidKinds := [.handle], laidTests := true, laidLooks := .later }
def IntraTurnedUptoCardSaid : Prop := Claim7.holds Tryd.pinned (.plain (OpenSpec.upto intraTurnedSpec)) intraTurnedUptoCard

/-- THE SECOND FORM's CARD OF 'kinlaw16.SceneUnlikes'. -/
def sceneUnlikesUptoCard : Claim7 := { stood := { row := sceneUnlikesUptoRow, standIns := [], harness := (true, "12cfd506cf696afc06b1ff9d94e7a7c103cb25777050a35892d00ed5f59cd80e"), looks := true }, kinds := [], alts := [], laidByText := true, laidKinds := [.handle], laidTests := true, laidLooks := .later }
def SceneUnlikesUptoCardSaid : Prop := Claim7.holds Tryd.pinned (.plain (OpenSpec.upto sceneUnlikesSpec)) sceneUnlikesUptoCard

/-- THE SECOND FORM's CARD OF 'kinlaw16.SceneGroups'. -/
def sceneGroupsUptoCard : Claim7 := { stood := { row := sceneGroupsUptoRow, standIns := [], harness := (true, "12cfd506cf696afc06b1ff9d94e7a7c103cb25777050a35892d00ed5f59cd80e"), looks := true }, kinds := [], alts := [], laidByText := true, laidKinds := [.handle], laidTests := true, laidLooks := .later }
def SceneGroupsUptoCardSaid : Prop := Claim7.holds Tryd.pinned (.plain (OpenSpec.upto sceneGroupsSpec)) sceneGroupsUptoCard

/-- THE SECOND FORM's CARD OF 'kinlaw16.SceneOnce'. -/
def sceneOnceUptoCard : Claim7 := { stood := { row := sceneOnceUptoRow, standIns := [], harness := (true, "12cfd506cf696afc06b1ff9d94e7a7c103cb25777050a35892d00ed5f59cd80e"), looks := true }, kinds := [], alts := [], laidByText := true, laidKinds := [.handle], laidTests := true, laidLooks := .later }
def SceneOnceUptoCardSaid : Prop := Claim7.holds Tryd.pinned (.plain (OpenSpec.upto sceneOnceSpec)) sceneOnceUptoCard

/-- THE SECOND FORM's CARD OF 'kinlaw16.SceneTurned'. -/
def sceneTurnedUptoCard : Claim7 := { stood := { row := sceneTurnedUptoRow, standIns := [], harness := (true, "12cfd506cf696afc06b1ff9d94e7a7c103cb25777050a35892d00ed5f59cd80e"), looks := true }, kinds := [], alts := [], laidByText := true, laidKinds := [.handle], laidTests := true, laidLooks := .later }
def SceneTurnedUptoCardSaid : Prop := Claim7.holds Tryd.pinned (.plain (OpenSpec.upto sceneTurnedSpec)) sceneTurnedUptoCard

/-- THE SECOND FORM's CARD OF 'kinlaw16.SceneCuts'. -/
def sceneCutsUptoCard : Claim7 := { stood := { row := sceneCutsUptoRow, standIns := [], harness := (true, "12cfd506cf696afc06b1ff9d94e7a7c103cb25777050a35892d00ed5f59cd80e"), looks := true }, kinds := [], alts := [], laidByText := true, laidKinds := [.handle], laidTests := true, laidLooks := .later }
def SceneCutsUptoCardSaid : Prop := Claim7.holds Tryd.pinned (.plain (OpenSpec.upto sceneCutsSpec)) sceneCutsUptoCard
end Rows
end Go.Proofs.YtbhlbiandelimaaDoor
