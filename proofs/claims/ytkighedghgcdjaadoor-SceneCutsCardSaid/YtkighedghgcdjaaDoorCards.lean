/-
  DERIVED. GIVEN WITH THE SEED: THE CARDS: each row of YtkighedghgcdjaaDoorRows.lean that lists a variable, with what it lists TIED to the program's text (the seventh form; the later family's looks); each row that meets fmt, with fmt's text TOLD by the authors' own Lean function (tested against real Go, not proved from fmt's source: count such statements apart). THE CARD IS WHAT COUNTS. Prove the row's statement (the work); the ties are given (YtkighedghgcdjaaDoorTie.lean); close each card by the builder's one call (the guide's Derived/Test/ToyasCard.lean, 'card_holds'). Laid BY PROGRAM, IN A SANDBOX (cutbox-door.mjs). By AI agents, Wed Nov 11 2026. No macro, syntax, notation, axiom, sorry.
-/
import Derived.Test.YtkighedghgcdjaaDoorRows
import GoSem.ClaimSeven
namespace Go.Proofs.YtkighedghgcdjaaDoor
namespace Rows

/-- THE TIED CARD OF 'kinlaw6.PlaneMakes'. -/
def planeMakesCard : Claim7 := { stood := { row := planeMakesRow, standIns := [], harness := (true, "ccb6ee2934007f117758e515a7325f569e6cd829b0914091aa2f1549caaf4efc"), looks := true }, kinds := [], alts := [], laidByText := true, laidKinds := [.handle], laidTests := true, laidLooks := .later }
def PlaneMakesCardSaid : Prop := Claim7.holds Tryd.pinned (.plain (OpenSpec.ofChange planeMakesSpec)) planeMakesCard

/-- THE TIED CARD OF 'kinlaw6.PlaneAsks'. -/
def planeAsksCard : Claim7 := { stood := { row := planeAsksRow, standIns := [], harness := (true, "ccb6ee2934007f117758e515a7325f569e6cd829b0914091aa2f1549caaf4efc"), looks := true }, kinds := [], alts := [], laidByText := true, laidKinds := [.handle], laidTests := true, laidLooks := .later }
def PlaneAsksCardSaid : Prop := Claim7.holds Tryd.pinned (.plain (OpenSpec.ofChange planeAsksSpec)) planeAsksCard

/-- THE TIED CARD OF 'kinlaw6.PlanePuts'. -/
def planePutsCard : Claim7 := { stood := { row := planePutsRow, standIns := [], harness := (true, "ccb6ee2934007f117758e515a7325f569e6cd829b0914091aa2f1549caaf4efc"), looks := true }, kinds := [], alts := [], laidByText := true, laidKinds := [.handle], laidTests := true, laidLooks := .later }
def PlanePutsCardSaid : Prop := Claim7.holds Tryd.pinned (.plain (OpenSpec.ofChange planePutsSpec)) planePutsCard

/-- THE TIED CARD OF 'kinlaw6.PlaneBack'. -/
def planeBackCard : Claim7 := { stood := { row := planeBackRow, standIns := [], harness := (true, "ccb6ee2934007f117758e515a7325f569e6cd829b0914091aa2f1549caaf4efc"), looks := true }, kinds := [], alts := [], laidByText := true, laidKinds := [.handle], laidTests := true, laidLooks := .later }
def PlaneBackCardSaid : Prop := Claim7.holds Tryd.pinned (.plain (OpenSpec.ofChange planeBackSpec)) planeBackCard

/-- THE TIED CARD OF 'kinlaw6.PlanePeaks'. -/
def planePeaksCard : Claim7 := { stood := { row := planePeaksRow, standIns := [], harness := (true, "ccb6ee2934007f117758e515a7325f569e6cd829b0914091aa2f1549caaf4efc"), looks := true }, kinds := [], alts := [], laidByText := true, laidKinds := [.handle], laidTests := true, laidLooks := .later }
def PlanePeaksCardSaid : Prop := Claim7.holds Tryd.pinned (.plain (OpenSpec.ofChange planePeaksSpec)) planePeaksCard

/-- THE TIED CARD OF 'kinlaw6.PlaneTwo'. -/
def planeTwoCard : Claim7 := { stood := { row := planeTwoRow, standIns := [], harness := (true, "ccb6ee2934007f117758e515a7325f569e6cd829b0914091aa2f1549caaf4efc"), looks := true }, kinds := [], alts := [], laidByText := true, laidKinds := [.handle], laidTests := true, laidLooks := .later }
def PlaneTwoCardSaid : Prop := Claim7.holds Tryd.pinned (.plain (OpenSpec.ofChange planeTwoSpec)) planeTwoCard

/-- THE TIED CARD OF 'kinlaw10.IntraEdges'. -/
def intraEdgesCard : Claim7 := { stood := { row := intraEdgesRow, standIns := [], harness := (true, "ccb6ee2934007f117758e515a7325f569e6cd829b0914091aa2f1549caaf4efc"), looks := true }, kinds := [], alts := [], laidByText := true, laidKinds := [.handle], laidTests := true, laidLooks := .later }
def IntraEdgesCardSaid : Prop := Claim7.holds Tryd.pinned (.plain (OpenSpec.ofChange intraEdgesSpec)) intraEdgesCard

/-- THE TIED CARD OF 'kinlaw16.SceneUnlikes'. -/
def sceneUnlikesCard : Claim7 := { stood := { row := sceneUnlikesRow, standIns := [], harness := (true, "ccb6ee2934007f117758e515a7325f569e6cd829b0914091aa2f1549caaf4efc"), looks := true }, kinds := [], alts := [], laidByText := true, laidKinds := [.handle], laidTests := true, laidLooks := .later }
def SceneUnlikesCardSaid : Prop := Claim7.holds Tryd.pinned (.plain (OpenSpec.ofChange sceneUnlikesSpec)) sceneUnlikesCard

/-- THE TIED CARD OF 'kinlaw16.SceneGroups'. -/
def sceneGroupsCard : Claim7 := { stood := { row := sceneGroupsRow, standIns := [], harness := (true, "ccb6ee2934007f117758e515a7325f569e6cd829b0914091aa2f1549caaf4efc"), looks := true }, kinds := [], alts := [], laidByText := true, laidKinds := [.handle], laidTests := true, laidLooks := .later }
def SceneGroupsCardSaid : Prop := Claim7.holds Tryd.pinned (.plain (OpenSpec.ofChange sceneGroupsSpec)) sceneGroupsCard

/-- THE TIED CARD OF 'kinlaw16.SceneOnce'. -/
def sceneOnceCard : Claim7 := { stood := { row := sceneOnceRow, standIns := [], harness := (true, "ccb6ee2934007f117758e515a7325f569e6cd829b0914091aa2f1549caaf4efc"), looks := true }, kinds := [], alts := [], laidByText := true, laidKinds := [.handle], laidTests := true, laidLooks := .later }
def SceneOnceCardSaid : Prop := Claim7.holds Tryd.pinned (.plain (OpenSpec.ofChange sceneOnceSpec)) sceneOnceCard

/-- THE TIED CARD OF 'kinlaw16.SceneTurned'. -/
def sceneTurnedCard : Claim7 := { stood := { row := sceneTurnedRow, standIns := [], harness := (true, "ccb6ee2934007f117758e515a7325f569e6cd829b0914091aa2f1549caaf4efc"), looks := true }, kinds := [], alts := [], laidByText := true, laidKinds := [.handle], laidTests := true, laidLooks := .later }
def SceneTurnedCardSaid : Prop := Claim7.holds Tryd.pinned (.plain (OpenSpec.ofChange sceneTurnedSpec)) sceneTurnedCard

/-- THE TIED CARD OF 'kinlaw16.SceneCuts'. -/
def sceneCutsCard : Claim7 := { stood := { row := sceneCutsRow, standIns := [], harness := (true, "ccb6ee2934007f117758e515a7325f569e6cd829b0914091aa2f1549caaf4efc"), looks := true }, kinds := [], alts := [], laidByText := true, laidKinds := [.handle], laidTests := true, laidLooks := .later }
def SceneCutsCardSaid : Prop := Claim7.holds Tryd.pinned (.plain (OpenSpec.ofChange sceneCutsSpec)) sceneCutsCard

/-- THE SECOND FORM's CARD OF 'kinlaw6.PlaneMakes'. -/
def planeMakesUptoCard : Claim7 := { stood := { row := planeMakesUptoRow, standIns := [], harness := (true, "ccb6ee2934007f117758e515a7325f569e6cd829b0914091aa2f1549caaf4efc"), looks := true }, kinds := [], alts := [], laidByText := true, laidKinds := [.handle], laidTests := true, laidLooks := .later }
def PlaneMakesUptoCardSaid : Prop := Claim7.holds Tryd.pinned (.plain (OpenSpec.upto planeMakesSpec)) planeMakesUptoCard

/-- THE SECOND FORM's CARD OF 'kinlaw6.PlaneAsks'. -/
def planeAsksUptoCard : Claim7 := { stood := { row := planeAsksUptoRow, standIns := [], harness := (true, "ccb6ee2934007f117758e515a7325f569e6cd829b0914091aa2f1549caaf4efc"), looks := true }, kinds := [], alts := [], laidByText := true, laidKinds := [.handle], laidTests := true, laidLooks := .later }
def PlaneAsksUptoCardSaid : Prop := Claim7.holds Tryd.pinned (.plain (OpenSpec.upto planeAsksSpec)) planeAsksUptoCard

/-- THE SECOND FORM's CARD OF 'kinlaw6.PlanePuts'. -/
def planePutsUptoCard : Claim7 := { stood := { row := planePutsUptoRow, standIns := [], harness := (true, "ccb6ee2934007f117758e515a7325f569e6cd829b0914091aa2f1549caaf4efc"), looks := true }, kinds := [], alts := [], laidByText := true, laidKinds := [.handle], laidTests := true, laidLooks := .later }
def PlanePutsUptoCardSaid : Prop := Claim7.holds Tryd.pinned (.plain (OpenSpec.upto planePutsSpec)) planePutsUptoCard

/-- THE SECOND FORM's CARD OF 'kinlaw6.PlaneBack'. -/
def planeBackUptoCard : Claim7 := { stood := { row := planeBackUptoRow, standIns := [], harness := (true, "ccb6ee2934007f117758e515a7325f569e6cd829b0914091aa2f1549caaf4efc"), looks := true }, kinds := [], alts := [], laidByText := true, laidKinds := [.handle], laidTests := true, laidLooks := .later }
def PlaneBackUptoCardSaid : Prop := Claim7.holds Tryd.pinned (.plain (OpenSpec.upto planeBackSpec)) planeBackUptoCard

/-- THE SECOND FORM's CARD OF 'kinlaw6.PlanePeaks'. -/
def planePeaksUptoCard : Claim7 := { stood := { row := planePeaksUptoRow, standIns := [], harness := (true, "ccb6ee2934007f117758e515a7325f569e6cd829b0914091aa2f1549caaf4efc"), looks := true }, kinds := [], alts := [], laidByText := true, laidKinds := [.handle], laidTests := true, laidLooks := .later }
def PlanePeaksUptoCardSaid : Prop := Claim7.holds Tryd.pinned (.plain (OpenSpec.upto planePeaksSpec)) planePeaksUptoCard

/-- THE SECOND FORM's CARD OF 'kinlaw6.PlaneTwo'. -/
def planeTwoUptoCard : Claim7 := { stood := { row := planeTwoUptoRow, standIns := [], harness := (true, "ccb6ee2934007f117758e515a7325f569e6cd829b0914091aa2f1549caaf4efc"), looks := true }, kinds := [], alts := [], laidByText := true, laidKinds := [.handle], laidTests := true, laidLooks := .later }
def PlaneTwoUptoCardSaid : Prop := Claim7.holds Tryd.pinned (.plain (OpenSpec.upto planeTwoSpec)) planeTwoUptoCard

/-- THE SECOND FORM's CARD OF 'kinlaw10.IntraEdges'. -/
def intraEdgesUptoCard : Claim7 := { stood := { row := intraEdgesUptoRow, standIns := [], harness := (true, "ccb6ee2934007f117758e515a7325f569e6cd829b0914091aa2f1549caaf4efc"), looks := true }, kinds := [], alts := [], laidByText := true, laidKinds := [.handle], laidTests := true, laidLooks := .later }
def IntraEdgesUptoCardSaid : Prop := Claim7.holds Tryd.pinned (.plain (OpenSpec.upto intraEdgesSpec)) intraEdgesUptoCard

/-- THE SECOND FORM's CARD OF 'kinlaw16.SceneUnlikes'. -/
def sceneUnlikesUptoCard : Claim7 := { stood := { row := sceneUnlikesUptoRow, standIns := [], harness := (true, "ccb6ee2934007f117758e515a7325f569e6cd829b0914091aa2f1549caaf4efc"), looks := true }, kinds := [], alts := [], laidByText := true, laidKinds := [.handle], laidTests := true, laidLooks := .later }
def SceneUnlikesUptoCardSaid : Prop := Claim7.holds Tryd.pinned (.plain (OpenSpec.upto sceneUnlikesSpec)) sceneUnlikesUptoCard

/-- THE SECOND FORM's CARD OF 'kinlaw16.SceneGroups'. -/
def sceneGroupsUptoCard : Claim7 := { stood := { row := sceneGroupsUptoRow, standIns := [], harness := (true, "ccb6ee2934007f117758e515a7325f569e6cd829b0914091aa2f1549caaf4efc"), looks := true }, kinds := [], alts := [], laidByText := true, laidKinds := [.handle], laidTests := true, laidLooks := .later }
def SceneGroupsUptoCardSaid : Prop := Claim7.holds Tryd.pinned (.plain (OpenSpec.upto sceneGroupsSpec)) sceneGroupsUptoCard

/-- THE SECOND FORM's CARD OF 'kinlaw16.SceneOnce'. -/
def sceneOnceUptoCard : Claim7 := { stood := { row := sceneOnceUptoRow, standIns := [], harness := (true, "ccb6ee2934007f117758e515a7325f569e6cd829b0914091aa2f1549caaf4efc"), looks := true }, kinds := [], alts := [], laidByText := true, laidKinds := [.handle], laidTests := true, laidLooks := .later }
def SceneOnceUptoCardSaid : Prop := Claim7.holds Tryd.pinned (.plain (OpenSpec.upto sceneOnceSpec)) sceneOnceUptoCard

/-- THE SECOND FORM's CARD OF 'kinlaw16.SceneTurned'. -/
def sceneTurnedUptoCard : Claim7 := { stood := { row := sceneTurnedUptoRow, standIns := [], harness := (true, "ccb6ee2934007f117758e515a7325f569e6cd829b0914091aa2f1549caaf4efc"), looks := true }, kinds := [], alts := [], laidByText := true, laidKinds := [.handle], laidTests := true, laidLooks := .later }
def SceneTurnedUptoCardSaid : Prop := Claim7.holds Tryd.pinned (.plain (OpenSpec.upto sceneTurnedSpec)) sceneTurnedUptoCard

/-- THE SECOND FORM's CARD OF 'kinlaw16.SceneCuts'. -/
def sceneCutsUptoCard : Claim7 := { stood := { row := sceneCutsUptoRow, standIns := [], harness := (true, "ccb6ee2934007f117758e515a7325f569e6cd829b0914091aa2f1549caaf4efc"), looks := true }, kinds := [], alts := [], laidByText := true, laidKinds := [.handle], laidTests := true, laidLooks := .later }
def SceneCutsUptoCardSaid : Prop := Claim7.holds Tryd.pinned (.plain (OpenSpec.upto sceneCutsSpec)) sceneCutsUptoCard
end Rows
end Go.Proofs.YtkighedghgcdjaaDoor
