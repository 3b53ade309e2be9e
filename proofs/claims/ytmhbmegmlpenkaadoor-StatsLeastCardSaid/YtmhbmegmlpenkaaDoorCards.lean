/-
  DERIVED. GIVEN WITH THE SEED: THE CARDS: each row of YtmhbmegmlpenkaaDoorRows.lean that lists a variable, with what it lists TIED to the program's text (the seventh form; the later family's looks); each row that meets fmt, with fmt's text TOLD by the authors' own Lean function (tested against real Go, not proved from fmt's source: count such statements apart). THE CARD IS WHAT COUNTS. Prove the row's statement (the work); the ties are given (YtmhbmegmlpenkaaDoorTie.lean); close each card by the builder's one call (the guide's Derived/Test/ToyasCard.lean, 'card_holds'). Laid BY PROGRAM, IN A SANDBOX (cutbox-door.mjs). By AI agents, Wed Nov 11 2026. No macro, syntax, notation, axiom, sorry.
-/
import Derived.Test.YtmhbmegmlpenkaaDoorRows
import GoSem.ClaimSeven
namespace Go.Proofs.YtmhbmegmlpenkaaDoor
namespace Rows

/-- THE TIED CARD OF 'kinlaw11.MotionHalves'. -/
def motionHalvesCard : Claim7 := { stood := { row := motionHalvesRow, standIns := [], harness := (true, "d1b0683e1055e33b313fad1cd71fff2d35569f6d124bfda89ebf00c449a5e7a9"), looks := true }, kinds := [], alts := [], laidByText := true, laidKinds := [.handle], laidTests := true, laidLooks := .later }
def MotionHalvesCardSaid : Prop := Claim7.holds Tryd.pinned (.plain (OpenSpec.ofChange motionHalvesSpec)) motionHalvesCard

/-- THE TIED CARD OF 'kinlaw11.MotionCosts'. -/
def motionCostsCard : Claim7 := { stood := { row := motionCostsRow, standIns := [], harness := (true, "d1b0683e1055e33b313fad1cd71fff2d35569f6d124bfda89ebf00c449a5e7a9"), looks := true }, kinds := [], alts := [], laidByText := true, laidKinds := [.handle], laidTests := true, laidLooks := .later }
def MotionCostsCardSaid : Prop := Claim7.holds Tryd.pinned (.plain (OpenSpec.ofChange motionCostsSpec)) motionCostsCard

/-- THE TIED CARD OF 'kinlaw11.MotionSearches'. -/
def motionSearchesCard : Claim7 := { stood := { row := motionSearchesRow, standIns := [], harness := (true, "d1b0683e1055e33b313fad1cd71fff2d35569f6d124bfda89ebf00c449a5e7a9"), looks := true }, kinds := [], alts := [], laidByText := true, laidKinds := [.handle], laidTests := true, laidLooks := .later }
def MotionSearchesCardSaid : Prop := Claim7.holds Tryd.pinned (.plain (OpenSpec.ofChange motionSearchesSpec)) motionSearchesCard

/-- THE TIED CARD OF 'kinlaw11.MotionSamples'. -/
def motionSamplesCard : Claim7 := { stood := { row := motionSamplesRow, standIns := [], harness := (true, "d1b0683e1055e33b313fad1cd71fff2d35569f6d124bfda89ebf00c449a5e7a9"), looks := true }, kinds := [], alts := [], laidByText := true, laidKinds := [.handle], laidTests := true, laidLooks := .later }
def MotionSamplesCardSaid : Prop := Claim7.holds Tryd.pinned (.plain (OpenSpec.ofChange motionSamplesSpec)) motionSamplesCard

/-- THE TIED CARD OF 'kinlaw11.MotionBest'. -/
def motionBestCard : Claim7 := { stood := { row := motionBestRow, standIns := [], harness := (true, "d1b0683e1055e33b313fad1cd71fff2d35569f6d124bfda89ebf00c449a5e7a9"), looks := true }, kinds := [], alts := [], laidByText := true, laidKinds := [.handle], laidTests := true, laidLooks := .later }
def MotionBestCardSaid : Prop := Claim7.holds Tryd.pinned (.plain (OpenSpec.ofChange motionBestSpec)) motionBestCard

/-- THE TIED CARD OF 'kinlaw11.MotionWhole'. -/
def motionWholeCard : Claim7 := { stood := { row := motionWholeRow, standIns := [], harness := (true, "d1b0683e1055e33b313fad1cd71fff2d35569f6d124bfda89ebf00c449a5e7a9"), looks := true }, kinds := [], alts := [], laidByText := true, laidKinds := [.handle], laidTests := true, laidLooks := .later }
def MotionWholeCardSaid : Prop := Claim7.holds Tryd.pinned (.plain (OpenSpec.ofChange motionWholeSpec)) motionWholeCard

/-- THE TIED CARD OF 'kinlaw16.SceneGroups'. -/
def sceneGroupsCard : Claim7 := { stood := { row := sceneGroupsRow, standIns := [], harness := (true, "d1b0683e1055e33b313fad1cd71fff2d35569f6d124bfda89ebf00c449a5e7a9"), looks := true }, kinds := [], alts := [], laidByText := true, laidKinds := [.handle], laidTests := true, laidLooks := .later }
def SceneGroupsCardSaid : Prop := Claim7.holds Tryd.pinned (.plain (OpenSpec.ofChange sceneGroupsSpec)) sceneGroupsCard

/-- THE TIED CARD OF 'kinlaw16.SceneOnce'. -/
def sceneOnceCard : Claim7 := { stood := { row := sceneOnceRow, standIns := [], harness := (true, "d1b0683e1055e33b313fad1cd71fff2d35569f6d124bfda89ebf00c449a5e7a9"), looks := true }, kinds := [], alts := [], laidByText := true, laidKinds := [.handle], laidTests := true, laidLooks := .later }
def SceneOnceCardSaid : Prop := Claim7.holds Tryd.pinned (.plain (OpenSpec.ofChange sceneOnceSpec)) sceneOnceCard

/-- THE TIED CARD OF 'kinlaw17.StatsTells'. -/
def statsTellsCard : Claim7 := { stood := { row := statsTellsRow, standIns := [], harness := (true, "d1b0683e1055e33b313fad1cd71fff2d35569f6d124bfda89ebf00c449a5e7a9"), looks := true }, kinds := [], alts := [], laidByText := true, laidKinds := [.handle], laidTests := true, laidLooks := .later }
def StatsTellsCardSaid : Prop := Claim7.holds Tryd.pinned (.plain (OpenSpec.ofChange statsTellsSpec)) statsTellsCard

/-- THE TIED CARD OF 'kinlaw17.StatsWeighs'. -/
def statsWeighsCard : Claim7 := { stood := { row := statsWeighsRow, standIns := [], harness := (true, "d1b0683e1055e33b313fad1cd71fff2d35569f6d124bfda89ebf00c449a5e7a9"), looks := true }, kinds := [], alts := [], laidByText := true, laidKinds := [.handle], laidTests := true, laidLooks := .later }
def StatsWeighsCardSaid : Prop := Claim7.holds Tryd.pinned (.plain (OpenSpec.ofChange statsWeighsSpec)) statsWeighsCard

/-- THE TIED CARD OF 'kinlaw17.StatsLeast'. -/
def statsLeastCard : Claim7 := { stood := { row := statsLeastRow, standIns := [], harness := (true, "d1b0683e1055e33b313fad1cd71fff2d35569f6d124bfda89ebf00c449a5e7a9"), looks := true }, kinds := [], alts := [], laidByText := true, laidKinds := [.handle], laidTests := true, laidLooks := .later }
def StatsLeastCardSaid : Prop := Claim7.holds Tryd.pinned (.plain (OpenSpec.ofChange statsLeastSpec)) statsLeastCard

/-- THE TIED CARD OF 'kinlaw17.StatsApart'. -/
def statsApartCard : Claim7 := { stood := { row := statsApartRow, standIns := [], harness := (true, "d1b0683e1055e33b313fad1cd71fff2d35569f6d124bfda89ebf00c449a5e7a9"), looks := true }, kinds := [], alts := [], laidByText := true, laidKinds := [.handle], laidTests := true, laidLooks := .later }
def StatsApartCardSaid : Prop := Claim7.holds Tryd.pinned (.plain (OpenSpec.ofChange statsApartSpec)) statsApartCard

/-- THE TIED CARD OF 'kinlaw17.StatsFlat'. -/
def statsFlatCard : Claim7 := { stood := { row := statsFlatRow, standIns := [], harness := (true, "d1b0683e1055e33b313fad1cd71fff2d35569f6d124bfda89ebf00c449a5e7a9"), looks := true }, kinds := [], alts := [], laidByText := true, laidKinds := [.handle], laidTests := true, laidLooks := .later }
def StatsFlatCardSaid : Prop := Claim7.holds Tryd.pinned (.plain (OpenSpec.ofChange statsFlatSpec)) statsFlatCard

/-- THE SECOND FORM's CARD OF 'kinlaw11.MotionHalves'. -/
def motionHalvesUptoCard : Claim7 := { stood := { row := motionHalvesUptoRow, standIns := [], harness := (true, "d1b0683e1055e33b313fad1cd71fff2d35569f6d124bfda89ebf00c449a5e7a9"), looks := true }, kinds := [], alts := [], laidByText := true, laidKinds := [.handle], laidTests := true, laidLooks := .later }
def MotionHalvesUptoCardSaid : Prop := Claim7.holds Tryd.pinned (.plain (OpenSpec.upto motionHalvesSpec)) motionHalvesUptoCard

/-- THE SECOND FORM's CARD OF 'kinlaw11.MotionCosts'. -/
def motionCostsUptoCard : Claim7 := { stood := { row := motionCostsUptoRow, standIns := [], harness := (true, "d1b0683e1055e33b313fad1cd71fff2d35569f6d124bfda89ebf00c449a5e7a9"), looks := true }, kinds := [], alts := [], laidByText := true, laidKinds := [.handle], laidTests := true, laidLooks := .later }
def MotionCostsUptoCardSaid : Prop := Claim7.holds Tryd.pinned (.plain (OpenSpec.upto motionCostsSpec)) motionCostsUptoCard

/-- THE SECOND FORM's CARD OF 'kinlaw11.MotionSearches'. -/
def motionSearchesUptoCard : Claim7 := { stood := { row := motionSearchesUptoRow, standIns := [], harness := (true, "d1b0683e1055e33b313fad1cd71fff2d35569f6d124bfda89ebf00c449a5e7a9"), looks := true }, kinds := [], alts := [], laidByText := true, laidKinds := [.handle], laidTests := true, laidLooks := .later }
def MotionSearchesUptoCardSaid : Prop := Claim7.holds Tryd.pinned (.plain (OpenSpec.upto motionSearchesSpec)) motionSearchesUptoCard

/-- THE SECOND FORM's CARD OF 'kinlaw11.MotionSamples'. -/
def motionSamplesUptoCard : Claim7 := { stood := { row := motionSamplesUptoRow, standIns := [], harness := (true, "d1b0683e1055e33b313fad1cd71fff2d35569f6d124bfda89ebf00c449a5e7a9"), looks := true }, kinds := [], alts := [], laidByText := true, laidKinds := [.handle], laidTests := true, laidLooks := .later }
def MotionSamplesUptoCardSaid : Prop := Claim7.holds Tryd.pinned (.plain (OpenSpec.upto motionSamplesSpec)) motionSamplesUptoCard

/-- THE SECOND FORM's CARD OF 'kinlaw11.MotionBest'. -/
def motionBestUptoCard : Claim7 := { stood := { row := motionBestUptoRow, standIns := [], harness := (true, "d1b0683e1055e33b313fad1cd71fff2d35569f6d124bfda89ebf00c449a5e7a9"), looks := true }, kinds := [], alts := [], laidByText := true, laidKinds := [.handle], laidTests := true, laidLooks := .later }
def MotionBestUptoCardSaid : Prop := Claim7.holds Tryd.pinned (.plain (OpenSpec.upto motionBestSpec)) motionBestUptoCard

/-- THE SECOND FORM's CARD OF 'kinlaw11.MotionWhole'. -/
def motionWholeUptoCard : Claim7 := { stood := { row := motionWholeUptoRow, standIns := [], harness := (true, "d1b0683e1055e33b313fad1cd71fff2d35569f6d124bfda89ebf00c449a5e7a9"), looks := true }, kinds := [], alts := [], laidByText := true, laidKinds := [.handle], laidTests := true, laidLooks := .later }
def MotionWholeUptoCardSaid : Prop := Claim7.holds Tryd.pinned (.plain (OpenSpec.upto motionWholeSpec)) motionWholeUptoCard

/-- THE SECOND FORM's CARD OF 'kinlaw16.SceneGroups'. -/
def sceneGroupsUptoCard : Claim7 := { stood := { row := sceneGroupsUptoRow, standIns := [], harness := (true, "d1b0683e1055e33b313fad1cd71fff2d35569f6d124bfda89ebf00c449a5e7a9"), looks := true }, kinds := [], alts := [], laidByText := true, laidKinds := [.handle], laidTests := true, laidLooks := .later }
def SceneGroupsUptoCardSaid : Prop := Claim7.holds Tryd.pinned (.plain (OpenSpec.upto sceneGroupsSpec)) sceneGroupsUptoCard

/-- THE SECOND FORM's CARD OF 'kinlaw16.SceneOnce'. -/
def sceneOnceUptoCard : Claim7 := { stood := { row := sceneOnceUptoRow, standIns := [], harness := (true, "d1b0683e1055e33b313fad1cd71fff2d35569f6d124bfda89ebf00c449a5e7a9"), looks := true }, kinds := [], alts := [], laidByText := true, laidKinds := [.handle], laidTests := true, laidLooks := .later }
def SceneOnceUptoCardSaid : Prop := Claim7.holds Tryd.pinned (.plain (OpenSpec.upto sceneOnceSpec)) sceneOnceUptoCard

/-- THE SECOND FORM's CARD OF 'kinlaw17.StatsTells'. -/
def statsTellsUptoCard : Claim7 := { stood := { row := statsTellsUptoRow, standIns := [], harness := (true, "d1b0683e1055e33b313fad1cd71fff2d35569f6d124bfda89ebf00c449a5e7a9"), looks := true }, kinds := [], alts := [], laidByText := true, laidKinds := [.handle], laidTests := true, laidLooks := .later }
def StatsTellsUptoCardSaid : Prop := Claim7.holds Tryd.pinned (.plain (OpenSpec.upto statsTellsSpec)) statsTellsUptoCard

/-- THE SECOND FORM's CARD OF 'kinlaw17.StatsWeighs'. -/
def statsWeighsUptoCard : Claim7 := { stood := { row := statsWeighsUptoRow, standIns := [], harness := (true, "d1b0683e1055e33b313fad1cd71fff2d35569f6d124bfda89ebf00c449a5e7a9"), looks := true }, kinds := [], alts := [], laidByText := true, laidKinds := [.handle], laidTests := true, laidLooks := .later }
def StatsWeighsUptoCardSaid : Prop := Claim7.holds Tryd.pinned (.plain (OpenSpec.upto statsWeighsSpec)) statsWeighsUptoCard

/-- THE SECOND FORM's CARD OF 'kinlaw17.StatsLeast'. -/
def statsLeastUptoCard : Claim7 := { stood := { row := statsLeastUptoRow, standIns := [], harness := (true, "d1b0683e1055e33b313fad1cd71fff2d35569f6d124bfda89ebf00c449a5e7a9"), looks := true }, kinds := [], alts := [], laidByText := true, laidKinds := [.handle], laidTests := true, laidLooks := .later }
def StatsLeastUptoCardSaid : Prop := Claim7.holds Tryd.pinned (.plain (OpenSpec.upto statsLeastSpec)) statsLeastUptoCard

/-- THE SECOND FORM's CARD OF 'kinlaw17.StatsApart'. -/
def statsApartUptoCard : Claim7 := { stood := { row := statsApartUptoRow, standIns := [], harness := (true, "d1b0683e1055e33b313fad1cd71fff2d35569f6d124bfda89ebf00c449a5e7a9"), looks := true }, kinds := [], alts := [], laidByText := true, laidKinds := [.handle], laidTests := true, laidLooks := .later }
def StatsApartUptoCardSaid : Prop := Claim7.holds Tryd.pinned (.plain (OpenSpec.upto statsApartSpec)) statsApartUptoCard

/-- THE SECOND FORM's CARD OF 'kinlaw17.StatsFlat'. -/
def statsFlatUptoCard : Claim7 := { stood := { row := statsFlatUptoRow, standIns := [], harness := (true, "d1b0683e1055e33b313fad1cd71fff2d35569f6d124bfda89ebf00c449a5e7a9"), looks := true }, kinds := [], alts := [], laidByText := true, laidKinds := [.handle], laidTests := true, laidLooks := .later }
def StatsFlatUptoCardSaid : Prop := Claim7.holds Tryd.pinned (.plain (OpenSpec.upto statsFlatSpec)) statsFlatUptoCard
end Rows
end Go.Proofs.YtmhbmegmlpenkaaDoor
