/-
  DERIVED. GIVEN WITH THE SEED: THE CARDS: each row of YtkealkjijfbdoaaDoorRows.lean that lists a variable, with what it lists TIED to the program's text (the seventh form; the later family's looks); each row that meets fmt, with fmt's text TOLD by the authors' own Lean function (tested against real Go, not proved from fmt's source: count such statements apart). THE CARD IS WHAT COUNTS. Prove the row's statement (the work); the ties are given (YtkealkjijfbdoaaDoorTie.lean); close each card by the builder's one call (the guide's Derived/Test/ToyasCard.lean, 'card_holds'). Laid BY PROGRAM, IN A SANDBOX (cutbox-door.mjs). By AI agents, Wed Nov 11 2026. No macro, syntax, notation, axiom, sorry.
-/
import Derived.Test.YtkealkjijfbdoaaDoorRows
import GoSem.ClaimSeven
namespace Go.Proofs.YtkealkjijfbdoaaDoor
namespace Rows

/-- THE TIED CARD OF 'kinlaw6.PlaneMakes'. -/
def planeMakesCard : Claim7 := { stood := { row := planeMakesRow, standIns := [], harness := (true, "4aab436fcad1862ac7a2a99ef23b4138839256118c40d7d03bcf7a75d9a19df0"), looks := true }, kinds := [], alts := [], laidByText := true, laidKinds := [.handle], laidTests := true, laidLooks := .later }
def PlaneMakesCardSaid : Prop := Claim7.holds Tryd.pinned (.plain (OpenSpec.ofChange planeMakesSpec)) planeMakesCard

/-- THE TIED CARD OF 'kinlaw6.PlaneAsks'. -/
def planeAsksCard : Claim7 := { stood := { row := planeAsksRow, standIns := [], harness := (true, "4aab436fcad1862ac7a2a99ef23b4138839256118c40d7d03bcf7a75d9a19df0"), looks := true }, kinds := [], alts := [], laidByText := true, laidKinds := [.handle], laidTests := true, laidLooks := .later }
def PlaneAsksCardSaid : Prop := Claim7.holds Tryd.pinned (.plain (OpenSpec.ofChange planeAsksSpec)) planeAsksCard

/-- THE TIED CARD OF 'kinlaw6.PlanePuts'. -/
def planePutsCard : Claim7 := { stood := { row := planePutsRow, standIns := [], harness := (true, "4aab436fcad1862ac7a2a99ef23b4138839256118c40d7d03bcf7a75d9a19df0"), looks := true }, kinds := [], alts := [], laidByText := true, laidKinds := [.handle], laidTests := true, laidLooks := .later }
def PlanePutsCardSaid : Prop := Claim7.holds Tryd.pinned (.plain (OpenSpec.ofChange planePutsSpec)) planePutsCard

/-- THE TIED CARD OF 'kinlaw6.PlaneBack'. -/
def planeBackCard : Claim7 := { stood := { row := planeBackRow, standIns := [], harness := (true, "4aab436fcad1862ac7a2a99ef23b4138839256118c40d7d03bcf7a75d9a19df0"), looks := true }, kinds := [], alts := [], laidByText := true, laidKinds := [.handle], laidTests := true, laidLooks := .later }
def PlaneBackCardSaid : Prop := Claim7.holds Tryd.pinned (.plain (OpenSpec.ofChange planeBackSpec)) planeBackCard

/-- THE TIED CARD OF 'kinlaw6.PlanePeaks'. -/
def planePeaksCard : Claim7 := { stood := { row := planePeaksRow, standIns := [], harness := (true, "4aab436fcad1862ac7a2a99ef23b4138839256118c40d7d03bcf7a75d9a19df0"), looks := true }, kinds := [], alts := [], laidByText := true, laidKinds := [.handle], laidTests := true, laidLooks := .later }
def PlanePeaksCardSaid : Prop := Claim7.holds Tryd.pinned (.plain (OpenSpec.ofChange planePeaksSpec)) planePeaksCard

/-- THE TIED CARD OF 'kinlaw6.PlaneTwo'. -/
def planeTwoCard : Claim7 := { stood := { row := planeTwoRow, standIns := [], harness := (true, "4aab436fcad1862ac7a2a99ef23b4138839256118c40d7d03bcf7a75d9a19df0"), looks := true }, kinds := [], alts := [], laidByText := true, laidKinds := [.handle], laidTests := true, laidLooks := .later }
def PlaneTwoCardSaid : Prop := Claim7.holds Tryd.pinned (.plain (OpenSpec.ofChange planeTwoSpec)) planeTwoCard

/-- THE TIED CARD OF 'kinlaw7.BlockTwo'. -/
def blockTwoCard : Claim7 := { stood := { row := blockTwoRow, standIns := [], harness := (true, "4aab436fcad1862ac7a2a99ef23b4138839256118c40d7d03bcf7a75d9a19df0"), looks := true }, kinds := [], alts := [], laidByText := true, laidKinds := [.handle], laidTests := true, laidLooks := .later }
def BlockTwoCardSaid : Prop := Claim7.holds Tryd.pinned (.plain (OpenSpec.ofChange blockTwoSpec)) blockTwoCard

/-- THE TIED CARD OF 'kinlaw7.BlockParts'. -/
def blockPartsCard : Claim7 := { stood := { row := blockPartsRow, standIns := [], harness := (true, "4aab436fcad1862ac7a2a99ef23b4138839256118c40d7d03bcf7a75d9a19df0"), looks := true }, kinds := [], alts := [], laidByText := true, laidKinds := [.handle], laidTests := true, laidLooks := .later }
def BlockPartsCardSaid : Prop := Claim7.holds Tryd.pinned (.plain (OpenSpec.ofChange blockPartsSpec)) blockPartsCard

/-- THE TIED CARD OF 'kinlaw7.BlockOrders'. -/
def blockOrdersCard : Claim7 := { stood := { row := blockOrdersRow, standIns := [], harness := (true, "4aab436fcad1862ac7a2a99ef23b4138839256118c40d7d03bcf7a75d9a19df0"), looks := true }, kinds := [], alts := [], laidByText := true, laidKinds := [.handle], laidTests := true, laidLooks := .later }
def BlockOrdersCardSaid : Prop := Claim7.holds Tryd.pinned (.plain (OpenSpec.ofChange blockOrdersSpec)) blockOrdersCard

/-- THE TIED CARD OF 'kinlaw7.BlockBack'. -/
def blockBackCard : Claim7 := { stood := { row := blockBackRow, standIns := [], harness := (true, "4aab436fcad1862ac7a2a99ef23b4138839256118c40d7d03bcf7a75d9a19df0"), looks := true }, kinds := [], alts := [], laidByText := true, laidKinds := [.handle], laidTests := true, laidLooks := .later }
def BlockBackCardSaid : Prop := Claim7.holds Tryd.pinned (.plain (OpenSpec.ofChange blockBackSpec)) blockBackCard

/-- THE TIED CARD OF 'kinlaw7.BlockSads'. -/
def blockSadsCard : Claim7 := { stood := { row := blockSadsRow, standIns := [], harness := (true, "4aab436fcad1862ac7a2a99ef23b4138839256118c40d7d03bcf7a75d9a19df0"), looks := true }, kinds := [], alts := [], laidByText := true, laidKinds := [.handle], laidTests := true, laidLooks := .later }
def BlockSadsCardSaid : Prop := Claim7.holds Tryd.pinned (.plain (OpenSpec.ofChange blockSadsSpec)) blockSadsCard

/-- THE TIED CARD OF 'kinlaw7.BlockQuarters'. -/
def blockQuartersCard : Claim7 := { stood := { row := blockQuartersRow, standIns := [], harness := (true, "4aab436fcad1862ac7a2a99ef23b4138839256118c40d7d03bcf7a75d9a19df0"), looks := true }, kinds := [], alts := [], laidByText := true, laidKinds := [.handle], laidTests := true, laidLooks := .later }
def BlockQuartersCardSaid : Prop := Claim7.holds Tryd.pinned (.plain (OpenSpec.ofChange blockQuartersSpec)) blockQuartersCard

/-- THE SECOND FORM's CARD OF 'kinlaw6.PlaneMakes'. -/
def planeMakesUptoCard : Claim7 := { stood := { row := planeMakesUptoRow, standIns := [], harness := (true, "4aab436fcad1862ac7a2a99ef23b4138839256118c40d7d03bcf7a75d9a19df0"), looks := true }, kinds := [], alts := [], laidByText := true, laidKinds := [.handle], laidTests := true, laidLooks := .later }
def PlaneMakesUptoCardSaid : Prop := Claim7.holds Tryd.pinned (.plain (OpenSpec.upto planeMakesSpec)) planeMakesUptoCard

/-- THE SECOND FORM's CARD OF 'kinlaw6.PlaneAsks'. -/
def planeAsksUptoCard : Claim7 := { stood := { row := planeAsksUptoRow, standIns := [], harness := (true, "4aab436fcad1862ac7a2a99ef23b4138839256118c40d7d03bcf7a75d9a19df0"), looks := true }, kinds := [], alts := [], laidByText := true, laidKinds := [.handle], laidTests := true, laidLooks := .later }
def PlaneAsksUptoCardSaid : Prop := Claim7.holds Tryd.pinned (.plain (OpenSpec.upto planeAsksSpec)) planeAsksUptoCard

/-- THE SECOND FORM's CARD OF 'kinlaw6.PlanePuts'. -/
def planePutsUptoCard : Claim7 := { stood := { row := planePutsUptoRow, standIns := [], harness := (true, "4aab436fcad1862ac7a2a99ef23b4138839256118c40d7d03bcf7a75d9a19df0"), looks := true }, kinds := [], alts := [], laidByText := true, laidKinds := [.handle], laidTests := true, laidLooks := .later }
def PlanePutsUptoCardSaid : Prop := Claim7.holds Tryd.pinned (.plain (OpenSpec.upto planePutsSpec)) planePutsUptoCard

/-- THE SECOND FORM's CARD OF 'kinlaw6.PlaneBack'. -/
def planeBackUptoCard : Claim7 := { stood := { row := planeBackUptoRow, standIns := [], harness := (true, "4aab436fcad1862ac7a2a99ef23b4138839256118c40d7d03bcf7a75d9a19df0"), looks := true }, kinds := [], alts := [], laidByText := true, laidKinds := [.handle], laidTests := true, laidLooks := .later }
def PlaneBackUptoCardSaid : Prop := Claim7.holds Tryd.pinned (.plain (OpenSpec.upto planeBackSpec)) planeBackUptoCard

/-- THE SECOND FORM's CARD OF 'kinlaw6.PlanePeaks'. -/
def planePeaksUptoCard : Claim7 := { stood := { row := planePeaksUptoRow, standIns := [], harness := (true, "4aab436fcad1862ac7a2a99ef23b4138839256118c40d7d03bcf7a75d9a19df0"), looks := true }, kinds := [], alts := [], laidByText := true, laidKinds := [.handle], laidTests := true, laidLooks := .later }
def PlanePeaksUptoCardSaid : Prop := Claim7.holds Tryd.pinned (.plain (OpenSpec.upto planePeaksSpec)) planePeaksUptoCard

/-- THE SECOND FORM's CARD OF 'kinlaw6.PlaneTwo'. -/
def planeTwoUptoCard : Claim7 := { stood := { row := planeTwoUptoRow, standIns := [], harness := (true, "4aab436fcad1862ac7a2a99ef23b4138839256118c40d7d03bcf7a75d9a19df0"), looks := true }, kinds := [], alts := [], laidByText := true, laidKinds := [.handle], laidTests := true, laidLooks := .later }
def PlaneTwoUptoCardSaid : Prop := Claim7.holds Tryd.pinned (.plain (OpenSpec.upto planeTwoSpec)) planeTwoUptoCard

/-- THE SECOND FORM's CARD OF 'kinlaw7.BlockTwo'. -/
def blockTwoUptoCard : Claim7 := { stood := { row := blockTwoUptoRow, standIns := [], harness := (true, "4aab436fcad1862ac7a2a99ef23b4138839256118c40d7d03bcf7a75d9a19df0"), looks := true }, kinds := [], alts := [], laidByText := true, laidKinds := [.handle], laidTests := true, laidLooks := .later }
def BlockTwoUptoCardSaid : Prop := Claim7.holds Tryd.pinned (.plain (OpenSpec.upto blockTwoSpec)) blockTwoUptoCard

/-- THE SECOND FORM's CARD OF 'kinlaw7.BlockParts'. -/
def blockPartsUptoCard : Claim7 := { stood := { row := blockPartsUptoRow, standIns := [], harness := (true, "4aab436fcad1862ac7a2a99ef23b4138839256118c40d7d03bcf7a75d9a19df0"), looks := true }, kinds := [], alts := [], laidByText := true, laidKinds := [.handle], laidTests := true, laidLooks := .later }
def BlockPartsUptoCardSaid : Prop := Claim7.holds Tryd.pinned (.plain (OpenSpec.upto blockPartsSpec)) blockPartsUptoCard

/-- THE SECOND FORM's CARD OF 'kinlaw7.BlockOrders'. -/
def blockOrdersUptoCard : Claim7 := { stood := { row := blockOrdersUptoRow, standIns := [], harness := (true, "4aab436fcad1862ac7a2a99ef23b4138839256118c40d7d03bcf7a75d9a19df0"), looks := true }, kinds := [], alts := [], laidByText := true, laidKinds := [.handle], laidTests := true, laidLooks := .later }
def BlockOrdersUptoCardSaid : Prop := Claim7.holds Tryd.pinned (.plain (OpenSpec.upto blockOrdersSpec)) blockOrdersUptoCard

/-- THE SECOND FORM's CARD OF 'kinlaw7.BlockBack'. -/
def blockBackUptoCard : Claim7 := { stood := { row := blockBackUptoRow, standIns := [], harness := (true, "4aab436fcad1862ac7a2a99ef23b4138839256118c40d7d03bcf7a75d9a19df0"), looks := true }, kinds := [], alts := [], laidByText := true, laidKinds := [.handle], laidTests := true, laidLooks := .later }
def BlockBackUptoCardSaid : Prop := Claim7.holds Tryd.pinned (.plain (OpenSpec.upto blockBackSpec)) blockBackUptoCard

/-- THE SECOND FORM's CARD OF 'kinlaw7.BlockSads'. -/
def blockSadsUptoCard : Claim7 := { stood := { row := blockSadsUptoRow, standIns := [], harness := (true, "4aab436fcad1862ac7a2a99ef23b4138839256118c40d7d03bcf7a75d9a19df0"), looks := true }, kinds := [], alts := [], laidByText := true, laidKinds := [.handle], laidTests := true, laidLooks := .later }
def BlockSadsUptoCardSaid : Prop := Claim7.holds Tryd.pinned (.plain (OpenSpec.upto blockSadsSpec)) blockSadsUptoCard

/-- THE SECOND FORM's CARD OF 'kinlaw7.BlockQuarters'. -/
def blockQuartersUptoCard : Claim7 := { stood := { row := blockQuartersUptoRow, standIns := [], harness := (true, "4aab436fcad1862ac7a2a99ef23b4138839256118c40d7d03bcf7a75d9a19df0"), looks := true }, kinds := [], alts := [], laidByText := true, laidKinds := [.handle], laidTests := true, laidLooks := .later }
def BlockQuartersUptoCardSaid : Prop := Claim7.holds Tryd.pinned (.plain (OpenSpec.upto blockQuartersSpec)) blockQuartersUptoCard
end Rows
end Go.Proofs.YtkealkjijfbdoaaDoor
