/-
  DERIVED. GIVEN WITH THE SEED: THE CARDS: each row of YtaamnpbhmckpbaaDoorRows.lean that lists a variable, with what it lists TIED to the program's text (the seventh form; the later family's looks); each row that meets fmt, with fmt's text TOLD by the authors' own Lean function (tested against real Go, not proved from fmt's source: count such statements apart). THE CARD IS WHAT COUNTS. Prove the row's statement (the work); the ties are given (YtaamnpbhmckpbaaDoorTie.lean); close each card by the builder's one call (the guide's Derived/Test/ToyasCard.lean, 'card_holds'). Laid BY PROGRAM, IN A SANDBOX (cutbox-door.mjs). By AI agents, Wed Nov 11 2026. No macro, syntax, notation, axiom, sorry.
-/
import Derived.Test.YtaamnpbhmckpbaaDoorRows
import GoSem.ClaimSeven
namespace Go.Proofs.YtaamnpbhmckpbaaDoor
namespace Rows

/-- THE TIED CARD OF 'kinlaw2.BitsWrites'. -/
def bitsWritesCard : Claim7 := { stood := { row := bitsWritesRow, standIns := [], harness := (true, "e23ac7bb70279090bf4c30bca44658f014f5c9c86d3cdb46eb130960d52c6b6e"), looks := true }, kinds := [], alts := [], laidByText := true, laidKinds := [.handle], laidTests := true, laidLooks := .later }
def BitsWritesCardSaid : Prop := Claim7.holds Tryd.pinned (.plain (OpenSpec.ofChange bitsWritesSpec)) bitsWritesCard

/-- THE TIED CARD OF 'kinlaw2.BitsReads'. -/
def bitsReadsCard : Claim7 := { stood := { row := bitsReadsRow, standIns := [], harness := (true, "e23ac7bb70279090bf4c30bca44658f014f5c9c86d3cdb46eb130960d52c6b6e"), looks := true }, kinds := [], alts := [], laidByText := true, laidKinds := [.handle], laidTests := true, laidLooks := .later }
def BitsReadsCardSaid : Prop := Claim7.holds Tryd.pinned (.plain (OpenSpec.ofChange bitsReadsSpec)) bitsReadsCard

/-- THE TIED CARD OF 'kinlaw2.BitsBack'. -/
def bitsBackCard : Claim7 := { stood := { row := bitsBackRow, standIns := [], harness := (true, "e23ac7bb70279090bf4c30bca44658f014f5c9c86d3cdb46eb130960d52c6b6e"), looks := true }, kinds := [], alts := [], laidByText := true, laidKinds := [.handle], laidTests := true, laidLooks := .later }
def BitsBackCardSaid : Prop := Claim7.holds Tryd.pinned (.plain (OpenSpec.ofChange bitsBackSpec)) bitsBackCard

/-- THE TIED CARD OF 'kinlaw2.BitsTwo'. -/
def bitsTwoCard : Claim7 := { stood := { row := bitsTwoRow, standIns := [], harness := (true, "e23ac7bb70279090bf4c30bca44658f014f5c9c86d3cdb46eb130960d52c6b6e"), looks := true }, kinds := [], alts := [], laidByText := true, laidKinds := [.handle], laidTests := true, laidLooks := .later }
def BitsTwoCardSaid : Prop := Claim7.holds Tryd.pinned (.plain (OpenSpec.ofChange bitsTwoSpec)) bitsTwoCard

/-- THE TIED CARD OF 'kinlaw2.BitsStops'. -/
def bitsStopsCard : Claim7 := { stood := { row := bitsStopsRow, standIns := [], harness := (true, "e23ac7bb70279090bf4c30bca44658f014f5c9c86d3cdb46eb130960d52c6b6e"), looks := true }, kinds := [], alts := [], laidByText := true, laidKinds := [.handle], laidTests := true, laidLooks := .later }
def BitsStopsCardSaid : Prop := Claim7.holds Tryd.pinned (.plain (OpenSpec.ofChange bitsStopsSpec)) bitsStopsCard

/-- THE TIED CARD OF 'kinlaw2.BitsAligns'. -/
def bitsAlignsCard : Claim7 := { stood := { row := bitsAlignsRow, standIns := [], harness := (true, "e23ac7bb70279090bf4c30bca44658f014f5c9c86d3cdb46eb130960d52c6b6e"), looks := true }, kinds := [], alts := [], laidByText := true, laidKinds := [.handle], laidTests := true, laidLooks := .later }
def BitsAlignsCardSaid : Prop := Claim7.holds Tryd.pinned (.plain (OpenSpec.ofChange bitsAlignsSpec)) bitsAlignsCard

/-- THE TIED CARD OF 'kinlaw11.MotionHalves'. -/
def motionHalvesCard : Claim7 := { stood := { row := motionHalvesRow, standIns := [], harness := (true, "e23ac7bb70279090bf4c30bca44658f014f5c9c86d3cdb46eb130960d52c6b6e"), looks := true }, kinds := [], alts := [], laidByText := true, laidKinds := [.handle], laidTests := true, laidLooks := .later }
def MotionHalvesCardSaid : Prop := Claim7.holds Tryd.pinned (.plain (OpenSpec.ofChange motionHalvesSpec)) motionHalvesCard

/-- THE TIED CARD OF 'kinlaw11.MotionCosts'. -/
def motionCostsCard : Claim7 := { stood := { row := motionCostsRow, standIns := [], harness := (true, "e23ac7bb70279090bf4c30bca44658f014f5c9c86d3cdb46eb130960d52c6b6e"), looks := true }, kinds := [], alts := [], laidByText := true, laidKinds := [.handle], laidTests := true, laidLooks := .later }
def MotionCostsCardSaid : Prop := Claim7.holds Tryd.pinned (.plain (OpenSpec.ofChange motionCostsSpec)) motionCostsCard

/-- THE TIED CARD OF 'kinlaw11.MotionSearches'. -/
def motionSearchesCard : Claim7 := { stood := { row := motionSearchesRow, standIns := [], harness := (true, "e23ac7bb70279090bf4c30bca44658f014f5c9c86d3cdb46eb130960d52c6b6e"), looks := true }, kinds := [], alts := [], laidByText := true, laidKinds := [.handle], laidTests := true, laidLooks := .later }
def MotionSearchesCardSaid : Prop := Claim7.holds Tryd.pinned (.plain (OpenSpec.ofChange motionSearchesSpec)) motionSearchesCard

/-- THE TIED CARD OF 'kinlaw11.MotionSamples'. -/
def motionSamplesCard : Claim7 := { stood := { row := motionSamplesRow, standIns := [], harness := (true, "e23ac7bb70279090bf4c30bca44658f014f5c9c86d3cdb46eb130960d52c6b6e"), looks := true }, kinds := [], alts := [], laidByText := true, laidKinds := [.handle], laidTests := true, laidLooks := .later }
def MotionSamplesCardSaid : Prop := Claim7.holds Tryd.pinned (.plain (OpenSpec.ofChange motionSamplesSpec)) motionSamplesCard

/-- THE TIED CARD OF 'kinlaw11.MotionBest'. -/
def motionBestCard : Claim7 := { stood := { row := motionBestRow, standIns := [], harness := (true, "e23ac7bb70279090bf4c30bca44658f014f5c9c86d3cdb46eb130960d52c6b6e"), looks := true }, kinds := [], alts := [], laidByText := true, laidKinds := [.handle], laidTests := true, laidLooks := .later }
def MotionBestCardSaid : Prop := Claim7.holds Tryd.pinned (.plain (OpenSpec.ofChange motionBestSpec)) motionBestCard

/-- THE TIED CARD OF 'kinlaw11.MotionWhole'. -/
def motionWholeCard : Claim7 := { stood := { row := motionWholeRow, standIns := [], harness := (true, "e23ac7bb70279090bf4c30bca44658f014f5c9c86d3cdb46eb130960d52c6b6e"), looks := true }, kinds := [], alts := [], laidByText := true, laidKinds := [.handle], laidTests := true, laidLooks := .later }
def MotionWholeCardSaid : Prop := Claim7.holds Tryd.pinned (.plain (OpenSpec.ofChange motionWholeSpec)) motionWholeCard

/-- THE SECOND FORM's CARD OF 'kinlaw2.BitsWrites'. -/
def bitsWritesUptoCard : Claim7 := { stood := { row := bitsWritesUptoRow, standIns := [], harness := (true, "e23ac7bb70279090bf4c30bca44658f014f5c9c86d3cdb46eb130960d52c6b6e"), looks := true }, kinds := [], alts := [], laidByText := true, laidKinds := [.handle], laidTests := true, laidLooks := .later }
def BitsWritesUptoCardSaid : Prop := Claim7.holds Tryd.pinned (.plain (OpenSpec.upto bitsWritesSpec)) bitsWritesUptoCard

/-- THE SECOND FORM's CARD OF 'kinlaw2.BitsReads'. -/
def bitsReadsUptoCard : Claim7 := { stood := { row := bitsReadsUptoRow, standIns := [], harness := (true, "e23ac7bb70279090bf4c30bca44658f014f5c9c86d3cdb46eb130960d52c6b6e"), looks := true }, kinds := [], alts := [], laidByText := true, laidKinds := [.handle], laidTests := true, laidLooks := .later }
def BitsReadsUptoCardSaid : Prop := Claim7.holds Tryd.pinned (.plain (OpenSpec.upto bitsReadsSpec)) bitsReadsUptoCard

/-- THE SECOND FORM's CARD OF 'kinlaw2.BitsBack'. -/
def bitsBackUptoCard : Claim7 := { stood := { row := bitsBackUptoRow, standIns := [], harness := (true, "e23ac7bb70279090bf4c30bca44658f014f5c9c86d3cdb46eb130960d52c6b6e"), looks := true }, kinds := [], alts := [], laidByText := true, laidKinds := [.handle], laidTests := true, laidLooks := .later }
def BitsBackUptoCardSaid : Prop := Claim7.holds Tryd.pinned (.plain (OpenSpec.upto bitsBackSpec)) bitsBackUptoCard

/-- THE SECOND FORM's CARD OF 'kinlaw2.BitsTwo'. -/
def bitsTwoUptoCard : Claim7 := { stood := { row := bitsTwoUptoRow, standIns := [], harness := (true, "e23ac7bb70279090bf4c30bca44658f014f5c9c86d3cdb46eb130960d52c6b6e"), looks := true }, kinds := [], alts := [], laidByText := true, laidKinds := [.handle], laidTests := true, laidLooks := .later }
def BitsTwoUptoCardSaid : Prop := Claim7.holds Tryd.pinned (.plain (OpenSpec.upto bitsTwoSpec)) bitsTwoUptoCard

/-- THE SECOND FORM's CARD OF 'kinlaw2.BitsStops'. -/
def bitsStopsUptoCard : Claim7 := { stood := { row := bitsStopsUptoRow, standIns := [], harness := (true, "e23ac7bb70279090bf4c30bca44658f014f5c9c86d3cdb46eb130960d52c6b6e"), looks := true }, kinds := [], alts := [], laidByText := true, laidKinds := [.handle], laidTests := true, laidLooks := .later }
def BitsStopsUptoCardSaid : Prop := Claim7.holds Tryd.pinned (.plain (OpenSpec.upto bitsStopsSpec)) bitsStopsUptoCard

/-- THE SECOND FORM's CARD OF 'kinlaw2.BitsAligns'. -/
def bitsAlignsUptoCard : Claim7 := { stood := { row := bitsAlignsUptoRow, standIns := [], harness := (true, "e23ac7bb70279090bf4c30bca44658f014f5c9c86d3cdb46eb130960d52c6b6e"), looks := true }, kinds := [], alts := [], laidByText := true, laidKinds := [.handle], laidTests := true, laidLooks := .later }
def BitsAlignsUptoCardSaid : Prop := Claim7.holds Tryd.pinned (.plain (OpenSpec.upto bitsAlignsSpec)) bitsAlignsUptoCard

/-- THE SECOND FORM's CARD OF 'kinlaw11.MotionHalves'. -/
def motionHalvesUptoCard : Claim7 := { stood := { row := motionHalvesUptoRow, standIns := [], harness := (true, "e23ac7bb70279090bf4c30bca44658f014f5c9c86d3cdb46eb130960d52c6b6e"), looks := true }, kinds := [], alts := [], laidByText := true, laidKinds := [.handle], laidTests := true, laidLooks := .later }
def MotionHalvesUptoCardSaid : Prop := Claim7.holds Tryd.pinned (.plain (OpenSpec.upto motionHalvesSpec)) motionHalvesUptoCard

/-- THE SECOND FORM's CARD OF 'kinlaw11.MotionCosts'. -/
def motionCostsUptoCard : Claim7 := { stood := { row := motionCostsUptoRow, standIns := [], harness := (true, "e23ac7bb70279090bf4c30bca44658f014f5c9c86d3cdb46eb130960d52c6b6e"), looks := true }, kinds := [], alts := [], laidByText := true, laidKinds := [.handle], laidTests := true, laidLooks := .later }
def MotionCostsUptoCardSaid : Prop := Claim7.holds Tryd.pinned (.plain (OpenSpec.upto motionCostsSpec)) motionCostsUptoCard

/-- THE SECOND FORM's CARD OF 'kinlaw11.MotionSearches'. -/
def motionSearchesUptoCard : Claim7 := { stood := { row := motionSearchesUptoRow, standIns := [], harness := (true, "e23ac7bb70279090bf4c30bca44658f014f5c9c86d3cdb46eb130960d52c6b6e"), looks := true }, kinds := [], alts := [], laidByText := true, laidKinds := [.handle], laidTests := true, laidLooks := .later }
def MotionSearchesUptoCardSaid : Prop := Claim7.holds Tryd.pinned (.plain (OpenSpec.upto motionSearchesSpec)) motionSearchesUptoCard

/-- THE SECOND FORM's CARD OF 'kinlaw11.MotionSamples'. -/
def motionSamplesUptoCard : Claim7 := { stood := { row := motionSamplesUptoRow, standIns := [], harness := (true, "e23ac7bb70279090bf4c30bca44658f014f5c9c86d3cdb46eb130960d52c6b6e"), looks := true }, kinds := [], alts := [], laidByText := true, laidKinds := [.handle], laidTests := true, laidLooks := .later }
def MotionSamplesUptoCardSaid : Prop := Claim7.holds Tryd.pinned (.plain (OpenSpec.upto motionSamplesSpec)) motionSamplesUptoCard

/-- THE SECOND FORM's CARD OF 'kinlaw11.MotionBest'. -/
def motionBestUptoCard : Claim7 := { stood := { row := motionBestUptoRow, standIns := [], harness := (true, "e23ac7bb70279090bf4c30bca44658f014f5c9c86d3cdb46eb130960d52c6b6e"), looks := true }, kinds := [], alts := [], laidByText := true, laidKinds := [.handle], laidTests := true, laidLooks := .later }
def MotionBestUptoCardSaid : Prop := Claim7.holds Tryd.pinned (.plain (OpenSpec.upto motionBestSpec)) motionBestUptoCard

/-- THE SECOND FORM's CARD OF 'kinlaw11.MotionWhole'. -/
def motionWholeUptoCard : Claim7 := { stood := { row := motionWholeUptoRow, standIns := [], harness := (true, "e23ac7bb70279090bf4c30bca44658f014f5c9c86d3cdb46eb130960d52c6b6e"), looks := true }, kinds := [], alts := [], laidByText := true, laidKinds := [.handle], laidTests := true, laidLooks := .later }
def MotionWholeUptoCardSaid : Prop := Claim7.holds Tryd.pinned (.plain (OpenSpec.upto motionWholeSpec)) motionWholeUptoCard
end Rows
end Go.Proofs.YtaamnpbhmckpbaaDoor
