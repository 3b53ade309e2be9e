/-
  DERIVED. GIVEN WITH THE SEED: THE CARDS: each row of YtbijicloalfmnaaDoorRows.lean that lists a variable, with what it lists TIED to the program's text (the seventh form; the later family's looks); each row that meets fmt, with fmt's text TOLD by the authors' own Lean function (tested against real Go, not proved from fmt's source: count such statements apart). THE CARD IS WHAT COUNTS. Prove the row's statement (the work); the ties are given (YtbijicloalfmnaaDoorTie.lean); close each card by the builder's one call (the guide's Derived/Test/ToyasCard.lean, 'card_holds'). Laid BY PROGRAM, IN A SANDBOX (cutbox-door.mjs). By AI agents, Wed Nov 11 2026. No macro, syntax, notation, axiom, sorry.
-/
import Derived.Test.YtbijicloalfmnaaDoorRows
import GoSem.ClaimSeven
namespace Go.Proofs.YtbijicloalfmnaaDoor
namespace Rows

/-- THE TIED CARD OF 'kinlaw9.QuantOne'. -/
def quantOneCard : Claim7 := { stood := { row := quantOneRow, standIns := [], harness := (true, "c587d7ff9ac571d6aede6475c79611a556dcf008be88e5141e7ed1d5a565ffee"), looks := true }, kinds := [], alts := [], laidByText := true, laidKinds := [.handle], laidTests := true, laidLooks := .later }
def QuantOneCardSaid : Prop := Claim7.holds Tryd.pinned (.plain (OpenSpec.ofChange quantOneSpec)) quantOneCard

/-- THE TIED CARD OF 'kinlaw9.QuantLists'. -/
def quantListsCard : Claim7 := { stood := { row := quantListsRow, standIns := [], harness := (true, "c587d7ff9ac571d6aede6475c79611a556dcf008be88e5141e7ed1d5a565ffee"), looks := true }, kinds := [], alts := [], laidByText := true, laidKinds := [.handle], laidTests := true, laidLooks := .later }
def QuantListsCardSaid : Prop := Claim7.holds Tryd.pinned (.plain (OpenSpec.ofChange quantListsSpec)) quantListsCard

/-- THE TIED CARD OF 'kinlaw9.QuantBound'. -/
def quantBoundCard : Claim7 := { stood := { row := quantBoundRow, standIns := [], harness := (true, "c587d7ff9ac571d6aede6475c79611a556dcf008be88e5141e7ed1d5a565ffee"), looks := true }, kinds := [], alts := [], laidByText := true, laidKinds := [.handle], laidTests := true, laidLooks := .later }
def QuantBoundCardSaid : Prop := Claim7.holds Tryd.pinned (.plain (OpenSpec.ofChange quantBoundSpec)) quantBoundCard

/-- THE TIED CARD OF 'kinlaw9.QuantPeak'. -/
def quantPeakCard : Claim7 := { stood := { row := quantPeakRow, standIns := [], harness := (true, "c587d7ff9ac571d6aede6475c79611a556dcf008be88e5141e7ed1d5a565ffee"), looks := true }, kinds := [], alts := [], laidByText := true, laidKinds := [.handle], laidTests := true, laidLooks := .later }
def QuantPeakCardSaid : Prop := Claim7.holds Tryd.pinned (.plain (OpenSpec.ofChange quantPeakSpec)) quantPeakCard

/-- THE TIED CARD OF 'kinlaw9.QuantRises'. -/
def quantRisesCard : Claim7 := { stood := { row := quantRisesRow, standIns := [], harness := (true, "c587d7ff9ac571d6aede6475c79611a556dcf008be88e5141e7ed1d5a565ffee"), looks := true }, kinds := [], alts := [], laidByText := true, laidKinds := [.handle], laidTests := true, laidLooks := .later }
def QuantRisesCardSaid : Prop := Claim7.holds Tryd.pinned (.plain (OpenSpec.ofChange quantRisesSpec)) quantRisesCard

/-- THE TIED CARD OF 'kinlaw9.QuantFixed'. -/
def quantFixedCard : Claim7 := { stood := { row := quantFixedRow, standIns := [], harness := (true, "c587d7ff9ac571d6aede6475c79611a556dcf008be88e5141e7ed1d5a565ffee"), looks := true }, kinds := [], alts := [], laidByText := true, laidKinds := [.handle], laidTests := true, laidLooks := .later }
def QuantFixedCardSaid : Prop := Claim7.holds Tryd.pinned (.plain (OpenSpec.ofChange quantFixedSpec)) quantFixedCard

/-- THE TIED CARD OF 'kinlaw19.AllocCaps'. -/
def allocCapsCard : Claim7 := { stood := { row := allocCapsRow, standIns := [], harness := (true, "c587d7ff9ac571d6aede6475c79611a556dcf008be88e5141e7ed1d5a565ffee"), looks := true }, kinds := [], alts := [], laidByText := true, laidKinds := [.handle], laidTests := true, laidLooks := .later }
def AllocCapsCardSaid : Prop := Claim7.holds Tryd.pinned (.plain (OpenSpec.ofChange allocCapsSpec)) allocCapsCard

/-- THE TIED CARD OF 'kinlaw19.AllocFits'. -/
def allocFitsCard : Claim7 := { stood := { row := allocFitsRow, standIns := [], harness := (true, "c587d7ff9ac571d6aede6475c79611a556dcf008be88e5141e7ed1d5a565ffee"), looks := true }, kinds := [], alts := [], laidByText := true, laidKinds := [.handle], laidTests := true, laidLooks := .later }
def AllocFitsCardSaid : Prop := Claim7.holds Tryd.pinned (.plain (OpenSpec.ofChange allocFitsSpec)) allocFitsCard

/-- THE TIED CARD OF 'kinlaw19.AllocSums'. -/
def allocSumsCard : Claim7 := { stood := { row := allocSumsRow, standIns := [], harness := (true, "c587d7ff9ac571d6aede6475c79611a556dcf008be88e5141e7ed1d5a565ffee"), looks := true }, kinds := [], alts := [], laidByText := true, laidKinds := [.handle], laidTests := true, laidLooks := .later }
def AllocSumsCardSaid : Prop := Claim7.holds Tryd.pinned (.plain (OpenSpec.ofChange allocSumsSpec)) allocSumsCard

/-- THE TIED CARD OF 'kinlaw19.AllocBounds'. -/
def allocBoundsCard : Claim7 := { stood := { row := allocBoundsRow, standIns := [], harness := (true, "c587d7ff9ac571d6aede6475c79611a556dcf008be88e5141e7ed1d5a565ffee"), looks := true }, kinds := [], alts := [], laidByText := true, laidKinds := [.handle], laidTests := true, laidLooks := .later }
def AllocBoundsCardSaid : Prop := Claim7.holds Tryd.pinned (.plain (OpenSpec.ofChange allocBoundsSpec)) allocBoundsCard

/-- THE SECOND FORM's CARD OF 'kinlaw9.QuantOne'. -/
def quantOneUptoCard : Claim7 := { stood := { row := quantOneUptoRow, standIns := [], harness := (true, "c587d7ff9ac571d6aede6475c79611a556dcf008be88e5141e7ed1d5a565ffee"), looks := true }, kinds := [], alts := [], laidByText := true, laidKinds := [.handle], laidTests := true, laidLooks := .later }
def QuantOneUptoCardSaid : Prop := Claim7.holds Tryd.pinned (.plain (OpenSpec.upto quantOneSpec)) quantOneUptoCard

/-- THE SECOND FORM's CARD OF 'kinlaw9.QuantLists'. -/
def quantListsUptoCard : Claim7 := { stood := { row := quantListsUptoRow, standIns := [], harness := (true, "c587d7ff9ac571d6aede6475c79611a556dcf008be88e5141e7ed1d5a565ffee"), looks := true }, kinds := [], alts := [], laidByText := true, laidKinds := [.handle], laidTests := true, laidLooks := .later }
def QuantListsUptoCardSaid : Prop := Claim7.holds Tryd.pinned (.plain (OpenSpec.upto quantListsSpec)) quantListsUptoCard

/-- THE SECOND FORM's CARD OF 'kinlaw9.QuantBound'. -/
def quantBoundUptoCard : Claim7 := { stood := { row := quantBoundUptoRow, standIns := [], harness := (true, "c587d7ff9ac571d6aede6475c79611a556dcf008be88e5141e7ed1d5a565ffee"), looks := true }, kinds := [], alts := [], laidByText := true, laidKinds := [.handle], laidTests := true, laidLooks := .later }
def QuantBoundUptoCardSaid : Prop := Claim7.holds Tryd.pinned (.plain (OpenSpec.upto quantBoundSpec)) quantBoundUptoCard

/-- THE SECOND FORM's CARD OF 'kinlaw9.QuantPeak'. -/
def quantPeakUptoCard : Claim7 := { stood := { row := quantPeakUptoRow, standIns := [], harness := (true, "c587d7ff9ac571d6aede6475c79611a556dcf008be88e5141e7ed1d5a565ffee"), looks := true }, kinds := [], alts := [], laidByText := true, laidKinds := [.handle], laidTests := true, laidLooks := .later }
def QuantPeakUptoCardSaid : Prop := Claim7.holds Tryd.pinned (.plain (OpenSpec.upto quantPeakSpec)) quantPeakUptoCard

/-- THE SECOND FORM's CARD OF 'kinlaw9.QuantRises'. -/
def quantRisesUptoCard : Claim7 := { stood := { row := quantRisesUptoRow, standIns := [], harness := (true, "c587d7ff9ac571d6aede6475c79611a556dcf008be88e5141e7ed1d5a565ffee"), looks := true }, kinds := [], alts := [], laidByText := true, laidKinds := [.handle], laidTests := true, laidLooks := .later }
def QuantRisesUptoCardSaid : Prop := Claim7.holds Tryd.pinned (.plain (OpenSpec.upto quantRisesSpec)) quantRisesUptoCard

/-- THE SECOND FORM's CARD OF 'kinlaw9.QuantFixed'. -/
def quantFixedUptoCard : Claim7 := { stood := { row := quantFixedUptoRow, standIns := [], harness := (true, "c587d7ff9ac571d6aede6475c79611a556dcf008be88e5141e7ed1d5a565ffee"), looks := true }, kinds := [], alts := [], laidByText := true, laidKinds := [.handle], laidTests := true, laidLooks := .later }
def QuantFixedUptoCardSaid : Prop := Claim7.holds Tryd.pinned (.plain (OpenSpec.upto quantFixedSpec)) quantFixedUptoCard

/-- THE SECOND FORM's CARD OF 'kinlaw19.AllocCaps'. -/
def allocCapsUptoCard : Claim7 := { stood := { row := allocCapsUptoRow, standIns := [], harness := (true, "c587d7ff9ac571d6aede6475c79611a556dcf008be88e5141e7ed1d5a565ffee"), looks := true }, kinds := [], alts := [], laidByText := true, laidKinds := [.handle], laidTests := true, laidLooks := .later }
def AllocCapsUptoCardSaid : Prop := Claim7.holds Tryd.pinned (.plain (OpenSpec.upto allocCapsSpec)) allocCapsUptoCard

/-- THE SECOND FORM's CARD OF 'kinlaw19.AllocFits'. -/
def allocFitsUptoCard : Claim7 := { stood := { row := allocFitsUptoRow, standIns := [], harness := (true, "c587d7ff9ac571d6aede6475c79611a556dcf008be88e5141e7ed1d5a565ffee"), looks := true }, kinds := [], alts := [], laidByText := true, laidKinds := [.handle], laidTests := true, laidLooks := .later }
def AllocFitsUptoCardSaid : Prop := Claim7.holds Tryd.pinned (.plain (OpenSpec.upto allocFitsSpec)) allocFitsUptoCard

/-- THE SECOND FORM's CARD OF 'kinlaw19.AllocSums'. -/
def allocSumsUptoCard : Claim7 := { stood := { row := allocSumsUptoRow, standIns := [], harness := (true, "c587d7ff9ac571d6aede6475c79611a556dcf008be88e5141e7ed1d5a565ffee"), looks := true }, kinds := [], alts := [], laidByText := true, laidKinds := [.handle], laidTests := true, laidLooks := .later }
def AllocSumsUptoCardSaid : Prop := Claim7.holds Tryd.pinned (.plain (OpenSpec.upto allocSumsSpec)) allocSumsUptoCard

/-- THE SECOND FORM's CARD OF 'kinlaw19.AllocBounds'. -/
def allocBoundsUptoCard : Claim7 := { stood := { row := allocBoundsUptoRow, standIns := [], harness := (true, "c587d7ff9ac571d6aede6475c79611a556dcf008be88e5141e7ed1d5a565ffee"), looks := true }, kinds := [], alts := [], laidByText := true, laidKinds := [.handle], laidTests := true, laidLooks := .later }
def AllocBoundsUptoCardSaid : Prop := Claim7.holds Tryd.pinned (.plain (OpenSpec.upto allocBoundsSpec)) allocBoundsUptoCard
end Rows
end Go.Proofs.YtbijicloalfmnaaDoor
