/-
  DERIVED. GIVEN WITH THE SEED: THE CARDS: each row of YtbmknmenaaanaaaDoorRows.lean that lists a variable, with what it lists TIED to the program's text (the seventh form; the later family's looks); each row that meets fmt, with fmt's text TOLD by the authors' own Lean function (tested against real Go, not proved from fmt's source: count such statements apart). THE CARD IS WHAT COUNTS. Prove the row's statement (the work); the ties are given (YtbmknmenaaanaaaDoorTie.lean); close each card by the builder's one call (the guide's Derived/Test/ToyasCard.lean, 'card_holds'). Laid BY PROGRAM, IN A SANDBOX (cutbox-door.mjs). By AI agents, Wed Nov 11 2026. No macro, syntax, notation, axiom, sorry.
-/
import Derived.Test.YtbmknmenaaanaaaDoorRows
import GoSem.ClaimSeven
namespace Go.Proofs.YtbmknmenaaanaaaDoor
namespace Rows

/-- THE TIED CARD OF 'kinlaw8.WhtTurns'. -/
def whtTurnsCard : Claim7 := { stood := { row := whtTurnsRow, standIns := [], harness := (true, "3977de9dd16eeecb53ca23c6174140f54a62574282c293ddd9104ec945d96283"), looks := true }, kinds := [], alts := [], laidByText := true, laidKinds := [.handle], laidTests := true, laidLooks := .later }
def WhtTurnsCardSaid : Prop := Claim7.holds Tryd.pinned (.plain (OpenSpec.ofChange whtTurnsSpec)) whtTurnsCard

/-- THE TIED CARD OF 'kinlaw8.WhtSigns'. -/
def whtSignsCard : Claim7 := { stood := { row := whtSignsRow, standIns := [], harness := (true, "3977de9dd16eeecb53ca23c6174140f54a62574282c293ddd9104ec945d96283"), looks := true }, kinds := [], alts := [], laidByText := true, laidKinds := [.handle], laidTests := true, laidLooks := .later }
def WhtSignsCardSaid : Prop := Claim7.holds Tryd.pinned (.plain (OpenSpec.ofChange whtSignsSpec)) whtSignsCard

/-- THE TIED CARD OF 'kinlaw8.WhtBack'. -/
def whtBackCard : Claim7 := { stood := { row := whtBackRow, standIns := [], harness := (true, "3977de9dd16eeecb53ca23c6174140f54a62574282c293ddd9104ec945d96283"), looks := true }, kinds := [], alts := [], laidByText := true, laidKinds := [.handle], laidTests := true, laidLooks := .later }
def WhtBackCardSaid : Prop := Claim7.holds Tryd.pinned (.plain (OpenSpec.ofChange whtBackSpec)) whtBackCard

/-- THE TIED CARD OF 'kinlaw8.WhtSmall'. -/
def whtSmallCard : Claim7 := { stood := { row := whtSmallRow, standIns := [], harness := (true, "3977de9dd16eeecb53ca23c6174140f54a62574282c293ddd9104ec945d96283"), looks := true }, kinds := [], alts := [], laidByText := true, laidKinds := [.handle], laidTests := true, laidLooks := .later }
def WhtSmallCardSaid : Prop := Claim7.holds Tryd.pinned (.plain (OpenSpec.ofChange whtSmallSpec)) whtSmallCard

/-- THE TIED CARD OF 'kinlaw8.WhtSums'. -/
def whtSumsCard : Claim7 := { stood := { row := whtSumsRow, standIns := [], harness := (true, "3977de9dd16eeecb53ca23c6174140f54a62574282c293ddd9104ec945d96283"), looks := true }, kinds := [], alts := [], laidByText := true, laidKinds := [.handle], laidTests := true, laidLooks := .later }
def WhtSumsCardSaid : Prop := Claim7.holds Tryd.pinned (.plain (OpenSpec.ofChange whtSumsSpec)) whtSumsCard

/-- THE TIED CARD OF 'kinlaw8.WhtFlat'. -/
def whtFlatCard : Claim7 := { stood := { row := whtFlatRow, standIns := [], harness := (true, "3977de9dd16eeecb53ca23c6174140f54a62574282c293ddd9104ec945d96283"), looks := true }, kinds := [], alts := [], laidByText := true, laidKinds := [.handle], laidTests := true, laidLooks := .later }
def WhtFlatCardSaid : Prop := Claim7.holds Tryd.pinned (.plain (OpenSpec.ofChange whtFlatSpec)) whtFlatCard

/-- THE TIED CARD OF 'kinlaw19.AllocCaps'. -/
def allocCapsCard : Claim7 := { stood := { row := allocCapsRow, standIns := [], harness := (true, "3977de9dd16eeecb53ca23c6174140f54a62574282c293ddd9104ec945d96283"), looks := true }, kinds := [], alts := [], laidByText := true, laidKinds := [.handle], laidTests := true, laidLooks := .later }
def AllocCapsCardSaid : Prop := Claim7.holds Tryd.pinned (.plain (OpenSpec.ofChange allocCapsSpec)) allocCapsCard

/-- THE TIED CARD OF 'kinlaw19.AllocFits'. -/
def allocFitsCard : Claim7 := { stood := { row := allocFitsRow, standIns := [], harness := (true, "3977de9dd16eeecb53ca23c6174140f54a62574282c293ddd9104ec945d96283"), looks := true }, kinds := [], alts := [], laidByText := true, laidKinds := [.handle], laidTests := true, laidLooks := .later }
def AllocFitsCardSaid : Prop := Claim7.holds Tryd.pinned (.plain (OpenSpec.ofChange allocFitsSpec)) allocFitsCard

/-- THE TIED CARD OF 'kinlaw19.AllocSums'. -/
def allocSumsCard : Claim7 := { stood := { row := allocSumsRow, standIns := [], harness := (true, "3977de9dd16eeecb53ca23c6174140f54a62574282c293ddd9104ec945d96283"), looks := true }, kinds := [], alts := [], laidByText := true, laidKinds := [.handle], laidTests := true, laidLooks := .later }
def AllocSumsCardSaid : Prop := Claim7.holds Tryd.pinned (.plain (OpenSpec.ofChange allocSumsSpec)) allocSumsCard

/-- THE TIED CARD OF 'kinlaw19.AllocBounds'. -/
def allocBoundsCard : Claim7 := { stood := { row := allocBoundsRow, standIns := [], harness := (true, "3977de9dd16eeecb53ca23c6174140f54a62574282c293ddd9104ec945d96283"), looks := true }, kinds := [], alts := [], laidByText := true, laidKinds := [.handle], laidTests := true, laidLooks := .later }
def AllocBoundsCardSaid : Prop := Claim7.holds Tryd.pinned (.plain (OpenSpec.ofChange allocBoundsSpec)) allocBoundsCard

/-- THE TIED CARD OF 'kinlaw9.QuantOne'. -/
def quantOneCard : Claim7 := { stood := { row := quantOneRow, standIns := [], harness := (true, "3977de9dd16eeecb53ca23c6174140f54a62574282c293ddd9104ec945d96283"), looks := true }, kinds := [], alts := [], laidByText := true, laidKinds := [.handle], laidTests := true, laidLooks := .later }
def QuantOneCardSaid : Prop := Claim7.holds Tryd.pinned (.plain (OpenSpec.ofChange quantOneSpec)) quantOneCard

/-- THE TIED CARD OF 'kinlaw9.QuantPeak'. -/
def quantPeakCard : Claim7 := { stood := { row := quantPeakRow, standIns := [], harness := (true, "3977de9dd16eeecb53ca23c6174140f54a62574282c293ddd9104ec945d96283"), looks := true }, kinds := [], alts := [], laidByText := true, laidKinds := [.handle], laidTests := true, laidLooks := .later }
def QuantPeakCardSaid : Prop := Claim7.holds Tryd.pinned (.plain (OpenSpec.ofChange quantPeakSpec)) quantPeakCard

/-- THE SECOND FORM's CARD OF 'kinlaw8.WhtTurns'. -/
def whtTurnsUptoCard : Claim7 := { stood := { row := whtTurnsUptoRow, standIns := [], harness := (true, "3977de9dd16eeecb53ca23c6174140f54a62574282c293ddd9104ec945d96283"), looks := true }, kinds := [], alts := [], laidByText := true, laidKinds := [.handle], laidTests := true, laidLooks := .later }
def WhtTurnsUptoCardSaid : Prop := Claim7.holds Tryd.pinned (.plain (OpenSpec.upto whtTurnsSpec)) whtTurnsUptoCard

/-- THE SECOND FORM's CARD OF 'kinlaw8.WhtSigns'. -/
def whtSignsUptoCard : Claim7 := { stood := { row := whtSignsUptoRow, standIns := [], harness := (true, "3977de9dd16eeecb53ca23c6174140f54a62574282c293ddd9104ec945d96283"), looks := true }, kinds := [], alts := [], laidByText := true, laidKinds := [.handle], laidTests := true, laidLooks := .later }
def WhtSignsUptoCardSaid : Prop := Claim7.holds Tryd.pinned (.plain (OpenSpec.upto whtSignsSpec)) whtSignsUptoCard

/-- THE SECOND FORM's CARD OF 'kinlaw8.WhtBack'. -/
def whtBackUptoCard : Claim7 := { stood := { row := whtBackUptoRow, standIns := [], harness := (true, "3977de9dd16eeecb53ca23c6174140f54a62574282c293ddd9104ec945d96283"), looks := true }, kinds := [], alts := [], laidByText := true, laidKinds := [.handle], laidTests := true, laidLooks := .later }
def WhtBackUptoCardSaid : Prop := Claim7.holds Tryd.pinned (.plain (OpenSpec.upto whtBackSpec)) whtBackUptoCard

/-- THE SECOND FORM's CARD OF 'kinlaw8.WhtSmall'. -/
def whtSmallUptoCard : Claim7 := { stood := { row := whtSmallUptoRow, standIns := [], harness := (true, "3977de9dd16eeecb53ca23c6174140f54a62574282c293ddd9104ec945d96283"), looks := true }, kinds := [], alts := [], laidByText := true, laidKinds := [.handle], laidTests := true, laidLooks := .later }
def WhtSmallUptoCardSaid : Prop := Claim7.holds Tryd.pinned (.plain (OpenSpec.upto whtSmallSpec)) whtSmallUptoCard

/-- THE SECOND FORM's CARD OF 'kinlaw8.WhtSums'. -/
def whtSumsUptoCard : Claim7 := { stood := { row := whtSumsUptoRow, standIns := [], harness := (true, "3977de9dd16eeecb53ca23c6174140f54a62574282c293ddd9104ec945d96283"), looks := true }, kinds := [], alts := [], laidByText := true, laidKinds := [.handle], laidTests := true, laidLooks := .later }
def WhtSumsUptoCardSaid : Prop := Claim7.holds Tryd.pinned (.plain (OpenSpec.upto whtSumsSpec)) whtSumsUptoCard

/-- THE SECOND FORM's CARD OF 'kinlaw8.WhtFlat'. -/
def whtFlatUptoCard : Claim7 := { stood := { row := whtFlatUptoRow, standIns := [], harness := (true, "3977de9dd16eeecb53ca23c6174140f54a62574282c293ddd9104ec945d96283"), looks := true }, kinds := [], alts := [], laidByText := true, laidKinds := [.handle], laidTests := true, laidLooks := .later }
def WhtFlatUptoCardSaid : Prop := Claim7.holds Tryd.pinned (.plain (OpenSpec.upto whtFlatSpec)) whtFlatUptoCard

/-- THE SECOND FORM's CARD OF 'kinlaw19.AllocCaps'. -/
def allocCapsUptoCard : Claim7 := { stood := { row := allocCapsUptoRow, standIns := [], harness := (true, "3977de9dd16eeecb53ca23c6174140f54a62574282c293ddd9104ec945d96283"), looks := true }, kinds := [], alts := [], laidByText := true, laidKinds := [.handle], laidTests := true, laidLooks := .later }
def AllocCapsUptoCardSaid : Prop := Claim7.holds Tryd.pinned (.plain (OpenSpec.upto allocCapsSpec)) allocCapsUptoCard

/-- THE SECOND FORM's CARD OF 'kinlaw19.AllocFits'. -/
def allocFitsUptoCard : Claim7 := { stood := { row := allocFitsUptoRow, standIns := [], harness := (true, "3977de9dd16eeecb53ca23c6174140f54a62574282c293ddd9104ec945d96283"), looks := true }, kinds := [], alts := [], laidByText := true, laidKinds := [.handle], laidTests := true, laidLooks := .later }
def AllocFitsUptoCardSaid : Prop := Claim7.holds Tryd.pinned (.plain (OpenSpec.upto allocFitsSpec)) allocFitsUptoCard

/-- THE SECOND FORM's CARD OF 'kinlaw19.AllocSums'. -/
def allocSumsUptoCard : Claim7 := { stood := { row := allocSumsUptoRow, standIns := [], harness := (true, "3977de9dd16eeecb53ca23c6174140f54a62574282c293ddd9104ec945d96283"), looks := true }, kinds := [], alts := [], laidByText := true, laidKinds := [.handle], laidTests := true, laidLooks := .later }
def AllocSumsUptoCardSaid : Prop := Claim7.holds Tryd.pinned (.plain (OpenSpec.upto allocSumsSpec)) allocSumsUptoCard

/-- THE SECOND FORM's CARD OF 'kinlaw19.AllocBounds'. -/
def allocBoundsUptoCard : Claim7 := { stood := { row := allocBoundsUptoRow, standIns := [], harness := (true, "3977de9dd16eeecb53ca23c6174140f54a62574282c293ddd9104ec945d96283"), looks := true }, kinds := [], alts := [], laidByText := true, laidKinds := [.handle], laidTests := true, laidLooks := .later }
def AllocBoundsUptoCardSaid : Prop := Claim7.holds Tryd.pinned (.plain (OpenSpec.upto allocBoundsSpec)) allocBoundsUptoCard

/-- THE SECOND FORM's CARD OF 'kinlaw9.QuantOne'. -/
def quantOneUptoCard : Claim7 := { stood := { row := quantOneUptoRow, standIns := [], harness := (true, "3977de9dd16eeecb53ca23c6174140f54a62574282c293ddd9104ec945d96283"), looks := true }, kinds := [], alts := [], laidByText := true, laidKinds := [.handle], laidTests := true, laidLooks := .later }
def QuantOneUptoCardSaid : Prop := Claim7.holds Tryd.pinned (.plain (OpenSpec.upto quantOneSpec)) quantOneUptoCard

/-- THE SECOND FORM's CARD OF 'kinlaw9.QuantPeak'. -/
def quantPeakUptoCard : Claim7 := { stood := { row := quantPeakUptoRow, standIns := [], harness := (true, "3977de9dd16eeecb53ca23c6174140f54a62574282c293ddd9104ec945d96283"), looks := true }, kinds := [], alts := [], laidByText := true, laidKinds := [.handle], laidTests := true, laidLooks := .later }
def QuantPeakUptoCardSaid : Prop := Claim7.holds Tryd.pinned (.plain (OpenSpec.upto quantPeakSpec)) quantPeakUptoCard
end Rows
end Go.Proofs.YtbmknmenaaanaaaDoor
