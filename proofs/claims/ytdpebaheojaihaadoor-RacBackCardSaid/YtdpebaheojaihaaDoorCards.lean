/-
  DERIVED. GIVEN WITH THE SEED: THE CARDS: each row of YtdpebaheojaihaaDoorRows.lean that lists a variable, with what it lists TIED to the program's text (the seventh form; the later family's looks); each row that meets fmt, with fmt's text TOLD by the authors' own Lean function (tested against real Go, not proved from fmt's source: count such statements apart). THE CARD IS WHAT COUNTS. Prove the row's statement (the work); the ties are given (YtdpebaheojaihaaDoorTie.lean); close each card by the builder's one call (the guide's Derived/Test/ToyasCard.lean, 'card_holds'). Laid BY PROGRAM, IN A SANDBOX (cutbox-door.mjs). By AI agents, Wed Nov 11 2026. No macro, syntax, notation, axiom, sorry.
-/
import Derived.Test.YtdpebaheojaihaaDoorRows
import GoSem.ClaimSeven
namespace Go.Proofs.YtdpebaheojaihaaDoor
namespace Rows

/-- THE TIED CARD OF 'kinlaw12.RacCodes'. -/
def racCodesCard : Claim7 := { stood := { row := racCodesRow, standIns := [], harness := (true, "ba070a9c810ef4dce217c1a8a140c06480cb5e284541d5644af8bb9a5596f74d"), looks := true }, kinds := [], alts := [], laidByText := true, laidKinds := [.data, .handle, .pinned], laidTests := true, laidLooks := .later }
def RacCodesCardSaid : Prop := Claim7.holds Tryd.pinned (.plain (OpenSpec.ofChange racCodesSpec)) racCodesCard

/-- THE TIED CARD OF 'kinlaw12.RacDecodes'. -/
def racDecodesCard : Claim7 := { stood := { row := racDecodesRow, standIns := [], harness := (true, "ba070a9c810ef4dce217c1a8a140c06480cb5e284541d5644af8bb9a5596f74d"), looks := true }, kinds := [], alts := [], laidByText := true, laidKinds := [.data, .handle, .pinned], laidTests := true, laidLooks := .later }
def RacDecodesCardSaid : Prop := Claim7.holds Tryd.pinned (.plain (OpenSpec.ofChange racDecodesSpec)) racDecodesCard

/-- THE TIED CARD OF 'kinlaw12.RacBack'. -/
def racBackCard : Claim7 := { stood := { row := racBackRow, standIns := [], harness := (true, "ba070a9c810ef4dce217c1a8a140c06480cb5e284541d5644af8bb9a5596f74d"), looks := true }, kinds := [], alts := [], laidByText := true, laidKinds := [.data, .handle, .pinned], laidTests := true, laidLooks := .later }
def RacBackCardSaid : Prop := Claim7.holds Tryd.pinned (.plain (OpenSpec.ofChange racBackSpec)) racBackCard

/-- THE TIED CARD OF 'kinlaw12.RacLong'. -/
def racLongCard : Claim7 := { stood := { row := racLongRow, standIns := [], harness := (true, "ba070a9c810ef4dce217c1a8a140c06480cb5e284541d5644af8bb9a5596f74d"), looks := true }, kinds := [], alts := [], laidByText := true, laidKinds := [.data, .handle, .pinned], laidTests := true, laidLooks := .later }
def RacLongCardSaid : Prop := Claim7.holds Tryd.pinned (.plain (OpenSpec.ofChange racLongSpec)) racLongCard

/-- THE TIED CARD OF 'kinlaw12.RacSize'. -/
def racSizeCard : Claim7 := { stood := { row := racSizeRow, standIns := [], harness := (true, "ba070a9c810ef4dce217c1a8a140c06480cb5e284541d5644af8bb9a5596f74d"), looks := true }, kinds := [], alts := [], laidByText := true, laidKinds := [.data, .handle, .pinned], laidTests := true, laidLooks := .later }
def RacSizeCardSaid : Prop := Claim7.holds Tryd.pinned (.plain (OpenSpec.ofChange racSizeSpec)) racSizeCard

/-- THE TIED CARD OF 'kinlaw12.RacZeros'. -/
def racZerosCard : Claim7 := { stood := { row := racZerosRow, standIns := [], harness := (true, "ba070a9c810ef4dce217c1a8a140c06480cb5e284541d5644af8bb9a5596f74d"), looks := true }, kinds := [], alts := [], laidByText := true, laidKinds := [.data, .handle, .pinned], laidTests := true, laidLooks := .later }
def RacZerosCardSaid : Prop := Claim7.holds Tryd.pinned (.plain (OpenSpec.ofChange racZerosSpec)) racZerosCard

/-- THE SECOND FORM's CARD OF 'kinlaw12.RacCodes'. -/
def racCodesUptoCard : Claim7 := { stood := { row := racCodesUptoRow, standIns := [], harness := (true, "ba070a9c810ef4dce217c1a8a140c06480cb5e284541d5644af8bb9a5596f74d"), looks := true }, kinds := [], alts := [], laidByText := true, laidKinds := [.data, .handle, .pinned], laidTests := true, laidLooks := .later }
def RacCodesUptoCardSaid : Prop := Claim7.holds Tryd.pinned (.plain (OpenSpec.upto racCodesSpec)) racCodesUptoCard

/-- THE SECOND FORM's CARD OF 'kinlaw12.RacDecodes'. -/
def racDecodesUptoCard : Claim7 := { stood := { row := racDecodesUptoRow, standIns := [], harness := (true, "ba070a9c810ef4dce217c1a8a140c06480cb5e284541d5644af8bb9a5596f74d"), looks := true }, kinds := [], alts := [], laidByText := true, laidKinds := [.data, .handle, .pinned], laidTests := true, laidLooks := .later }
def RacDecodesUptoCardSaid : Prop := Claim7.holds Tryd.pinned (.plain (OpenSpec.upto racDecodesSpec)) racDecodesUptoCard

/-- THE SECOND FORM's CARD OF 'kinlaw12.RacBack'. -/
def racBackUptoCard : Claim7 := { stood := { row := racBackUptoRow, standIns := [], harness := (true, "ba070a9c810ef4dce217c1a8a140c06480cb5e284541d5644af8bb9a5596f74d"), looks := true }, kinds := [], alts := [], laidByText := true, laidKinds := [.data, .handle, .pinned], laidTests := true, laidLooks := .later }
def RacBackUptoCardSaid : Prop := Claim7.holds Tryd.pinned (.plain (OpenSpec.upto racBackSpec)) racBackUptoCard

/-- THE SECOND FORM's CARD OF 'kinlaw12.RacLong'. -/
def racLongUptoCard : Claim7 := { stood := { row := racLongUptoRow, standIns := [], harness := (true, "ba070a9c810ef4dce217c1a8a140c06480cb5e284541d5644af8bb9a5596f74d"), looks := true }, kinds := [], alts := [], laidByText := true, laidKinds := [.data, .handle, .pinned], laidTests := true, laidLooks := .later }
def RacLongUptoCardSaid : Prop := Claim7.holds Tryd.pinned (.plain (OpenSpec.upto racLongSpec)) racLongUptoCard

/-- THE SECOND FORM's CARD OF 'kinlaw12.RacSize'. -/
def racSizeUptoCard : Claim7 := { stood := { row := racSizeUptoRow, standIns := [], harness := (true, "ba070a9c810ef4dce217c1a8a140c06480cb5e284541d5644af8bb9a5596f74d"), looks := true }, kinds := [], alts := [], laidByText := true, laidKinds := [.data, .handle, .pinned], laidTests := true, laidLooks := .later }
def RacSizeUptoCardSaid : Prop := Claim7.holds Tryd.pinned (.plain (OpenSpec.upto racSizeSpec)) racSizeUptoCard

/-- THE SECOND FORM's CARD OF 'kinlaw12.RacZeros'. -/
def racZerosUptoCard : Claim7 := { stood := { row := racZerosUptoRow, standIns := [], harness := (true, "ba070a9c810ef4dce217c1a8a140c06480cb5e284541d5644af8bb9a5596f74d"), looks := true }, kinds := [], alts := [], laidByText := true, laidKinds := [.data, .handle, .pinned], laidTests := true, laidLooks := .later }
def RacZerosUptoCardSaid : Prop := Claim7.holds Tryd.pinned (.plain (OpenSpec.upto racZerosSpec)) racZerosUptoCard
end Rows
end Go.Proofs.YtdpebaheojaihaaDoor
