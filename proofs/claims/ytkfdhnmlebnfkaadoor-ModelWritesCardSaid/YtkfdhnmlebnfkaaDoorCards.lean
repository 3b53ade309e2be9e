/-
  DERIVED. GIVEN WITH THE SEED: THE CARDS: each row of YtkfdhnmlebnfkaaDoorRows.lean that lists a variable, with what it lists TIED to the program's text (the seventh form; the later family's looks); each row that meets fmt, with fmt's text TOLD by the authors' own Lean function (tested against real Go, not proved from fmt's source: count such statements apart). THE CARD IS WHAT COUNTS. Prove the row's statement (the work); the ties are given (YtkfdhnmlebnfkaaDoorTie.lean); close each card by the builder's one call (the guide's Derived/Test/ToyasCard.lean, 'card_holds'). Laid BY PROGRAM, IN A SANDBOX (cutbox-door.mjs). By AI agents, Wed Nov 11 2026. No macro, syntax, notation, axiom, sorry.
-/
import Derived.Test.YtkfdhnmlebnfkaaDoorRows
import GoSem.ClaimSeven
namespace Go.Proofs.YtkfdhnmlebnfkaaDoor
namespace Rows

/-- THE TIED CARD OF 'kinlaw12.RacCodes'. -/
def racCodesCard : Claim7 := { stood := { row := racCodesRow, standIns := [], harness := (true, "4e6fd4a3e546d85aa02ca6cda668f6cb39b352cd15f2b64968f5baac6d9b42e6"), looks := true }, kinds := [], alts := [], laidByText := true, laidKinds := [.data, .handle, .pinned], laidTests := true, laidLooks := .later }
def RacCodesCardSaid : Prop := Claim7.holds Tryd.pinned (.plain (OpenSpec.ofChange racCodesSpec)) racCodesCard

/-- THE TIED CARD OF 'kinlaw12.RacLong'. -/
def racLongCard : Claim7 := { stood := { row := racLongRow, standIns := [], harness := (true, "4e6fd4a3e546d85aa02ca6cda668f6cb39b352cd15f2b64968f5baac6d9b42e6"), looks := true }, kinds := [], alts := [], laidByText := true, laidKinds := [.data, .handle, .pinned], laidTests := true, laidLooks := .later }
def RacLongCardSaid : Prop := Claim7.holds Tryd.pinned (.plain (OpenSpec.ofChange racLongSpec)) racLongCard

/-- THE TIED CARD OF 'kinlaw13.ModelWrites'. -/
def modelWritesCard : Claim7 := { stood := { row := modelWritesRow, standIns := [], harness := (true, "4e6fd4a3e546d85aa02ca6cda668f6cb39b352cd15f2b64968f5baac6d9b42e6"), looks := true }, kinds := [], alts := [], laidByText := true, laidKinds := [.data, .pinned], laidTests := true, laidLooks := .later }
def ModelWritesCardSaid : Prop := Claim7.holds Tryd.pinned (.plain (OpenSpec.ofChange modelWritesSpec)) modelWritesCard

/-- THE TIED CARD OF 'kinlaw13.ModelBack'. -/
def modelBackCard : Claim7 := { stood := { row := modelBackRow, standIns := [], harness := (true, "4e6fd4a3e546d85aa02ca6cda668f6cb39b352cd15f2b64968f5baac6d9b42e6"), looks := true }, kinds := [], alts := [], laidByText := true, laidKinds := [.data, .pinned], laidTests := true, laidLooks := .later }
def ModelBackCardSaid : Prop := Claim7.holds Tryd.pinned (.plain (OpenSpec.ofChange modelBackSpec)) modelBackCard

/-- THE TIED CARD OF 'kinlaw14.CoefBack'. -/
def coefBackCard : Claim7 := { stood := { row := coefBackRow, standIns := [], harness := (true, "4e6fd4a3e546d85aa02ca6cda668f6cb39b352cd15f2b64968f5baac6d9b42e6"), looks := true }, kinds := [], alts := [], laidByText := true, laidKinds := [.data, .handle, .pinned], laidTests := true, laidLooks := .later }
def CoefBackCardSaid : Prop := Claim7.holds Tryd.pinned (.plain (OpenSpec.ofChange coefBackSpec)) coefBackCard

/-- THE TIED CARD OF 'kinlaw14.CoefEdges'. -/
def coefEdgesCard : Claim7 := { stood := { row := coefEdgesRow, standIns := [], harness := (true, "4e6fd4a3e546d85aa02ca6cda668f6cb39b352cd15f2b64968f5baac6d9b42e6"), looks := true }, kinds := [], alts := [], laidByText := true, laidKinds := [.data, .handle, .pinned], laidTests := true, laidLooks := .later }
def CoefEdgesCardSaid : Prop := Claim7.holds Tryd.pinned (.plain (OpenSpec.ofChange coefEdgesSpec)) coefEdgesCard

/-- THE TIED CARD OF 'kinlaw14.CoefBounds'. -/
def coefBoundsCard : Claim7 := { stood := { row := coefBoundsRow, standIns := [], harness := (true, "4e6fd4a3e546d85aa02ca6cda668f6cb39b352cd15f2b64968f5baac6d9b42e6"), looks := true }, kinds := [], alts := [], laidByText := true, laidKinds := [.data, .handle, .pinned], laidTests := true, laidLooks := .later }
def CoefBoundsCardSaid : Prop := Claim7.holds Tryd.pinned (.plain (OpenSpec.ofChange coefBoundsSpec)) coefBoundsCard

/-- THE TIED CARD OF 'kinlaw14.CoefZeros'. -/
def coefZerosCard : Claim7 := { stood := { row := coefZerosRow, standIns := [], harness := (true, "4e6fd4a3e546d85aa02ca6cda668f6cb39b352cd15f2b64968f5baac6d9b42e6"), looks := true }, kinds := [], alts := [], laidByText := true, laidKinds := [.data, .handle, .pinned], laidTests := true, laidLooks := .later }
def CoefZerosCardSaid : Prop := Claim7.holds Tryd.pinned (.plain (OpenSpec.ofChange coefZerosSpec)) coefZerosCard

/-- THE SECOND FORM's CARD OF 'kinlaw12.RacCodes'. -/
def racCodesUptoCard : Claim7 := { stood := { row := racCodesUptoRow, standIns := [], harness := (true, "4e6fd4a3e546d85aa02ca6cda668f6cb39b352cd15f2b64968f5baac6d9b42e6"), looks := true }, kinds := [], alts := [], laidByText := true, laidKinds := [.data, .handle, .pinned], laidTests := true, laidLooks := .later }
def RacCodesUptoCardSaid : Prop := Claim7.holds Tryd.pinned (.plain (OpenSpec.upto racCodesSpec)) racCodesUptoCard

/-- THE SECOND FORM's CARD OF 'kinlaw12.RacLong'. -/
def racLongUptoCard : Claim7 := { stood := { row := racLongUptoRow, standIns := [], harness := (true, "4e6fd4a3e546d85aa02ca6cda668f6cb39b352cd15f2b64968f5baac6d9b42e6"), looks := true }, kinds := [], alts := [], laidByText := true, laidKinds := [.data, .handle, .pinned], laidTests := true, laidLooks := .later }
def RacLongUptoCardSaid : Prop := Claim7.holds Tryd.pinned (.plain (OpenSpec.upto racLongSpec)) racLongUptoCard

/-- THE SECOND FORM's CARD OF 'kinlaw13.ModelWrites'. -/
def modelWritesUptoCard : Claim7 := { stood := { row := modelWritesUptoRow, standIns := [], harness := (true, "4e6fd4a3e546d85aa02ca6cda668f6cb39b352cd15f2b64968f5baac6d9b42e6"), looks := true }, kinds := [], alts := [], laidByText := true, laidKinds := [.data, .pinned], laidTests := true, laidLooks := .later }
def ModelWritesUptoCardSaid : Prop := Claim7.holds Tryd.pinned (.plain (OpenSpec.upto modelWritesSpec)) modelWritesUptoCard

/-- THE SECOND FORM's CARD OF 'kinlaw13.ModelBack'. -/
def modelBackUptoCard : Claim7 := { stood := { row := modelBackUptoRow, standIns := [], harness := (true, "4e6fd4a3e546d85aa02ca6cda668f6cb39b352cd15f2b64968f5baac6d9b42e6"), looks := true }, kinds := [], alts := [], laidByText := true, laidKinds := [.data, .pinned], laidTests := true, laidLooks := .later }
def ModelBackUptoCardSaid : Prop := Claim7.holds Tryd.pinned (.plain (OpenSpec.upto modelBackSpec)) modelBackUptoCard

/-- THE SECOND FORM's CARD OF 'kinlaw14.CoefBack'. -/
def coefBackUptoCard : Claim7 := { stood := { row := coefBackUptoRow, standIns := [], harness := (true, "4e6fd4a3e546d85aa02ca6cda668f6cb39b352cd15f2b64968f5baac6d9b42e6"), looks := true }, kinds := [], alts := [], laidByText := true, laidKinds := [.data, .handle, .pinned], laidTests := true, laidLooks := .later }
def CoefBackUptoCardSaid : Prop := Claim7.holds Tryd.pinned (.plain (OpenSpec.upto coefBackSpec)) coefBackUptoCard

/-- THE SECOND FORM's CARD OF 'kinlaw14.CoefEdges'. -/
def coefEdgesUptoCard : Claim7 := { stood := { row := coefEdgesUptoRow, standIns := [], harness := (true, "4e6fd4a3e546d85aa02ca6cda668f6cb39b352cd15f2b64968f5baac6d9b42e6"), looks := true }, kinds := [], alts := [], laidByText := true, laidKinds := [.data, .handle, .pinned], laidTests := true, laidLooks := .later }
def CoefEdgesUptoCardSaid : Prop := Claim7.holds Tryd.pinned (.plain (OpenSpec.upto coefEdgesSpec)) coefEdgesUptoCard

/-- THE SECOND FORM's CARD OF 'kinlaw14.CoefBounds'. -/
def coefBoundsUptoCard : Claim7 := { stood := { row := coefBoundsUptoRow, standIns := [], harness := (true, "4e6fd4a3e546d85aa02ca6cda668f6cb39b352cd15f2b64968f5baac6d9b42e6"), looks := true }, kinds := [], alts := [], laidByText := true, laidKinds := [.data, .handle, .pinned], laidTests := true, laidLooks := .later }
def CoefBoundsUptoCardSaid : Prop := Claim7.holds Tryd.pinned (.plain (OpenSpec.upto coefBoundsSpec)) coefBoundsUptoCard

/-- THE SECOND FORM's CARD OF 'kinlaw14.CoefZeros'. -/
def coefZerosUptoCard : Claim7 := { stood := { row := coefZerosUptoRow, standIns := [], harness := (true, "4e6fd4a3e546d85aa02ca6cda668f6cb39b352cd15f2b64968f5baac6d9b42e6"), looks := true }, kinds := [], alts := [], laidByText := true, laidKinds := [.data, .handle, .pinned], laidTests := true, laidLooks := .later }
def CoefZerosUptoCardSaid : Prop := Claim7.holds Tryd.pinned (.plain (OpenSpec.upto coefZerosSpec)) coefZerosUptoCard
end Rows
end Go.Proofs.YtkfdhnmlebnfkaaDoor
