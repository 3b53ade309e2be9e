/-
  DERIVED. GIVEN WITH THE SEED: THE CARDS: each row of YtdndambkaohgiaaDoorRows.lean that lists a variable, with what it lists TIED to the program's text (the seventh form; the later family's looks); each row that meets fmt, with fmt's text TOLD by the authors' own Lean function (tested against real Go, not proved from fmt's source: count such statements apart). THE CARD IS WHAT COUNTS. Prove the row's statement (the work); the ties are given (YtdndambkaohgiaaDoorTie.lean); close each card by the builder's one call (the guide's Derived/Test/ToyasCard.lean, 'card_holds'). Laid BY PROGRAM, IN A SANDBOX (cutbox-door.mjs). By AI agents, Wed Nov 11 2026. No macro, syntax, notation, axiom, sorry.
-/
import Derived.Test.YtdndambkaohgiaaDoorRows
import GoSem.ClaimSeven
namespace Go.Proofs.YtdndambkaohgiaaDoor
namespace Rows

/-- THE TIED CARD OF 'kinlaw14.CoefBack'. -/
def coefBackCard : Claim7 := { stood := { row := coefBackRow, standIns := [], harness := (true, "c03d1ddf0cd9cd34690e5c11beaf784691baaba69ea057527ae5400b2aa60d99"), looks := true }, kinds := [], alts := [], laidByText := true, laidKinds := [.data, .handle, .pinned], laidTests := true, laidLooks := .later }
def CoefBackCardSaid : Prop := Claim7.holds Tryd.pinned (.plain (OpenSpec.ofChange coefBackSpec)) coefBackCard

/-- THE TIED CARD OF 'kinlaw14.CoefEdges'. -/
def coefEdgesCard : Claim7 := { stood := { row := coefEdgesRow, standIns := [], harness := (true, "c03d1ddf0cd9cd34690e5c11beaf784691baaba69ea057527ae5400b2aa60d99"), looks := true }, kinds := [], alts := [], laidByText := true, laidKinds := [.data, .handle, .pinned], laidTests := true, laidLooks := .later }
def CoefEdgesCardSaid : Prop := Claim7.holds Tryd.pinned (.plain (OpenSpec.ofChange coefEdgesSpec)) coefEdgesCard

/-- THE TIED CARD OF 'kinlaw14.CoefBounds'. -/
def coefBoundsCard : Claim7 := { stood := { row := coefBoundsRow, standIns := [], harness := (true, "c03d1ddf0cd9cd34690e5c11beaf784691baaba69ea057527ae5400b2aa60d99"), looks := true }, kinds := [], alts := [], laidByText := true, laidKinds := [.data, .handle, .pinned], laidTests := true, laidLooks := .later }
def CoefBoundsCardSaid : Prop := Claim7.holds Tryd.pinned (.plain (OpenSpec.ofChange coefBoundsSpec)) coefBoundsCard

/-- THE TIED CARD OF 'kinlaw14.CoefZeros'. -/
def coefZerosCard : Claim7 := { stood := { row := coefZerosRow, standIns := [], harness := (true, "c03d1ddf0cd9cd34690e5c11beaf784691baaba69ea057527ae5400b2aa60d99"), looks := true }, kinds := [], alts := [], laidByText := true, laidKinds := [.data, .handle, .pinned], laidTests := true, laidLooks := .later }
def CoefZerosCardSaid : Prop := Claim7.holds Tryd.pinned (.plain (OpenSpec.ofChange coefZerosSpec)) coefZerosCard

/-- THE TIED CARD OF 'kinlaw20.SyntaxHeads'. -/
def syntaxHeadsCard : Claim7 := { stood := { row := syntaxHeadsRow, standIns := [], harness := (true, "c03d1ddf0cd9cd34690e5c11beaf784691baaba69ea057527ae5400b2aa60d99"), looks := true }, kinds := [], alts := [], laidByText := true, laidKinds := [.handle], laidTests := true, laidLooks := .later }
def SyntaxHeadsCardSaid : Prop := Claim7.holds Tryd.pinned (.plain (OpenSpec.ofChange syntaxHeadsSpec)) syntaxHeadsCard

/-- THE TIED CARD OF 'kinlaw20.SyntaxPairs'. -/
def syntaxPairsCard : Claim7 := { stood := { row := syntaxPairsRow, standIns := [], harness := (true, "c03d1ddf0cd9cd34690e5c11beaf784691baaba69ea057527ae5400b2aa60d99"), looks := true }, kinds := [], alts := [], laidByText := true, laidKinds := [.handle, .data], laidTests := true, laidLooks := .later }
def SyntaxPairsCardSaid : Prop := Claim7.holds Tryd.pinned (.plain (OpenSpec.ofChange syntaxPairsSpec)) syntaxPairsCard

/-- THE TIED CARD OF 'kinlaw20.SyntaxKinds'. -/
def syntaxKindsCard : Claim7 := { stood := { row := syntaxKindsRow, standIns := [], harness := (true, "c03d1ddf0cd9cd34690e5c11beaf784691baaba69ea057527ae5400b2aa60d99"), looks := true }, kinds := [], alts := [], laidByText := true, laidKinds := [.handle], laidTests := true, laidLooks := .later }
def SyntaxKindsCardSaid : Prop := Claim7.holds Tryd.pinned (.plain (OpenSpec.ofChange syntaxKindsSpec)) syntaxKindsCard

/-- THE SECOND FORM's CARD OF 'kinlaw14.CoefBack'. -/
def coefBackUptoCard : Claim7 := { stood := { row := coefBackUptoRow, standIns := [], harness := (true, "c03d1ddf0cd9cd34690e5c11beaf784691baaba69ea057527ae5400b2aa60d99"), looks := true }, kinds := [], alts := [], laidByText := true, laidKinds := [.data, .handle, .pinned], laidTests := true, laidLooks := .later }
def CoefBackUptoCardSaid : Prop := Claim7.holds Tryd.pinned (.plain (OpenSpec.upto coefBackSpec)) coefBackUptoCard

/-- THE SECOND FORM's CARD OF 'kinlaw14.CoefEdges'. -/
def coefEdgesUptoCard : Claim7 := { stood := { row := coefEdgesUptoRow, standIns := [], harness := (true, "c03d1ddf0cd9cd34690e5c11beaf784691baaba69ea057527ae5400b2aa60d99"), looks := true }, kinds := [], alts := [], laidByText := true, laidKinds := [.data, .handle, .pinned], laidTests := true, laidLooks := .later }
def CoefEdgesUptoCardSaid : Prop := Claim7.holds Tryd.pinned (.plain (OpenSpec.upto coefEdgesSpec)) coefEdgesUptoCard

/-- THE SECOND FORM's CARD OF 'kinlaw14.CoefBounds'. -/
def coefBoundsUptoCard : Claim7 := { stood := { row := coefBoundsUptoRow, standIns := [], harness := (true, "c03d1ddf0cd9cd34690e5c11beaf784691baaba69ea057527ae5400b2aa60d99"), looks := true }, kinds := [], alts := [], laidByText := true, laidKinds := [.data, .handle, .pinned], laidTests := true, laidLooks := .later }
def CoefBoundsUptoCardSaid : Prop := Claim7.holds Tryd.pinned (.plain (OpenSpec.upto coefBoundsSpec)) coefBoundsUptoCard

/-- THE SECOND FORM's CARD OF 'kinlaw14.CoefZeros'. -/
def coefZerosUptoCard : Claim7 := { stood := { row := coefZerosUptoRow, standIns := [], harness := (true, "c03d1ddf0cd9cd34690e5c11beaf784691baaba69ea057527ae5400b2aa60d99"), looks := true }, kinds := [], alts := [], laidByText := true, laidKinds := [.data, .handle, .pinned], laidTests := true, laidLooks := .later }
def CoefZerosUptoCardSaid : Prop := Claim7.holds Tryd.pinned (.plain (OpenSpec.upto coefZerosSpec)) coefZerosUptoCard

/-- THE SECOND FORM's CARD OF 'kinlaw20.SyntaxHeads'. -/
def syntaxHeadsUptoCard : Claim7 := { stood := { row := syntaxHeadsUptoRow, standIns := [], harness := (true, "c03d1ddf0cd9cd34690e5c11beaf784691baaba69ea057527ae5400b2aa60d99"), looks := true }, kinds := [], alts := [], laidByText := true, laidKinds := [.handle], laidTests := true, laidLooks := .later }
def SyntaxHeadsUptoCardSaid : Prop := Claim7.holds Tryd.pinned (.plain (OpenSpec.upto syntaxHeadsSpec)) syntaxHeadsUptoCard

/-- THE SECOND FORM's CARD OF 'kinlaw20.SyntaxPairs'. -/
def syntaxPairsUptoCard : Claim7 := { stood := { row := syntaxPairsUptoRow, standIns := [], harness := (true, "c03d1ddf0cd9cd34690e5c11beaf784691baaba69ea057527ae5400b2aa60d99"), looks := true }, kinds := [], alts := [], laidByText := true, laidKinds := [.handle, .data], laidTests := true, laidLooks := .later }
def SyntaxPairsUptoCardSaid : Prop := Claim7.holds Tryd.pinned (.plain (OpenSpec.upto syntaxPairsSpec)) syntaxPairsUptoCard

/-- THE SECOND FORM's CARD OF 'kinlaw20.SyntaxKinds'. -/
def syntaxKindsUptoCard : Claim7 := { stood := { row := syntaxKindsUptoRow, standIns := [], harness := (true, "c03d1ddf0cd9cd34690e5c11beaf784691baaba69ea057527ae5400b2aa60d99"), looks := true }, kinds := [], alts := [], laidByText := true, laidKinds := [.handle], laidTests := true, laidLooks := .later }
def SyntaxKindsUptoCardSaid : Prop := Claim7.holds Tryd.pinned (.plain (OpenSpec.upto syntaxKindsSpec)) syntaxKindsUptoCard
end Rows
end Go.Proofs.YtdndambkaohgiaaDoor
