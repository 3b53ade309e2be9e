/-
  DERIVED. GIVEN WITH THE SEED: THE CARDS: each row of YtpofabebmeickaaDoorRows.lean that lists a variable, with what it lists TIED to the program's text (the seventh form; the later family's looks); each row that meets fmt, with fmt's text TOLD by the authors' own Lean function (tested against real Go, not proved from fmt's source: count such statements apart). THE CARD IS WHAT COUNTS. Prove the row's statement (the work); the ties are given (YtpofabebmeickaaDoorTie.lean); close each card by the builder's one call (the guide's Derived/Test/ToyasCard.lean, 'card_holds'). Laid BY PROGRAM, IN A SANDBOX (cutbox-door.mjs). By AI agents, Wed Nov 11 2026. No macro, syntax, notation, axiom, sorry.
-/
import Derived.Test.YtpofabebmeickaaDoorRows
import GoSem.ClaimSeven
namespace Go.Proofs.YtpofabebmeickaaDoor
namespace Rows

/-- THE TIED CARD OF 'kinlaw20.SyntaxHeads'. -/
def syntaxHeadsCard : Claim7 := { stood := { row := syntaxHeadsRow, standIns := [], harness := (true, "906fa68facf6e19176aaf07a500401e76f74c0ad40cc1d7e7d732436d3a44bc5"), looks := true }, kinds := [], alts := [], laidByText := true, laidKinds := [.handle], laidTests := true, laidLooks := .later }
def SyntaxHeadsCardSaid : Prop := Claim7.holds Tryd.pinned (.plain (OpenSpec.ofChange syntaxHeadsSpec)) syntaxHeadsCard

/-- THE TIED CARD OF 'kinlaw20.SyntaxPairs'. -/
def syntaxPairsCard : Claim7 := { stood := { row := syntaxPairsRow, standIns := [], harness := (true, "906fa68facf6e19176aaf07a500401e76f74c0ad40cc1d7e7d732436d3a44bc5"), looks := true }, kinds := [], alts := [], laidByText := true, laidKinds := [.handle, .data], laidTests := true, laidLooks := .later }
def SyntaxPairsCardSaid : Prop := Claim7.holds Tryd.pinned (.plain (OpenSpec.ofChange syntaxPairsSpec)) syntaxPairsCard

/-- THE TIED CARD OF 'kinlaw20.SyntaxKinds'. -/
def syntaxKindsCard : Claim7 := { stood := { row := syntaxKindsRow, standIns := [], harness := (true, "906fa68facf6e19176aaf07a500401e76f74c0ad40cc1d7e7d732436d3a44bc5"), looks := true }, kinds := [], alts := [], laidByText := true, laidKinds := [.handle], laidTests := true, laidLooks := .later }
def SyntaxKindsCardSaid : Prop := Claim7.holds Tryd.pinned (.plain (OpenSpec.ofChange syntaxKindsSpec)) syntaxKindsCard

/-- THE SECOND FORM's CARD OF 'kinlaw20.SyntaxHeads'. -/
def syntaxHeadsUptoCard : Claim7 := { stood := { row := syntaxHeadsUptoRow, standIns := [], harness := (true, "906fa68facf6e19176aaf07a500401e76f74c0ad40cc1d7e7d732436d3a44bc5"), looks := true }, kinds := [], alts := [], laidByText := true, laidKinds := [.handle], laidTests := true, laidLooks := .later }
def SyntaxHeadsUptoCardSaid : Prop := Claim7.holds Tryd.pinned (.plain (OpenSpec.upto syntaxHeadsSpec)) syntaxHeadsUptoCard

/-- THE SECOND FORM's CARD OF 'kinlaw20.SyntaxPairs'. -/
def syntaxPairsUptoCard : Claim7 := { stood := { row := syntaxPairsUptoRow, standIns := [], harness := (true, "906fa68facf6e19176aaf07a500401e76f74c0ad40cc1d7e7d732436d3a44bc5"), looks := true }, kinds := [], alts := [], laidByText := true, laidKinds := [.handle, .data], laidTests := true, laidLooks := .later }
def SyntaxPairsUptoCardSaid : Prop := Claim7.holds Tryd.pinned (.plain (OpenSpec.upto syntaxPairsSpec)) syntaxPairsUptoCard

/-- THE SECOND FORM's CARD OF 'kinlaw20.SyntaxKinds'. -/
def syntaxKindsUptoCard : Claim7 := { stood := { row := syntaxKindsUptoRow, standIns := [], harness := (true, "906fa68facf6e19176aaf07a500401e76f74c0ad40cc1d7e7d732436d3a44bc5"), looks := true }, kinds := [], alts := [], laidByText := true, laidKinds := [.handle], laidTests := true, laidLooks := .later }
def SyntaxKindsUptoCardSaid : Prop := Claim7.holds Tryd.pinned (.plain (OpenSpec.upto syntaxKindsSpec)) syntaxKindsUptoCard
end Rows
end Go.Proofs.YtpofabebmeickaaDoor
