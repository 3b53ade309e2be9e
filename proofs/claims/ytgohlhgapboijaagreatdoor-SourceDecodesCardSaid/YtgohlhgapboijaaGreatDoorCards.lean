/-
  DERIVED. GIVEN WITH THE SEED: THE CARDS: each row of YtgohlhgapboijaaGreatDoorRows.lean that lists a variable, with what it lists TIED to the program's text (the seventh form; the later family's looks); each row that meets fmt, with fmt's text TOLD by the authors' own Lean function (tested against real Go, not proved from fmt's source: count such statements apart). THE CARD IS WHAT COUNTS. Prove the row's statement (the work); the ties are given (YtgohlhgapboijaaGreatDoorTie.lean); close each card by the builder's one call (the guide's Derived/Test/ToyasCard.lean, 'card_holds'). Laid BY PROGRAM, IN A SANDBOX (cutbox-door.mjs). By AI agents, Wed Nov 11 2026. No macro, syntax, notation, axiom, sorry.
-/
import Derived.Test.YtgohlhgapboijaaGreatDoorRows
import GoSem.ClaimSeven
namespace Go.Proofs.YtgohlhgapboijaaGreatDoor
namespace Rows

/-- THE TIED CARD OF 'kinlaw15.SourceEncodes'. -/
def sourceEncodesCard : Claim7 := { stood := { row := sourceEncodesRow, standIns := [], harness := (true, "9ad12736c28bda94ed82103e4880266eeda1a64e5bc877ef1845859ba554cdbf"), looks := true }, kinds := [], alts := [], laidByText := true, laidKinds := [.data, .data, .data, .handle], laidTests := true, laidLooks := .later }
def SourceEncodesCardSaid : Prop := Claim7.holds Tryz.pinned (.plain (OpenSpec.ofChange sourceEncodesSpec)) sourceEncodesCard

/-- THE TIED CARD OF 'kinlaw15.SourceDecodes'. -/
def sourceDecodesCard : Claim7 := { stood := { row := sourceDecodesRow, standIns := [], harness := (true, "9ad12736c28bda94ed82103e4880266eeda1a64e5bc877ef1845859ba554cdbf"), looks := true }, kinds := [], alts := [], laidByText := true, laidKinds := [.data, .data, .data, .handle], laidTests := true, laidLooks := .later }
def SourceDecodesCardSaid : Prop := Claim7.holds Tryz.pinned (.plain (OpenSpec.ofChange sourceDecodesSpec)) sourceDecodesCard

/-- THE SECOND FORM's CARD OF 'kinlaw15.SourceEncodes'. -/
def sourceEncodesUptoCard : Claim7 := { stood := { row := sourceEncodesUptoRow, standIns := [], harness := (true, "9ad12736c28bda94ed82103e4880266eeda1a64e5bc877ef1845859ba554cdbf"), looks := true }, kinds := [], alts := [], laidByText := true, laidKinds := [.data, .data, .data, .handle], laidTests := true, laidLooks := .later }
def SourceEncodesUptoCardSaid : Prop := Claim7.holds Tryz.pinned (.plain (OpenSpec.upto sourceEncodesSpec)) sourceEncodesUptoCard

/-- THE SECOND FORM's CARD OF 'kinlaw15.SourceDecodes'. -/
def sourceDecodesUptoCard : Claim7 := { stood := { row := sourceDecodesUptoRow, standIns := [], harness := (true, "9ad12736c28bda94ed82103e4880266eeda1a64e5bc877ef1845859ba554cdbf"), looks := true }, kinds := [], alts := [], laidByText := true, laidKinds := [.data, .data, .data, .handle], laidTests := true, laidLooks := .later }
def SourceDecodesUptoCardSaid : Prop := Claim7.holds Tryz.pinned (.plain (OpenSpec.upto sourceDecodesSpec)) sourceDecodesUptoCard
end Rows
end Go.Proofs.YtgohlhgapboijaaGreatDoor
