/-
  DERIVED. GIVEN WITH THE SEED: THE CARDS: each row of YtgohlhgapboijaaDoorRows.lean that lists a variable, with what it lists TIED to the program's text (the seventh form; the later family's looks); each row that meets fmt, with fmt's text TOLD by the authors' own Lean function (tested against real Go, not proved from fmt's source: count such statements apart). THE CARD IS WHAT COUNTS. Prove the row's statement (the work); the ties are given (YtgohlhgapboijaaDoorTie.lean); close each card by the builder's one call (the guide's Derived/Test/ToyasCard.lean, 'card_holds'). Laid BY PROGRAM, IN A SANDBOX (cutbox-door.mjs). By AI agents, Wed Nov 11 2026. No macro, syntax, notation, axiom, sorry.
-/
import Derived.Test.YtgohlhgapboijaaDoorRows
import GoSem.ClaimSeven
namespace Go.Proofs.YtgohlhgapboijaaDoor
namespace Rows

/-- THE TIED CARD OF 'kinlaw1.FaultSays'. -/
def faultSaysCard : Claim7 := { stood := { row := faultSaysRow, standIns := [], harness := (true, "3e8c0a8dcac05c08c483f207d50b1dd795ebd0882b44996355596e2d4ff406e4"), looks := true }, kinds := [], alts := [], laidByText := true, laidKinds := [.data, .data, .data, .handle], laidTests := true, laidLooks := .later }
def FaultSaysCardSaid : Prop := Claim7.holds Tryd.pinned (.plain (OpenSpec.ofChange faultSaysSpec)) faultSaysCard

/-- THE TIED CARD OF 'kinlaw1.FaultFinds'. -/
def faultFindsCard : Claim7 := { stood := { row := faultFindsRow, standIns := [], harness := (true, "3e8c0a8dcac05c08c483f207d50b1dd795ebd0882b44996355596e2d4ff406e4"), looks := true }, kinds := [], alts := [], laidByText := true, laidKinds := [.data, .data, .data, .handle], laidTests := true, laidLooks := .later }
def FaultFindsCardSaid : Prop := Claim7.holds Tryd.pinned (.plain (OpenSpec.ofChange faultFindsSpec)) faultFindsCard

/-- THE TIED CARD OF 'kinlaw1.FaultOther'. -/
def faultOtherCard : Claim7 := { stood := { row := faultOtherRow, standIns := [], harness := (true, "3e8c0a8dcac05c08c483f207d50b1dd795ebd0882b44996355596e2d4ff406e4"), looks := true }, kinds := [], alts := [], laidByText := true, laidKinds := [.data, .data, .data, .handle], laidTests := true, laidLooks := .later }
def FaultOtherCardSaid : Prop := Claim7.holds Tryd.pinned (.plain (OpenSpec.ofChange faultOtherSpec)) faultOtherCard

/-- THE TIED CARD OF 'kinlaw1.FaultSame'. -/
def faultSameCard : Claim7 := { stood := { row := faultSameRow, standIns := [], harness := (true, "3e8c0a8dcac05c08c483f207d50b1dd795ebd0882b44996355596e2d4ff406e4"), looks := true }, kinds := [], alts := [], laidByText := true, laidKinds := [.data, .data, .data, .handle], laidTests := true, laidLooks := .later }
def FaultSameCardSaid : Prop := Claim7.holds Tryd.pinned (.plain (OpenSpec.ofChange faultSameSpec)) faultSameCard

/-- THE TIED CARD OF 'kinlaw1.FaultMade'. -/
def faultMadeCard : Claim7 := { stood := { row := faultMadeRow, standIns := [], harness := (true, "3e8c0a8dcac05c08c483f207d50b1dd795ebd0882b44996355596e2d4ff406e4"), looks := true }, kinds := [], alts := [], laidByText := true, laidKinds := [.data, .data, .data, .handle], laidTests := true, laidLooks := .later }
def FaultMadeCardSaid : Prop := Claim7.holds Tryd.pinned (.plain (OpenSpec.ofChange faultMadeSpec)) faultMadeCard

/-- THE TIED CARD OF 'kinlaw1.FaultJoins'. -/
def faultJoinsCard : Claim7 := { stood := { row := faultJoinsRow, standIns := [], harness := (true, "3e8c0a8dcac05c08c483f207d50b1dd795ebd0882b44996355596e2d4ff406e4"), looks := true }, kinds := [], alts := [], laidByText := true, laidKinds := [.data, .data, .data, .handle], laidTests := true, laidLooks := .later }
def FaultJoinsCardSaid : Prop := Claim7.holds Tryd.pinned (.plain (OpenSpec.ofChange faultJoinsSpec)) faultJoinsCard

/-- THE TIED CARD OF 'kinlaw15.SourceGuesses'. -/
def sourceGuessesCard : Claim7 := { stood := { row := sourceGuessesRow, standIns := [], harness := (true, "3e8c0a8dcac05c08c483f207d50b1dd795ebd0882b44996355596e2d4ff406e4"), looks := true }, kinds := [], alts := [], laidByText := true, laidKinds := [.data, .data, .data, .handle], laidTests := true, laidLooks := .later }
def SourceGuessesCardSaid : Prop := Claim7.holds Tryd.pinned (.plain (OpenSpec.ofChange sourceGuessesSpec)) sourceGuessesCard

/-- THE TIED CARD OF 'kinlaw15.SourceBack'. -/
def sourceBackCard : Claim7 := { stood := { row := sourceBackRow, standIns := [], harness := (true, "3e8c0a8dcac05c08c483f207d50b1dd795ebd0882b44996355596e2d4ff406e4"), looks := true }, kinds := [], alts := [], laidByText := true, laidKinds := [.data, .data, .data, .handle], laidTests := true, laidLooks := .later }
def SourceBackCardSaid : Prop := Claim7.holds Tryd.pinned (.plain (OpenSpec.ofChange sourceBackSpec)) sourceBackCard

/-- THE TIED CARD OF 'kinlaw15.SourceTotal'. -/
def sourceTotalCard : Claim7 := { stood := { row := sourceTotalRow, standIns := [], harness := (true, "3e8c0a8dcac05c08c483f207d50b1dd795ebd0882b44996355596e2d4ff406e4"), looks := true }, kinds := [], alts := [], laidByText := true, laidKinds := [.data, .data, .data, .handle], laidTests := true, laidLooks := .later }
def SourceTotalCardSaid : Prop := Claim7.holds Tryd.pinned (.plain (OpenSpec.ofChange sourceTotalSpec)) sourceTotalCard

/-- THE TIED CARD OF 'kinlaw15.SourceHeads'. -/
def sourceHeadsCard : Claim7 := { stood := { row := sourceHeadsRow, standIns := [], harness := (true, "3e8c0a8dcac05c08c483f207d50b1dd795ebd0882b44996355596e2d4ff406e4"), looks := true }, kinds := [], alts := [], laidByText := true, laidKinds := [.data, .data, .data, .handle], laidTests := true, laidLooks := .later }
def SourceHeadsCardSaid : Prop := Claim7.holds Tryd.pinned (.plain (OpenSpec.ofChange sourceHeadsSpec)) sourceHeadsCard

/-- THE SECOND FORM's CARD OF 'kinlaw1.FaultSays'. -/
def faultSaysUptoCard : Claim7 := { stood := { row := faultSaysUptoRow, standIns := [], harness := (true, "3e8c0a8dcac05c08c483f207d50b1dd795ebd0882b44996355596e2d4ff406e4"), looks := true }, kinds := [], alts := [], laidByText := true, laidKinds := [.data, .data, .data, .handle], laidTests := true, laidLooks := .later }
def FaultSaysUptoCardSaid : Prop := Claim7.holds Tryd.pinned (.plain (OpenSpec.upto faultSaysSpec)) faultSaysUptoCard

/-- THE SECOND FORM's CARD OF 'kinlaw1.FaultFinds'. -/
def faultFindsUptoCard : Claim7 := { stood := { row := faultFindsUptoRow, standIns := [], harness := (true, "3e8c0a8dcac05c08c483f207d50b1dd795ebd0882b44996355596e2d4ff406e4"), looks := true }, kinds := [], alts := [], laidByText := true, laidKinds := [.data, .data, .data, .handle], laidTests := true, laidLooks := .later }
def FaultFindsUptoCardSaid : Prop := Claim7.holds Tryd.pinned (.plain (OpenSpec.upto faultFindsSpec)) faultFindsUptoCard

/-- THE SECOND FORM's CARD OF 'kinlaw1.FaultOther'. -/
def faultOtherUptoCard : Claim7 := { stood := { row := faultOtherUptoRow, standIns := [], harness := (true, "3e8c0a8dcac05c08c483f207d50b1dd795ebd0882b44996355596e2d4ff406e4"), looks := true }, kinds := [], alts := [], laidByText := true, laidKinds := [.data, .data, .data, .handle], laidTests := true, laidLooks := .later }
def FaultOtherUptoCardSaid : Prop := Claim7.holds Tryd.pinned (.plain (OpenSpec.upto faultOtherSpec)) faultOtherUptoCard

/-- THE SECOND FORM's CARD OF 'kinlaw1.FaultSame'. -/
def faultSameUptoCard : Claim7 := { stood := { row := faultSameUptoRow, standIns := [], harness := (true, "3e8c0a8dcac05c08c483f207d50b1dd795ebd0882b44996355596e2d4ff406e4"), looks := true }, kinds := [], alts := [], laidByText := true, laidKinds := [.data, .data, .data, .handle], laidTests := true, laidLooks := .later }
def FaultSameUptoCardSaid : Prop := Claim7.holds Tryd.pinned (.plain (OpenSpec.upto faultSameSpec)) faultSameUptoCard

/-- THE SECOND FORM's CARD OF 'kinlaw1.FaultMade'. -/
def faultMadeUptoCard : Claim7 := { stood := { row := faultMadeUptoRow, standIns := [], harness := (true, "3e8c0a8dcac05c08c483f207d50b1dd795ebd0882b44996355596e2d4ff406e4"), looks := true }, kinds := [], alts := [], laidByText := true, laidKinds := [.data, .data, .data, .handle], laidTests := true, laidLooks := .later }
def FaultMadeUptoCardSaid : Prop := Claim7.holds Tryd.pinned (.plain (OpenSpec.upto faultMadeSpec)) faultMadeUptoCard

/-- THE SECOND FORM's CARD OF 'kinlaw1.FaultJoins'. -/
def faultJoinsUptoCard : Claim7 := { stood := { row := faultJoinsUptoRow, standIns := [], harness := (true, "3e8c0a8dcac05c08c483f207d50b1dd795ebd0882b44996355596e2d4ff406e4"), looks := true }, kinds := [], alts := [], laidByText := true, laidKinds := [.data, .data, .data, .handle], laidTests := true, laidLooks := .later }
def FaultJoinsUptoCardSaid : Prop := Claim7.holds Tryd.pinned (.plain (OpenSpec.upto faultJoinsSpec)) faultJoinsUptoCard

/-- THE SECOND FORM's CARD OF 'kinlaw15.SourceGuesses'. -/
def sourceGuessesUptoCard : Claim7 := { stood := { row := sourceGuessesUptoRow, standIns := [], harness := (true, "3e8c0a8dcac05c08c483f207d50b1dd795ebd0882b44996355596e2d4ff406e4"), looks := true }, kinds := [], alts := [], laidByText := true, laidKinds := [.data, .data, .data, .handle], laidTests := true, laidLooks := .later }
def SourceGuessesUptoCardSaid : Prop := Claim7.holds Tryd.pinned (.plain (OpenSpec.upto sourceGuessesSpec)) sourceGuessesUptoCard

/-- THE SECOND FORM's CARD OF 'kinlaw15.SourceBack'. -/
def sourceBackUptoCard : Claim7 := { stood := { row := sourceBackUptoRow, standIns := [], harness := (true, "3e8c0a8dcac05c08c483f207d50b1dd795ebd0882b44996355596e2d4ff406e4"), looks := true }, kinds := [], alts := [], laidByText := true, laidKinds := [.data, .data, .data, .handle], laidTests := true, laidLooks := .later }
def SourceBackUptoCardSaid : Prop := Claim7.holds Tryd.pinned (.plain (OpenSpec.upto sourceBackSpec)) sourceBackUptoCard

/-- THE SECOND FORM's CARD OF 'kinlaw15.SourceTotal'. -/
def sourceTotalUptoCard : Claim7 := { stood := { row := sourceTotalUptoRow, standIns := [], harness := (true, "3e8c0a8dcac05c08c483f207d50b1dd795ebd0882b44996355596e2d4ff406e4"), looks := true }, kinds := [], alts := [], laidByText := true, laidKinds := [.data, .data, .data, .handle], laidTests := true, laidLooks := .later }
def SourceTotalUptoCardSaid : Prop := Claim7.holds Tryd.pinned (.plain (OpenSpec.upto sourceTotalSpec)) sourceTotalUptoCard

/-- THE SECOND FORM's CARD OF 'kinlaw15.SourceHeads'. -/
def sourceHeadsUptoCard : Claim7 := { stood := { row := sourceHeadsUptoRow, standIns := [], harness := (true, "3e8c0a8dcac05c08c483f207d50b1dd795ebd0882b44996355596e2d4ff406e4"), looks := true }, kinds := [], alts := [], laidByText := true, laidKinds := [.data, .data, .data, .handle], laidTests := true, laidLooks := .later }
def SourceHeadsUptoCardSaid : Prop := Claim7.holds Tryd.pinned (.plain (OpenSpec.upto sourceHeadsSpec)) sourceHeadsUptoCard
end Rows
end Go.Proofs.YtgohlhgapboijaaDoor
