/-
  DERIVED. GIVEN WITH THE SEED: THE CARDS: each row of YtkjllhphpkmaiaaDoorRows.lean that lists a variable, with what it lists TIED to the program's text (the seventh form; the later family's looks); each row that meets fmt, with fmt's text TOLD by the authors' own Lean function (tested against real Go, not proved from fmt's source: count such statements apart). THE CARD IS WHAT COUNTS. Prove the row's statement (the work); the ties are given (YtkjllhphpkmaiaaDoorTie.lean); close each card by the builder's one call (the guide's Derived/Test/ToyasCard.lean, 'card_holds'). Laid BY PROGRAM, IN A SANDBOX (cutbox-door.mjs). By AI agents, Wed Nov 11 2026. No macro, syntax, notation, axiom, sorry.
-/
import Derived.Test.YtkjllhphpkmaiaaDoorRows
import GoSem.ClaimSeven
namespace Go.Proofs.YtkjllhphpkmaiaaDoor
namespace Rows

/-- THE TIED CARD OF 'kinlaw4.UnitMakes'. -/
def unitMakesCard : Claim7 := { stood := { row := unitMakesRow, standIns := [], harness := (true, "5759c1b6c651f3c435f9629520776e1c79fc4a3f6cfa75f2bf829c317831d053"), looks := true }, kinds := [], alts := [], laidByText := true, laidKinds := [.handle, .data], laidTests := true, laidLooks := .later }
def UnitMakesCardSaid : Prop := Claim7.holds Tryd.pinned (.plain (OpenSpec.ofChange unitMakesSpec)) unitMakesCard

/-- THE TIED CARD OF 'kinlaw4.UnitLong'. -/
def unitLongCard : Claim7 := { stood := { row := unitLongRow, standIns := [], harness := (true, "5759c1b6c651f3c435f9629520776e1c79fc4a3f6cfa75f2bf829c317831d053"), looks := true }, kinds := [], alts := [], laidByText := true, laidKinds := [.handle, .data], laidTests := true, laidLooks := .later }
def UnitLongCardSaid : Prop := Claim7.holds Tryd.pinned (.plain (OpenSpec.ofChange unitLongSpec)) unitLongCard

/-- THE TIED CARD OF 'kinlaw4.UnitNexts'. -/
def unitNextsCard : Claim7 := { stood := { row := unitNextsRow, standIns := [], harness := (true, "5759c1b6c651f3c435f9629520776e1c79fc4a3f6cfa75f2bf829c317831d053"), looks := true }, kinds := [], alts := [], laidByText := true, laidKinds := [.handle, .data], laidTests := true, laidLooks := .later }
def UnitNextsCardSaid : Prop := Claim7.holds Tryd.pinned (.plain (OpenSpec.ofChange unitNextsSpec)) unitNextsCard

/-- THE TIED CARD OF 'kinlaw4.UnitSplits'. -/
def unitSplitsCard : Claim7 := { stood := { row := unitSplitsRow, standIns := [], harness := (true, "5759c1b6c651f3c435f9629520776e1c79fc4a3f6cfa75f2bf829c317831d053"), looks := true }, kinds := [], alts := [], laidByText := true, laidKinds := [.handle, .data], laidTests := true, laidLooks := .later }
def UnitSplitsCardSaid : Prop := Claim7.holds Tryd.pinned (.plain (OpenSpec.ofChange unitSplitsSpec)) unitSplitsCard

/-- THE TIED CARD OF 'kinlaw4.UnitBack'. -/
def unitBackCard : Claim7 := { stood := { row := unitBackRow, standIns := [], harness := (true, "5759c1b6c651f3c435f9629520776e1c79fc4a3f6cfa75f2bf829c317831d053"), looks := true }, kinds := [], alts := [], laidByText := true, laidKinds := [.handle, .data], laidTests := true, laidLooks := .later }
def UnitBackCardSaid : Prop := Claim7.holds Tryd.pinned (.plain (OpenSpec.ofChange unitBackSpec)) unitBackCard

/-- THE TIED CARD OF 'kinlaw4.UnitTurned'. -/
def unitTurnedCard : Claim7 := { stood := { row := unitTurnedRow, standIns := [], harness := (true, "5759c1b6c651f3c435f9629520776e1c79fc4a3f6cfa75f2bf829c317831d053"), looks := true }, kinds := [], alts := [], laidByText := true, laidKinds := [.handle, .data], laidTests := true, laidLooks := .later }
def UnitTurnedCardSaid : Prop := Claim7.holds Tryd.pinned (.plain (OpenSpec.ofChange unitTurnedSpec)) unitTurnedCard

/-- THE TIED CARD OF 'kinlaw4.UnitJoins'. -/
def unitJoinsCard : Claim7 := { stood := { row := unitJoinsRow, standIns := [], harness := (true, "5759c1b6c651f3c435f9629520776e1c79fc4a3f6cfa75f2bf829c317831d053"), looks := true }, kinds := [], alts := [], laidByText := true, laidKinds := [.handle, .data], laidTests := true, laidLooks := .later }
def UnitJoinsCardSaid : Prop := Claim7.holds Tryd.pinned (.plain (OpenSpec.ofChange unitJoinsSpec)) unitJoinsCard

/-- THE SECOND FORM's CARD OF 'kinlaw4.UnitMakes'. -/
def unitMakesUptoCard : Claim7 := { stood := { row := unitMakesUptoRow, standIns := [], harness := (true, "5759c1b6c651f3c435f9629520776e1c79fc4a3f6cfa75f2bf829c317831d053"), looks := true }, kinds := [], alts := [], laidByText := true, laidKinds := [.handle, .data], laidTests := true, laidLooks := .later }
def UnitMakesUptoCardSaid : Prop := Claim7.holds Tryd.pinned (.plain (OpenSpec.upto unitMakesSpec)) unitMakesUptoCard

/-- THE SECOND FORM's CARD OF 'kinlaw4.UnitLong'. -/
def unitLongUptoCard : Claim7 := { stood := { row := unitLongUptoRow, standIns := [], harness := (true, "5759c1b6c651f3c435f9629520776e1c79fc4a3f6cfa75f2bf829c317831d053"), looks := true }, kinds := [], alts := [], laidByText := true, laidKinds := [.handle, .data], laidTests := true, laidLooks := .later }
def UnitLongUptoCardSaid : Prop := Claim7.holds Tryd.pinned (.plain (OpenSpec.upto unitLongSpec)) unitLongUptoCard

/-- THE SECOND FORM's CARD OF 'kinlaw4.UnitNexts'. -/
def unitNextsUptoCard : Claim7 := { stood := { row := unitNextsUptoRow, standIns := [], harness := (true, "5759c1b6c651f3c435f9629520776e1c79fc4a3f6cfa75f2bf829c317831d053"), looks := true }, kinds := [], alts := [], laidByText := true, laidKinds := [.handle, .data], laidTests := true, laidLooks := .later }
def UnitNextsUptoCardSaid : Prop := Claim7.holds Tryd.pinned (.plain (OpenSpec.upto unitNextsSpec)) unitNextsUptoCard

/-- THE SECOND FORM's CARD OF 'kinlaw4.UnitSplits'. -/
def unitSplitsUptoCard : Claim7 := { stood := { row := unitSplitsUptoRow, standIns := [], harness := (true, "5759c1b6c651f3c435f9629520776e1c79fc4a3f6cfa75f2bf829c317831d053"), looks := true }, kinds := [], alts := [], laidByText := true, laidKinds := [.handle, .data], laidTests := true, laidLooks := .later }
def UnitSplitsUptoCardSaid : Prop := Claim7.holds Tryd.pinned (.plain (OpenSpec.upto unitSplitsSpec)) unitSplitsUptoCard

/-- THE SECOND FORM's CARD OF 'kinlaw4.UnitBack'. -/
def unitBackUptoCard : Claim7 := { stood := { row := unitBackUptoRow, standIns := [], harness := (true, "5759c1b6c651f3c435f9629520776e1c79fc4a3f6cfa75f2bf829c317831d053"), looks := true }, kinds := [], alts := [], laidByText := true, laidKinds := [.handle, .data], laidTests := true, laidLooks := .later }
def UnitBackUptoCardSaid : Prop := Claim7.holds Tryd.pinned (.plain (OpenSpec.upto unitBackSpec)) unitBackUptoCard

/-- THE SECOND FORM's CARD OF 'kinlaw4.UnitTurned'. -/
def unitTurnedUptoCard : Claim7 := { stood := { row := unitTurnedUptoRow, standIns := [], harness := (true, "5759c1b6c651f3c435f9629520776e1c79fc4a3f6cfa75f2bf829c317831d053"), looks := true }, kinds := [], alts := [], laidByText := true, laidKinds := [.handle, .data], laidTests := true, laidLooks := .later }
def UnitTurnedUptoCardSaid : Prop := Claim7.holds Tryd.pinned (.plain (OpenSpec.upto unitTurnedSpec)) unitTurnedUptoCard

/-- THE SECOND FORM's CARD OF 'kinlaw4.UnitJoins'. -/
def unitJoinsUptoCard : Claim7 := { stood := { row := unitJoinsUptoRow, standIns := [], harness := (true, "5759c1b6c651f3c435f9629520776e1c79fc4a3f6cfa75f2bf829c317831d053"), looks := true }, kinds := [], alts := [], laidByText := true, laidKinds := [.handle, .data], laidTests := true, laidLooks := .later }
def UnitJoinsUptoCardSaid : Prop := Claim7.holds Tryd.pinned (.plain (OpenSpec.upto unitJoinsSpec)) unitJoinsUptoCard
end Rows
end Go.Proofs.YtkjllhphpkmaiaaDoor
