/-
  DERIVED. GIVEN WITH THE SEED: THE CARDS: each row of YtmphochnmdmioaaDoorRows.lean that lists a variable, with what it lists TIED to the program's text (the seventh form; the later family's looks); each row that meets fmt, with fmt's text TOLD by the authors' own Lean function (tested against real Go, not proved from fmt's source: count such statements apart). THE CARD IS WHAT COUNTS. Prove the row's statement (the work); the ties are given (YtmphochnmdmioaaDoorTie.lean); close each card by the builder's one call (the guide's Derived/Test/ToyasCard.lean, 'card_holds'). Laid BY PROGRAM, IN A SANDBOX (cutbox-door.mjs). By AI agents, Wed Nov 11 2026. No macro, syntax, notation, axiom, sorry.
-/
import Derived.Test.YtmphochnmdmioaaDoorRows
import GoSem.ClaimSeven
namespace Go.Proofs.YtmphochnmdmioaaDoor
namespace Rows

/-- THE TIED CARD OF 'kinlaw26.LogPacks'. -/
def logPacksCard : Claim7 := { stood := { row := logPacksRow, standIns := [], harness := (true, "8e722b036b71e32823798e7b36c415183d1a813d72b3485b2be8b5287193f6e3"), looks := true }, kinds := [], alts := [], laidByText := true, laidKinds := [.handle, .data], laidTests := true, laidLooks := .later }
def LogPacksCardSaid : Prop := Claim7.holds Tryd.pinned (.plain (OpenSpec.ofChange logPacksSpec)) logPacksCard

/-- THE TIED CARD OF 'kinlaw26.LogScans'. -/
def logScansCard : Claim7 := { stood := { row := logScansRow, standIns := [], harness := (true, "8e722b036b71e32823798e7b36c415183d1a813d72b3485b2be8b5287193f6e3"), looks := true }, kinds := [], alts := [], laidByText := true, laidKinds := [.handle, .data], laidTests := true, laidLooks := .later }
def LogScansCardSaid : Prop := Claim7.holds Tryd.pinned (.plain (OpenSpec.ofChange logScansSpec)) logScansCard

/-- THE TIED CARD OF 'kinlaw26.LogKeys'. -/
def logKeysCard : Claim7 := { stood := { row := logKeysRow, standIns := [], harness := (true, "8e722b036b71e32823798e7b36c415183d1a813d72b3485b2be8b5287193f6e3"), looks := true }, kinds := [], alts := [], laidByText := true, laidKinds := [.handle, .data], laidTests := true, laidLooks := .later }
def LogKeysCardSaid : Prop := Claim7.holds Tryd.pinned (.plain (OpenSpec.ofChange logKeysSpec)) logKeysCard

/-- THE TIED CARD OF 'kinlaw26.LogBack'. -/
def logBackCard : Claim7 := { stood := { row := logBackRow, standIns := [], harness := (true, "8e722b036b71e32823798e7b36c415183d1a813d72b3485b2be8b5287193f6e3"), looks := true }, kinds := [], alts := [], laidByText := true, laidKinds := [.handle, .data], laidTests := true, laidLooks := .later }
def LogBackCardSaid : Prop := Claim7.holds Tryd.pinned (.plain (OpenSpec.ofChange logBackSpec)) logBackCard

/-- THE TIED CARD OF 'kinlaw26.LogAgain'. -/
def logAgainCard : Claim7 := { stood := { row := logAgainRow, standIns := [], harness := (true, "8e722b036b71e32823798e7b36c415183d1a813d72b3485b2be8b5287193f6e3"), looks := true }, kinds := [], alts := [], laidByText := true, laidKinds := [.handle, .data], laidTests := true, laidLooks := .later }
def LogAgainCardSaid : Prop := Claim7.holds Tryd.pinned (.plain (OpenSpec.ofChange logAgainSpec)) logAgainCard

/-- THE TIED CARD OF 'kinlaw26.LogJoins'. -/
def logJoinsCard : Claim7 := { stood := { row := logJoinsRow, standIns := [], harness := (true, "8e722b036b71e32823798e7b36c415183d1a813d72b3485b2be8b5287193f6e3"), looks := true }, kinds := [], alts := [], laidByText := true, laidKinds := [.handle, .data], laidTests := true, laidLooks := .later }
def LogJoinsCardSaid : Prop := Claim7.holds Tryd.pinned (.plain (OpenSpec.ofChange logJoinsSpec)) logJoinsCard

/-- THE SECOND FORM's CARD OF 'kinlaw26.LogPacks'. -/
def logPacksUptoCard : Claim7 := { stood := { row := logPacksUptoRow, standIns := [], harness := (true, "8e722b036b71e32823798e7b36c415183d1a813d72b3485b2be8b5287193f6e3"), looks := true }, kinds := [], alts := [], laidByText := true, laidKinds := [.handle, .data], laidTests := true, laidLooks := .later }
def LogPacksUptoCardSaid : Prop := Claim7.holds Tryd.pinned (.plain (OpenSpec.upto logPacksSpec)) logPacksUptoCard

/-- THE SECOND FORM's CARD OF 'kinlaw26.LogScans'. -/
def logScansUptoCard : Claim7 := { stood := { row := logScansUptoRow, standIns := [], harness := (true, "8e722b036b71e32823798e7b36c415183d1a813d72b3485b2be8b5287193f6e3"), looks := true }, kinds := [], alts := [], laidByText := true, laidKinds := [.handle, .data], laidTests := true, laidLooks := .later }
def LogScansUptoCardSaid : Prop := Claim7.holds Tryd.pinned (.plain (OpenSpec.upto logScansSpec)) logScansUptoCard

/-- THE SECOND FORM's CARD OF 'kinlaw26.LogKeys'. -/
def logKeysUptoCard : Claim7 := { stood := { row := logKeysUptoRow, standIns := [], harness := (true, "8e722b036b71e32823798e7b36c415183d1a813d72b3485b2be8b5287193f6e3"), looks := true }, kinds := [], alts := [], laidByText := true, laidKinds := [.handle, .data], laidTests := true, laidLooks := .later }
def LogKeysUptoCardSaid : Prop := Claim7.holds Tryd.pinned (.plain (OpenSpec.upto logKeysSpec)) logKeysUptoCard

/-- THE SECOND FORM's CARD OF 'kinlaw26.LogBack'. -/
def logBackUptoCard : Claim7 := { stood := { row := logBackUptoRow, standIns := [], harness := (true, "8e722b036b71e32823798e7b36c415183d1a813d72b3485b2be8b5287193f6e3"), looks := true }, kinds := [], alts := [], laidByText := true, laidKinds := [.handle, .data], laidTests := true, laidLooks := .later }
def LogBackUptoCardSaid : Prop := Claim7.holds Tryd.pinned (.plain (OpenSpec.upto logBackSpec)) logBackUptoCard

/-- THE SECOND FORM's CARD OF 'kinlaw26.LogAgain'. -/
def logAgainUptoCard : Claim7 := { stood := { row := logAgainUptoRow, standIns := [], harness := (true, "8e722b036b71e32823798e7b36c415183d1a813d72b3485b2be8b5287193f6e3"), looks := true }, kinds := [], alts := [], laidByText := true, laidKinds := [.handle, .data], laidTests := true, laidLooks := .later }
def LogAgainUptoCardSaid : Prop := Claim7.holds Tryd.pinned (.plain (OpenSpec.upto logAgainSpec)) logAgainUptoCard

/-- THE SECOND FORM's CARD OF 'kinlaw26.LogJoins'. -/
def logJoinsUptoCard : Claim7 := { stood := { row := logJoinsUptoRow, standIns := [], harness := (true, "8e722b036b71e32823798e7b36c415183d1a813d72b3485b2be8b5287193f6e3"), looks := true }, kinds := [], alts := [], laidByText := true, laidKinds := [.handle, .data], laidTests := true, laidLooks := .later }
def LogJoinsUptoCardSaid : Prop := Claim7.holds Tryd.pinned (.plain (OpenSpec.upto logJoinsSpec)) logJoinsUptoCard
end Rows
end Go.Proofs.YtmphochnmdmioaaDoor
