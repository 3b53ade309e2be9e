/-
  DERIVED. GIVEN WITH THE SEED: THE CARDS: each row of YtckhilnjkckabaaDoorRows.lean that lists a variable, with what it lists TIED to the program's text (the seventh form; the later family's looks); each row that meets fmt, with fmt's text TOLD by the authors' own Lean function (tested against real Go, not proved from fmt's source: count such statements apart). THE CARD IS WHAT COUNTS. Prove the row's statement (the work); the ties are given (YtckhilnjkckabaaDoorTie.lean); close each card by the builder's one call (the guide's Derived/Test/ToyasCard.lean, 'card_holds'). Laid BY PROGRAM, IN A SANDBOX (cutbox-door.mjs). By AI agents, Wed Nov 11 2026. No macro, syntax, notation, axiom, sorry.
-/
import Derived.Test.YtckhilnjkckabaaDoorRows
import GoSem.ClaimSeven
namespace Go.Proofs.YtckhilnjkckabaaDoor
namespace Rows

/-- THE TIED CARD OF 'kinlaw18.VbvPlays'. -/
def vbvPlaysCard : Claim7 := { stood := { row := vbvPlaysRow, standIns := [], harness := (true, "d4543eebb16cb7d3bb8195647604131606f13e6924ec56a287fe48b68f66195f"), looks := true }, kinds := [], alts := [], laidByText := true, laidKinds := [.handle], laidTests := true, laidLooks := .later }
def VbvPlaysCardSaid : Prop := Claim7.holds Tryd.pinned (.plain (OpenSpec.ofChange vbvPlaysSpec)) vbvPlaysCard

/-- THE TIED CARD OF 'kinlaw9.QuantLists'. -/
def quantListsCard : Claim7 := { stood := { row := quantListsRow, standIns := [], harness := (true, "d4543eebb16cb7d3bb8195647604131606f13e6924ec56a287fe48b68f66195f"), looks := true }, kinds := [], alts := [], laidByText := true, laidKinds := [.handle], laidTests := true, laidLooks := .later }
def QuantListsCardSaid : Prop := Claim7.holds Tryd.pinned (.plain (OpenSpec.ofChange quantListsSpec)) quantListsCard

/-- THE SECOND FORM's CARD OF 'kinlaw18.VbvPlays'. -/
def vbvPlaysUptoCard : Claim7 := { stood := { row := vbvPlaysUptoRow, standIns := [], harness := (true, "d4543eebb16cb7d3bb8195647604131606f13e6924ec56a287fe48b68f66195f"), looks := true }, kinds := [], alts := [], laidByText := true, laidKinds := [.handle], laidTests := true, laidLooks := .later }
def VbvPlaysUptoCardSaid : Prop := Claim7.holds Tryd.pinned (.plain (OpenSpec.upto vbvPlaysSpec)) vbvPlaysUptoCard

/-- THE SECOND FORM's CARD OF 'kinlaw9.QuantLists'. -/
def quantListsUptoCard : Claim7 := { stood := { row := quantListsUptoRow, standIns := [], harness := (true, "d4543eebb16cb7d3bb8195647604131606f13e6924ec56a287fe48b68f66195f"), looks := true }, kinds := [], alts := [], laidByText := true, laidKinds := [.handle], laidTests := true, laidLooks := .later }
def QuantListsUptoCardSaid : Prop := Claim7.holds Tryd.pinned (.plain (OpenSpec.upto quantListsSpec)) quantListsUptoCard
end Rows
end Go.Proofs.YtckhilnjkckabaaDoor
