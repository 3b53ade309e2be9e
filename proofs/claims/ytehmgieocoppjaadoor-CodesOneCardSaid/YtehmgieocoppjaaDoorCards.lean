/-
  DERIVED. GIVEN WITH THE SEED: THE CARDS: each row of YtehmgieocoppjaaDoorRows.lean that lists a variable, with what it lists TIED to the program's text (the seventh form; the later family's looks); each row that meets fmt, with fmt's text TOLD by the authors' own Lean function (tested against real Go, not proved from fmt's source: count such statements apart). THE CARD IS WHAT COUNTS. Prove the row's statement (the work); the ties are given (YtehmgieocoppjaaDoorTie.lean); close each card by the builder's one call (the guide's Derived/Test/ToyasCard.lean, 'card_holds'). Laid BY PROGRAM, IN A SANDBOX (cutbox-door.mjs). By AI agents, Wed Nov 11 2026. No macro, syntax, notation, axiom, sorry.
-/
import Derived.Test.YtehmgieocoppjaaDoorRows
import GoSem.ClaimSeven
namespace Go.Proofs.YtehmgieocoppjaaDoor
namespace Rows

/-- THE TIED CARD OF 'kinlaw2.BitsWrites'. -/
def bitsWritesCard : Claim7 := { stood := { row := bitsWritesRow, standIns := [], harness := (true, "8df1bc16d213bf6d95dc3b17cc0c96a95744450acb8f0033461d66367df3c05a"), looks := true }, kinds := [], alts := [], laidByText := true, laidKinds := [.handle], laidTests := true, laidLooks := .later }
def BitsWritesCardSaid : Prop := Claim7.holds Tryd.pinned (.plain (OpenSpec.ofChange bitsWritesSpec)) bitsWritesCard

/-- THE TIED CARD OF 'kinlaw3.CodesPuts'. -/
def codesPutsCard : Claim7 := { stood := { row := codesPutsRow, standIns := [], harness := (true, "8df1bc16d213bf6d95dc3b17cc0c96a95744450acb8f0033461d66367df3c05a"), looks := true }, kinds := [], alts := [], laidByText := true, laidKinds := [.handle], laidTests := true, laidLooks := .later }
def CodesPutsCardSaid : Prop := Claim7.holds Tryd.pinned (.plain (OpenSpec.ofChange codesPutsSpec)) codesPutsCard

/-- THE TIED CARD OF 'kinlaw3.CodesGets'. -/
def codesGetsCard : Claim7 := { stood := { row := codesGetsRow, standIns := [], harness := (true, "8df1bc16d213bf6d95dc3b17cc0c96a95744450acb8f0033461d66367df3c05a"), looks := true }, kinds := [], alts := [], laidByText := true, laidKinds := [.handle], laidTests := true, laidLooks := .later }
def CodesGetsCardSaid : Prop := Claim7.holds Tryd.pinned (.plain (OpenSpec.ofChange codesGetsSpec)) codesGetsCard

/-- THE TIED CARD OF 'kinlaw3.CodesFolds'. -/
def codesFoldsCard : Claim7 := { stood := { row := codesFoldsRow, standIns := [], harness := (true, "8df1bc16d213bf6d95dc3b17cc0c96a95744450acb8f0033461d66367df3c05a"), looks := true }, kinds := [], alts := [], laidByText := true, laidKinds := [.handle], laidTests := true, laidLooks := .later }
def CodesFoldsCardSaid : Prop := Claim7.holds Tryd.pinned (.plain (OpenSpec.ofChange codesFoldsSpec)) codesFoldsCard

/-- THE TIED CARD OF 'kinlaw3.CodesBack'. -/
def codesBackCard : Claim7 := { stood := { row := codesBackRow, standIns := [], harness := (true, "8df1bc16d213bf6d95dc3b17cc0c96a95744450acb8f0033461d66367df3c05a"), looks := true }, kinds := [], alts := [], laidByText := true, laidKinds := [.handle], laidTests := true, laidLooks := .later }
def CodesBackCardSaid : Prop := Claim7.holds Tryd.pinned (.plain (OpenSpec.ofChange codesBackSpec)) codesBackCard

/-- THE TIED CARD OF 'kinlaw3.CodesUnfolds'. -/
def codesUnfoldsCard : Claim7 := { stood := { row := codesUnfoldsRow, standIns := [], harness := (true, "8df1bc16d213bf6d95dc3b17cc0c96a95744450acb8f0033461d66367df3c05a"), looks := true }, kinds := [], alts := [], laidByText := true, laidKinds := [.handle], laidTests := true, laidLooks := .later }
def CodesUnfoldsCardSaid : Prop := Claim7.holds Tryd.pinned (.plain (OpenSpec.ofChange codesUnfoldsSpec)) codesUnfoldsCard

/-- THE TIED CARD OF 'kinlaw3.CodesBounds'. -/
def codesBoundsCard : Claim7 := { stood := { row := codesBoundsRow, standIns := [], harness := (true, "8df1bc16d213bf6d95dc3b17cc0c96a95744450acb8f0033461d66367df3c05a"), looks := true }, kinds := [], alts := [], laidByText := true, laidKinds := [.handle], laidTests := true, laidLooks := .later }
def CodesBoundsCardSaid : Prop := Claim7.holds Tryd.pinned (.plain (OpenSpec.ofChange codesBoundsSpec)) codesBoundsCard

/-- THE TIED CARD OF 'kinlaw3.CodesRises'. -/
def codesRisesCard : Claim7 := { stood := { row := codesRisesRow, standIns := [], harness := (true, "8df1bc16d213bf6d95dc3b17cc0c96a95744450acb8f0033461d66367df3c05a"), looks := true }, kinds := [], alts := [], laidByText := true, laidKinds := [.handle], laidTests := true, laidLooks := .later }
def CodesRisesCardSaid : Prop := Claim7.holds Tryd.pinned (.plain (OpenSpec.ofChange codesRisesSpec)) codesRisesCard

/-- THE TIED CARD OF 'kinlaw3.CodesOne'. -/
def codesOneCard : Claim7 := { stood := { row := codesOneRow, standIns := [], harness := (true, "8df1bc16d213bf6d95dc3b17cc0c96a95744450acb8f0033461d66367df3c05a"), looks := true }, kinds := [], alts := [], laidByText := true, laidKinds := [.handle], laidTests := true, laidLooks := .later }
def CodesOneCardSaid : Prop := Claim7.holds Tryd.pinned (.plain (OpenSpec.ofChange codesOneSpec)) codesOneCard

/-- THE SECOND FORM's CARD OF 'kinlaw2.BitsWrites'. -/
def bitsWritesUptoCard : Claim7 := { stood := { row := bitsWritesUptoRow, standIns := [], harness := (true, "8df1bc16d213bf6d95dc3b17cc0c96a95744450acb8f0033461d66367df3c05a"), looks := true }, kinds := [], alts := [], laidByText := true, laidKinds := [.handle], laidTests := true, laidLooks := .later }
def BitsWritesUptoCardSaid : Prop := Claim7.holds Tryd.pinned (.plain (OpenSpec.upto bitsWritesSpec)) bitsWritesUptoCard

/-- THE SECOND FORM's CARD OF 'kinlaw3.CodesPuts'. -/
def codesPutsUptoCard : Claim7 := { stood := { row := codesPutsUptoRow, standIns := [], harness := (true, "8df1bc16d213bf6d95dc3b17cc0c96a95744450acb8f0033461d66367df3c05a"), looks := true }, kinds := [], alts := [], laidByText := true, laidKinds := [.handle], laidTests := true, laidLooks := .later }
def CodesPutsUptoCardSaid : Prop := Claim7.holds Tryd.pinned (.plain (OpenSpec.upto codesPutsSpec)) codesPutsUptoCard

/-- THE SECOND FORM's CARD OF 'kinlaw3.CodesGets'. -/
def codesGetsUptoCard : Claim7 := { stood := { row := codesGetsUptoRow, standIns := [], harness := (true, "8df1bc16d213bf6d95dc3b17cc0c96a95744450acb8f0033461d66367df3c05a"), looks := true }, kinds := [], alts := [], laidByText := true, laidKinds := [.handle], laidTests := true, laidLooks := .later }
def CodesGetsUptoCardSaid : Prop := Claim7.holds Tryd.pinned (.plain (OpenSpec.upto codesGetsSpec)) codesGetsUptoCard

/-- THE SECOND FORM's CARD OF 'kinlaw3.CodesFolds'. -/
def codesFoldsUptoCard : Claim7 := { stood := { row := codesFoldsUptoRow, standIns := [], harness := (true, "8df1bc16d213bf6d95dc3b17cc0c96a95744450acb8f0033461d66367df3c05a"), looks := true }, kinds := [], alts := [], laidByText := true, laidKinds := [.handle], laidTests := true, laidLooks := .later }
def CodesFoldsUptoCardSaid : Prop := Claim7.holds Tryd.pinned (.plain (OpenSpec.upto codesFoldsSpec)) codesFoldsUptoCard

/-- THE SECOND FORM's CARD OF 'kinlaw3.CodesBack'. -/
def codesBackUptoCard : Claim7 := { stood := { row := codesBackUptoRow, standIns := [], harness := (true, "8df1bc16d213bf6d95dc3b17cc0c96a95744450acb8f0033461d66367df3c05a"), looks := true }, kinds := [], alts := [], laidByText := true, laidKinds := [.handle], laidTests := true, laidLooks := .later }
def CodesBackUptoCardSaid : Prop := Claim7.holds Tryd.pinned (.plain (OpenSpec.upto codesBackSpec)) codesBackUptoCard

/-- THE SECOND FORM's CARD OF 'kinlaw3.CodesUnfolds'. -/
def codesUnfoldsUptoCard : Claim7 := { stood := { row := codesUnfoldsUptoRow, standIns := [], harness := (true, "8df1bc16d213bf6d95dc3b17cc0c96a95744450acb8f0033461d66367df3c05a"), looks := true }, kinds := [], alts := [], laidByText := true, laidKinds := [.handle], laidTests := true, laidLooks := .later }
def CodesUnfoldsUptoCardSaid : Prop := Claim7.holds Tryd.pinned (.plain (OpenSpec.upto codesUnfoldsSpec)) codesUnfoldsUptoCard

/-- THE SECOND FORM's CARD OF 'kinlaw3.CodesBounds'. -/
def codesBoundsUptoCard : Claim7 := { stood := { row := codesBoundsUptoRow, standIns := [], harness := (true, "8df1bc16d213bf6d95dc3b17cc0c96a95744450acb8f0033461d66367df3c05a"), looks := true }, kinds := [], alts := [], laidByText := true, laidKinds := [.handle], laidTests := true, laidLooks := .later }
def CodesBoundsUptoCardSaid : Prop := Claim7.holds Tryd.pinned (.plain (OpenSpec.upto codesBoundsSpec)) codesBoundsUptoCard

/-- THE SECOND FORM's CARD OF 'kinlaw3.CodesRises'. -/
def codesRisesUptoCard : Claim7 := { stood := { row := codesRisesUptoRow, standIns := [], harness := (true, "8df1bc16d213bf6d95dc3b17cc0c96a95744450acb8f0033461d66367df3c05a"), looks := true }, kinds := [], alts := [], laidByText := true, laidKinds := [.handle], laidTests := true, laidLooks := .later }
def CodesRisesUptoCardSaid : Prop := Claim7.holds Tryd.pinned (.plain (OpenSpec.upto codesRisesSpec)) codesRisesUptoCard

/-- THE SECOND FORM's CARD OF 'kinlaw3.CodesOne'. -/
def codesOneUptoCard : Claim7 := { stood := { row := codesOneUptoRow, standIns := [], harness := (true, "8df1bc16d213bf6d95dc3b17cc0c96a95744450acb8f0033461d66367df3c05a"), looks := true }, kinds := [], alts := [], laidByText := true, laidKinds := [.handle], laidTests := true, laidLooks := .later }
def CodesOneUptoCardSaid : Prop := Claim7.holds Tryd.pinned (.plain (OpenSpec.upto codesOneSpec)) codesOneUptoCard
end Rows
end Go.Proofs.YtehmgieocoppjaaDoor
