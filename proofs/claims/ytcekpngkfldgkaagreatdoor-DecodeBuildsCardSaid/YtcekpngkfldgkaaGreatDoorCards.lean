/-
  DERIVED. GIVEN WITH THE SEED: THE CARDS: each row of YtcekpngkfldgkaaGreatDoorRows.lean that lists a variable, with what it lists TIED to the program's text (the seventh form; the later family's looks); each row that meets fmt, with fmt's text TOLD by the authors' own Lean function (tested against real Go, not proved from fmt's source: count such statements apart). THE CARD IS WHAT COUNTS. Prove the row's statement (the work); the ties are given (YtcekpngkfldgkaaGreatDoorTie.lean); close each card by the builder's one call (the guide's Derived/Test/ToyasCard.lean, 'card_holds'). Laid BY PROGRAM, IN A SANDBOX (cutbox-door.mjs). By AI agents, Wed Nov 11 2026. No macro, syntax, notation, axiom, sorry.
-/
import Derived.Test.YtcekpngkfldgkaaGreatDoorRows
import GoSem.ClaimSeven
namespace Go.Proofs.YtcekpngkfldgkaaGreatDoor
namespace Rows

/-- THE TIED CARD OF 'kinlaw21.DecodeBuilds'. -/
def decodeBuildsCard : Claim7 := { stood := { row := decodeBuildsRow, standIns := [], harness := (true, "d2e51d944df3a96144cf0277460cbcd4e673ffbf9c42a131e5589febf77b299d"), looks := true }, kinds := [], alts := [], laidByText := true, laidKinds := [.handle], laidTests := true, laidLooks := .later }
def DecodeBuildsCardSaid : Prop := Claim7.holds Tryz.pinned (.plain (OpenSpec.ofChange decodeBuildsSpec)) decodeBuildsCard

/-- THE TIED CARD OF 'kinlaw21.DecodeFrames'. -/
def decodeFramesCard : Claim7 := { stood := { row := decodeFramesRow, standIns := [], harness := (true, "d2e51d944df3a96144cf0277460cbcd4e673ffbf9c42a131e5589febf77b299d"), looks := true }, kinds := [], alts := [], laidByText := true, laidKinds := [.handle], laidTests := true, laidLooks := .later }
def DecodeFramesCardSaid : Prop := Claim7.holds Tryz.pinned (.plain (OpenSpec.ofChange decodeFramesSpec)) decodeFramesCard

/-- THE TIED CARD OF 'kinlaw21.DecodeTotal'. -/
def decodeTotalCard : Claim7 := { stood := { row := decodeTotalRow, standIns := [], harness := (true, "d2e51d944df3a96144cf0277460cbcd4e673ffbf9c42a131e5589febf77b299d"), looks := true }, kinds := [], alts := [], laidByText := true, laidKinds := [.handle], laidTests := true, laidLooks := .later }
def DecodeTotalCardSaid : Prop := Claim7.holds Tryz.pinned (.plain (OpenSpec.ofChange decodeTotalSpec)) decodeTotalCard

/-- THE TIED CARD OF 'kinlaw21.DecodeLeans'. -/
def decodeLeansCard : Claim7 := { stood := { row := decodeLeansRow, standIns := [], harness := (true, "d2e51d944df3a96144cf0277460cbcd4e673ffbf9c42a131e5589febf77b299d"), looks := true }, kinds := [], alts := [], laidByText := true, laidKinds := [.handle], laidTests := true, laidLooks := .later }
def DecodeLeansCardSaid : Prop := Claim7.holds Tryz.pinned (.plain (OpenSpec.ofChange decodeLeansSpec)) decodeLeansCard

/-- THE TIED CARD OF 'kinlaw21.DecodeSquares'. -/
def decodeSquaresCard : Claim7 := { stood := { row := decodeSquaresRow, standIns := [], harness := (true, "d2e51d944df3a96144cf0277460cbcd4e673ffbf9c42a131e5589febf77b299d"), looks := true }, kinds := [], alts := [], laidByText := true, laidKinds := [.handle], laidTests := true, laidLooks := .later }
def DecodeSquaresCardSaid : Prop := Claim7.holds Tryz.pinned (.plain (OpenSpec.ofChange decodeSquaresSpec)) decodeSquaresCard

/-- THE TIED CARD OF 'kinlaw21.DecodeSkips'. -/
def decodeSkipsCard : Claim7 := { stood := { row := decodeSkipsRow, standIns := [], harness := (true, "d2e51d944df3a96144cf0277460cbcd4e673ffbf9c42a131e5589febf77b299d"), looks := true }, kinds := [], alts := [], laidByText := true, laidKinds := [.handle], laidTests := true, laidLooks := .later }
def DecodeSkipsCardSaid : Prop := Claim7.holds Tryz.pinned (.plain (OpenSpec.ofChange decodeSkipsSpec)) decodeSkipsCard

/-- THE SECOND FORM's CARD OF 'kinlaw21.DecodeBuilds'. -/
def decodeBuildsUptoCard : Claim7 := { stood := { row := decodeBuildsUptoRow, standIns := [], harness := (true, "d2e51d944df3a96144cf0277460cbcd4e673ffbf9c42a131e5589febf77b299d"), looks := true }, kinds := [], alts := [], laidByText := true, laidKinds := [.handle], laidTests := true, laidLooks := .later }
def DecodeBuildsUptoCardSaid : Prop := Claim7.holds Tryz.pinned (.plain (OpenSpec.upto decodeBuildsSpec)) decodeBuildsUptoCard

/-- THE SECOND FORM's CARD OF 'kinlaw21.DecodeFrames'. -/
def decodeFramesUptoCard : Claim7 := { stood := { row := decodeFramesUptoRow, standIns := [], harness := (true, "d2e51d944df3a96144cf0277460cbcd4e673ffbf9c42a131e5589febf77b299d"), looks := true }, kinds := [], alts := [], laidByText := true, laidKinds := [.handle], laidTests := true, laidLooks := .later }
def DecodeFramesUptoCardSaid : Prop := Claim7.holds Tryz.pinned (.plain (OpenSpec.upto decodeFramesSpec)) decodeFramesUptoCard

/-- THE SECOND FORM's CARD OF 'kinlaw21.DecodeTotal'. -/
def decodeTotalUptoCard : Claim7 := { stood := { row := decodeTotalUptoRow, standIns := [], harness := (true, "d2e51d944df3a96144cf0277460cbcd4e673ffbf9c42a131e5589febf77b299d"), looks := true }, kinds := [], alts := [], laidByText := true, laidKinds := [.handle], laidTests := true, laidLooks := .later }
def DecodeTotalUptoCardSaid : Prop := Claim7.holds Tryz.pinned (.plain (OpenSpec.upto decodeTotalSpec)) decodeTotalUptoCard

/-- THE SECOND FORM's CARD OF 'kinlaw21.DecodeLeans'. -/
def decodeLeansUptoCard : Claim7 := { stood := { row := decodeLeansUptoRow, standIns := [], harness := (true, "d2e51d944df3a96144cf0277460cbcd4e673ffbf9c42a131e5589febf77b299d"), looks := true }, kinds := [], alts := [], laidByText := true, laidKinds := [.handle], laidTests := true, laidLooks := .later }
def DecodeLeansUptoCardSaid : Prop := Claim7.holds Tryz.pinned (.plain (OpenSpec.upto decodeLeansSpec)) decodeLeansUptoCard

/-- THE SECOND FORM's CARD OF 'kinlaw21.DecodeSquares'. -/
def decodeSquaresUptoCard : Claim7 := { stood := { row := decodeSquaresUptoRow, standIns := [], harness := (true, "d2e51d944df3a96144cf0277460cbcd4e673ffbf9c42a131e5589febf77b299d"), looks := true }, kinds := [], alts := [], laidByText := true, laidKinds := [.handle], laidTests := true, laidLooks := .later }
def DecodeSquaresUptoCardSaid : Prop := Claim7.holds Tryz.pinned (.plain (OpenSpec.upto decodeSquaresSpec)) decodeSquaresUptoCard

/-- THE SECOND FORM's CARD OF 'kinlaw21.DecodeSkips'. -/
def decodeSkipsUptoCard : Claim7 := { stood := { row := decodeSkipsUptoRow, standIns := [], harness := (true, "d2e51d944df3a96144cf0277460cbcd4e673ffbf9c42a131e5589febf77b299d"), looks := true }, kinds := [], alts := [], laidByText := true, laidKinds := [.handle], laidTests := true, laidLooks := .later }
def DecodeSkipsUptoCardSaid : Prop := Claim7.holds Tryz.pinned (.plain (OpenSpec.upto decodeSkipsSpec)) decodeSkipsUptoCard
end Rows
end Go.Proofs.YtcekpngkfldgkaaGreatDoor
