/-
  DERIVED. GIVEN WITH THE SEED: THE CARDS: each row of YtlaedbglclmheaaGreatDoorRows.lean that lists a variable, with what it lists TIED to the program's text (the seventh form; the later family's looks); each row that meets fmt, with fmt's text TOLD by the authors' own Lean function (tested against real Go, not proved from fmt's source: count such statements apart). THE CARD IS WHAT COUNTS. Prove the row's statement (the work); the ties are given (YtlaedbglclmheaaGreatDoorTie.lean); close each card by the builder's one call (the guide's Derived/Test/ToyasCard.lean, 'card_holds'). Laid BY PROGRAM, IN A SANDBOX (cutbox-door.mjs). By AI agents, Wed Nov 11 2026. No macro, syntax, notation, axiom, sorry.
-/
import Derived.Test.YtlaedbglclmheaaGreatDoorRows
import GoSem.ClaimSeven
namespace Go.Proofs.YtlaedbglclmheaaGreatDoor
namespace Rows

/-- THE TIED CARD OF 'kinlaw23.GopPacks'. -/
def gopPacksCard : Claim7 := { stood := { row := gopPacksRow, standIns := [], harness := (true, "172611e80a586838e47c3d32cc68269408e2e70400a63b31ad8b4644a671e6ff"), looks := true }, kinds := [], alts := [], laidByText := true, laidKinds := [.data, .handle, .data, .pinned], laidTests := true, laidLooks := .later }
def GopPacksCardSaid : Prop := Claim7.holds Tryz.pinned (.plain (OpenSpec.ofChange gopPacksSpec)) gopPacksCard

/-- THE TIED CARD OF 'kinlaw23.GopParses'. -/
def gopParsesCard : Claim7 := { stood := { row := gopParsesRow, standIns := [], harness := (true, "172611e80a586838e47c3d32cc68269408e2e70400a63b31ad8b4644a671e6ff"), looks := true }, kinds := [], alts := [], laidByText := true, laidKinds := [.data, .handle, .data, .pinned], laidTests := true, laidLooks := .later }
def GopParsesCardSaid : Prop := Claim7.holds Tryz.pinned (.plain (OpenSpec.ofChange gopParsesSpec)) gopParsesCard

/-- THE TIED CARD OF 'kinlaw23.GopBack'. -/
def gopBackCard : Claim7 := { stood := { row := gopBackRow, standIns := [], harness := (true, "172611e80a586838e47c3d32cc68269408e2e70400a63b31ad8b4644a671e6ff"), looks := true }, kinds := [], alts := [], laidByText := true, laidKinds := [.data, .handle, .data, .pinned], laidTests := true, laidLooks := .later }
def GopBackCardSaid : Prop := Claim7.holds Tryz.pinned (.plain (OpenSpec.ofChange gopBackSpec)) gopBackCard

/-- THE TIED CARD OF 'kinlaw23.GopSums'. -/
def gopSumsCard : Claim7 := { stood := { row := gopSumsRow, standIns := [], harness := (true, "172611e80a586838e47c3d32cc68269408e2e70400a63b31ad8b4644a671e6ff"), looks := true }, kinds := [], alts := [], laidByText := true, laidKinds := [.data, .handle, .data, .pinned], laidTests := true, laidLooks := .later }
def GopSumsCardSaid : Prop := Claim7.holds Tryz.pinned (.plain (OpenSpec.ofChange gopSumsSpec)) gopSumsCard

/-- THE TIED CARD OF 'kinlaw24.BoxMuxes'. -/
def boxMuxesCard : Claim7 := { stood := { row := boxMuxesRow, standIns := [], harness := (true, "172611e80a586838e47c3d32cc68269408e2e70400a63b31ad8b4644a671e6ff"), looks := true }, kinds := [], alts := [], laidByText := true, laidKinds := [.handle, .data], laidTests := true, laidLooks := .later }
def BoxMuxesCardSaid : Prop := Claim7.holds Tryz.pinned (.plain (OpenSpec.ofChange boxMuxesSpec)) boxMuxesCard

/-- THE TIED CARD OF 'kinlaw24.BoxOpens'. -/
def boxOpensCard : Claim7 := { stood := { row := boxOpensRow, standIns := [], harness := (true, "172611e80a586838e47c3d32cc68269408e2e70400a63b31ad8b4644a671e6ff"), looks := true }, kinds := [], alts := [], laidByText := true, laidKinds := [.handle, .data], laidTests := true, laidLooks := .later }
def BoxOpensCardSaid : Prop := Claim7.holds Tryz.pinned (.plain (OpenSpec.ofChange boxOpensSpec)) boxOpensCard

/-- THE TIED CARD OF 'kinlaw24.BoxAlone'. -/
def boxAloneCard : Claim7 := { stood := { row := boxAloneRow, standIns := [], harness := (true, "172611e80a586838e47c3d32cc68269408e2e70400a63b31ad8b4644a671e6ff"), looks := true }, kinds := [], alts := [], laidByText := true, laidKinds := [.handle, .data], laidTests := true, laidLooks := .later }
def BoxAloneCardSaid : Prop := Claim7.holds Tryz.pinned (.plain (OpenSpec.ofChange boxAloneSpec)) boxAloneCard

/-- THE SECOND FORM's CARD OF 'kinlaw23.GopPacks'. -/
def gopPacksUptoCard : Claim7 := { stood := { row := gopPacksUptoRow, standIns := [], harness := (true, "172611e80a586838e47c3d32cc68269408e2e70400a63b31ad8b4644a671e6ff"), looks := true }, kinds := [], alts := [], laidByText := true, laidKinds := [.data, .handle, .data, .pinned], laidTests := true, laidLooks := .later }
def GopPacksUptoCardSaid : Prop := Claim7.holds Tryz.pinned (.plain (OpenSpec.upto gopPacksSpec)) gopPacksUptoCard

/-- THE SECOND FORM's CARD OF 'kinlaw23.GopParses'. -/
def gopParsesUptoCard : Claim7 := { stood := { row := gopParsesUptoRow, standIns := [], harness := (true, "172611e80a586838e47c3d32cc68269408e2e70400a63b31ad8b4644a671e6ff"), looks := true }, kinds := [], alts := [], laidByText := true, laidKinds := [.data, .handle, .data, .pinned], laidTests := true, laidLooks := .later }
def GopParsesUptoCardSaid : Prop := Claim7.holds Tryz.pinned (.plain (OpenSpec.upto gopParsesSpec)) gopParsesUptoCard

/-- THE SECOND FORM's CARD OF 'kinlaw23.GopBack'. -/
def gopBackUptoCard : Claim7 := { stood := { row := gopBackUptoRow, standIns := [], harness := (true, "172611e80a586838e47c3d32cc68269408e2e70400a63b31ad8b4644a671e6ff"), looks := true }, kinds := [], alts := [], laidByText := true, laidKinds := [.data, .handle, .data, .pinned], laidTests := true, laidLooks := .later }
def GopBackUptoCardSaid : Prop := Claim7.holds Tryz.pinned (.plain (OpenSpec.upto gopBackSpec)) gopBackUptoCard

/-- THE SECOND FORM's CARD OF 'kinlaw23.GopSums'. -/
def gopSumsUptoCard : Claim7 := { stood := { row := gopSumsUptoRow, standIns := [], harness := (true, "172611e80a586838e47c3d32cc68269408e2e70400a63b31ad8b4644a671e6ff"), looks := true }, kinds := [], alts := [], laidByText := true, laidKinds := [.data, .handle, .data, .pinned], laidTests := true, laidLooks := .later }
def GopSumsUptoCardSaid : Prop := Claim7.holds Tryz.pinned (.plain (OpenSpec.upto gopSumsSpec)) gopSumsUptoCard

/-- THE SECOND FORM's CARD OF 'kinlaw24.BoxMuxes'. -/
def boxMuxesUptoCard : Claim7 := { stood := { row := boxMuxesUptoRow, standIns := [], harness := (true, "172611e80a586838e47c3d32cc68269408e2e70400a63b31ad8b4644a671e6ff"), looks := true }, kinds := [], alts := [], laidByText := true, laidKinds := [.handle, .data], laidTests := true, laidLooks := .later }
def BoxMuxesUptoCardSaid : Prop := Claim7.holds Tryz.pinned (.plain (OpenSpec.upto boxMuxesSpec)) boxMuxesUptoCard

/-- THE SECOND FORM's CARD OF 'kinlaw24.BoxOpens'. -/
def boxOpensUptoCard : Claim7 := { stood := { row := boxOpensUptoRow, standIns := [], harness := (true, "172611e80a586838e47c3d32cc68269408e2e70400a63b31ad8b4644a671e6ff"), looks := true }, kinds := [], alts := [], laidByText := true, laidKinds := [.handle, .data], laidTests := true, laidLooks := .later }
def BoxOpensUptoCardSaid : Prop := Claim7.holds Tryz.pinned (.plain (OpenSpec.upto boxOpensSpec)) boxOpensUptoCard

/-- THE SECOND FORM's CARD OF 'kinlaw24.BoxAlone'. -/
def boxAloneUptoCard : Claim7 := { stood := { row := boxAloneUptoRow, standIns := [], harness := (true, "172611e80a586838e47c3d32cc68269408e2e70400a63b31ad8b4644a671e6ff"), looks := true }, kinds := [], alts := [], laidByText := true, laidKinds := [.handle, .data], laidTests := true, laidLooks := .later }
def BoxAloneUptoCardSaid : Prop := Claim7.holds Tryz.pinned (.plain (OpenSpec.upto boxAloneSpec)) boxAloneUptoCard
end Rows
end Go.Proofs.YtlaedbglclmheaaGreatDoor
