/-
  DERIVED. GIVEN WITH THE SEED: THE CARDS: each row of YtoifpgeabfeelaaDoorRows.lean that lists a variable, with what it lists TIED to the program's text (the seventh form; the later family's looks); each row that meets fmt, with fmt's text TOLD by the authors' own Lean function (tested against real Go, not proved from fmt's source: count such statements apart). THE CARD IS WHAT COUNTS. Prove the row's statement (the work); the ties are given (YtoifpgeabfeelaaDoorTie.lean); close each card by the builder's one call (the guide's Derived/Test/ToyasCard.lean, 'card_holds'). Laid BY PROGRAM, IN A SANDBOX (cutbox-door.mjs). By AI agents, Wed Nov 11 2026. No macro, syntax, notation, axiom, sorry.
-/
import Derived.Test.YtoifpgeabfeelaaDoorRows
import GoSem.ClaimSeven
namespace Go.Proofs.YtoifpgeabfeelaaDoor
namespace Rows

/-- THE TIED CARD OF 'kinlaw18.VbvPlays'. -/
def vbvPlaysCard : Claim7 := { stood := { row := vbvPlaysRow, standIns := [], harness := (true, "2e8a55c11bca2a9fa83c953c28dac2e1206dc4923e2f59ebb954ad07902bdb3c"), looks := true }, kinds := [], alts := [], laidByText := true, laidKinds := [.handle], laidTests := true, laidLooks := .later }
def VbvPlaysCardSaid : Prop := Claim7.holds Tryd.pinned (.plain (OpenSpec.ofChange vbvPlaysSpec)) vbvPlaysCard

/-- THE TIED CARD OF 'kinlaw18.VbvFits'. -/
def vbvFitsCard : Claim7 := { stood := { row := vbvFitsRow, standIns := [], harness := (true, "2e8a55c11bca2a9fa83c953c28dac2e1206dc4923e2f59ebb954ad07902bdb3c"), looks := true }, kinds := [], alts := [], laidByText := true, laidKinds := [.handle], laidTests := true, laidLooks := .later }
def VbvFitsCardSaid : Prop := Claim7.holds Tryd.pinned (.plain (OpenSpec.ofChange vbvFitsSpec)) vbvFitsCard

/-- THE TIED CARD OF 'kinlaw18.VbvLess'. -/
def vbvLessCard : Claim7 := { stood := { row := vbvLessRow, standIns := [], harness := (true, "2e8a55c11bca2a9fa83c953c28dac2e1206dc4923e2f59ebb954ad07902bdb3c"), looks := true }, kinds := [], alts := [], laidByText := true, laidKinds := [.handle], laidTests := true, laidLooks := .later }
def VbvLessCardSaid : Prop := Claim7.holds Tryd.pinned (.plain (OpenSpec.ofChange vbvLessSpec)) vbvLessCard

/-- THE TIED CARD OF 'kinlaw18.VbvCuts'. -/
def vbvCutsCard : Claim7 := { stood := { row := vbvCutsRow, standIns := [], harness := (true, "2e8a55c11bca2a9fa83c953c28dac2e1206dc4923e2f59ebb954ad07902bdb3c"), looks := true }, kinds := [], alts := [], laidByText := true, laidKinds := [.handle], laidTests := true, laidLooks := .later }
def VbvCutsCardSaid : Prop := Claim7.holds Tryd.pinned (.plain (OpenSpec.ofChange vbvCutsSpec)) vbvCutsCard

/-- THE TIED CARD OF 'kinlaw18.VbvRoom'. -/
def vbvRoomCard : Claim7 := { stood := { row := vbvRoomRow, standIns := [], harness := (true, "2e8a55c11bca2a9fa83c953c28dac2e1206dc4923e2f59ebb954ad07902bdb3c"), looks := true }, kinds := [], alts := [], laidByText := true, laidKinds := [.handle], laidTests := true, laidLooks := .later }
def VbvRoomCardSaid : Prop := Claim7.holds Tryd.pinned (.plain (OpenSpec.ofChange vbvRoomSpec)) vbvRoomCard

/-- THE TIED CARD OF 'kinlaw16.SceneUnlikes'. -/
def sceneUnlikesCard : Claim7 := { stood := { row := sceneUnlikesRow, standIns := [], harness := (true, "2e8a55c11bca2a9fa83c953c28dac2e1206dc4923e2f59ebb954ad07902bdb3c"), looks := true }, kinds := [], alts := [], laidByText := true, laidKinds := [.handle], laidTests := true, laidLooks := .later }
def SceneUnlikesCardSaid : Prop := Claim7.holds Tryd.pinned (.plain (OpenSpec.ofChange sceneUnlikesSpec)) sceneUnlikesCard

/-- THE TIED CARD OF 'kinlaw16.SceneGroups'. -/
def sceneGroupsCard : Claim7 := { stood := { row := sceneGroupsRow, standIns := [], harness := (true, "2e8a55c11bca2a9fa83c953c28dac2e1206dc4923e2f59ebb954ad07902bdb3c"), looks := true }, kinds := [], alts := [], laidByText := true, laidKinds := [.handle], laidTests := true, laidLooks := .later }
def SceneGroupsCardSaid : Prop := Claim7.holds Tryd.pinned (.plain (OpenSpec.ofChange sceneGroupsSpec)) sceneGroupsCard

/-- THE TIED CARD OF 'kinlaw16.SceneOnce'. -/
def sceneOnceCard : Claim7 := { stood := { row := sceneOnceRow, standIns := [], harness := (true, "2e8a55c11bca2a9fa83c953c28dac2e1206dc4923e2f59ebb954ad07902bdb3c"), looks := true }, kinds := [], alts := [], laidByText := true, laidKinds := [.handle], laidTests := true, laidLooks := .later }
def SceneOnceCardSaid : Prop := Claim7.holds Tryd.pinned (.plain (OpenSpec.ofChange sceneOnceSpec)) sceneOnceCard

/-- THE TIED CARD OF 'kinlaw16.SceneTurned'. -/
def sceneTurnedCard : Claim7 := { stood := { row := sceneTurnedRow, standIns := [], harness := (true, "2e8a55c11bca2a9fa83c953c28dac2e1206dc4923e2f59ebb954ad07902bdb3c"), looks := true }, kinds := [], alts := [], laidByText := true, laidKinds := [.handle], laidTests := true, laidLooks := .later }
def SceneTurnedCardSaid : Prop := Claim7.holds Tryd.pinned (.plain (OpenSpec.ofChange sceneTurnedSpec)) sceneTurnedCard

/-- THE TIED CARD OF 'kinlaw16.SceneCuts'. -/
def sceneCutsCard : Claim7 := { stood := { row := sceneCutsRow, standIns := [], harness := (true, "2e8a55c11bca2a9fa83c953c28dac2e1206dc4923e2f59ebb954ad07902bdb3c"), looks := true }, kinds := [], alts := [], laidByText := true, laidKinds := [.handle], laidTests := true, laidLooks := .later }
def SceneCutsCardSaid : Prop := Claim7.holds Tryd.pinned (.plain (OpenSpec.ofChange sceneCutsSpec)) sceneCutsCard

/-- THE SECOND FORM's CARD OF 'kinlaw18.VbvPlays'. -/
def vbvPlaysUptoCard : Claim7 := { stood := { row := vbvPlaysUptoRow, standIns := [], harness := (true, "2e8a55c11bca2a9fa83c953c28dac2e1206dc4923e2f59ebb954ad07902bdb3c"), looks := true }, kinds := [], alts := [], laidByText := true, laidKinds := [.handle], laidTests := true, laidLooks := .later }
def VbvPlaysUptoCardSaid : Prop := Claim7.holds Tryd.pinned (.plain (OpenSpec.upto vbvPlaysSpec)) vbvPlaysUptoCard

/-- THE SECOND FORM's CARD OF 'kinlaw18.VbvFits'. -/
def vbvFitsUptoCard : Claim7 := { stood := { row := vbvFitsUptoRow, standIns := [], harness := (true, "2e8a55c11bca2a9fa83c953c28dac2e1206dc4923e2f59ebb954ad07902bdb3c"), looks := true }, kinds := [], alts := [], laidByText := true, laidKinds := [.handle], laidTests := true, laidLooks := .later }
def VbvFitsUptoCardSaid : Prop := Claim7.holds Tryd.pinned (.plain (OpenSpec.upto vbvFitsSpec)) vbvFitsUptoCard

/-- THE SECOND FORM's CARD OF 'kinlaw18.VbvLess'. -/
def vbvLessUptoCard : Claim7 := { stood := { row := vbvLessUptoRow, standIns := [], harness := (true, "2e8a55c11bca2a9fa83c953c28dac2e1206dc4923e2f59ebb954ad07902bdb3c"), looks := true }, kinds := [], alts := [], laidByText := true, laidKinds := [.handle], laidTests := true, laidLooks := .later }
def VbvLessUptoCardSaid : Prop := Claim7.holds Tryd.pinned (.plain (OpenSpec.upto vbvLessSpec)) vbvLessUptoCard

/-- THE SECOND FORM's CARD OF 'kinlaw18.VbvCuts'. -/
def vbvCutsUptoCard : Claim7 := { stood := { row := vbvCutsUptoRow, standIns := [], harness := (true, "2e8a55c11bca2a9fa83c953c28dac2e1206dc4923e2f59ebb954ad07902bdb3c"), looks := true }, kinds := [], alts := [], laidByText := true, laidKinds := [.handle], laidTests := true, laidLooks := .later }
def VbvCutsUptoCardSaid : Prop := Claim7.holds Tryd.pinned (.plain (OpenSpec.upto vbvCutsSpec)) vbvCutsUptoCard

/-- THE SECOND FORM's CARD OF 'kinlaw18.VbvRoom'. -/
def vbvRoomUptoCard : Claim7 := { stood := { row := vbvRoomUptoRow, standIns := [], harness := (true, "2e8a55c11bca2a9fa83c953c28dac2e1206dc4923e2f59ebb954ad07902bdb3c"), looks := true }, kinds := [], alts := [], laidByText := true, laidKinds := [.handle], laidTests := true, laidLooks := .later }
def VbvRoomUptoCardSaid : Prop := Claim7.holds Tryd.pinned (.plain (OpenSpec.upto vbvRoomSpec)) vbvRoomUptoCard

/-- THE SECOND FORM's CARD OF 'kinlaw16.SceneUnlikes'. -/
def sceneUnlikesUptoCard : Claim7 := { stood := { row := sceneUnlikesUptoRow, standIns := [], harness := (true, "2e8a55c11bca2a9fa83c953c28dac2e1206dc4923e2f59ebb954ad07902bdb3c"), looks := true }, kinds := [], alts := [], laidByText := true, laidKinds := [.handle], laidTests := true, laidLooks := .later }
def SceneUnlikesUptoCardSaid : Prop := Claim7.holds Tryd.pinned (.plain (OpenSpec.upto sceneUnlikesSpec)) sceneUnlikesUptoCard

/-- THE SECOND FORM's CARD OF 'kinlaw16.SceneGroups'. -/
def sceneGroupsUptoCard : Claim7 := { stood := { row := sceneGroupsUptoRow, standIns := [], harness := (true, "2e8a55c11bca2a9fa83c953c28dac2e1206dc4923e2f59ebb954ad07902bdb3c"), looks := true }, kinds := [], alts := [], laidByText := true, laidKinds := [.handle], laidTests := true, laidLooks := .later }
def SceneGroupsUptoCardSaid : Prop := Claim7.holds Tryd.pinned (.plain (OpenSpec.upto sceneGroupsSpec)) sceneGroupsUptoCard

/-- THE SECOND FORM's CARD OF 'kinlaw16.SceneOnce'. -/
def sceneOnceUptoCard : Claim7 := { stood := { row := sceneOnceUptoRow, standIns := [], harness := (true, "2e8a55c11bca2a9fa83c953c28dac2e1206dc4923e2f59ebb954ad07902bdb3c"), looks := true }, kinds := [], alts := [], laidByText := true, laidKinds := [.handle], laidTests := true, laidLooks := .later }
def SceneOnceUptoCardSaid : Prop := Claim7.holds Tryd.pinned (.plain (OpenSpec.upto sceneOnceSpec)) sceneOnceUptoCard

/-- THE SECOND FORM's CARD OF 'kinlaw16.SceneTurned'. -/
def sceneTurnedUptoCard : Claim7 := { stood := { row := sceneTurnedUptoRow, standIns := [], harness := (true, "2e8a55c11bca2a9fa83c953c28dac2e1206dc4923e2f59ebb954ad07902bdb3c"), looks := true }, kinds := [], alts := [], laidByText := true, laidKinds := [.handle], laidTests := true, laidLooks := .later }
def SceneTurnedUptoCardSaid : Prop := Claim7.holds Tryd.pinned (.plain (OpenSpec.upto sceneTurnedSpec)) sceneTurnedUptoCard

/-- THE SECOND FORM's CARD OF 'kinlaw16.SceneCuts'. -/
def sceneCutsUptoCard : Claim7 := { stood := { row := sceneCutsUptoRow, standIns := [], harness := (true, "2e8a55c11bca2a9fa83c953c28dac2e1206dc4923e2f59ebb954ad07902bdb3c"), looks := true }, kinds := [], alts := [], laidByText := true, laidKinds := [.handle], laidTests := true, laidLooks := .later }
def SceneCutsUptoCardSaid : Prop := Claim7.holds Tryd.pinned (.plain (OpenSpec.upto sceneCutsSpec)) sceneCutsUptoCard
end Rows
end Go.Proofs.YtoifpgeabfeelaaDoor
