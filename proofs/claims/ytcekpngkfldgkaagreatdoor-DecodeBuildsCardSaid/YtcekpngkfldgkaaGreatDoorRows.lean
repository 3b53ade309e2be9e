/-
  NARROWER THAN 'FOR EVERY INPUT', by the rows' own cells (each row's printed sentence says how): DecodeBuilds: laid · DecodeFrames: laid · DecodeTotal: laid · DecodeLeans: laid · DecodeSquares: laid · DecodeSkips: laid.
  DERIVED. THE GIVEN ROWS OF THIS SEAT. 6 by the template 'for every input the law returns true; each argument reads behind the call as it read before'; 0 by the template 'total and deterministic' (their statements: YtcekpngkfldgkaaGreatDoorTotals.lean).
  GIVEN WITH THE SEED: the statements are not yours to turn. If you find one false, say at which input.
  Laid BY PROGRAM, IN A SANDBOX (cutbox-rows.mjs): the forced cells as the released guide's own fill.sh prints them over the translation 538dddc074dafee9… (all of the seat's roots in one cut). By AI agents, Wed Nov 11 2026. No macro, syntax, notation, axiom, sorry.
-/
import Derived.Test.YtcekpngkfldgkaaGreatDoorChecked
import GoSem.Claim
import GoSem.ClaimJoined
import GoSem.ClaimMapViews
import Derived.JoinedTies
import Derived.KernelRfl
namespace Go.Proofs.YtcekpngkfldgkaaGreatDoor
/- THE CELL 'sum', in the pinned program and in every row, IS THE sha256 OF THE DUMP (.gsa) THAT YtcekpngkfldgkaaGreatDoorProg.lean LOADS. Nothing in Lean hashes anything: it is a label: what it is worth is what the hold of that sum in a sandbox is worth. -/
noncomputable def Tryz.pinned : Pinned := { name := "ytcekpngkfldgkaagreatdoor", sum := "538dddc074dafee903dc0a2b755cb468de7c01a6ca01fe9e80491f47e9ddeefb", checked := Tryz.checked }
namespace Rows
def none {H : Type} : Left H := { results := [], args := [] }

/- WHAT THE LISTED PACKAGE-LEVEL VARIABLES READ AS WHEN THE CALL BEGINS. Each datum BY PROGRAM (the guide's laid-datum.mjs) off the statement by which the dump's own 'gosem.cut.vars' lays the variable. In a bare row this is a premise. The card (YtcekpngkfldgkaaGreatDoorCards.lean) ties it to the program's text. -/
def laid_errors_errorType {H : Type} : DataW H := .iface "internal/reflectlite.rtype" (.agg [.ptr (.lit (.string [101, 114, 114, 111, 114]))])

/-- 'kinlaw21.DecodeBuilds': WHATEVER THE INPUT: true; the input reads as it did. -/
def decodeBuildsSpec : ChangeSpec := { name := "decodeBuilds", fn := fun _ => fun
  | [d1, d2, d3, d4, d5, d6] => { results := [.lit (.bool true)], args := [d1, d2, d3, d4, d5, d6] }
  | _ => none }
def decodeBuildsRow : OpenClaim := { program := "ytcekpngkfldgkaagreatdoor", sum := "538dddc074dafee903dc0a2b755cb468de7c01a6ca01fe9e80491f47e9ddeefb", func := "kinescope/kinlaw21.DecodeBuilds", spec := "decodeBuilds", inPlace := ["internal/reflectlite.ValueOf", "(internal/reflectlite.Value).Type", "(internal/reflectlite.Value).IsNil", "internal/reflectlite.TypeOf", "(internal/reflectlite.Value).Elem", "(internal/reflectlite.Value).Set"], unfollowed := true, recurses := true, named := ["errors.errorType"], apart := false, laid := [("errors.errorType", laid_errors_errorType)] }
def DecodeBuildsSaid : Prop := decodeBuildsRow.holds Tryz.pinned (OpenSpec.ofChange decodeBuildsSpec)

/-- ITS FALSE NEIGHBOUR: 'it returns false'. Refute it at one input. -/
def decodeBuildsWrong : ChangeSpec := { name := "decodeBuilds", fn := fun _ => fun
  | [d1, d2, d3, d4, d5, d6] => { results := [.lit (.bool false)], args := [d1, d2, d3, d4, d5, d6] }
  | _ => none }
def DecodeBuildsWrongFalsely : Prop := decodeBuildsRow.holds Tryz.pinned (OpenSpec.ofChange decodeBuildsWrong)

/-- 'kinlaw21.DecodeFrames': WHATEVER THE INPUT: true; the input reads as it did. -/
def decodeFramesSpec : ChangeSpec := { name := "decodeFrames", fn := fun _ => fun
  | [d1, d2, d3, d4] => { results := [.lit (.bool true)], args := [d1, d2, d3, d4] }
  | _ => none }
def decodeFramesRow : OpenClaim := { program := "ytcekpngkfldgkaagreatdoor", sum := "538dddc074dafee903dc0a2b755cb468de7c01a6ca01fe9e80491f47e9ddeefb", func := "kinescope/kinlaw21.DecodeFrames", spec := "decodeFrames", inPlace := ["internal/reflectlite.ValueOf", "(internal/reflectlite.Value).Type", "(internal/reflectlite.Value).IsNil", "internal/reflectlite.TypeOf", "(internal/reflectlite.Value).Elem", "(internal/reflectlite.Value).Set"], unfollowed := true, recurses := true, named := ["errors.errorType"], apart := false, laid := [("errors.errorType", laid_errors_errorType)] }
def DecodeFramesSaid : Prop := decodeFramesRow.holds Tryz.pinned (OpenSpec.ofChange decodeFramesSpec)

/-- ITS FALSE NEIGHBOUR: 'it returns false'. Refute it at one input. -/
def decodeFramesWrong : ChangeSpec := { name := "decodeFrames", fn := fun _ => fun
  | [d1, d2, d3, d4] => { results := [.lit (.bool false)], args := [d1, d2, d3, d4] }
  | _ => none }
def DecodeFramesWrongFalsely : Prop := decodeFramesRow.holds Tryz.pinned (OpenSpec.ofChange decodeFramesWrong)

/-- 'kinlaw21.DecodeTotal': WHATEVER THE INPUT: true; the input reads as it did. -/
def decodeTotalSpec : ChangeSpec := { name := "decodeTotal", fn := fun _ => fun
  | [d1, d2, d3, d4] => { results := [.lit (.bool true)], args := [d1, d2, d3, d4] }
  | _ => none }
def decodeTotalRow : OpenClaim := { program := "ytcekpngkfldgkaagreatdoor", sum := "538dddc074dafee903dc0a2b755cb468de7c01a6ca01fe9e80491f47e9ddeefb", func := "kinescope/kinlaw21.DecodeTotal", spec := "decodeTotal", inPlace := ["internal/reflectlite.ValueOf", "(internal/reflectlite.Value).Type", "(internal/reflectlite.Value).IsNil", "internal/reflectlite.TypeOf", "(internal/reflectlite.Value).Elem", "(internal/reflectlite.Value).Set"], unfollowed := true, recurses := true, named := ["errors.errorType"], apart := false, laid := [("errors.errorType", laid_errors_errorType)] }
def DecodeTotalSaid : Prop := decodeTotalRow.holds Tryz.pinned (OpenSpec.ofChange decodeTotalSpec)

/-- ITS FALSE NEIGHBOUR: 'it returns false'. Refute it at one input. -/
def decodeTotalWrong : ChangeSpec := { name := "decodeTotal", fn := fun _ => fun
  | [d1, d2, d3, d4] => { results := [.lit (.bool false)], args := [d1, d2, d3, d4] }
  | _ => none }
def DecodeTotalWrongFalsely : Prop := decodeTotalRow.holds Tryz.pinned (OpenSpec.ofChange decodeTotalWrong)

/-- 'kinlaw21.DecodeLeans': WHATEVER THE INPUT: true; the input reads as it did. -/
def decodeLeansSpec : ChangeSpec := { name := "decodeLeans", fn := fun _ => fun
  | [d1, d2, d3, d4, d5] => { results := [.lit (.bool true)], args := [d1, d2, d3, d4, d5] }
  | _ => none }
def decodeLeansRow : OpenClaim := { program := "ytcekpngkfldgkaagreatdoor", sum := "538dddc074dafee903dc0a2b755cb468de7c01a6ca01fe9e80491f47e9ddeefb", func := "kinescope/kinlaw21.DecodeLeans", spec := "decodeLeans", inPlace := ["internal/reflectlite.ValueOf", "(internal/reflectlite.Value).Type", "(internal/reflectlite.Value).IsNil", "internal/reflectlite.TypeOf", "(internal/reflectlite.Value).Elem", "(internal/reflectlite.Value).Set"], unfollowed := true, recurses := true, named := ["errors.errorType"], apart := false, laid := [("errors.errorType", laid_errors_errorType)] }
def DecodeLeansSaid : Prop := decodeLeansRow.holds Tryz.pinned (OpenSpec.ofChange decodeLeansSpec)

/-- ITS FALSE NEIGHBOUR: 'it returns false'. Refute it at one input. -/
def decodeLeansWrong : ChangeSpec := { name := "decodeLeans", fn := fun _ => fun
  | [d1, d2, d3, d4, d5] => { results := [.lit (.bool false)], args := [d1, d2, d3, d4, d5] }
  | _ => none }
def DecodeLeansWrongFalsely : Prop := decodeLeansRow.holds Tryz.pinned (OpenSpec.ofChange decodeLeansWrong)

/-- 'kinlaw21.DecodeSquares': WHATEVER THE INPUT: true; the input reads as it did. -/
def decodeSquaresSpec : ChangeSpec := { name := "decodeSquares", fn := fun _ => fun
  | [d1, d2, d3, d4, d5, d6] => { results := [.lit (.bool true)], args := [d1, d2, d3, d4, d5, d6] }
  | _ => none }
def decodeSquaresRow : OpenClaim := { program := "ytcekpngkfldgkaagreatdoor", sum := "538dddc074dafee903dc0a2b755cb468de7c01a6ca01fe9e80491f47e9ddeefb", func := "kinescope/kinlaw21.DecodeSquares", spec := "decodeSquares", inPlace := ["internal/reflectlite.ValueOf", "(internal/reflectlite.Value).Type", "(internal/reflectlite.Value).IsNil", "internal/reflectlite.TypeOf", "(internal/reflectlite.Value).Elem", "(internal/reflectlite.Value).Set"], unfollowed := true, recurses := true, named := ["errors.errorType"], apart := false, laid := [("errors.errorType", laid_errors_errorType)] }
def DecodeSquaresSaid : Prop := decodeSquaresRow.holds Tryz.pinned (OpenSpec.ofChange decodeSquaresSpec)

/-- ITS FALSE NEIGHBOUR: 'it returns false'. Refute it at one input. -/
def decodeSquaresWrong : ChangeSpec := { name := "decodeSquares", fn := fun _ => fun
  | [d1, d2, d3, d4, d5, d6] => { results := [.lit (.bool false)], args := [d1, d2, d3, d4, d5, d6] }
  | _ => none }
def DecodeSquaresWrongFalsely : Prop := decodeSquaresRow.holds Tryz.pinned (OpenSpec.ofChange decodeSquaresWrong)

/-- 'kinlaw21.DecodeSkips': WHATEVER THE INPUT: true; the input reads as it did. -/
def decodeSkipsSpec : ChangeSpec := { name := "decodeSkips", fn := fun _ => fun
  | [d1, d2, d3, d4] => { results := [.lit (.bool true)], args := [d1, d2, d3, d4] }
  | _ => none }
def decodeSkipsRow : OpenClaim := { program := "ytcekpngkfldgkaagreatdoor", sum := "538dddc074dafee903dc0a2b755cb468de7c01a6ca01fe9e80491f47e9ddeefb", func := "kinescope/kinlaw21.DecodeSkips", spec := "decodeSkips", inPlace := ["internal/reflectlite.ValueOf", "(internal/reflectlite.Value).Type", "(internal/reflectlite.Value).IsNil", "internal/reflectlite.TypeOf", "(internal/reflectlite.Value).Elem", "(internal/reflectlite.Value).Set"], unfollowed := true, recurses := true, named := ["errors.errorType"], apart := false, laid := [("errors.errorType", laid_errors_errorType)] }
def DecodeSkipsSaid : Prop := decodeSkipsRow.holds Tryz.pinned (OpenSpec.ofChange decodeSkipsSpec)

/-- ITS FALSE NEIGHBOUR: 'it returns false'. Refute it at one input. -/
def decodeSkipsWrong : ChangeSpec := { name := "decodeSkips", fn := fun _ => fun
  | [d1, d2, d3, d4] => { results := [.lit (.bool false)], args := [d1, d2, d3, d4] }
  | _ => none }
def DecodeSkipsWrongFalsely : Prop := decodeSkipsRow.holds Tryz.pinned (OpenSpec.ofChange decodeSkipsWrong)

/- THE SECOND FORM. 'bulk': how many values and letters a reading holds, each counted each time it is reached (what is shared counts as often as it is met; a slice's spare places count too). A statement '..UptoSaid' is the law's where the arguments, and the package variables that the reading takes, are together of bulk at most 1048576: NARROWER than '..Said'. Prove '..Said' where nothing that the law and all that it calls make is longer than what came in: it says more and counts as full. Else prove '..UptoSaid'. A law counts once. -/
mutual
def uptoBulk {H : Type} : DataW H → Nat
  | .lit (.string bytes) => bytes.length + 1
  | .lit _ => 1
  | .nil => 1
  | .ptr d => uptoBulk d + 1
  | .slice elems spare => uptoBulkAll elems + uptoBulkAll spare + 1
  | .agg parts => uptoBulkAll parts + 1
  | .iface _ d => uptoBulk d + 1
  | .map entries => uptoBulkEntries entries + 1
  | .held _ => 1
def uptoBulkAll {H : Type} : List (DataW H) → Nat
  | [] => 0
  | d :: r => uptoBulk d + uptoBulkAll r
def uptoBulkEntries {H : Type} : List (Lit × DataW H) → Nat
  | [] => 0
  | x :: r => uptoBulkEntry x + uptoBulkEntries r
def uptoBulkEntry {H : Type} : Lit × DataW H → Nat
  | (.string bytes, d) => bytes.length + uptoBulk d + 1
  | (_, d) => uptoBulk d + 1
 end
def uptoSmall : (H : Type) → List (DataW H) → Bool := fun _ ds => decide (uptoBulkAll ds ≤ 1048576)
def OpenSpec.upto (s : _root_.Go.ChangeSpec) : _root_.Go.OpenSpec := { _root_.Go.OpenSpec.ofChange s with cond := some uptoSmall }

/-- 'kinlaw21.DecodeBuilds', WHERE WHAT IT READS IS OF BULK AT MOST 1048576: true; the input reads as it did. -/
def decodeBuildsUptoRow : OpenClaim := { program := "ytcekpngkfldgkaagreatdoor", sum := "538dddc074dafee903dc0a2b755cb468de7c01a6ca01fe9e80491f47e9ddeefb", func := "kinescope/kinlaw21.DecodeBuilds", spec := "decodeBuilds", inPlace := ["internal/reflectlite.ValueOf", "(internal/reflectlite.Value).Type", "(internal/reflectlite.Value).IsNil", "internal/reflectlite.TypeOf", "(internal/reflectlite.Value).Elem", "(internal/reflectlite.Value).Set"], unfollowed := true, recurses := true, named := ["errors.errorType"], apart := false, laid := [("errors.errorType", laid_errors_errorType)], narrowed := true }
def DecodeBuildsUptoSaid : Prop := decodeBuildsUptoRow.holds Tryz.pinned (OpenSpec.upto decodeBuildsSpec)

/-- 'kinlaw21.DecodeFrames', WHERE WHAT IT READS IS OF BULK AT MOST 1048576: true; the input reads as it did. -/
def decodeFramesUptoRow : OpenClaim := { program := "ytcekpngkfldgkaagreatdoor", sum := "538dddc074dafee903dc0a2b755cb468de7c01a6ca01fe9e80491f47e9ddeefb", func := "kinescope/kinlaw21.DecodeFrames", spec := "decodeFrames", inPlace := ["internal/reflectlite.ValueOf", "(internal/reflectlite.Value).Type", "(internal/reflectlite.Value).IsNil", "internal/reflectlite.TypeOf", "(internal/reflectlite.Value).Elem", "(internal/reflectlite.Value).Set"], unfollowed := true, recurses := true, named := ["errors.errorType"], apart := false, laid := [("errors.errorType", laid_errors_errorType)], narrowed := true }
def DecodeFramesUptoSaid : Prop := decodeFramesUptoRow.holds Tryz.pinned (OpenSpec.upto decodeFramesSpec)

/-- 'kinlaw21.DecodeTotal', WHERE WHAT IT READS IS OF BULK AT MOST 1048576: true; the input reads as it did. -/
def decodeTotalUptoRow : OpenClaim := { program := "ytcekpngkfldgkaagreatdoor", sum := "538dddc074dafee903dc0a2b755cb468de7c01a6ca01fe9e80491f47e9ddeefb", func := "kinescope/kinlaw21.DecodeTotal", spec := "decodeTotal", inPlace := ["internal/reflectlite.ValueOf", "(internal/reflectlite.Value).Type", "(internal/reflectlite.Value).IsNil", "internal/reflectlite.TypeOf", "(internal/reflectlite.Value).Elem", "(internal/reflectlite.Value).Set"], unfollowed := true, recurses := true, named := ["errors.errorType"], apart := false, laid := [("errors.errorType", laid_errors_errorType)], narrowed := true }
def DecodeTotalUptoSaid : Prop := decodeTotalUptoRow.holds Tryz.pinned (OpenSpec.upto decodeTotalSpec)

/-- 'kinlaw21.DecodeLeans', WHERE WHAT IT READS IS OF BULK AT MOST 1048576: true; the input reads as it did. -/
def decodeLeansUptoRow : OpenClaim := { program := "ytcekpngkfldgkaagreatdoor", sum := "538dddc074dafee903dc0a2b755cb468de7c01a6ca01fe9e80491f47e9ddeefb", func := "kinescope/kinlaw21.DecodeLeans", spec := "decodeLeans", inPlace := ["internal/reflectlite.ValueOf", "(internal/reflectlite.Value).Type", "(internal/reflectlite.Value).IsNil", "internal/reflectlite.TypeOf", "(internal/reflectlite.Value).Elem", "(internal/reflectlite.Value).Set"], unfollowed := true, recurses := true, named := ["errors.errorType"], apart := false, laid := [("errors.errorType", laid_errors_errorType)], narrowed := true }
def DecodeLeansUptoSaid : Prop := decodeLeansUptoRow.holds Tryz.pinned (OpenSpec.upto decodeLeansSpec)

/-- 'kinlaw21.DecodeSquares', WHERE WHAT IT READS IS OF BULK AT MOST 1048576: true; the input reads as it did. -/
def decodeSquaresUptoRow : OpenClaim := { program := "ytcekpngkfldgkaagreatdoor", sum := "538dddc074dafee903dc0a2b755cb468de7c01a6ca01fe9e80491f47e9ddeefb", func := "kinescope/kinlaw21.DecodeSquares", spec := "decodeSquares", inPlace := ["internal/reflectlite.ValueOf", "(internal/reflectlite.Value).Type", "(internal/reflectlite.Value).IsNil", "internal/reflectlite.TypeOf", "(internal/reflectlite.Value).Elem", "(internal/reflectlite.Value).Set"], unfollowed := true, recurses := true, named := ["errors.errorType"], apart := false, laid := [("errors.errorType", laid_errors_errorType)], narrowed := true }
def DecodeSquaresUptoSaid : Prop := decodeSquaresUptoRow.holds Tryz.pinned (OpenSpec.upto decodeSquaresSpec)

/-- 'kinlaw21.DecodeSkips', WHERE WHAT IT READS IS OF BULK AT MOST 1048576: true; the input reads as it did. -/
def decodeSkipsUptoRow : OpenClaim := { program := "ytcekpngkfldgkaagreatdoor", sum := "538dddc074dafee903dc0a2b755cb468de7c01a6ca01fe9e80491f47e9ddeefb", func := "kinescope/kinlaw21.DecodeSkips", spec := "decodeSkips", inPlace := ["internal/reflectlite.ValueOf", "(internal/reflectlite.Value).Type", "(internal/reflectlite.Value).IsNil", "internal/reflectlite.TypeOf", "(internal/reflectlite.Value).Elem", "(internal/reflectlite.Value).Set"], unfollowed := true, recurses := true, named := ["errors.errorType"], apart := false, laid := [("errors.errorType", laid_errors_errorType)], narrowed := true }
def DecodeSkipsUptoSaid : Prop := decodeSkipsUptoRow.holds Tryz.pinned (OpenSpec.upto decodeSkipsSpec)

end Rows
end Go.Proofs.YtcekpngkfldgkaaGreatDoor
