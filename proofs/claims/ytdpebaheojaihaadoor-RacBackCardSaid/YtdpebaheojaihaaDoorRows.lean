/-
  NARROWER THAN 'FOR EVERY INPUT', by the rows' own cells (each row's printed sentence says how): RacCodes: laid · RacDecodes: laid · RacBack: laid · RacLong: laid · RacSize: laid · RacZeros: laid.
  DERIVED. THE GIVEN ROWS OF THIS SEAT. 6 by the template 'for every input the law returns true; each argument reads behind the call as it read before'; 0 by the template 'total and deterministic' (their statements: YtdpebaheojaihaaDoorTotals.lean).
  GIVEN WITH THE SEED: the statements are not yours to turn. If you find one false, say at which input.
  Laid BY PROGRAM, IN A SANDBOX (cutbox-rows.mjs): the forced cells as the released guide's own fill.sh prints them over the translation aba48c4cd1647a4a… (all of the seat's roots in one cut). By AI agents, Wed Nov 11 2026. No macro, syntax, notation, axiom, sorry.
-/
import Derived.Test.YtdpebaheojaihaaDoorChecked
import GoSem.PinnedTables
import GoSem.Claim
import GoSem.ClaimJoined
import GoSem.ClaimMapViews
import Derived.JoinedTies
import Derived.KernelRfl
namespace Go.Proofs.YtdpebaheojaihaaDoor
/- THE CELL 'sum', in the pinned program and in every row, IS THE sha256 OF THE DUMP (.gsa) THAT YtdpebaheojaihaaDoorProg.lean LOADS. Nothing in Lean hashes anything: it is a label: what it is worth is what the hold of that sum in a sandbox is worth. -/
noncomputable def Tryd.pinned : Pinned := { name := "ytdpebaheojaihaadoor", sum := "aba48c4cd1647a4a05203b597e7a82021ed9809304b2027824cdffe034274b7d", checked := Tryd.checked }
namespace Rows
def none {H : Type} : Left H := { results := [], args := [] }

/- WHAT THE LISTED PACKAGE-LEVEL VARIABLES READ AS WHEN THE CALL BEGINS. Each datum BY PROGRAM (the guide's laid-datum.mjs) off the statement by which the dump's own 'gosem.cut.vars' lays the variable. In a bare row this is a premise. The card (YtdpebaheojaihaaDoorCards.lean) ties it to the program's text. -/
def laid_unicode_utf8_acceptRanges {H : Type} : DataW H := .agg [.agg [.lit (.int .u8 128), .lit (.int .u8 191)], .agg [.lit (.int .u8 160), .lit (.int .u8 191)], .agg [.lit (.int .u8 128), .lit (.int .u8 159)], .agg [.lit (.int .u8 144), .lit (.int .u8 191)], .agg [.lit (.int .u8 128), .lit (.int .u8 143)], .agg [.lit (.int .u8 0), .lit (.int .u8 0)], .agg [.lit (.int .u8 0), .lit (.int .u8 0)], .agg [.lit (.int .u8 0), .lit (.int .u8 0)], .agg [.lit (.int .u8 0), .lit (.int .u8 0)], .agg [.lit (.int .u8 0), .lit (.int .u8 0)], .agg [.lit (.int .u8 0), .lit (.int .u8 0)], .agg [.lit (.int .u8 0), .lit (.int .u8 0)], .agg [.lit (.int .u8 0), .lit (.int .u8 0)], .agg [.lit (.int .u8 0), .lit (.int .u8 0)], .agg [.lit (.int .u8 0), .lit (.int .u8 0)], .agg [.lit (.int .u8 0), .lit (.int .u8 0)]]
def laid_errors_errorType {H : Type} : DataW H := .iface "internal/reflectlite.rtype" (.agg [.ptr (.lit (.string [101, 114, 114, 111, 114]))])
/-- One of Go's own tables, pinned by name: the form's constant. -/
def laid_unicode_utf8_first : DataW Unit := Go.Pinned.utf8First

/-- 'kinlaw12.RacCodes': WHATEVER THE INPUT: true; the input reads as it did. -/
def racCodesSpec : ChangeSpec := { name := "racCodes", fn := fun _ => fun
  | [d] => { results := [.lit (.bool true)], args := [d] }
  | _ => none }
def racCodesRow : OpenClaim := { program := "ytdpebaheojaihaadoor", sum := "aba48c4cd1647a4a05203b597e7a82021ed9809304b2027824cdffe034274b7d", func := "kinescope/kinlaw12.RacCodes", spec := "racCodes", inPlace := ["internal/reflectlite.ValueOf", "(internal/reflectlite.Value).Type", "(internal/reflectlite.Value).IsNil", "internal/reflectlite.TypeOf", "(internal/reflectlite.Value).Elem", "(internal/reflectlite.Value).Set"], unfollowed := true, recurses := true, named := ["errors.errorType", "unicode/utf8.first", "unicode/utf8.acceptRanges"], apart := false, laid := [("unicode/utf8.acceptRanges", laid_unicode_utf8_acceptRanges), ("errors.errorType", laid_errors_errorType), ("unicode/utf8.first", laid_unicode_utf8_first)] }
def RacCodesSaid : Prop := racCodesRow.holds Tryd.pinned (OpenSpec.ofChange racCodesSpec)

/-- ITS FALSE NEIGHBOUR: 'it returns false'. Refute it at one input. -/
def racCodesWrong : ChangeSpec := { name := "racCodes", fn := fun _ => fun
  | [d] => { results := [.lit (.bool false)], args := [d] }
  | _ => none }
def RacCodesWrongFalsely : Prop := racCodesRow.holds Tryd.pinned (OpenSpec.ofChange racCodesWrong)

/-- 'kinlaw12.RacDecodes': WHATEVER THE INPUT: true; the input reads as it did. -/
def racDecodesSpec : ChangeSpec := { name := "racDecodes", fn := fun _ => fun
  | [d1, d2] => { results := [.lit (.bool true)], args := [d1, d2] }
  | _ => none }
def racDecodesRow : OpenClaim := { program := "ytdpebaheojaihaadoor", sum := "aba48c4cd1647a4a05203b597e7a82021ed9809304b2027824cdffe034274b7d", func := "kinescope/kinlaw12.RacDecodes", spec := "racDecodes", inPlace := ["internal/reflectlite.ValueOf", "(internal/reflectlite.Value).Type", "(internal/reflectlite.Value).IsNil", "internal/reflectlite.TypeOf", "(internal/reflectlite.Value).Elem", "(internal/reflectlite.Value).Set"], unfollowed := true, recurses := true, named := ["errors.errorType", "unicode/utf8.first", "unicode/utf8.acceptRanges"], apart := false, laid := [("unicode/utf8.acceptRanges", laid_unicode_utf8_acceptRanges), ("errors.errorType", laid_errors_errorType), ("unicode/utf8.first", laid_unicode_utf8_first)] }
def RacDecodesSaid : Prop := racDecodesRow.holds Tryd.pinned (OpenSpec.ofChange racDecodesSpec)

/-- ITS FALSE NEIGHBOUR: 'it returns false'. Refute it at one input. -/
def racDecodesWrong : ChangeSpec := { name := "racDecodes", fn := fun _ => fun
  | [d1, d2] => { results := [.lit (.bool false)], args := [d1, d2] }
  | _ => none }
def RacDecodesWrongFalsely : Prop := racDecodesRow.holds Tryd.pinned (OpenSpec.ofChange racDecodesWrong)

/-- 'kinlaw12.RacBack': WHATEVER THE INPUT: true; the input reads as it did. -/
def racBackSpec : ChangeSpec := { name := "racBack", fn := fun _ => fun
  | [d] => { results := [.lit (.bool true)], args := [d] }
  | _ => none }
def racBackRow : OpenClaim := { program := "ytdpebaheojaihaadoor", sum := "aba48c4cd1647a4a05203b597e7a82021ed9809304b2027824cdffe034274b7d", func := "kinescope/kinlaw12.RacBack", spec := "racBack", inPlace := ["internal/reflectlite.ValueOf", "(internal/reflectlite.Value).Type", "(internal/reflectlite.Value).IsNil", "internal/reflectlite.TypeOf", "(internal/reflectlite.Value).Elem", "(internal/reflectlite.Value).Set"], unfollowed := true, recurses := true, named := ["errors.errorType", "unicode/utf8.first", "unicode/utf8.acceptRanges"], apart := false, laid := [("unicode/utf8.acceptRanges", laid_unicode_utf8_acceptRanges), ("errors.errorType", laid_errors_errorType), ("unicode/utf8.first", laid_unicode_utf8_first)] }
def RacBackSaid : Prop := racBackRow.holds Tryd.pinned (OpenSpec.ofChange racBackSpec)

/-- ITS FALSE NEIGHBOUR: 'it returns false'. Refute it at one input. -/
def racBackWrong : ChangeSpec := { name := "racBack", fn := fun _ => fun
  | [d] => { results := [.lit (.bool false)], args := [d] }
  | _ => none }
def RacBackWrongFalsely : Prop := racBackRow.holds Tryd.pinned (OpenSpec.ofChange racBackWrong)

/-- 'kinlaw12.RacLong': WHATEVER THE INPUT: true; the input reads as it did. -/
def racLongSpec : ChangeSpec := { name := "racLong", fn := fun _ => fun
  | [d1, d2, d3, d4] => { results := [.lit (.bool true)], args := [d1, d2, d3, d4] }
  | _ => none }
def racLongRow : OpenClaim := { program := "ytdpebaheojaihaadoor", sum := "aba48c4cd1647a4a05203b597e7a82021ed9809304b2027824cdffe034274b7d", func := "kinescope/kinlaw12.RacLong", spec := "racLong", inPlace := ["internal/reflectlite.ValueOf", "(internal/reflectlite.Value).Type", "(internal/reflectlite.Value).IsNil", "internal/reflectlite.TypeOf", "(internal/reflectlite.Value).Elem", "(internal/reflectlite.Value).Set"], unfollowed := true, recurses := true, named := ["errors.errorType", "unicode/utf8.first", "unicode/utf8.acceptRanges"], apart := false, laid := [("unicode/utf8.acceptRanges", laid_unicode_utf8_acceptRanges), ("errors.errorType", laid_errors_errorType), ("unicode/utf8.first", laid_unicode_utf8_first)] }
def RacLongSaid : Prop := racLongRow.holds Tryd.pinned (OpenSpec.ofChange racLongSpec)

/-- ITS FALSE NEIGHBOUR: 'it returns false'. Refute it at one input. -/
def racLongWrong : ChangeSpec := { name := "racLong", fn := fun _ => fun
  | [d1, d2, d3, d4] => { results := [.lit (.bool false)], args := [d1, d2, d3, d4] }
  | _ => none }
def RacLongWrongFalsely : Prop := racLongRow.holds Tryd.pinned (OpenSpec.ofChange racLongWrong)

/-- 'kinlaw12.RacSize': WHATEVER THE INPUT: true; the input reads as it did. -/
def racSizeSpec : ChangeSpec := { name := "racSize", fn := fun _ => fun
  | [d1, d2] => { results := [.lit (.bool true)], args := [d1, d2] }
  | _ => none }
def racSizeRow : OpenClaim := { program := "ytdpebaheojaihaadoor", sum := "aba48c4cd1647a4a05203b597e7a82021ed9809304b2027824cdffe034274b7d", func := "kinescope/kinlaw12.RacSize", spec := "racSize", inPlace := ["internal/reflectlite.ValueOf", "(internal/reflectlite.Value).Type", "(internal/reflectlite.Value).IsNil", "internal/reflectlite.TypeOf", "(internal/reflectlite.Value).Elem", "(internal/reflectlite.Value).Set"], unfollowed := true, recurses := true, named := ["errors.errorType", "unicode/utf8.first", "unicode/utf8.acceptRanges"], apart := false, laid := [("unicode/utf8.acceptRanges", laid_unicode_utf8_acceptRanges), ("errors.errorType", laid_errors_errorType), ("unicode/utf8.first", laid_unicode_utf8_first)] }
def RacSizeSaid : Prop := racSizeRow.holds Tryd.pinned (OpenSpec.ofChange racSizeSpec)

/-- ITS FALSE NEIGHBOUR: 'it returns false'. Refute it at one input. -/
def racSizeWrong : ChangeSpec := { name := "racSize", fn := fun _ => fun
  | [d1, d2] => { results := [.lit (.bool false)], args := [d1, d2] }
  | _ => none }
def RacSizeWrongFalsely : Prop := racSizeRow.holds Tryd.pinned (OpenSpec.ofChange racSizeWrong)

/-- 'kinlaw12.RacZeros': WHATEVER THE INPUT: true; the input reads as it did. -/
def racZerosSpec : ChangeSpec := { name := "racZeros", fn := fun _ => fun
  | [d] => { results := [.lit (.bool true)], args := [d] }
  | _ => none }
def racZerosRow : OpenClaim := { program := "ytdpebaheojaihaadoor", sum := "aba48c4cd1647a4a05203b597e7a82021ed9809304b2027824cdffe034274b7d", func := "kinescope/kinlaw12.RacZeros", spec := "racZeros", inPlace := ["internal/reflectlite.ValueOf", "(internal/reflectlite.Value).Type", "(internal/reflectlite.Value).IsNil", "internal/reflectlite.TypeOf", "(internal/reflectlite.Value).Elem", "(internal/reflectlite.Value).Set"], unfollowed := true, recurses := true, named := ["errors.errorType", "unicode/utf8.first", "unicode/utf8.acceptRanges"], apart := false, laid := [("unicode/utf8.acceptRanges", laid_unicode_utf8_acceptRanges), ("errors.errorType", laid_errors_errorType), ("unicode/utf8.first", laid_unicode_utf8_first)] }
def RacZerosSaid : Prop := racZerosRow.holds Tryd.pinned (OpenSpec.ofChange racZerosSpec)

/-- ITS FALSE NEIGHBOUR: 'it returns false'. Refute it at one input. -/
def racZerosWrong : ChangeSpec := { name := "racZeros", fn := fun _ => fun
  | [d] => { results := [.lit (.bool false)], args := [d] }
  | _ => none }
def RacZerosWrongFalsely : Prop := racZerosRow.holds Tryd.pinned (OpenSpec.ofChange racZerosWrong)

/- THE SECOND FORM. 'bulk': how many values and letters a reading holds, each counted each time it is reached (what is shared counts as often as it is met; a slice's spare places count too). A statement '..UptoSaid' is the law's where the arguments, and the package variables that the reading takes, are together of bulk at most 1048576: NARROWER than '..Said'. Prove '..Said' where nothing that the law and all that it calls make is longer than what came in: it says more and counts as full. Else prove '..UptoSaid'. A law counts once. -/
mutual
def uptoBulk {H : Type} : DataW H → Nat
  | .lit (.string bytes) => bytes.length + 1
  | .lit _ => 1
  | .nil => 1
  | .ptr d => uptoBulk d + 1
  | .slice elems spare => uptoBulkAll elems + uptoBulkAll spare + 1
  | .agg parts => uptoBulkAll parts + 1
  | .iface _ d => uptoBulk d + 1
  | .map entries => uptoBulkEntries entries + 1
  | .held _ => 1
def uptoBulkAll {H : Type} : List (DataW H) → Nat
  | [] => 0
  | d :: r => uptoBulk d + uptoBulkAll r
def uptoBulkEntries {H : Type} : List (Lit × DataW H) → Nat
  | [] => 0
  | x :: r => uptoBulkEntry x + uptoBulkEntries r
def uptoBulkEntry {H : Type} : Lit × DataW H → Nat
  | (.string bytes, d) => bytes.length + uptoBulk d + 1
  | (_, d) => uptoBulk d + 1
 end
def uptoSmall : (H : Type) → List (DataW H) → Bool := fun _ ds => decide (uptoBulkAll ds ≤ 1048576)
def OpenSpec.upto (s : _root_.Go.ChangeSpec) : _root_.Go.OpenSpec := { _root_.Go.OpenSpec.ofChange s with cond := some uptoSmall }

/-- 'kinlaw12.RacCodes', WHERE WHAT IT READS IS OF BULK AT MOST 1048576: true; the input reads as it did. -/
def racCodesUptoRow : OpenClaim := { program := "ytdpebaheojaihaadoor", sum := "aba48c4cd1647a4a05203b597e7a82021ed9809304b2027824cdffe034274b7d", func := "kinescope/kinlaw12.RacCodes", spec := "racCodes", inPlace := ["internal/reflectlite.ValueOf", "(internal/reflectlite.Value).Type", "(internal/reflectlite.Value).IsNil", "internal/reflectlite.TypeOf", "(internal/reflectlite.Value).Elem", "(internal/reflectlite.Value).Set"], unfollowed := true, recurses := true, named := ["errors.errorType", "unicode/utf8.first", "unicode/utf8.acceptRanges"], apart := false, laid := [("unicode/utf8.acceptRanges", laid_unicode_utf8_acceptRanges), ("errors.errorType", laid_errors_errorType), ("unicode/utf8.first", laid_unicode_utf8_first)], narrowed := true }
def RacCodesUptoSaid : Prop := racCodesUptoRow.holds Tryd.pinned (OpenSpec.upto racCodesSpec)

/-- 'kinlaw12.RacDecodes', WHERE WHAT IT READS IS OF BULK AT MOST 1048576: true; the input reads as it did. -/
def racDecodesUptoRow : OpenClaim := { program := "ytdpebaheojaihaadoor", sum := "aba48c4cd1647a4a05203b597e7a82021ed9809304b2027824cdffe034274b7d", func := "kinescope/kinlaw12.RacDecodes", spec := "racDecodes", inPlace := ["internal/reflectlite.ValueOf", "(internal/reflectlite.Value).Type", "(internal/reflectlite.Value).IsNil", "internal/reflectlite.TypeOf", "(internal/reflectlite.Value).Elem", "(internal/reflectlite.Value).Set"], unfollowed := true, recurses := true, named := ["errors.errorType", "unicode/utf8.first", "unicode/utf8.acceptRanges"], apart := false, laid := [("unicode/utf8.acceptRanges", laid_unicode_utf8_acceptRanges), ("errors.errorType", laid_errors_errorType), ("unicode/utf8.first", laid_unicode_utf8_first)], narrowed := true }
def RacDecodesUptoSaid : Prop := racDecodesUptoRow.holds Tryd.pinned (OpenSpec.upto racDecodesSpec)

/-- 'kinlaw12.RacBack', WHERE WHAT IT READS IS OF BULK AT MOST 1048576: true; the input reads as it did. -/
def racBackUptoRow : OpenClaim := { program := "ytdpebaheojaihaadoor", sum := "aba48c4cd1647a4a05203b597e7a82021ed9809304b2027824cdffe034274b7d", func := "kinescope/kinlaw12.RacBack", spec := "racBack", inPlace := ["internal/reflectlite.ValueOf", "(internal/reflectlite.Value).Type", "(internal/reflectlite.Value).IsNil", "internal/reflectlite.TypeOf", "(internal/reflectlite.Value).Elem", "(internal/reflectlite.Value).Set"], unfollowed := true, recurses := true, named := ["errors.errorType", "unicode/utf8.first", "unicode/utf8.acceptRanges"], apart := false, laid := [("unicode/utf8.acceptRanges", laid_unicode_utf8_acceptRanges), ("errors.errorType", laid_errors_errorType), ("unicode/utf8.first", laid_unicode_utf8_first)], narrowed := true }
def RacBackUptoSaid : Prop := racBackUptoRow.holds Tryd.pinned (OpenSpec.upto racBackSpec)

/-- 'kinlaw12.RacLong', WHERE WHAT IT READS IS OF BULK AT MOST 1048576: true; the input reads as it did. -/
def racLongUptoRow : OpenClaim := { program := "ytdpebaheojaihaadoor", sum := "aba48c4cd1647a4a05203b597e7a82021ed9809304b2027824cdffe034274b7d", func := "kinescope/kinlaw12.RacLong", spec := "racLong", inPlace := ["internal/reflectlite.ValueOf", "(internal/reflectlite.Value).Type", "(internal/reflectlite.Value).IsNil", "internal/reflectlite.TypeOf", "(internal/reflectlite.Value).Elem", "(internal/reflectlite.Value).Set"], unfollowed := true, recurses := true, named := ["errors.errorType", "unicode/utf8.first", "unicode/utf8.acceptRanges"], apart := false, laid := [("unicode/utf8.acceptRanges", laid_unicode_utf8_acceptRanges), ("errors.errorType", laid_errors_errorType), ("unicode/utf8.first", laid_unicode_utf8_first)], narrowed := true }
def RacLongUptoSaid : Prop := racLongUptoRow.holds Tryd.pinned (OpenSpec.upto racLongSpec)

/-- 'kinlaw12.RacSize', WHERE WHAT IT READS IS OF BULK AT MOST 1048576: true; the input reads as it did. -/
def racSizeUptoRow : OpenClaim := { program := "ytdpebaheojaihaadoor", sum := "aba48c4cd1647a4a05203b597e7a82021ed9809304b2027824cdffe034274b7d", func := "kinescope/kinlaw12.RacSize", spec := "racSize", inPlace := ["internal/reflectlite.ValueOf", "(internal/reflectlite.Value).Type", "(internal/reflectlite.Value).IsNil", "internal/reflectlite.TypeOf", "(internal/reflectlite.Value).Elem", "(internal/reflectlite.Value).Set"], unfollowed := true, recurses := true, named := ["errors.errorType", "unicode/utf8.first", "unicode/utf8.acceptRanges"], apart := false, laid := [("unicode/utf8.acceptRanges", laid_unicode_utf8_acceptRanges), ("errors.errorType", laid_errors_errorType), ("unicode/utf8.first", laid_unicode_utf8_first)], narrowed := true }
def RacSizeUptoSaid : Prop := racSizeUptoRow.holds Tryd.pinned (OpenSpec.upto racSizeSpec)

/-- 'kinlaw12.RacZeros', WHERE WHAT IT READS IS OF BULK AT MOST 1048576: true; the input reads as it did. -/
def racZerosUptoRow : OpenClaim := { program := "ytdpebaheojaihaadoor", sum := "aba48c4cd1647a4a05203b597e7a82021ed9809304b2027824cdffe034274b7d", func := "kinescope/kinlaw12.RacZeros", spec := "racZeros", inPlace := ["internal/reflectlite.ValueOf", "(internal/reflectlite.Value).Type", "(internal/reflectlite.Value).IsNil", "internal/reflectlite.TypeOf", "(internal/reflectlite.Value).Elem", "(internal/reflectlite.Value).Set"], unfollowed := true, recurses := true, named := ["errors.errorType", "unicode/utf8.first", "unicode/utf8.acceptRanges"], apart := false, laid := [("unicode/utf8.acceptRanges", laid_unicode_utf8_acceptRanges), ("errors.errorType", laid_errors_errorType), ("unicode/utf8.first", laid_unicode_utf8_first)], narrowed := true }
def RacZerosUptoSaid : Prop := racZerosUptoRow.holds Tryd.pinned (OpenSpec.upto racZerosSpec)

end Rows
end Go.Proofs.YtdpebaheojaihaaDoor
