/-
  NARROWER THAN 'FOR EVERY INPUT', by the rows' own cells (each row's printed sentence says how): WhtTurns: laid · WhtSigns: laid · WhtBack: laid · WhtSmall: laid · WhtSums: laid · WhtFlat: laid · AllocCaps: laid · AllocFits: laid · AllocSums: laid · AllocBounds: laid · QuantOne: laid · QuantPeak: laid.
  DERIVED. THE GIVEN ROWS OF THIS SEAT. 12 by the template 'for every input the law returns true; each argument reads behind the call as it read before'; 0 by the template 'total and deterministic' (their statements: YtbmknmenaaanaaaDoorTotals.lean).
  GIVEN WITH THE SEED: the statements are not yours to turn. If you find one false, say at which input.
  Laid BY PROGRAM, IN A SANDBOX (cutbox-rows.mjs): the forced cells as the released guide's own fill.sh prints them over the translation 3a5175009c3cec0d… (all of the seat's roots in one cut). By AI agents, Wed Nov 11 2026. No macro, syntax, notation, axiom, sorry.
-/
import Derived.Test.YtbmknmenaaanaaaDoorChecked
import GoSem.Claim
import GoSem.ClaimJoined
import GoSem.ClaimMapViews
import Derived.JoinedTies
import Derived.KernelRfl
namespace Go.Proofs.YtbmknmenaaanaaaDoor
/- THE CELL 'sum', in the pinned program and in every row, IS THE sha256 OF THE DUMP (.gsa) THAT YtbmknmenaaanaaaDoorProg.lean LOADS. Nothing in Lean hashes anything: it is a label: what it is worth is what the hold of that sum in a sandbox is worth. -/
noncomputable def Tryd.pinned : Pinned := { name := "ytbmknmenaaanaaadoor", sum := "3a5175009c3cec0d316db5977569c88b0ee021db562c3fb2814f60ed3a4590f4", checked := Tryd.checked }
namespace Rows
def none {H : Type} : Left H := { results := [], args := [] }

/- WHAT THE LISTED PACKAGE-LEVEL VARIABLES READ AS WHEN THE CALL BEGINS. Each datum BY PROGRAM (the guide's laid-datum.mjs) off the statement by which the dump's own 'gosem.cut.vars' lays the variable. In a bare row this is a premise. The card (YtbmknmenaaanaaaDoorCards.lean) ties it to the program's text. -/
def laid_errors_errorType {H : Type} : DataW H := .iface "internal/reflectlite.rtype" (.agg [.ptr (.lit (.string [101, 114, 114, 111, 114]))])

/-- 'kinlaw8.WhtTurns': WHATEVER THE INPUT: true; the input reads as it did. -/
def whtTurnsSpec : ChangeSpec := { name := "whtTurns", fn := fun _ => fun
  | [d1, d2] => { results := [.lit (.bool true)], args := [d1, d2] }
  | _ => none }
def whtTurnsRow : OpenClaim := { program := "ytbmknmenaaanaaadoor", sum := "3a5175009c3cec0d316db5977569c88b0ee021db562c3fb2814f60ed3a4590f4", func := "kinescope/kinlaw8.WhtTurns", spec := "whtTurns", inPlace := ["internal/reflectlite.ValueOf", "(internal/reflectlite.Value).Type", "(internal/reflectlite.Value).IsNil", "internal/reflectlite.TypeOf", "(internal/reflectlite.Value).Elem", "(internal/reflectlite.Value).Set"], unfollowed := true, recurses := true, named := ["errors.errorType"], apart := false, laid := [("errors.errorType", laid_errors_errorType)] }
def WhtTurnsSaid : Prop := whtTurnsRow.holds Tryd.pinned (OpenSpec.ofChange whtTurnsSpec)

/-- ITS FALSE NEIGHBOUR: 'it returns false'. Refute it at one input. -/
def whtTurnsWrong : ChangeSpec := { name := "whtTurns", fn := fun _ => fun
  | [d1, d2] => { results := [.lit (.bool false)], args := [d1, d2] }
  | _ => none }
def WhtTurnsWrongFalsely : Prop := whtTurnsRow.holds Tryd.pinned (OpenSpec.ofChange whtTurnsWrong)

/-- 'kinlaw8.WhtSigns': WHATEVER THE INPUT: true; the input reads as it did. -/
def whtSignsSpec : ChangeSpec := { name := "whtSigns", fn := fun _ => fun
  | [d1, d2] => { results := [.lit (.bool true)], args := [d1, d2] }
  | _ => none }
def whtSignsRow : OpenClaim := { program := "ytbmknmenaaanaaadoor", sum := "3a5175009c3cec0d316db5977569c88b0ee021db562c3fb2814f60ed3a4590f4", func := "kinescope/kinlaw8.WhtSigns", spec := "whtSigns", inPlace := ["internal/reflectlite.ValueOf", "(internal/reflectlite.Value).Type", "(internal/reflectlite.Value).IsNil", "internal/reflectlite.TypeOf", "(internal/reflectlite.Value).Elem", "(internal/reflectlite.Value).Set"], unfollowed := true, recurses := true, named := ["errors.errorType"], apart := false, laid := [("errors.errorType", laid_errors_errorType)] }
def WhtSignsSaid : Prop := whtSignsRow.holds Tryd.pinned (OpenSpec.ofChange whtSignsSpec)

/-- ITS FALSE NEIGHBOUR: 'it returns false'. Refute it at one input. -/
def whtSignsWrong : ChangeSpec := { name := "whtSigns", fn := fun _ => fun
  | [d1, d2] => { results := [.lit (.bool false)], args := [d1, d2] }
  | _ => none }
def WhtSignsWrongFalsely : Prop := whtSignsRow.holds Tryd.pinned (OpenSpec.ofChange whtSignsWrong)

/-- 'kinlaw8.WhtBack': WHATEVER THE INPUT: true; the input reads as it did. -/
def whtBackSpec : ChangeSpec := { name := "whtBack", fn := fun _ => fun
  | [d] => { results := [.lit (.bool true)], args := [d] }
  | _ => none }
def whtBackRow : OpenClaim := { program := "ytbmknmenaaanaaadoor", sum := "3a5175009c3cec0d316db5977569c88b0ee021db562c3fb2814f60ed3a4590f4", func := "kinescope/kinlaw8.WhtBack", spec := "whtBack", inPlace := ["internal/reflectlite.ValueOf", "(internal/reflectlite.Value).Type", "(internal/reflectlite.Value).IsNil", "internal/reflectlite.TypeOf", "(internal/reflectlite.Value).Elem", "(internal/reflectlite.Value).Set"], unfollowed := true, recurses := true, named := ["errors.errorType"], apart := false, laid := [("errors.errorType", laid_errors_errorType)] }
def WhtBackSaid : Prop := whtBackRow.holds Tryd.pinned (OpenSpec.ofChange whtBackSpec)

/-- ITS FALSE NEIGHBOUR: 'it returns false'. Refute it at one input. -/
def whtBackWrong : ChangeSpec := { name := "whtBack", fn := fun _ => fun
  | [d] => { results := [.lit (.bool false)], args := [d] }
  | _ => none }
def WhtBackWrongFalsely : Prop := whtBackRow.holds Tryd.pinned (OpenSpec.ofChange whtBackWrong)

/-- 'kinlaw8.WhtSmall': WHATEVER THE INPUT: true; the input reads as it did. -/
def whtSmallSpec : ChangeSpec := { name := "whtSmall", fn := fun _ => fun
  | [d1, d2] => { results := [.lit (.bool true)], args := [d1, d2] }
  | _ => none }
def whtSmallRow : OpenClaim := { program := "ytbmknmenaaanaaadoor", sum := "3a5175009c3cec0d316db5977569c88b0ee021db562c3fb2814f60ed3a4590f4", func := "kinescope/kinlaw8.WhtSmall", spec := "whtSmall", inPlace := ["internal/reflectlite.ValueOf", "(internal/reflectlite.Value).Type", "(internal/reflectlite.Value).IsNil", "internal/reflectlite.TypeOf", "(internal/reflectlite.Value).Elem", "(internal/reflectlite.Value).Set"], unfollowed := true, recurses := true, named := ["errors.errorType"], apart := false, laid := [("errors.errorType", laid_errors_errorType)] }
def WhtSmallSaid : Prop := whtSmallRow.holds Tryd.pinned (OpenSpec.ofChange whtSmallSpec)

/-- ITS FALSE NEIGHBOUR: 'it returns false'. Refute it at one input. -/
def whtSmallWrong : ChangeSpec := { name := "whtSmall", fn := fun _ => fun
  | [d1, d2] => { results := [.lit (.bool false)], args := [d1, d2] }
  | _ => none }
def WhtSmallWrongFalsely : Prop := whtSmallRow.holds Tryd.pinned (OpenSpec.ofChange whtSmallWrong)

/-- 'kinlaw8.WhtSums': WHATEVER THE INPUT: true; the input reads as it did. -/
def whtSumsSpec : ChangeSpec := { name := "whtSums", fn := fun _ => fun
  | [d1, d2] => { results := [.lit (.bool true)], args := [d1, d2] }
  | _ => none }
def whtSumsRow : OpenClaim := { program := "ytbmknmenaaanaaadoor", sum := "3a5175009c3cec0d316db5977569c88b0ee021db562c3fb2814f60ed3a4590f4", func := "kinescope/kinlaw8.WhtSums", spec := "whtSums", inPlace := ["internal/reflectlite.ValueOf", "(internal/reflectlite.Value).Type", "(internal/reflectlite.Value).IsNil", "internal/reflectlite.TypeOf", "(internal/reflectlite.Value).Elem", "(internal/reflectlite.Value).Set"], unfollowed := true, recurses := true, named := ["errors.errorType"], apart := false, laid := [("errors.errorType", laid_errors_errorType)] }
def WhtSumsSaid : Prop := whtSumsRow.holds Tryd.pinned (OpenSpec.ofChange whtSumsSpec)

/-- ITS FALSE NEIGHBOUR: 'it returns false'. Refute it at one input. -/
def whtSumsWrong : ChangeSpec := { name := "whtSums", fn := fun _ => fun
  | [d1, d2] => { results := [.lit (.bool false)], args := [d1, d2] }
  | _ => none }
def WhtSumsWrongFalsely : Prop := whtSumsRow.holds Tryd.pinned (OpenSpec.ofChange whtSumsWrong)

/-- 'kinlaw8.WhtFlat': WHATEVER THE INPUT: true; the input reads as it did. -/
def whtFlatSpec : ChangeSpec := { name := "whtFlat", fn := fun _ => fun
  | [d1, d2, d3] => { results := [.lit (.bool true)], args := [d1, d2, d3] }
  | _ => none }
def whtFlatRow : OpenClaim := { program := "ytbmknmenaaanaaadoor", sum := "3a5175009c3cec0d316db5977569c88b0ee021db562c3fb2814f60ed3a4590f4", func := "kinescope/kinlaw8.WhtFlat", spec := "whtFlat", inPlace := ["internal/reflectlite.ValueOf", "(internal/reflectlite.Value).Type", "(internal/reflectlite.Value).IsNil", "internal/reflectlite.TypeOf", "(internal/reflectlite.Value).Elem", "(internal/reflectlite.Value).Set"], unfollowed := true, recurses := true, named := ["errors.errorType"], apart := false, laid := [("errors.errorType", laid_errors_errorType)] }
def WhtFlatSaid : Prop := whtFlatRow.holds Tryd.pinned (OpenSpec.ofChange whtFlatSpec)

/-- ITS FALSE NEIGHBOUR: 'it returns false'. Refute it at one input. -/
def whtFlatWrong : ChangeSpec := { name := "whtFlat", fn := fun _ => fun
  | [d1, d2, d3] => { results := [.lit (.bool false)], args := [d1, d2, d3] }
  | _ => none }
def WhtFlatWrongFalsely : Prop := whtFlatRow.holds Tryd.pinned (OpenSpec.ofChange whtFlatWrong)

/-- 'kinlaw19.AllocCaps': WHATEVER THE INPUT: true; the input reads as it did. -/
def allocCapsSpec : ChangeSpec := { name := "allocCaps", fn := fun _ => fun
  | [d1, d2] => { results := [.lit (.bool true)], args := [d1, d2] }
  | _ => none }
def allocCapsRow : OpenClaim := { program := "ytbmknmenaaanaaadoor", sum := "3a5175009c3cec0d316db5977569c88b0ee021db562c3fb2814f60ed3a4590f4", func := "kinescope/kinlaw19.AllocCaps", spec := "allocCaps", inPlace := ["internal/reflectlite.ValueOf", "(internal/reflectlite.Value).Type", "(internal/reflectlite.Value).IsNil", "internal/reflectlite.TypeOf", "(internal/reflectlite.Value).Elem", "(internal/reflectlite.Value).Set"], unfollowed := true, recurses := true, named := ["errors.errorType"], apart := false, laid := [("errors.errorType", laid_errors_errorType)] }
def AllocCapsSaid : Prop := allocCapsRow.holds Tryd.pinned (OpenSpec.ofChange allocCapsSpec)

/-- ITS FALSE NEIGHBOUR: 'it returns false'. Refute it at one input. -/
def allocCapsWrong : ChangeSpec := { name := "allocCaps", fn := fun _ => fun
  | [d1, d2] => { results := [.lit (.bool false)], args := [d1, d2] }
  | _ => none }
def AllocCapsWrongFalsely : Prop := allocCapsRow.holds Tryd.pinned (OpenSpec.ofChange allocCapsWrong)

/-- 'kinlaw19.AllocFits': WHATEVER THE INPUT: true; the input reads as it did. -/
def allocFitsSpec : ChangeSpec := { name := "allocFits", fn := fun _ => fun
  | [d1, d2, d3] => { results := [.lit (.bool true)], args := [d1, d2, d3] }
  | _ => none }
def allocFitsRow : OpenClaim := { program := "ytbmknmenaaanaaadoor", sum := "3a5175009c3cec0d316db5977569c88b0ee021db562c3fb2814f60ed3a4590f4", func := "kinescope/kinlaw19.AllocFits", spec := "allocFits", inPlace := ["internal/reflectlite.ValueOf", "(internal/reflectlite.Value).Type", "(internal/reflectlite.Value).IsNil", "internal/reflectlite.TypeOf", "(internal/reflectlite.Value).Elem", "(internal/reflectlite.Value).Set"], unfollowed := true, recurses := true, named := ["errors.errorType"], apart := false, laid := [("errors.errorType", laid_errors_errorType)] }
def AllocFitsSaid : Prop := allocFitsRow.holds Tryd.pinned (OpenSpec.ofChange allocFitsSpec)

/-- ITS FALSE NEIGHBOUR: 'it returns false'. Refute it at one input. -/
def allocFitsWrong : ChangeSpec := { name := "allocFits", fn := fun _ => fun
  | [d1, d2, d3] => { results := [.lit (.bool false)], args := [d1, d2, d3] }
  | _ => none }
def AllocFitsWrongFalsely : Prop := allocFitsRow.holds Tryd.pinned (OpenSpec.ofChange allocFitsWrong)

/-- 'kinlaw19.AllocSums': WHATEVER THE INPUT: true; the input reads as it did. -/
def allocSumsSpec : ChangeSpec := { name := "allocSums", fn := fun _ => fun
  | [d1, d2] => { results := [.lit (.bool true)], args := [d1, d2] }
  | _ => none }
def allocSumsRow : OpenClaim := { program := "ytbmknmenaaanaaadoor", sum := "3a5175009c3cec0d316db5977569c88b0ee021db562c3fb2814f60ed3a4590f4", func := "kinescope/kinlaw19.AllocSums", spec := "allocSums", inPlace := ["internal/reflectlite.ValueOf", "(internal/reflectlite.Value).Type", "(internal/reflectlite.Value).IsNil", "internal/reflectlite.TypeOf", "(internal/reflectlite.Value).Elem", "(internal/reflectlite.Value).Set"], unfollowed := true, recurses := true, named := ["errors.errorType"], apart := false, laid := [("errors.errorType", laid_errors_errorType)] }
def AllocSumsSaid : Prop := allocSumsRow.holds Tryd.pinned (OpenSpec.ofChange allocSumsSpec)

/-- ITS FALSE NEIGHBOUR: 'it returns false'. Refute it at one input. -/
def allocSumsWrong : ChangeSpec := { name := "allocSums", fn := fun _ => fun
  | [d1, d2] => { results := [.lit (.bool false)], args := [d1, d2] }
  | _ => none }
def AllocSumsWrongFalsely : Prop := allocSumsRow.holds Tryd.pinned (OpenSpec.ofChange allocSumsWrong)

/-- 'kinlaw19.AllocBounds': WHATEVER THE INPUT: true; the input reads as it did. -/
def allocBoundsSpec : ChangeSpec := { name := "allocBounds", fn := fun _ => fun
  | [d1, d2] => { results := [.lit (.bool true)], args := [d1, d2] }
  | _ => none }
def allocBoundsRow : OpenClaim := { program := "ytbmknmenaaanaaadoor", sum := "3a5175009c3cec0d316db5977569c88b0ee021db562c3fb2814f60ed3a4590f4", func := "kinescope/kinlaw19.AllocBounds", spec := "allocBounds", inPlace := ["internal/reflectlite.ValueOf", "(internal/reflectlite.Value).Type", "(internal/reflectlite.Value).IsNil", "internal/reflectlite.TypeOf", "(internal/reflectlite.Value).Elem", "(internal/reflectlite.Value).Set"], unfollowed := true, recurses := true, named := ["errors.errorType"], apart := false, laid := [("errors.errorType", laid_errors_errorType)] }
def AllocBoundsSaid : Prop := allocBoundsRow.holds Tryd.pinned (OpenSpec.ofChange allocBoundsSpec)

/-- ITS FALSE NEIGHBOUR: 'it returns false'. Refute it at one input. -/
def allocBoundsWrong : ChangeSpec := { name := "allocBounds", fn := fun _ => fun
  | [d1, d2] => { results := [.lit (.bool false)], args := [d1, d2] }
  | _ => none }
def AllocBoundsWrongFalsely : Prop := allocBoundsRow.holds Tryd.pinned (OpenSpec.ofChange allocBoundsWrong)

/-- 'kinlaw9.QuantOne': WHATEVER THE INPUT: true; the input reads as it did. -/
def quantOneSpec : ChangeSpec := { name := "quantOne", fn := fun _ => fun
  | [d1, d2] => { results := [.lit (.bool true)], args := [d1, d2] }
  | _ => none }
def quantOneRow : OpenClaim := { program := "ytbmknmenaaanaaadoor", sum := "3a5175009c3cec0d316db5977569c88b0ee021db562c3fb2814f60ed3a4590f4", func := "kinescope/kinlaw9.QuantOne", spec := "quantOne", inPlace := ["internal/reflectlite.ValueOf", "(internal/reflectlite.Value).Type", "(internal/reflectlite.Value).IsNil", "internal/reflectlite.TypeOf", "(internal/reflectlite.Value).Elem", "(internal/reflectlite.Value).Set"], unfollowed := true, recurses := true, named := ["errors.errorType"], apart := false, laid := [("errors.errorType", laid_errors_errorType)] }
def QuantOneSaid : Prop := quantOneRow.holds Tryd.pinned (OpenSpec.ofChange quantOneSpec)

/-- ITS FALSE NEIGHBOUR: 'it returns false'. Refute it at one input. -/
def quantOneWrong : ChangeSpec := { name := "quantOne", fn := fun _ => fun
  | [d1, d2] => { results := [.lit (.bool false)], args := [d1, d2] }
  | _ => none }
def QuantOneWrongFalsely : Prop := quantOneRow.holds Tryd.pinned (OpenSpec.ofChange quantOneWrong)

/-- 'kinlaw9.QuantPeak': WHATEVER THE INPUT: true; the input reads as it did. -/
def quantPeakSpec : ChangeSpec := { name := "quantPeak", fn := fun _ => fun
  | [d1, d2, d3] => { results := [.lit (.bool true)], args := [d1, d2, d3] }
  | _ => none }
def quantPeakRow : OpenClaim := { program := "ytbmknmenaaanaaadoor", sum := "3a5175009c3cec0d316db5977569c88b0ee021db562c3fb2814f60ed3a4590f4", func := "kinescope/kinlaw9.QuantPeak", spec := "quantPeak", inPlace := ["internal/reflectlite.ValueOf", "(internal/reflectlite.Value).Type", "(internal/reflectlite.Value).IsNil", "internal/reflectlite.TypeOf", "(internal/reflectlite.Value).Elem", "(internal/reflectlite.Value).Set"], unfollowed := true, recurses := true, named := ["errors.errorType"], apart := false, laid := [("errors.errorType", laid_errors_errorType)] }
def QuantPeakSaid : Prop := quantPeakRow.holds Tryd.pinned (OpenSpec.ofChange quantPeakSpec)

/-- ITS FALSE NEIGHBOUR: 'it returns false'. Refute it at one input. -/
def quantPeakWrong : ChangeSpec := { name := "quantPeak", fn := fun _ => fun
  | [d1, d2, d3] => { results := [.lit (.bool false)], args := [d1, d2, d3] }
  | _ => none }
def QuantPeakWrongFalsely : Prop := quantPeakRow.holds Tryd.pinned (OpenSpec.ofChange quantPeakWrong)

/- THE SECOND FORM. 'bulk': how many values and letters a reading holds, each counted each time it is reached (what is shared counts as often as it is met; a slice's spare places count too). A statement '..UptoSaid' is the law's where the arguments, and the package variables that the reading takes, are together of bulk at most 1048576: NARROWER than '..Said'. Prove '..Said' where nothing that the law and all that it calls make is longer than what came in: it says more and counts as full. Else prove '..UptoSaid'. A law counts once. -/
mutual
def uptoBulk {H : Type} : DataW H → Nat
  | .lit (.string bytes) => bytes.length + 1
  | .lit _ => 1
  | .nil => 1
  | .ptr d => uptoBulk d + 1
  | .slice elems spare => uptoBulkAll elems + uptoBulkAll spare + 1
  | .agg parts => uptoBulkAll parts + 1
  | .iface _ d => uptoBulk d + 1
  | .map entries => uptoBulkEntries entries + 1
  | .held _ => 1
def uptoBulkAll {H : Type} : List (DataW H) → Nat
  | [] => 0
  | d :: r => uptoBulk d + uptoBulkAll r
def uptoBulkEntries {H : Type} : List (Lit × DataW H) → Nat
  | [] => 0
  | x :: r => uptoBulkEntry x + uptoBulkEntries r
def uptoBulkEntry {H : Type} : Lit × DataW H → Nat
  | (.string bytes, d) => bytes.length + uptoBulk d + 1
  | (_, d) => uptoBulk d + 1
 end
def uptoSmall : (H : Type) → List (DataW H) → Bool := fun _ ds => decide (uptoBulkAll ds ≤ 1048576)
def OpenSpec.upto (s : _root_.Go.ChangeSpec) : _root_.Go.OpenSpec := { _root_.Go.OpenSpec.ofChange s with cond := some uptoSmall }

/-- 'kinlaw8.WhtTurns', WHERE WHAT IT READS IS OF BULK AT MOST 1048576: true; the input reads as it did. -/
def whtTurnsUptoRow : OpenClaim := { program := "ytbmknmenaaanaaadoor", sum := "3a5175009c3cec0d316db5977569c88b0ee021db562c3fb2814f60ed3a4590f4", func := "kinescope/kinlaw8.WhtTurns", spec := "whtTurns", inPlace := ["internal/reflectlite.ValueOf", "(internal/reflectlite.Value).Type", "(internal/reflectlite.Value).IsNil", "internal/reflectlite.TypeOf", "(internal/reflectlite.Value).Elem", "(internal/reflectlite.Value).Set"], unfollowed := true, recurses := true, named := ["errors.errorType"], apart := false, laid := [("errors.errorType", laid_errors_errorType)], narrowed := true }
def WhtTurnsUptoSaid : Prop := whtTurnsUptoRow.holds Tryd.pinned (OpenSpec.upto whtTurnsSpec)

/-- 'kinlaw8.WhtSigns', WHERE WHAT IT READS IS OF BULK AT MOST 1048576: true; the input reads as it did. -/
def whtSignsUptoRow : OpenClaim := { program := "ytbmknmenaaanaaadoor", sum := "3a5175009c3cec0d316db5977569c88b0ee021db562c3fb2814f60ed3a4590f4", func := "kinescope/kinlaw8.WhtSigns", spec := "whtSigns", inPlace := ["internal/reflectlite.ValueOf", "(internal/reflectlite.Value).Type", "(internal/reflectlite.Value).IsNil", "internal/reflectlite.TypeOf", "(internal/reflectlite.Value).Elem", "(internal/reflectlite.Value).Set"], unfollowed := true, recurses := true, named := ["errors.errorType"], apart := false, laid := [("errors.errorType", laid_errors_errorType)], narrowed := true }
def WhtSignsUptoSaid : Prop := whtSignsUptoRow.holds Tryd.pinned (OpenSpec.upto whtSignsSpec)

/-- 'kinlaw8.WhtBack', WHERE WHAT IT READS IS OF BULK AT MOST 1048576: true; the input reads as it did. -/
def whtBackUptoRow : OpenClaim := { program := "ytbmknmenaaanaaadoor", sum := "3a5175009c3cec0d316db5977569c88b0ee021db562c3fb2814f60ed3a4590f4", func := "kinescope/kinlaw8.WhtBack", spec := "whtBack", inPlace := ["internal/reflectlite.ValueOf", "(internal/reflectlite.Value).Type", "(internal/reflectlite.Value).IsNil", "internal/reflectlite.TypeOf", "(internal/reflectlite.Value).Elem", "(internal/reflectlite.Value).Set"], unfollowed := true, recurses := true, named := ["errors.errorType"], apart := false, laid := [("errors.errorType", laid_errors_errorType)], narrowed := true }
def WhtBackUptoSaid : Prop := whtBackUptoRow.holds Tryd.pinned (OpenSpec.upto whtBackSpec)

/-- 'kinlaw8.WhtSmall', WHERE WHAT IT READS IS OF BULK AT MOST 1048576: true; the input reads as it did. -/
def whtSmallUptoRow : OpenClaim := { program := "ytbmknmenaaanaaadoor", sum := "3a5175009c3cec0d316db5977569c88b0ee021db562c3fb2814f60ed3a4590f4", func := "kinescope/kinlaw8.WhtSmall", spec := "whtSmall", inPlace := ["internal/reflectlite.ValueOf", "(internal/reflectlite.Value).Type", "(internal/reflectlite.Value).IsNil", "internal/reflectlite.TypeOf", "(internal/reflectlite.Value).Elem", "(internal/reflectlite.Value).Set"], unfollowed := true, recurses := true, named := ["errors.errorType"], apart := false, laid := [("errors.errorType", laid_errors_errorType)], narrowed := true }
def WhtSmallUptoSaid : Prop := whtSmallUptoRow.holds Tryd.pinned (OpenSpec.upto whtSmallSpec)

/-- 'kinlaw8.WhtSums', WHERE WHAT IT READS IS OF BULK AT MOST 1048576: true; the input reads as it did. -/
def whtSumsUptoRow : OpenClaim := { program := "ytbmknmenaaanaaadoor", sum := "3a5175009c3cec0d316db5977569c88b0ee021db562c3fb2814f60ed3a4590f4", func := "kinescope/kinlaw8.WhtSums", spec := "whtSums", inPlace := ["internal/reflectlite.ValueOf", "(internal/reflectlite.Value).Type", "(internal/reflectlite.Value).IsNil", "internal/reflectlite.TypeOf", "(internal/reflectlite.Value).Elem", "(internal/reflectlite.Value).Set"], unfollowed := true, recurses := true, named := ["errors.errorType"], apart := false, laid := [("errors.errorType", laid_errors_errorType)], narrowed := true }
def WhtSumsUptoSaid : Prop := whtSumsUptoRow.holds Tryd.pinned (OpenSpec.upto whtSumsSpec)

/-- 'kinlaw8.WhtFlat', WHERE WHAT IT READS IS OF BULK AT MOST 1048576: true; the input reads as it did. -/
def whtFlatUptoRow : OpenClaim := { program := "ytbmknmenaaanaaadoor", sum := "3a5175009c3cec0d316db5977569c88b0ee021db562c3fb2814f60ed3a4590f4", func := "kinescope/kinlaw8.WhtFlat", spec := "whtFlat", inPlace := ["internal/reflectlite.ValueOf", "(internal/reflectlite.Value).Type", "(internal/reflectlite.Value).IsNil", "internal/reflectlite.TypeOf", "(internal/reflectlite.Value).Elem", "(internal/reflectlite.Value).Set"], unfollowed := true, recurses := true, named := ["errors.errorType"], apart := false, laid := [("errors.errorType", laid_errors_errorType)], narrowed := true }
def WhtFlatUptoSaid : Prop := whtFlatUptoRow.holds Tryd.pinned (OpenSpec.upto whtFlatSpec)

/-- 'kinlaw19.AllocCaps', WHERE WHAT IT READS IS OF BULK AT MOST 1048576: true; the input reads as it did. -/
def allocCapsUptoRow : OpenClaim := { program := "ytbmknmenaaanaaadoor", sum := "3a5175009c3cec0d316db5977569c88b0ee021db562c3fb2814f60ed3a4590f4", func := "kinescope/kinlaw19.AllocCaps", spec := "allocCaps", inPlace := ["internal/reflectlite.ValueOf", "(internal/reflectlite.Value).Type", "(internal/reflectlite.Value).IsNil", "internal/reflectlite.TypeOf", "(internal/reflectlite.Value).Elem", "(internal/reflectlite.Value).Set"], unfollowed := true, recurses := true, named := ["errors.errorType"], apart := false, laid := [("errors.errorType", laid_errors_errorType)], narrowed := true }
def AllocCapsUptoSaid : Prop := allocCapsUptoRow.holds Tryd.pinned (OpenSpec.upto allocCapsSpec)

/-- 'kinlaw19.AllocFits', WHERE WHAT IT READS IS OF BULK AT MOST 1048576: true; the input reads as it did. -/
def allocFitsUptoRow : OpenClaim := { program := "ytbmknmenaaanaaadoor", sum := "3a5175009c3cec0d316db5977569c88b0ee021db562c3fb2814f60ed3a4590f4", func := "kinescope/kinlaw19.AllocFits", spec := "allocFits", inPlace := ["internal/reflectlite.ValueOf", "(internal/reflectlite.Value).Type", "(internal/reflectlite.Value).IsNil", "internal/reflectlite.TypeOf", "(internal/reflectlite.Value).Elem", "(internal/reflectlite.Value).Set"], unfollowed := true, recurses := true, named := ["errors.errorType"], apart := false, laid := [("errors.errorType", laid_errors_errorType)], narrowed := true }
def AllocFitsUptoSaid : Prop := allocFitsUptoRow.holds Tryd.pinned (OpenSpec.upto allocFitsSpec)

/-- 'kinlaw19.AllocSums', WHERE WHAT IT READS IS OF BULK AT MOST 1048576: true; the input reads as it did. -/
def allocSumsUptoRow : OpenClaim := { program := "ytbmknmenaaanaaadoor", sum := "3a5175009c3cec0d316db5977569c88b0ee021db562c3fb2814f60ed3a4590f4", func := "kinescope/kinlaw19.AllocSums", spec := "allocSums", inPlace := ["internal/reflectlite.ValueOf", "(internal/reflectlite.Value).Type", "(internal/reflectlite.Value).IsNil", "internal/reflectlite.TypeOf", "(internal/reflectlite.Value).Elem", "(internal/reflectlite.Value).Set"], unfollowed := true, recurses := true, named := ["errors.errorType"], apart := false, laid := [("errors.errorType", laid_errors_errorType)], narrowed := true }
def AllocSumsUptoSaid : Prop := allocSumsUptoRow.holds Tryd.pinned (OpenSpec.upto allocSumsSpec)

/-- 'kinlaw19.AllocBounds', WHERE WHAT IT READS IS OF BULK AT MOST 1048576: true; the input reads as it did. -/
def allocBoundsUptoRow : OpenClaim := { program := "ytbmknmenaaanaaadoor", sum := "3a5175009c3cec0d316db5977569c88b0ee021db562c3fb2814f60ed3a4590f4", func := "kinescope/kinlaw19.AllocBounds", spec := "allocBounds", inPlace := ["internal/reflectlite.ValueOf", "(internal/reflectlite.Value).Type", "(internal/reflectlite.Value).IsNil", "internal/reflectlite.TypeOf", "(internal/reflectlite.Value).Elem", "(internal/reflectlite.Value).Set"], unfollowed := true, recurses := true, named := ["errors.errorType"], apart := false, laid := [("errors.errorType", laid_errors_errorType)], narrowed := true }
def AllocBoundsUptoSaid : Prop := allocBoundsUptoRow.holds Tryd.pinned (OpenSpec.upto allocBoundsSpec)

/-- 'kinlaw9.QuantOne', WHERE WHAT IT READS IS OF BULK AT MOST 1048576: true; the input reads as it did. -/
def quantOneUptoRow : OpenClaim := { program := "ytbmknmenaaanaaadoor", sum := "3a5175009c3cec0d316db5977569c88b0ee021db562c3fb2814f60ed3a4590f4", func := "kinescope/kinlaw9.QuantOne", spec := "quantOne", inPlace := ["internal/reflectlite.ValueOf", "(internal/reflectlite.Value).Type", "(internal/reflectlite.Value).IsNil", "internal/reflectlite.TypeOf", "(internal/reflectlite.Value).Elem", "(internal/reflectlite.Value).Set"], unfollowed := true, recurses := true, named := ["errors.errorType"], apart := false, laid := [("errors.errorType", laid_errors_errorType)], narrowed := true }
def QuantOneUptoSaid : Prop := quantOneUptoRow.holds Tryd.pinned (OpenSpec.upto quantOneSpec)

/-- 'kinlaw9.QuantPeak', WHERE WHAT IT READS IS OF BULK AT MOST 1048576: true; the input reads as it did. -/
def quantPeakUptoRow : OpenClaim := { program := "ytbmknmenaaanaaadoor", sum := "3a5175009c3cec0d316db5977569c88b0ee021db562c3fb2814f60ed3a4590f4", func := "kinescope/kinlaw9.QuantPeak", spec := "quantPeak", inPlace := ["internal/reflectlite.ValueOf", "(internal/reflectlite.Value).Type", "(internal/reflectlite.Value).IsNil", "internal/reflectlite.TypeOf", "(internal/reflectlite.Value).Elem", "(internal/reflectlite.Value).Set"], unfollowed := true, recurses := true, named := ["errors.errorType"], apart := false, laid := [("errors.errorType", laid_errors_errorType)], narrowed := true }
def QuantPeakUptoSaid : Prop := quantPeakUptoRow.holds Tryd.pinned (OpenSpec.upto quantPeakSpec)

end Rows
end Go.Proofs.YtbmknmenaaanaaaDoor
