/-
  NARROWER THAN 'FOR EVERY INPUT', by the rows' own cells (each row's printed sentence says how): BitsWrites: laid · BitsReads: laid · BitsBack: laid · BitsTwo: laid · BitsStops: laid · BitsAligns: laid · MotionHalves: laid · MotionCosts: laid · MotionSearches: laid · MotionSamples: laid · MotionBest: laid · MotionWhole: laid.
  DERIVED. THE GIVEN ROWS OF THIS SEAT. 12 by the template 'for every input the law returns true; each argument reads behind the call as it read before'; 0 by the template 'total and deterministic' (their statements: YtaamnpbhmckpbaaDoorTotals.lean).
  GIVEN WITH THE SEED: the statements are not yours to turn. If you find one false, say at which input.
  Laid BY PROGRAM, IN A SANDBOX (cutbox-rows.mjs): the forced cells as the released guide's own fill.sh prints them over the translation 58e1c4d68dda4edd… (all of the seat's roots in one cut). By AI agents, Wed Nov 11 2026. No macro, syntax, notation, axiom, sorry.
-/
import Derived.Test.YtaamnpbhmckpbaaDoorChecked
import GoSem.Claim
import GoSem.ClaimJoined
import GoSem.ClaimMapViews
import Derived.JoinedTies
import Derived.KernelRfl
namespace Go.Proofs.YtaamnpbhmckpbaaDoor
/- THE CELL 'sum', in the pinned program and in every row, IS THE sha256 OF THE DUMP (.gsa) THAT YtaamnpbhmckpbaaDoorProg.lean LOADS. Nothing in Lean hashes anything: it is a label: what it is worth is what the hold of that sum in a sandbox is worth. -/
noncomputable def Tryd.pinned : Pinned := { name := "ytaamnpbhmckpbaadoor", sum := "58e1c4d68dda4edd70da16fe1a3d0a679583483cdd1f4d515b3e6128793fe433", checked := Tryd.checked }
namespace Rows
def none {H : Type} : Left H := { results := [], args := [] }

/- WHAT THE LISTED PACKAGE-LEVEL VARIABLES READ AS WHEN THE CALL BEGINS. Each datum BY PROGRAM (the guide's laid-datum.mjs) off the statement by which the dump's own 'gosem.cut.vars' lays the variable. In a bare row this is a premise. The card (YtaamnpbhmckpbaaDoorCards.lean) ties it to the program's text. -/
def laid_errors_errorType {H : Type} : DataW H := .iface "internal/reflectlite.rtype" (.agg [.ptr (.lit (.string [101, 114, 114, 111, 114]))])

/-- 'kinlaw2.BitsWrites': WHATEVER THE INPUT: true; the input reads as it did. -/
def bitsWritesSpec : ChangeSpec := { name := "bitsWrites", fn := fun _ => fun
  | [d] => { results := [.lit (.bool true)], args := [d] }
  | _ => none }
def bitsWritesRow : OpenClaim := { program := "ytaamnpbhmckpbaadoor", sum := "58e1c4d68dda4edd70da16fe1a3d0a679583483cdd1f4d515b3e6128793fe433", func := "kinescope/kinlaw2.BitsWrites", spec := "bitsWrites", inPlace := ["internal/reflectlite.ValueOf", "(internal/reflectlite.Value).Type", "(internal/reflectlite.Value).IsNil", "internal/reflectlite.TypeOf", "(internal/reflectlite.Value).Elem", "(internal/reflectlite.Value).Set"], unfollowed := true, recurses := true, named := ["errors.errorType"], apart := false, laid := [("errors.errorType", laid_errors_errorType)] }
def BitsWritesSaid : Prop := bitsWritesRow.holds Tryd.pinned (OpenSpec.ofChange bitsWritesSpec)

/-- ITS FALSE NEIGHBOUR: 'it returns false'. Refute it at one input. -/
def bitsWritesWrong : ChangeSpec := { name := "bitsWrites", fn := fun _ => fun
  | [d] => { results := [.lit (.bool false)], args := [d] }
  | _ => none }
def BitsWritesWrongFalsely : Prop := bitsWritesRow.holds Tryd.pinned (OpenSpec.ofChange bitsWritesWrong)

/-- 'kinlaw2.BitsReads': WHATEVER THE INPUT: true; the input reads as it did. -/
def bitsReadsSpec : ChangeSpec := { name := "bitsReads", fn := fun _ => fun
  | [d1, d2] => { results := [.lit (.bool true)], args := [d1, d2] }
  | _ => none }
def bitsReadsRow : OpenClaim := { program := "ytaamnpbhmckpbaadoor", sum := "58e1c4d68dda4edd70da16fe1a3d0a679583483cdd1f4d515b3e6128793fe433", func := "kinescope/kinlaw2.BitsReads", spec := "bitsReads", inPlace := ["internal/reflectlite.ValueOf", "(internal/reflectlite.Value).Type", "(internal/reflectlite.Value).IsNil", "internal/reflectlite.TypeOf", "(internal/reflectlite.Value).Elem", "(internal/reflectlite.Value).Set"], unfollowed := true, recurses := true, named := ["errors.errorType"], apart := false, laid := [("errors.errorType", laid_errors_errorType)] }
def BitsReadsSaid : Prop := bitsReadsRow.holds Tryd.pinned (OpenSpec.ofChange bitsReadsSpec)

/-- ITS FALSE NEIGHBOUR: 'it returns false'. Refute it at one input. -/
def bitsReadsWrong : ChangeSpec := { name := "bitsReads", fn := fun _ => fun
  | [d1, d2] => { results := [.lit (.bool false)], args := [d1, d2] }
  | _ => none }
def BitsReadsWrongFalsely : Prop := bitsReadsRow.holds Tryd.pinned (OpenSpec.ofChange bitsReadsWrong)

/-- 'kinlaw2.BitsBack': WHATEVER THE INPUT: true; the input reads as it did. -/
def bitsBackSpec : ChangeSpec := { name := "bitsBack", fn := fun _ => fun
  | [d] => { results := [.lit (.bool true)], args := [d] }
  | _ => none }
def bitsBackRow : OpenClaim := { program := "ytaamnpbhmckpbaadoor", sum := "58e1c4d68dda4edd70da16fe1a3d0a679583483cdd1f4d515b3e6128793fe433", func := "kinescope/kinlaw2.BitsBack", spec := "bitsBack", inPlace := ["internal/reflectlite.ValueOf", "(internal/reflectlite.Value).Type", "(internal/reflectlite.Value).IsNil", "internal/reflectlite.TypeOf", "(internal/reflectlite.Value).Elem", "(internal/reflectlite.Value).Set"], unfollowed := true, recurses := true, named := ["errors.errorType"], apart := false, laid := [("errors.errorType", laid_errors_errorType)] }
def BitsBackSaid : Prop := bitsBackRow.holds Tryd.pinned (OpenSpec.ofChange bitsBackSpec)

/-- ITS FALSE NEIGHBOUR: 'it returns false'. Refute it at one input. -/
def bitsBackWrong : ChangeSpec := { name := "bitsBack", fn := fun _ => fun
  | [d] => { results := [.lit (.bool false)], args := [d] }
  | _ => none }
def BitsBackWrongFalsely : Prop := bitsBackRow.holds Tryd.pinned (OpenSpec.ofChange bitsBackWrong)

/-- 'kinlaw2.BitsTwo': WHATEVER THE INPUT: true; the input reads as it did. -/
def bitsTwoSpec : ChangeSpec := { name := "bitsTwo", fn := fun _ => fun
  | [d1, d2, d3] => { results := [.lit (.bool true)], args := [d1, d2, d3] }
  | _ => none }
def bitsTwoRow : OpenClaim := { program := "ytaamnpbhmckpbaadoor", sum := "58e1c4d68dda4edd70da16fe1a3d0a679583483cdd1f4d515b3e6128793fe433", func := "kinescope/kinlaw2.BitsTwo", spec := "bitsTwo", inPlace := ["internal/reflectlite.ValueOf", "(internal/reflectlite.Value).Type", "(internal/reflectlite.Value).IsNil", "internal/reflectlite.TypeOf", "(internal/reflectlite.Value).Elem", "(internal/reflectlite.Value).Set"], unfollowed := true, recurses := true, named := ["errors.errorType"], apart := false, laid := [("errors.errorType", laid_errors_errorType)] }
def BitsTwoSaid : Prop := bitsTwoRow.holds Tryd.pinned (OpenSpec.ofChange bitsTwoSpec)

/-- ITS FALSE NEIGHBOUR: 'it returns false'. Refute it at one input. -/
def bitsTwoWrong : ChangeSpec := { name := "bitsTwo", fn := fun _ => fun
  | [d1, d2, d3] => { results := [.lit (.bool false)], args := [d1, d2, d3] }
  | _ => none }
def BitsTwoWrongFalsely : Prop := bitsTwoRow.holds Tryd.pinned (OpenSpec.ofChange bitsTwoWrong)

/-- 'kinlaw2.BitsStops': WHATEVER THE INPUT: true; the input reads as it did. -/
def bitsStopsSpec : ChangeSpec := { name := "bitsStops", fn := fun _ => fun
  | [d1, d2] => { results := [.lit (.bool true)], args := [d1, d2] }
  | _ => none }
def bitsStopsRow : OpenClaim := { program := "ytaamnpbhmckpbaadoor", sum := "58e1c4d68dda4edd70da16fe1a3d0a679583483cdd1f4d515b3e6128793fe433", func := "kinescope/kinlaw2.BitsStops", spec := "bitsStops", inPlace := ["internal/reflectlite.ValueOf", "(internal/reflectlite.Value).Type", "(internal/reflectlite.Value).IsNil", "internal/reflectlite.TypeOf", "(internal/reflectlite.Value).Elem", "(internal/reflectlite.Value).Set"], unfollowed := true, recurses := true, named := ["errors.errorType"], apart := false, laid := [("errors.errorType", laid_errors_errorType)] }
def BitsStopsSaid : Prop := bitsStopsRow.holds Tryd.pinned (OpenSpec.ofChange bitsStopsSpec)

/-- ITS FALSE NEIGHBOUR: 'it returns false'. Refute it at one input. -/
def bitsStopsWrong : ChangeSpec := { name := "bitsStops", fn := fun _ => fun
  | [d1, d2] => { results := [.lit (.bool false)], args := [d1, d2] }
  | _ => none }
def BitsStopsWrongFalsely : Prop := bitsStopsRow.holds Tryd.pinned (OpenSpec.ofChange bitsStopsWrong)

/-- 'kinlaw2.BitsAligns': WHATEVER THE INPUT: true; the input reads as it did. -/
def bitsAlignsSpec : ChangeSpec := { name := "bitsAligns", fn := fun _ => fun
  | [d1, d2] => { results := [.lit (.bool true)], args := [d1, d2] }
  | _ => none }
def bitsAlignsRow : OpenClaim := { program := "ytaamnpbhmckpbaadoor", sum := "58e1c4d68dda4edd70da16fe1a3d0a679583483cdd1f4d515b3e6128793fe433", func := "kinescope/kinlaw2.BitsAligns", spec := "bitsAligns", inPlace := ["internal/reflectlite.ValueOf", "(internal/reflectlite.Value).Type", "(internal/reflectlite.Value).IsNil", "internal/reflectlite.TypeOf", "(internal/reflectlite.Value).Elem", "(internal/reflectlite.Value).Set"], unfollowed := true, recurses := true, named := ["errors.errorType"], apart := false, laid := [("errors.errorType", laid_errors_errorType)] }
def BitsAlignsSaid : Prop := bitsAlignsRow.holds Tryd.pinned (OpenSpec.ofChange bitsAlignsSpec)

/-- ITS FALSE NEIGHBOUR: 'it returns false'. Refute it at one input. -/
def bitsAlignsWrong : ChangeSpec := { name := "bitsAligns", fn := fun _ => fun
  | [d1, d2] => { results := [.lit (.bool false)], args := [d1, d2] }
  | _ => none }
def BitsAlignsWrongFalsely : Prop := bitsAlignsRow.holds Tryd.pinned (OpenSpec.ofChange bitsAlignsWrong)

/-- 'kinlaw11.MotionHalves': WHATEVER THE INPUT: true; the input reads as it did. -/
def motionHalvesSpec : ChangeSpec := { name := "motionHalves", fn := fun _ => fun
  | [d1, d2, d3, d4, d5, d6, d7] => { results := [.lit (.bool true)], args := [d1, d2, d3, d4, d5, d6, d7] }
  | _ => none }
def motionHalvesRow : OpenClaim := { program := "ytaamnpbhmckpbaadoor", sum := "58e1c4d68dda4edd70da16fe1a3d0a679583483cdd1f4d515b3e6128793fe433", func := "kinescope/kinlaw11.MotionHalves", spec := "motionHalves", inPlace := ["internal/reflectlite.ValueOf", "(internal/reflectlite.Value).Type", "(internal/reflectlite.Value).IsNil", "internal/reflectlite.TypeOf", "(internal/reflectlite.Value).Elem", "(internal/reflectlite.Value).Set"], unfollowed := true, recurses := true, named := ["errors.errorType"], apart := false, laid := [("errors.errorType", laid_errors_errorType)] }
def MotionHalvesSaid : Prop := motionHalvesRow.holds Tryd.pinned (OpenSpec.ofChange motionHalvesSpec)

/-- ITS FALSE NEIGHBOUR: 'it returns false'. Refute it at one input. -/
def motionHalvesWrong : ChangeSpec := { name := "motionHalves", fn := fun _ => fun
  | [d1, d2, d3, d4, d5, d6, d7] => { results := [.lit (.bool false)], args := [d1, d2, d3, d4, d5, d6, d7] }
  | _ => none }
def MotionHalvesWrongFalsely : Prop := motionHalvesRow.holds Tryd.pinned (OpenSpec.ofChange motionHalvesWrong)

/-- 'kinlaw11.MotionCosts': WHATEVER THE INPUT: true; the input reads as it did. -/
def motionCostsSpec : ChangeSpec := { name := "motionCosts", fn := fun _ => fun
  | [d1, d2, d3] => { results := [.lit (.bool true)], args := [d1, d2, d3] }
  | _ => none }
def motionCostsRow : OpenClaim := { program := "ytaamnpbhmckpbaadoor", sum := "58e1c4d68dda4edd70da16fe1a3d0a679583483cdd1f4d515b3e6128793fe433", func := "kinescope/kinlaw11.MotionCosts", spec := "motionCosts", inPlace := ["internal/reflectlite.ValueOf", "(internal/reflectlite.Value).Type", "(internal/reflectlite.Value).IsNil", "internal/reflectlite.TypeOf", "(internal/reflectlite.Value).Elem", "(internal/reflectlite.Value).Set"], unfollowed := true, recurses := true, named := ["errors.errorType"], apart := false, laid := [("errors.errorType", laid_errors_errorType)] }
def MotionCostsSaid : Prop := motionCostsRow.holds Tryd.pinned (OpenSpec.ofChange motionCostsSpec)

/-- ITS FALSE NEIGHBOUR: 'it returns false'. Refute it at one input. -/
def motionCostsWrong : ChangeSpec := { name := "motionCosts", fn := fun _ => fun
  | [d1, d2, d3] => { results := [.lit (.bool false)], args := [d1, d2, d3] }
  | _ => none }
def MotionCostsWrongFalsely : Prop := motionCostsRow.holds Tryd.pinned (OpenSpec.ofChange motionCostsWrong)

/-- 'kinlaw11.MotionSearches': WHATEVER THE INPUT: true; the input reads as it did. -/
def motionSearchesSpec : ChangeSpec := { name := "motionSearches", fn := fun _ => fun
  | [d1, d2, d3, d4, d5] => { results := [.lit (.bool true)], args := [d1, d2, d3, d4, d5] }
  | _ => none }
def motionSearchesRow : OpenClaim := { program := "ytaamnpbhmckpbaadoor", sum := "58e1c4d68dda4edd70da16fe1a3d0a679583483cdd1f4d515b3e6128793fe433", func := "kinescope/kinlaw11.MotionSearches", spec := "motionSearches", inPlace := ["internal/reflectlite.ValueOf", "(internal/reflectlite.Value).Type", "(internal/reflectlite.Value).IsNil", "internal/reflectlite.TypeOf", "(internal/reflectlite.Value).Elem", "(internal/reflectlite.Value).Set"], unfollowed := true, recurses := true, named := ["errors.errorType"], apart := false, laid := [("errors.errorType", laid_errors_errorType)] }
def MotionSearchesSaid : Prop := motionSearchesRow.holds Tryd.pinned (OpenSpec.ofChange motionSearchesSpec)

/-- ITS FALSE NEIGHBOUR: 'it returns false'. Refute it at one input. -/
def motionSearchesWrong : ChangeSpec := { name := "motionSearches", fn := fun _ => fun
  | [d1, d2, d3, d4, d5] => { results := [.lit (.bool false)], args := [d1, d2, d3, d4, d5] }
  | _ => none }
def MotionSearchesWrongFalsely : Prop := motionSearchesRow.holds Tryd.pinned (OpenSpec.ofChange motionSearchesWrong)

/-- 'kinlaw11.MotionSamples': WHATEVER THE INPUT: true; the input reads as it did. -/
def motionSamplesSpec : ChangeSpec := { name := "motionSamples", fn := fun _ => fun
  | [d1, d2, d3, d4, d5] => { results := [.lit (.bool true)], args := [d1, d2, d3, d4, d5] }
  | _ => none }
def motionSamplesRow : OpenClaim := { program := "ytaamnpbhmckpbaadoor", sum := "58e1c4d68dda4edd70da16fe1a3d0a679583483cdd1f4d515b3e6128793fe433", func := "kinescope/kinlaw11.MotionSamples", spec := "motionSamples", inPlace := ["internal/reflectlite.ValueOf", "(internal/reflectlite.Value).Type", "(internal/reflectlite.Value).IsNil", "internal/reflectlite.TypeOf", "(internal/reflectlite.Value).Elem", "(internal/reflectlite.Value).Set"], unfollowed := true, recurses := true, named := ["errors.errorType"], apart := false, laid := [("errors.errorType", laid_errors_errorType)] }
def MotionSamplesSaid : Prop := motionSamplesRow.holds Tryd.pinned (OpenSpec.ofChange motionSamplesSpec)

/-- ITS FALSE NEIGHBOUR: 'it returns false'. Refute it at one input. -/
def motionSamplesWrong : ChangeSpec := { name := "motionSamples", fn := fun _ => fun
  | [d1, d2, d3, d4, d5] => { results := [.lit (.bool false)], args := [d1, d2, d3, d4, d5] }
  | _ => none }
def MotionSamplesWrongFalsely : Prop := motionSamplesRow.holds Tryd.pinned (OpenSpec.ofChange motionSamplesWrong)

/-- 'kinlaw11.MotionBest': WHATEVER THE INPUT: true; the input reads as it did. -/
def motionBestSpec : ChangeSpec := { name := "motionBest", fn := fun _ => fun
  | [d1, d2, d3, d4, d5, d6] => { results := [.lit (.bool true)], args := [d1, d2, d3, d4, d5, d6] }
  | _ => none }
def motionBestRow : OpenClaim := { program := "ytaamnpbhmckpbaadoor", sum := "58e1c4d68dda4edd70da16fe1a3d0a679583483cdd1f4d515b3e6128793fe433", func := "kinescope/kinlaw11.MotionBest", spec := "motionBest", inPlace := ["internal/reflectlite.ValueOf", "(internal/reflectlite.Value).Type", "(internal/reflectlite.Value).IsNil", "internal/reflectlite.TypeOf", "(internal/reflectlite.Value).Elem", "(internal/reflectlite.Value).Set"], unfollowed := true, recurses := true, named := ["errors.errorType"], apart := false, laid := [("errors.errorType", laid_errors_errorType)] }
def MotionBestSaid : Prop := motionBestRow.holds Tryd.pinned (OpenSpec.ofChange motionBestSpec)

/-- ITS FALSE NEIGHBOUR: 'it returns false'. Refute it at one input. -/
def motionBestWrong : ChangeSpec := { name := "motionBest", fn := fun _ => fun
  | [d1, d2, d3, d4, d5, d6] => { results := [.lit (.bool false)], args := [d1, d2, d3, d4, d5, d6] }
  | _ => none }
def MotionBestWrongFalsely : Prop := motionBestRow.holds Tryd.pinned (OpenSpec.ofChange motionBestWrong)

/-- 'kinlaw11.MotionWhole': WHATEVER THE INPUT: true; the input reads as it did. -/
def motionWholeSpec : ChangeSpec := { name := "motionWhole", fn := fun _ => fun
  | [d1, d2, d3, d4, d5] => { results := [.lit (.bool true)], args := [d1, d2, d3, d4, d5] }
  | _ => none }
def motionWholeRow : OpenClaim := { program := "ytaamnpbhmckpbaadoor", sum := "58e1c4d68dda4edd70da16fe1a3d0a679583483cdd1f4d515b3e6128793fe433", func := "kinescope/kinlaw11.MotionWhole", spec := "motionWhole", inPlace := ["internal/reflectlite.ValueOf", "(internal/reflectlite.Value).Type", "(internal/reflectlite.Value).IsNil", "internal/reflectlite.TypeOf", "(internal/reflectlite.Value).Elem", "(internal/reflectlite.Value).Set"], unfollowed := true, recurses := true, named := ["errors.errorType"], apart := false, laid := [("errors.errorType", laid_errors_errorType)] }
def MotionWholeSaid : Prop := motionWholeRow.holds Tryd.pinned (OpenSpec.ofChange motionWholeSpec)

/-- ITS FALSE NEIGHBOUR: 'it returns false'. Refute it at one input. -/
def motionWholeWrong : ChangeSpec := { name := "motionWhole", fn := fun _ => fun
  | [d1, d2, d3, d4, d5] => { results := [.lit (.bool false)], args := [d1, d2, d3, d4, d5] }
  | _ => none }
def MotionWholeWrongFalsely : Prop := motionWholeRow.holds Tryd.pinned (OpenSpec.ofChange motionWholeWrong)

/- THE SECOND FORM. 'bulk': how many values and letters a reading holds, each counted each time it is reached (what is shared counts as often as it is met; a slice's spare places count too). A statement '..UptoSaid' is the law's where the arguments, and the package variables that the reading takes, are together of bulk at most 1048576: NARROWER than '..Said'. Prove '..Said' where nothing that the law and all that it calls make is longer than what came in: it says more and counts as full. Else prove '..UptoSaid'. A law counts once. -/
mutual
def uptoBulk {H : Type} : DataW H → Nat
  | .lit (.string bytes) => bytes.length + 1
  | .lit _ => 1
  | .nil => 1
  | .ptr d => uptoBulk d + 1
  | .slice elems spare => uptoBulkAll elems + uptoBulkAll spare + 1
  | .agg parts => uptoBulkAll parts + 1
  | .iface _ d => uptoBulk d + 1
  | .map entries => uptoBulkEntries entries + 1
  | .held _ => 1
def uptoBulkAll {H : Type} : List (DataW H) → Nat
  | [] => 0
  | d :: r => uptoBulk d + uptoBulkAll r
def uptoBulkEntries {H : Type} : List (Lit × DataW H) → Nat
  | [] => 0
  | x :: r => uptoBulkEntry x + uptoBulkEntries r
def uptoBulkEntry {H : Type} : Lit × DataW H → Nat
  | (.string bytes, d) => bytes.length + uptoBulk d + 1
  | (_, d) => uptoBulk d + 1
 end
def uptoSmall : (H : Type) → List (DataW H) → Bool := fun _ ds => decide (uptoBulkAll ds ≤ 1048576)
def OpenSpec.upto (s : _root_.Go.ChangeSpec) : _root_.Go.OpenSpec := { _root_.Go.OpenSpec.ofChange s with cond := some uptoSmall }

/-- 'kinlaw2.BitsWrites', WHERE WHAT IT READS IS OF BULK AT MOST 1048576: true; the input reads as it did. -/
def bitsWritesUptoRow : OpenClaim := { program := "ytaamnpbhmckpbaadoor", sum := "58e1c4d68dda4edd70da16fe1a3d0a679583483cdd1f4d515b3e6128793fe433", func := "kinescope/kinlaw2.BitsWrites", spec := "bitsWrites", inPlace := ["internal/reflectlite.ValueOf", "(internal/reflectlite.Value).Type", "(internal/reflectlite.Value).IsNil", "internal/reflectlite.TypeOf", "(internal/reflectlite.Value).Elem", "(internal/reflectlite.Value).Set"], unfollowed := true, recurses := true, named := ["errors.errorType"], apart := false, laid := [("errors.errorType", laid_errors_errorType)], narrowed := true }
def BitsWritesUptoSaid : Prop := bitsWritesUptoRow.holds Tryd.pinned (OpenSpec.upto bitsWritesSpec)

/-- 'kinlaw2.BitsReads', WHERE WHAT IT READS IS OF BULK AT MOST 1048576: true; the input reads as it did. -/
def bitsReadsUptoRow : OpenClaim := { program := "ytaamnpbhmckpbaadoor", sum := "58e1c4d68dda4edd70da16fe1a3d0a679583483cdd1f4d515b3e6128793fe433", func := "kinescope/kinlaw2.BitsReads", spec := "bitsReads", inPlace := ["internal/reflectlite.ValueOf", "(internal/reflectlite.Value).Type", "(internal/reflectlite.Value).IsNil", "internal/reflectlite.TypeOf", "(internal/reflectlite.Value).Elem", "(internal/reflectlite.Value).Set"], unfollowed := true, recurses := true, named := ["errors.errorType"], apart := false, laid := [("errors.errorType", laid_errors_errorType)], narrowed := true }
def BitsReadsUptoSaid : Prop := bitsReadsUptoRow.holds Tryd.pinned (OpenSpec.upto bitsReadsSpec)

/-- 'kinlaw2.BitsBack', WHERE WHAT IT READS IS OF BULK AT MOST 1048576: true; the input reads as it did. -/
def bitsBackUptoRow : OpenClaim := { program := "ytaamnpbhmckpbaadoor", sum := "58e1c4d68dda4edd70da16fe1a3d0a679583483cdd1f4d515b3e6128793fe433", func := "kinescope/kinlaw2.BitsBack", spec := "bitsBack", inPlace := ["internal/reflectlite.ValueOf", "(internal/reflectlite.Value).Type", "(internal/reflectlite.Value).IsNil", "internal/reflectlite.TypeOf", "(internal/reflectlite.Value).Elem", "(internal/reflectlite.Value).Set"], unfollowed := true, recurses := true, named := ["errors.errorType"], apart := false, laid := [("errors.errorType", laid_errors_errorType)], narrowed := true }
def BitsBackUptoSaid : Prop := bitsBackUptoRow.holds Tryd.pinned (OpenSpec.upto bitsBackSpec)

/-- 'kinlaw2.BitsTwo', WHERE WHAT IT READS IS OF BULK AT MOST 1048576: true; the input reads as it did. -/
def bitsTwoUptoRow : OpenClaim := { program := "ytaamnpbhmckpbaadoor", sum := "58e1c4d68dda4edd70da16fe1a3d0a679583483cdd1f4d515b3e6128793fe433", func := "kinescope/kinlaw2.BitsTwo", spec := "bitsTwo", inPlace := ["internal/reflectlite.ValueOf", "(internal/reflectlite.Value).Type", "(internal/reflectlite.Value).IsNil", "internal/reflectlite.TypeOf", "(internal/reflectlite.Value).Elem", "(internal/reflectlite.Value).Set"], unfollowed := true, recurses := true, named := ["errors.errorType"], apart := false, laid := [("errors.errorType", laid_errors_errorType)], narrowed := true }
def BitsTwoUptoSaid : Prop := bitsTwoUptoRow.holds Tryd.pinned (OpenSpec.upto bitsTwoSpec)

/-- 'kinlaw2.BitsStops', WHERE WHAT IT READS IS OF BULK AT MOST 1048576: true; the input reads as it did. -/
def bitsStopsUptoRow : OpenClaim := { program := "ytaamnpbhmckpbaadoor", sum := "58e1c4d68dda4edd70da16fe1a3d0a679583483cdd1f4d515b3e6128793fe433", func := "kinescope/kinlaw2.BitsStops", spec := "bitsStops", inPlace := ["internal/reflectlite.ValueOf", "(internal/reflectlite.Value).Type", "(internal/reflectlite.Value).IsNil", "internal/reflectlite.TypeOf", "(internal/reflectlite.Value).Elem", "(internal/reflectlite.Value).Set"], unfollowed := true, recurses := true, named := ["errors.errorType"], apart := false, laid := [("errors.errorType", laid_errors_errorType)], narrowed := true }
def BitsStopsUptoSaid : Prop := bitsStopsUptoRow.holds Tryd.pinned (OpenSpec.upto bitsStopsSpec)

/-- 'kinlaw2.BitsAligns', WHERE WHAT IT READS IS OF BULK AT MOST 1048576: true; the input reads as it did. -/
def bitsAlignsUptoRow : OpenClaim := { program := "ytaamnpbhmckpbaadoor", sum := "58e1c4d68dda4edd70da16fe1a3d0a679583483cdd1f4d515b3e6128793fe433", func := "kinescope/kinlaw2.BitsAligns", spec := "bitsAligns", inPlace := ["internal/reflectlite.ValueOf", "(internal/reflectlite.Value).Type", "(internal/reflectlite.Value).IsNil", "internal/reflectlite.TypeOf", "(internal/reflectlite.Value).Elem", "(internal/reflectlite.Value).Set"], unfollowed := true, recurses := true, named := ["errors.errorType"], apart := false, laid := [("errors.errorType", laid_errors_errorType)], narrowed := true }
def BitsAlignsUptoSaid : Prop := bitsAlignsUptoRow.holds Tryd.pinned (OpenSpec.upto bitsAlignsSpec)

/-- 'kinlaw11.MotionHalves', WHERE WHAT IT READS IS OF BULK AT MOST 1048576: true; the input reads as it did. -/
def motionHalvesUptoRow : OpenClaim := { program := "ytaamnpbhmckpbaadoor", sum := "58e1c4d68dda4edd70da16fe1a3d0a679583483cdd1f4d515b3e6128793fe433", func := "kinescope/kinlaw11.MotionHalves", spec := "motionHalves", inPlace := ["internal/reflectlite.ValueOf", "(internal/reflectlite.Value).Type", "(internal/reflectlite.Value).IsNil", "internal/reflectlite.TypeOf", "(internal/reflectlite.Value).Elem", "(internal/reflectlite.Value).Set"], unfollowed := true, recurses := true, named := ["errors.errorType"], apart := false, laid := [("errors.errorType", laid_errors_errorType)], narrowed := true }
def MotionHalvesUptoSaid : Prop := motionHalvesUptoRow.holds Tryd.pinned (OpenSpec.upto motionHalvesSpec)

/-- 'kinlaw11.MotionCosts', WHERE WHAT IT READS IS OF BULK AT MOST 1048576: true; the input reads as it did. -/
def motionCostsUptoRow : OpenClaim := { program := "ytaamnpbhmckpbaadoor", sum := "58e1c4d68dda4edd70da16fe1a3d0a679583483cdd1f4d515b3e6128793fe433", func := "kinescope/kinlaw11.MotionCosts", spec := "motionCosts", inPlace := ["internal/reflectlite.ValueOf", "(internal/reflectlite.Value).Type", "(internal/reflectlite.Value).IsNil", "internal/reflectlite.TypeOf", "(internal/reflectlite.Value).Elem", "(internal/reflectlite.Value).Set"], unfollowed := true, recurses := true, named := ["errors.errorType"], apart := false, laid := [("errors.errorType", laid_errors_errorType)], narrowed := true }
def MotionCostsUptoSaid : Prop := motionCostsUptoRow.holds Tryd.pinned (OpenSpec.upto motionCostsSpec)

/-- 'kinlaw11.MotionSearches', WHERE WHAT IT READS IS OF BULK AT MOST 1048576: true; the input reads as it did. -/
def motionSearchesUptoRow : OpenClaim := { program := "ytaamnpbhmckpbaadoor", sum := "58e1c4d68dda4edd70da16fe1a3d0a679583483cdd1f4d515b3e6128793fe433", func := "kinescope/kinlaw11.MotionSearches", spec := "motionSearches", inPlace := ["internal/reflectlite.ValueOf", "(internal/reflectlite.Value).Type", "(internal/reflectlite.Value).IsNil", "internal/reflectlite.TypeOf", "(internal/reflectlite.Value).Elem", "(internal/reflectlite.Value).Set"], unfollowed := true, recurses := true, named := ["errors.errorType"], apart := false, laid := [("errors.errorType", laid_errors_errorType)], narrowed := true }
def MotionSearchesUptoSaid : Prop := motionSearchesUptoRow.holds Tryd.pinned (OpenSpec.upto motionSearchesSpec)

/-- 'kinlaw11.MotionSamples', WHERE WHAT IT READS IS OF BULK AT MOST 1048576: true; the input reads as it did. -/
def motionSamplesUptoRow : OpenClaim := { program := "ytaamnpbhmckpbaadoor", sum := "58e1c4d68dda4edd70da16fe1a3d0a679583483cdd1f4d515b3e6128793fe433", func := "kinescope/kinlaw11.MotionSamples", spec := "motionSamples", inPlace := ["internal/reflectlite.ValueOf", "(internal/reflectlite.Value).Type", "(internal/reflectlite.Value).IsNil", "internal/reflectlite.TypeOf", "(internal/reflectlite.Value).Elem", "(internal/reflectlite.Value).Set"], unfollowed := true, recurses := true, named := ["errors.errorType"], apart := false, laid := [("errors.errorType", laid_errors_errorType)], narrowed := true }
def MotionSamplesUptoSaid : Prop := motionSamplesUptoRow.holds Tryd.pinned (OpenSpec.upto motionSamplesSpec)

/-- 'kinlaw11.MotionBest', WHERE WHAT IT READS IS OF BULK AT MOST 1048576: true; the input reads as it did. -/
def motionBestUptoRow : OpenClaim := { program := "ytaamnpbhmckpbaadoor", sum := "58e1c4d68dda4edd70da16fe1a3d0a679583483cdd1f4d515b3e6128793fe433", func := "kinescope/kinlaw11.MotionBest", spec := "motionBest", inPlace := ["internal/reflectlite.ValueOf", "(internal/reflectlite.Value).Type", "(internal/reflectlite.Value).IsNil", "internal/reflectlite.TypeOf", "(internal/reflectlite.Value).Elem", "(internal/reflectlite.Value).Set"], unfollowed := true, recurses := true, named := ["errors.errorType"], apart := false, laid := [("errors.errorType", laid_errors_errorType)], narrowed := true }
def MotionBestUptoSaid : Prop := motionBestUptoRow.holds Tryd.pinned (OpenSpec.upto motionBestSpec)

/-- 'kinlaw11.MotionWhole', WHERE WHAT IT READS IS OF BULK AT MOST 1048576: true; the input reads as it did. -/
def motionWholeUptoRow : OpenClaim := { program := "ytaamnpbhmckpbaadoor", sum := "58e1c4d68dda4edd70da16fe1a3d0a679583483cdd1f4d515b3e6128793fe433", func := "kinescope/kinlaw11.MotionWhole", spec := "motionWhole", inPlace := ["internal/reflectlite.ValueOf", "(internal/reflectlite.Value).Type", "(internal/reflectlite.Value).IsNil", "internal/reflectlite.TypeOf", "(internal/reflectlite.Value).Elem", "(internal/reflectlite.Value).Set"], unfollowed := true, recurses := true, named := ["errors.errorType"], apart := false, laid := [("errors.errorType", laid_errors_errorType)], narrowed := true }
def MotionWholeUptoSaid : Prop := motionWholeUptoRow.holds Tryd.pinned (OpenSpec.upto motionWholeSpec)

end Rows
end Go.Proofs.YtaamnpbhmckpbaaDoor
