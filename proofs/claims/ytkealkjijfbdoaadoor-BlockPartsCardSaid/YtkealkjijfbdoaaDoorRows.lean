/-
  NARROWER THAN 'FOR EVERY INPUT', by the rows' own cells (each row's printed sentence says how): PlaneMakes: laid · PlaneAsks: laid · PlanePuts: laid · PlaneBack: laid · PlanePeaks: laid · PlaneTwo: laid · BlockTwo: laid · BlockParts: laid · BlockOrders: laid · BlockBack: laid · BlockSads: laid · BlockQuarters: laid.
  DERIVED. THE GIVEN ROWS OF THIS SEAT. 12 by the template 'for every input the law returns true; each argument reads behind the call as it read before'; 0 by the template 'total and deterministic' (their statements: YtkealkjijfbdoaaDoorTotals.lean).
  GIVEN WITH THE SEED: the statements are not yours to turn. If you find one false, say at which input.
  Laid BY PROGRAM, IN A SANDBOX (cutbox-rows.mjs): the forced cells as the released guide's own fill.sh prints them over the translation c6663c681230fc55… (all of the seat's roots in one cut). By AI agents, Wed Nov 11 2026. No macro, syntax, notation, axiom, sorry.
-/
import Derived.Test.YtkealkjijfbdoaaDoorChecked
import GoSem.Claim
import GoSem.ClaimJoined
import GoSem.ClaimMapViews
import Derived.JoinedTies
import Derived.KernelRfl
namespace Go.Proofs.YtkealkjijfbdoaaDoor
/- THE CELL 'sum', in the pinned program and in every row, IS THE sha256 OF THE DUMP (.gsa) THAT YtkealkjijfbdoaaDoorProg.lean LOADS. Nothing in Lean hashes anything: it is a label: what it is worth is what the hold of that sum in a sandbox is worth. -/
noncomputable def Tryd.pinned : Pinned := { name := "ytkealkjijfbdoaadoor", sum := "c6663c681230fc5597499d0e1283752e04af2f3235a936acdb5f24960c83a7f9", checked := Tryd.checked }
namespace Rows
def none {H : Type} : Left H := { results := [], args := [] }

/- WHAT THE LISTED PACKAGE-LEVEL VARIABLES READ AS WHEN THE CALL BEGINS. Each datum BY PROGRAM (the guide's laid-datum.mjs) off the statement by which the dump's own 'gosem.cut.vars' lays the variable. In a bare row this is a premise. The card (YtkealkjijfbdoaaDoorCards.lean) ties it to the program's text. -/
def laid_errors_errorType {H : Type} : DataW H := .iface "internal/reflectlite.rtype" (.agg [.ptr (.lit (.string [101, 114, 114, 111, 114]))])

/-- 'kinlaw6.PlaneMakes': WHATEVER THE INPUT: true; the input reads as it did. -/
def planeMakesSpec : ChangeSpec := { name := "planeMakes", fn := fun _ => fun
  | [d1, d2, d3, d4] => { results := [.lit (.bool true)], args := [d1, d2, d3, d4] }
  | _ => none }
def planeMakesRow : OpenClaim := { program := "ytkealkjijfbdoaadoor", sum := "c6663c681230fc5597499d0e1283752e04af2f3235a936acdb5f24960c83a7f9", func := "kinescope/kinlaw6.PlaneMakes", spec := "planeMakes", inPlace := ["internal/reflectlite.ValueOf", "(internal/reflectlite.Value).Type", "(internal/reflectlite.Value).IsNil", "internal/reflectlite.TypeOf", "(internal/reflectlite.Value).Elem", "(internal/reflectlite.Value).Set"], unfollowed := true, recurses := true, named := ["errors.errorType"], apart := false, laid := [("errors.errorType", laid_errors_errorType)] }
def PlaneMakesSaid : Prop := planeMakesRow.holds Tryd.pinned (OpenSpec.ofChange planeMakesSpec)

/-- ITS FALSE NEIGHBOUR: 'it returns false'. Refute it at one input. -/
def planeMakesWrong : ChangeSpec := { name := "planeMakes", fn := fun _ => fun
  | [d1, d2, d3, d4] => { results := [.lit (.bool false)], args := [d1, d2, d3, d4] }
  | _ => none }
def PlaneMakesWrongFalsely : Prop := planeMakesRow.holds Tryd.pinned (OpenSpec.ofChange planeMakesWrong)

/-- 'kinlaw6.PlaneAsks': WHATEVER THE INPUT: true; the input reads as it did. -/
def planeAsksSpec : ChangeSpec := { name := "planeAsks", fn := fun _ => fun
  | [d1, d2, d3, d4] => { results := [.lit (.bool true)], args := [d1, d2, d3, d4] }
  | _ => none }
def planeAsksRow : OpenClaim := { program := "ytkealkjijfbdoaadoor", sum := "c6663c681230fc5597499d0e1283752e04af2f3235a936acdb5f24960c83a7f9", func := "kinescope/kinlaw6.PlaneAsks", spec := "planeAsks", inPlace := ["internal/reflectlite.ValueOf", "(internal/reflectlite.Value).Type", "(internal/reflectlite.Value).IsNil", "internal/reflectlite.TypeOf", "(internal/reflectlite.Value).Elem", "(internal/reflectlite.Value).Set"], unfollowed := true, recurses := true, named := ["errors.errorType"], apart := false, laid := [("errors.errorType", laid_errors_errorType)] }
def PlaneAsksSaid : Prop := planeAsksRow.holds Tryd.pinned (OpenSpec.ofChange planeAsksSpec)

/-- ITS FALSE NEIGHBOUR: 'it returns false'. Refute it at one input. -/
def planeAsksWrong : ChangeSpec := { name := "planeAsks", fn := fun _ => fun
  | [d1, d2, d3, d4] => { results := [.lit (.bool false)], args := [d1, d2, d3, d4] }
  | _ => none }
def PlaneAsksWrongFalsely : Prop := planeAsksRow.holds Tryd.pinned (OpenSpec.ofChange planeAsksWrong)

/-- 'kinlaw6.PlanePuts': WHATEVER THE INPUT: true; the input reads as it did. -/
def planePutsSpec : ChangeSpec := { name := "planePuts", fn := fun _ => fun
  | [d1, d2, d3, d4, d5] => { results := [.lit (.bool true)], args := [d1, d2, d3, d4, d5] }
  | _ => none }
def planePutsRow : OpenClaim := { program := "ytkealkjijfbdoaadoor", sum := "c6663c681230fc5597499d0e1283752e04af2f3235a936acdb5f24960c83a7f9", func := "kinescope/kinlaw6.PlanePuts", spec := "planePuts", inPlace := ["internal/reflectlite.ValueOf", "(internal/reflectlite.Value).Type", "(internal/reflectlite.Value).IsNil", "internal/reflectlite.TypeOf", "(internal/reflectlite.Value).Elem", "(internal/reflectlite.Value).Set"], unfollowed := true, recurses := true, named := ["errors.errorType"], apart := false, laid := [("errors.errorType", laid_errors_errorType)] }
def PlanePutsSaid : Prop := planePutsRow.holds Tryd.pinned (OpenSpec.ofChange planePutsSpec)

/-- ITS FALSE NEIGHBOUR: 'it returns false'. Refute it at one input. -/
def planePutsWrong : ChangeSpec := { name := "planePuts", fn := fun _ => fun
  | [d1, d2, d3, d4, d5] => { results := [.lit (.bool false)], args := [d1, d2, d3, d4, d5] }
  | _ => none }
def PlanePutsWrongFalsely : Prop := planePutsRow.holds Tryd.pinned (OpenSpec.ofChange planePutsWrong)

/-- 'kinlaw6.PlaneBack': WHATEVER THE INPUT: true; the input reads as it did. -/
def planeBackSpec : ChangeSpec := { name := "planeBack", fn := fun _ => fun
  | [d1, d2, d3, d4, d5] => { results := [.lit (.bool true)], args := [d1, d2, d3, d4, d5] }
  | _ => none }
def planeBackRow : OpenClaim := { program := "ytkealkjijfbdoaadoor", sum := "c6663c681230fc5597499d0e1283752e04af2f3235a936acdb5f24960c83a7f9", func := "kinescope/kinlaw6.PlaneBack", spec := "planeBack", inPlace := ["internal/reflectlite.ValueOf", "(internal/reflectlite.Value).Type", "(internal/reflectlite.Value).IsNil", "internal/reflectlite.TypeOf", "(internal/reflectlite.Value).Elem", "(internal/reflectlite.Value).Set"], unfollowed := true, recurses := true, named := ["errors.errorType"], apart := false, laid := [("errors.errorType", laid_errors_errorType)] }
def PlaneBackSaid : Prop := planeBackRow.holds Tryd.pinned (OpenSpec.ofChange planeBackSpec)

/-- ITS FALSE NEIGHBOUR: 'it returns false'. Refute it at one input. -/
def planeBackWrong : ChangeSpec := { name := "planeBack", fn := fun _ => fun
  | [d1, d2, d3, d4, d5] => { results := [.lit (.bool false)], args := [d1, d2, d3, d4, d5] }
  | _ => none }
def PlaneBackWrongFalsely : Prop := planeBackRow.holds Tryd.pinned (OpenSpec.ofChange planeBackWrong)

/-- 'kinlaw6.PlanePeaks': WHATEVER THE INPUT: true; the input reads as it did. -/
def planePeaksSpec : ChangeSpec := { name := "planePeaks", fn := fun _ => fun
  | [d1, d2] => { results := [.lit (.bool true)], args := [d1, d2] }
  | _ => none }
def planePeaksRow : OpenClaim := { program := "ytkealkjijfbdoaadoor", sum := "c6663c681230fc5597499d0e1283752e04af2f3235a936acdb5f24960c83a7f9", func := "kinescope/kinlaw6.PlanePeaks", spec := "planePeaks", inPlace := ["internal/reflectlite.ValueOf", "(internal/reflectlite.Value).Type", "(internal/reflectlite.Value).IsNil", "internal/reflectlite.TypeOf", "(internal/reflectlite.Value).Elem", "(internal/reflectlite.Value).Set"], unfollowed := true, recurses := true, named := ["errors.errorType"], apart := false, laid := [("errors.errorType", laid_errors_errorType)] }
def PlanePeaksSaid : Prop := planePeaksRow.holds Tryd.pinned (OpenSpec.ofChange planePeaksSpec)

/-- ITS FALSE NEIGHBOUR: 'it returns false'. Refute it at one input. -/
def planePeaksWrong : ChangeSpec := { name := "planePeaks", fn := fun _ => fun
  | [d1, d2] => { results := [.lit (.bool false)], args := [d1, d2] }
  | _ => none }
def PlanePeaksWrongFalsely : Prop := planePeaksRow.holds Tryd.pinned (OpenSpec.ofChange planePeaksWrong)

/-- 'kinlaw6.PlaneTwo': WHATEVER THE INPUT: true; the input reads as it did. -/
def planeTwoSpec : ChangeSpec := { name := "planeTwo", fn := fun _ => fun
  | [d1, d2, d3, d4, d5, d6, d7, d8] => { results := [.lit (.bool true)], args := [d1, d2, d3, d4, d5, d6, d7, d8] }
  | _ => none }
def planeTwoRow : OpenClaim := { program := "ytkealkjijfbdoaadoor", sum := "c6663c681230fc5597499d0e1283752e04af2f3235a936acdb5f24960c83a7f9", func := "kinescope/kinlaw6.PlaneTwo", spec := "planeTwo", inPlace := ["internal/reflectlite.ValueOf", "(internal/reflectlite.Value).Type", "(internal/reflectlite.Value).IsNil", "internal/reflectlite.TypeOf", "(internal/reflectlite.Value).Elem", "(internal/reflectlite.Value).Set"], unfollowed := true, recurses := true, named := ["errors.errorType"], apart := false, laid := [("errors.errorType", laid_errors_errorType)] }
def PlaneTwoSaid : Prop := planeTwoRow.holds Tryd.pinned (OpenSpec.ofChange planeTwoSpec)

/-- ITS FALSE NEIGHBOUR: 'it returns false'. Refute it at one input. -/
def planeTwoWrong : ChangeSpec := { name := "planeTwo", fn := fun _ => fun
  | [d1, d2, d3, d4, d5, d6, d7, d8] => { results := [.lit (.bool false)], args := [d1, d2, d3, d4, d5, d6, d7, d8] }
  | _ => none }
def PlaneTwoWrongFalsely : Prop := planeTwoRow.holds Tryd.pinned (OpenSpec.ofChange planeTwoWrong)

/-- 'kinlaw7.BlockTwo': WHATEVER THE INPUT: true; the input reads as it did. -/
def blockTwoSpec : ChangeSpec := { name := "blockTwo", fn := fun _ => fun
  | [d1, d2] => { results := [.lit (.bool true)], args := [d1, d2] }
  | _ => none }
def blockTwoRow : OpenClaim := { program := "ytkealkjijfbdoaadoor", sum := "c6663c681230fc5597499d0e1283752e04af2f3235a936acdb5f24960c83a7f9", func := "kinescope/kinlaw7.BlockTwo", spec := "blockTwo", inPlace := ["internal/reflectlite.ValueOf", "(internal/reflectlite.Value).Type", "(internal/reflectlite.Value).IsNil", "internal/reflectlite.TypeOf", "(internal/reflectlite.Value).Elem", "(internal/reflectlite.Value).Set"], unfollowed := true, recurses := true, named := ["errors.errorType"], apart := false, laid := [("errors.errorType", laid_errors_errorType)] }
def BlockTwoSaid : Prop := blockTwoRow.holds Tryd.pinned (OpenSpec.ofChange blockTwoSpec)

/-- ITS FALSE NEIGHBOUR: 'it returns false'. Refute it at one input. -/
def blockTwoWrong : ChangeSpec := { name := "blockTwo", fn := fun _ => fun
  | [d1, d2] => { results := [.lit (.bool false)], args := [d1, d2] }
  | _ => none }
def BlockTwoWrongFalsely : Prop := blockTwoRow.holds Tryd.pinned (OpenSpec.ofChange blockTwoWrong)

/-- 'kinlaw7.BlockParts': WHATEVER THE INPUT: true; the input reads as it did. -/
def blockPartsSpec : ChangeSpec := { name := "blockParts", fn := fun _ => fun
  | [d1, d2] => { results := [.lit (.bool true)], args := [d1, d2] }
  | _ => none }
def blockPartsRow : OpenClaim := { program := "ytkealkjijfbdoaadoor", sum := "c6663c681230fc5597499d0e1283752e04af2f3235a936acdb5f24960c83a7f9", func := "kinescope/kinlaw7.BlockParts", spec := "blockParts", inPlace := ["internal/reflectlite.ValueOf", "(internal/reflectlite.Value).Type", "(internal/reflectlite.Value).IsNil", "internal/reflectlite.TypeOf", "(internal/reflectlite.Value).Elem", "(internal/reflectlite.Value).Set"], unfollowed := true, recurses := true, named := ["errors.errorType"], apart := false, laid := [("errors.errorType", laid_errors_errorType)] }
def BlockPartsSaid : Prop := blockPartsRow.holds Tryd.pinned (OpenSpec.ofChange blockPartsSpec)

/-- ITS FALSE NEIGHBOUR: 'it returns false'. Refute it at one input. -/
def blockPartsWrong : ChangeSpec := { name := "blockParts", fn := fun _ => fun
  | [d1, d2] => { results := [.lit (.bool false)], args := [d1, d2] }
  | _ => none }
def BlockPartsWrongFalsely : Prop := blockPartsRow.holds Tryd.pinned (OpenSpec.ofChange blockPartsWrong)

/-- 'kinlaw7.BlockOrders': WHATEVER THE INPUT: true; the input reads as it did. -/
def blockOrdersSpec : ChangeSpec := { name := "blockOrders", fn := fun _ => fun
  | [d] => { results := [.lit (.bool true)], args := [d] }
  | _ => none }
def blockOrdersRow : OpenClaim := { program := "ytkealkjijfbdoaadoor", sum := "c6663c681230fc5597499d0e1283752e04af2f3235a936acdb5f24960c83a7f9", func := "kinescope/kinlaw7.BlockOrders", spec := "blockOrders", inPlace := ["internal/reflectlite.ValueOf", "(internal/reflectlite.Value).Type", "(internal/reflectlite.Value).IsNil", "internal/reflectlite.TypeOf", "(internal/reflectlite.Value).Elem", "(internal/reflectlite.Value).Set"], unfollowed := true, recurses := true, named := ["errors.errorType"], apart := false, laid := [("errors.errorType", laid_errors_errorType)] }
def BlockOrdersSaid : Prop := blockOrdersRow.holds Tryd.pinned (OpenSpec.ofChange blockOrdersSpec)

/-- ITS FALSE NEIGHBOUR: 'it returns false'. Refute it at one input. -/
def blockOrdersWrong : ChangeSpec := { name := "blockOrders", fn := fun _ => fun
  | [d] => { results := [.lit (.bool false)], args := [d] }
  | _ => none }
def BlockOrdersWrongFalsely : Prop := blockOrdersRow.holds Tryd.pinned (OpenSpec.ofChange blockOrdersWrong)

/-- 'kinlaw7.BlockBack': WHATEVER THE INPUT: true; the input reads as it did. -/
def blockBackSpec : ChangeSpec := { name := "blockBack", fn := fun _ => fun
  | [d1, d2] => { results := [.lit (.bool true)], args := [d1, d2] }
  | _ => none }
def blockBackRow : OpenClaim := { program := "ytkealkjijfbdoaadoor", sum := "c6663c681230fc5597499d0e1283752e04af2f3235a936acdb5f24960c83a7f9", func := "kinescope/kinlaw7.BlockBack", spec := "blockBack", inPlace := ["internal/reflectlite.ValueOf", "(internal/reflectlite.Value).Type", "(internal/reflectlite.Value).IsNil", "internal/reflectlite.TypeOf", "(internal/reflectlite.Value).Elem", "(internal/reflectlite.Value).Set"], unfollowed := true, recurses := true, named := ["errors.errorType"], apart := false, laid := [("errors.errorType", laid_errors_errorType)] }
def BlockBackSaid : Prop := blockBackRow.holds Tryd.pinned (OpenSpec.ofChange blockBackSpec)

/-- ITS FALSE NEIGHBOUR: 'it returns false'. Refute it at one input. -/
def blockBackWrong : ChangeSpec := { name := "blockBack", fn := fun _ => fun
  | [d1, d2] => { results := [.lit (.bool false)], args := [d1, d2] }
  | _ => none }
def BlockBackWrongFalsely : Prop := blockBackRow.holds Tryd.pinned (OpenSpec.ofChange blockBackWrong)

/-- 'kinlaw7.BlockSads': WHATEVER THE INPUT: true; the input reads as it did. -/
def blockSadsSpec : ChangeSpec := { name := "blockSads", fn := fun _ => fun
  | [d1, d2, d3] => { results := [.lit (.bool true)], args := [d1, d2, d3] }
  | _ => none }
def blockSadsRow : OpenClaim := { program := "ytkealkjijfbdoaadoor", sum := "c6663c681230fc5597499d0e1283752e04af2f3235a936acdb5f24960c83a7f9", func := "kinescope/kinlaw7.BlockSads", spec := "blockSads", inPlace := ["internal/reflectlite.ValueOf", "(internal/reflectlite.Value).Type", "(internal/reflectlite.Value).IsNil", "internal/reflectlite.TypeOf", "(internal/reflectlite.Value).Elem", "(internal/reflectlite.Value).Set"], unfollowed := true, recurses := true, named := ["errors.errorType"], apart := false, laid := [("errors.errorType", laid_errors_errorType)] }
def BlockSadsSaid : Prop := blockSadsRow.holds Tryd.pinned (OpenSpec.ofChange blockSadsSpec)

/-- ITS FALSE NEIGHBOUR: 'it returns false'. Refute it at one input. -/
def blockSadsWrong : ChangeSpec := { name := "blockSads", fn := fun _ => fun
  | [d1, d2, d3] => { results := [.lit (.bool false)], args := [d1, d2, d3] }
  | _ => none }
def BlockSadsWrongFalsely : Prop := blockSadsRow.holds Tryd.pinned (OpenSpec.ofChange blockSadsWrong)

/-- 'kinlaw7.BlockQuarters': WHATEVER THE INPUT: true; the input reads as it did. -/
def blockQuartersSpec : ChangeSpec := { name := "blockQuarters", fn := fun _ => fun
  | [d1, d2] => { results := [.lit (.bool true)], args := [d1, d2] }
  | _ => none }
def blockQuartersRow : OpenClaim := { program := "ytkealkjijfbdoaadoor", sum := "c6663c681230fc5597499d0e1283752e04af2f3235a936acdb5f24960c83a7f9", func := "kinescope/kinlaw7.BlockQuarters", spec := "blockQuarters", inPlace := ["internal/reflectlite.ValueOf", "(internal/reflectlite.Value).Type", "(internal/reflectlite.Value).IsNil", "internal/reflectlite.TypeOf", "(internal/reflectlite.Value).Elem", "(internal/reflectlite.Value).Set"], unfollowed := true, recurses := true, named := ["errors.errorType"], apart := false, laid := [("errors.errorType", laid_errors_errorType)] }
def BlockQuartersSaid : Prop := blockQuartersRow.holds Tryd.pinned (OpenSpec.ofChange blockQuartersSpec)

/-- ITS FALSE NEIGHBOUR: 'it returns false'. Refute it at one input. -/
def blockQuartersWrong : ChangeSpec := { name := "blockQuarters", fn := fun _ => fun
  | [d1, d2] => { results := [.lit (.bool false)], args := [d1, d2] }
  | _ => none }
def BlockQuartersWrongFalsely : Prop := blockQuartersRow.holds Tryd.pinned (OpenSpec.ofChange blockQuartersWrong)

/- THE SECOND FORM. 'bulk': how many values and letters a reading holds, each counted each time it is reached (what is shared counts as often as it is met; a slice's spare places count too). A statement '..UptoSaid' is the law's where the arguments, and the package variables that the reading takes, are together of bulk at most 1048576: NARROWER than '..Said'. Prove '..Said' where nothing that the law and all that it calls make is longer than what came in: it says more and counts as full. Else prove '..UptoSaid'. A law counts once. -/
mutual
def uptoBulk {H : Type} : DataW H → Nat
  | .lit (.string bytes) => bytes.length + 1
  | .lit _ => 1
  | .nil => 1
  | .ptr d => uptoBulk d + 1
  | .slice elems spare => uptoBulkAll elems + uptoBulkAll spare + 1
  | .agg parts => uptoBulkAll parts + 1
  | .iface _ d => uptoBulk d + 1
  | .map entries => uptoBulkEntries entries + 1
  | .held _ => 1
def uptoBulkAll {H : Type} : List (DataW H) → Nat
  | [] => 0
  | d :: r => uptoBulk d + uptoBulkAll r
def uptoBulkEntries {H : Type} : List (Lit × DataW H) → Nat
  | [] => 0
  | x :: r => uptoBulkEntry x + uptoBulkEntries r
def uptoBulkEntry {H : Type} : Lit × DataW H → Nat
  | (.string bytes, d) => bytes.length + uptoBulk d + 1
  | (_, d) => uptoBulk d + 1
 end
def uptoSmall : (H : Type) → List (DataW H) → Bool := fun _ ds => decide (uptoBulkAll ds ≤ 1048576)
def OpenSpec.upto (s : _root_.Go.ChangeSpec) : _root_.Go.OpenSpec := { _root_.Go.OpenSpec.ofChange s with cond := some uptoSmall }

/-- 'kinlaw6.PlaneMakes', WHERE WHAT IT READS IS OF BULK AT MOST 1048576: true; the input reads as it did. -/
def planeMakesUptoRow : OpenClaim := { program := "ytkealkjijfbdoaadoor", sum := "c6663c681230fc5597499d0e1283752e04af2f3235a936acdb5f24960c83a7f9", func := "kinescope/kinlaw6.PlaneMakes", spec := "planeMakes", inPlace := ["internal/reflectlite.ValueOf", "(internal/reflectlite.Value).Type", "(internal/reflectlite.Value).IsNil", "internal/reflectlite.TypeOf", "(internal/reflectlite.Value).Elem", "(internal/reflectlite.Value).Set"], unfollowed := true, recurses := true, named := ["errors.errorType"], apart := false, laid := [("errors.errorType", laid_errors_errorType)], narrowed := true }
def PlaneMakesUptoSaid : Prop := planeMakesUptoRow.holds Tryd.pinned (OpenSpec.upto planeMakesSpec)

/-- 'kinlaw6.PlaneAsks', WHERE WHAT IT READS IS OF BULK AT MOST 1048576: true; the input reads as it did. -/
def planeAsksUptoRow : OpenClaim := { program := "ytkealkjijfbdoaadoor", sum := "c6663c681230fc5597499d0e1283752e04af2f3235a936acdb5f24960c83a7f9", func := "kinescope/kinlaw6.PlaneAsks", spec := "planeAsks", inPlace := ["internal/reflectlite.ValueOf", "(internal/reflectlite.Value).Type", "(internal/reflectlite.Value).IsNil", "internal/reflectlite.TypeOf", "(internal/reflectlite.Value).Elem", "(internal/reflectlite.Value).Set"], unfollowed := true, recurses := true, named := ["errors.errorType"], apart := false, laid := [("errors.errorType", laid_errors_errorType)], narrowed := true }
def PlaneAsksUptoSaid : Prop := planeAsksUptoRow.holds Tryd.pinned (OpenSpec.upto planeAsksSpec)

/-- 'kinlaw6.PlanePuts', WHERE WHAT IT READS IS OF BULK AT MOST 1048576: true; the input reads as it did. -/
def planePutsUptoRow : OpenClaim := { program := "ytkealkjijfbdoaadoor", sum := "c6663c681230fc5597499d0e1283752e04af2f3235a936acdb5f24960c83a7f9", func := "kinescope/kinlaw6.PlanePuts", spec := "planePuts", inPlace := ["internal/reflectlite.ValueOf", "(internal/reflectlite.Value).Type", "(internal/reflectlite.Value).IsNil", "internal/reflectlite.TypeOf", "(internal/reflectlite.Value).Elem", "(internal/reflectlite.Value).Set"], unfollowed := true, recurses := true, named := ["errors.errorType"], apart := false, laid := [("errors.errorType", laid_errors_errorType)], narrowed := true }
def PlanePutsUptoSaid : Prop := planePutsUptoRow.holds Tryd.pinned (OpenSpec.upto planePutsSpec)

/-- 'kinlaw6.PlaneBack', WHERE WHAT IT READS IS OF BULK AT MOST 1048576: true; the input reads as it did. -/
def planeBackUptoRow : OpenClaim := { program := "ytkealkjijfbdoaadoor", sum := "c6663c681230fc5597499d0e1283752e04af2f3235a936acdb5f24960c83a7f9", func := "kinescope/kinlaw6.PlaneBack", spec := "planeBack", inPlace := ["internal/reflectlite.ValueOf", "(internal/reflectlite.Value).Type", "(internal/reflectlite.Value).IsNil", "internal/reflectlite.TypeOf", "(internal/reflectlite.Value).Elem", "(internal/reflectlite.Value).Set"], unfollowed := true, recurses := true, named := ["errors.errorType"], apart := false, laid := [("errors.errorType", laid_errors_errorType)], narrowed := true }
def PlaneBackUptoSaid : Prop := planeBackUptoRow.holds Tryd.pinned (OpenSpec.upto planeBackSpec)

/-- 'kinlaw6.PlanePeaks', WHERE WHAT IT READS IS OF BULK AT MOST 1048576: true; the input reads as it did. -/
def planePeaksUptoRow : OpenClaim := { program := "ytkealkjijfbdoaadoor", sum := "c6663c681230fc5597499d0e1283752e04af2f3235a936acdb5f24960c83a7f9", func := "kinescope/kinlaw6.PlanePeaks", spec := "planePeaks", inPlace := ["internal/reflectlite.ValueOf", "(internal/reflectlite.Value).Type", "(internal/reflectlite.Value).IsNil", "internal/reflectlite.TypeOf", "(internal/reflectlite.Value).Elem", "(internal/reflectlite.Value).Set"], unfollowed := true, recurses := true, named := ["errors.errorType"], apart := false, laid := [("errors.errorType", laid_errors_errorType)], narrowed := true }
def PlanePeaksUptoSaid : Prop := planePeaksUptoRow.holds Tryd.pinned (OpenSpec.upto planePeaksSpec)

/-- 'kinlaw6.PlaneTwo', WHERE WHAT IT READS IS OF BULK AT MOST 1048576: true; the input reads as it did. -/
def planeTwoUptoRow : OpenClaim := { program := "ytkealkjijfbdoaadoor", sum := "c6663c681230fc5597499d0e1283752e04af2f3235a936acdb5f24960c83a7f9", func := "kinescope/kinlaw6.PlaneTwo", spec := "planeTwo", inPlace := ["internal/reflectlite.ValueOf", "(internal/reflectlite.Value).Type", "(internal/reflectlite.Value).IsNil", "internal/reflectlite.TypeOf", "(internal/reflectlite.Value).Elem", "(internal/reflectlite.Value).Set"], unfollowed := true, recurses := true, named := ["errors.errorType"], apart := false, laid := [("errors.errorType", laid_errors_errorType)], narrowed := true }
def PlaneTwoUptoSaid : Prop := planeTwoUptoRow.holds Tryd.pinned (OpenSpec.upto planeTwoSpec)

/-- 'kinlaw7.BlockTwo', WHERE WHAT IT READS IS OF BULK AT MOST 1048576: true; the input reads as it did. -/
def blockTwoUptoRow : OpenClaim := { program := "ytkealkjijfbdoaadoor", sum := "c6663c681230fc5597499d0e1283752e04af2f3235a936acdb5f24960c83a7f9", func := "kinescope/kinlaw7.BlockTwo", spec := "blockTwo", inPlace := ["internal/reflectlite.ValueOf", "(internal/reflectlite.Value).Type", "(internal/reflectlite.Value).IsNil", "internal/reflectlite.TypeOf", "(internal/reflectlite.Value).Elem", "(internal/reflectlite.Value).Set"], unfollowed := true, recurses := true, named := ["errors.errorType"], apart := false, laid := [("errors.errorType", laid_errors_errorType)], narrowed := true }
def BlockTwoUptoSaid : Prop := blockTwoUptoRow.holds Tryd.pinned (OpenSpec.upto blockTwoSpec)

/-- 'kinlaw7.BlockParts', WHERE WHAT IT READS IS OF BULK AT MOST 1048576: true; the input reads as it did. -/
def blockPartsUptoRow : OpenClaim := { program := "ytkealkjijfbdoaadoor", sum := "c6663c681230fc5597499d0e1283752e04af2f3235a936acdb5f24960c83a7f9", func := "kinescope/kinlaw7.BlockParts", spec := "blockParts", inPlace := ["internal/reflectlite.ValueOf", "(internal/reflectlite.Value).Type", "(internal/reflectlite.Value).IsNil", "internal/reflectlite.TypeOf", "(internal/reflectlite.Value).Elem", "(internal/reflectlite.Value).Set"], unfollowed := true, recurses := true, named := ["errors.errorType"], apart := false, laid := [("errors.errorType", laid_errors_errorType)], narrowed := true }
def BlockPartsUptoSaid : Prop := blockPartsUptoRow.holds Tryd.pinned (OpenSpec.upto blockPartsSpec)

/-- 'kinlaw7.BlockOrders', WHERE WHAT IT READS IS OF BULK AT MOST 1048576: true; the input reads as it did. -/
def blockOrdersUptoRow : OpenClaim := { program := "ytkealkjijfbdoaadoor", sum := "c6663c681230fc5597499d0e1283752e04af2f3235a936acdb5f24960c83a7f9", func := "kinescope/kinlaw7.BlockOrders", spec := "blockOrders", inPlace := ["internal/reflectlite.ValueOf", "(internal/reflectlite.Value).Type", "(internal/reflectlite.Value).IsNil", "internal/reflectlite.TypeOf", "(internal/reflectlite.Value).Elem", "(internal/reflectlite.Value).Set"], unfollowed := true, recurses := true, named := ["errors.errorType"], apart := false, laid := [("errors.errorType", laid_errors_errorType)], narrowed := true }
def BlockOrdersUptoSaid : Prop := blockOrdersUptoRow.holds Tryd.pinned (OpenSpec.upto blockOrdersSpec)

/-- 'kinlaw7.BlockBack', WHERE WHAT IT READS IS OF BULK AT MOST 1048576: true; the input reads as it did. -/
def blockBackUptoRow : OpenClaim := { program := "ytkealkjijfbdoaadoor", sum := "c6663c681230fc5597499d0e1283752e04af2f3235a936acdb5f24960c83a7f9", func := "kinescope/kinlaw7.BlockBack", spec := "blockBack", inPlace := ["internal/reflectlite.ValueOf", "(internal/reflectlite.Value).Type", "(internal/reflectlite.Value).IsNil", "internal/reflectlite.TypeOf", "(internal/reflectlite.Value).Elem", "(internal/reflectlite.Value).Set"], unfollowed := true, recurses := true, named := ["errors.errorType"], apart := false, laid := [("errors.errorType", laid_errors_errorType)], narrowed := true }
def BlockBackUptoSaid : Prop := blockBackUptoRow.holds Tryd.pinned (OpenSpec.upto blockBackSpec)

/-- 'kinlaw7.BlockSads', WHERE WHAT IT READS IS OF BULK AT MOST 1048576: true; the input reads as it did. -/
def blockSadsUptoRow : OpenClaim := { program := "ytkealkjijfbdoaadoor", sum := "c6663c681230fc5597499d0e1283752e04af2f3235a936acdb5f24960c83a7f9", func := "kinescope/kinlaw7.BlockSads", spec := "blockSads", inPlace := ["internal/reflectlite.ValueOf", "(internal/reflectlite.Value).Type", "(internal/reflectlite.Value).IsNil", "internal/reflectlite.TypeOf", "(internal/reflectlite.Value).Elem", "(internal/reflectlite.Value).Set"], unfollowed := true, recurses := true, named := ["errors.errorType"], apart := false, laid := [("errors.errorType", laid_errors_errorType)], narrowed := true }
def BlockSadsUptoSaid : Prop := blockSadsUptoRow.holds Tryd.pinned (OpenSpec.upto blockSadsSpec)

/-- 'kinlaw7.BlockQuarters', WHERE WHAT IT READS IS OF BULK AT MOST 1048576: true; the input reads as it did. -/
def blockQuartersUptoRow : OpenClaim := { program := "ytkealkjijfbdoaadoor", sum := "c6663c681230fc5597499d0e1283752e04af2f3235a936acdb5f24960c83a7f9", func := "kinescope/kinlaw7.BlockQuarters", spec := "blockQuarters", inPlace := ["internal/reflectlite.ValueOf", "(internal/reflectlite.Value).Type", "(internal/reflectlite.Value).IsNil", "internal/reflectlite.TypeOf", "(internal/reflectlite.Value).Elem", "(internal/reflectlite.Value).Set"], unfollowed := true, recurses := true, named := ["errors.errorType"], apart := false, laid := [("errors.errorType", laid_errors_errorType)], narrowed := true }
def BlockQuartersUptoSaid : Prop := blockQuartersUptoRow.holds Tryd.pinned (OpenSpec.upto blockQuartersSpec)

end Rows
end Go.Proofs.YtkealkjijfbdoaaDoor
