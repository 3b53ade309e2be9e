/-
  NARROWER THAN 'FOR EVERY INPUT', by the rows' own cells (each row's printed sentence says how): BitsWrites: laid · CodesPuts: laid · CodesGets: laid · CodesFolds: laid · CodesBack: laid · CodesUnfolds: laid · CodesBounds: laid · CodesRises: laid · CodesOne: laid.
  DERIVED. THE GIVEN ROWS OF THIS SEAT. 9 by the template 'for every input the law returns true; each argument reads behind the call as it read before'; 0 by the template 'total and deterministic' (their statements: YtehmgieocoppjaaDoorTotals.lean).
  GIVEN WITH THE SEED: the statements are not yours to turn. If you find one false, say at which input.
  Laid BY PROGRAM, IN A SANDBOX (cutbox-rows.mjs): the forced cells as the released guide's own fill.sh prints them over the translation dc33a5baad97ab84… (all of the seat's roots in one cut). By AI agents, Wed Nov 11 2026. No macro, syntax, notation, axiom, sorry.
-/
import Derived.Test.YtehmgieocoppjaaDoorChecked
import GoSem.Claim
import GoSem.ClaimJoined
import GoSem.ClaimMapViews
import Derived.JoinedTies
import Derived.KernelRfl
namespace Go.Proofs.YtehmgieocoppjaaDoor
/- THE CELL 'sum', in the pinned program and in every row, IS THE sha256 OF THE DUMP (.gsa) THAT YtehmgieocoppjaaDoorProg.lean LOADS. Nothing in Lean hashes anything: it is a label: what it is worth is what the hold of that sum in a sandbox is worth. -/
noncomputable def Tryd.pinned : Pinned := { name := "ytehmgieocoppjaadoor", sum := "dc33a5baad97ab841f40e15c5b536c0340acd25d5ad92da1f9d75dd81fde1ca1", checked := Tryd.checked }
namespace Rows
def none {H : Type} : Left H := { results := [], args := [] }

/- WHAT THE LISTED PACKAGE-LEVEL VARIABLES READ AS WHEN THE CALL BEGINS. Each datum BY PROGRAM (the guide's laid-datum.mjs) off the statement by which the dump's own 'gosem.cut.vars' lays the variable. In a bare row this is a premise. The card (YtehmgieocoppjaaDoorCards.lean) ties it to the program's text. -/
def laid_errors_errorType {H : Type} : DataW H := .iface "internal/reflectlite.rtype" (.agg [.ptr (.lit (.string [101, 114, 114, 111, 114]))])

/-- 'kinlaw2.BitsWrites': WHATEVER THE INPUT: true; the input reads as it did. -/
def bitsWritesSpec : ChangeSpec := { name := "bitsWrites", fn := fun _ => fun
  | [d] => { results := [.lit (.bool true)], args := [d] }
  | _ => none }
def bitsWritesRow : OpenClaim := { program := "ytehmgieocoppjaadoor", sum := "dc33a5baad97ab841f40e15c5b536c0340acd25d5ad92da1f9d75dd81fde1ca1", func := "kinescope/kinlaw2.BitsWrites", spec := "bitsWrites", inPlace := ["internal/reflectlite.ValueOf", "(internal/reflectlite.Value).Type", "(internal/reflectlite.Value).IsNil", "internal/reflectlite.TypeOf", "(internal/reflectlite.Value).Elem", "(internal/reflectlite.Value).Set"], unfollowed := true, recurses := true, named := ["errors.errorType"], apart := false, laid := [("errors.errorType", laid_errors_errorType)] }
def BitsWritesSaid : Prop := bitsWritesRow.holds Tryd.pinned (OpenSpec.ofChange bitsWritesSpec)

/-- ITS FALSE NEIGHBOUR: 'it returns false'. Refute it at one input. -/
def bitsWritesWrong : ChangeSpec := { name := "bitsWrites", fn := fun _ => fun
  | [d] => { results := [.lit (.bool false)], args := [d] }
  | _ => none }
def BitsWritesWrongFalsely : Prop := bitsWritesRow.holds Tryd.pinned (OpenSpec.ofChange bitsWritesWrong)

/-- 'kinlaw3.CodesPuts': WHATEVER THE INPUT: true; the input reads as it did. -/
def codesPutsSpec : ChangeSpec := { name := "codesPuts", fn := fun _ => fun
  | [d] => { results := [.lit (.bool true)], args := [d] }
  | _ => none }
def codesPutsRow : OpenClaim := { program := "ytehmgieocoppjaadoor", sum := "dc33a5baad97ab841f40e15c5b536c0340acd25d5ad92da1f9d75dd81fde1ca1", func := "kinescope/kinlaw3.CodesPuts", spec := "codesPuts", inPlace := ["internal/reflectlite.ValueOf", "(internal/reflectlite.Value).Type", "(internal/reflectlite.Value).IsNil", "internal/reflectlite.TypeOf", "(internal/reflectlite.Value).Elem", "(internal/reflectlite.Value).Set"], unfollowed := true, recurses := true, named := ["errors.errorType"], apart := false, laid := [("errors.errorType", laid_errors_errorType)] }
def CodesPutsSaid : Prop := codesPutsRow.holds Tryd.pinned (OpenSpec.ofChange codesPutsSpec)

/-- ITS FALSE NEIGHBOUR: 'it returns false'. Refute it at one input. -/
def codesPutsWrong : ChangeSpec := { name := "codesPuts", fn := fun _ => fun
  | [d] => { results := [.lit (.bool false)], args := [d] }
  | _ => none }
def CodesPutsWrongFalsely : Prop := codesPutsRow.holds Tryd.pinned (OpenSpec.ofChange codesPutsWrong)

/-- 'kinlaw3.CodesGets': WHATEVER THE INPUT: true; the input reads as it did. -/
def codesGetsSpec : ChangeSpec := { name := "codesGets", fn := fun _ => fun
  | [d1, d2] => { results := [.lit (.bool true)], args := [d1, d2] }
  | _ => none }
def codesGetsRow : OpenClaim := { program := "ytehmgieocoppjaadoor", sum := "dc33a5baad97ab841f40e15c5b536c0340acd25d5ad92da1f9d75dd81fde1ca1", func := "kinescope/kinlaw3.CodesGets", spec := "codesGets", inPlace := ["internal/reflectlite.ValueOf", "(internal/reflectlite.Value).Type", "(internal/reflectlite.Value).IsNil", "internal/reflectlite.TypeOf", "(internal/reflectlite.Value).Elem", "(internal/reflectlite.Value).Set"], unfollowed := true, recurses := true, named := ["errors.errorType"], apart := false, laid := [("errors.errorType", laid_errors_errorType)] }
def CodesGetsSaid : Prop := codesGetsRow.holds Tryd.pinned (OpenSpec.ofChange codesGetsSpec)

/-- ITS FALSE NEIGHBOUR: 'it returns false'. Refute it at one input. -/
def codesGetsWrong : ChangeSpec := { name := "codesGets", fn := fun _ => fun
  | [d1, d2] => { results := [.lit (.bool false)], args := [d1, d2] }
  | _ => none }
def CodesGetsWrongFalsely : Prop := codesGetsRow.holds Tryd.pinned (OpenSpec.ofChange codesGetsWrong)

/-- 'kinlaw3.CodesFolds': WHATEVER THE INPUT: true; the input reads as it did. -/
def codesFoldsSpec : ChangeSpec := { name := "codesFolds", fn := fun _ => fun
  | [d1, d2] => { results := [.lit (.bool true)], args := [d1, d2] }
  | _ => none }
def codesFoldsRow : OpenClaim := { program := "ytehmgieocoppjaadoor", sum := "dc33a5baad97ab841f40e15c5b536c0340acd25d5ad92da1f9d75dd81fde1ca1", func := "kinescope/kinlaw3.CodesFolds", spec := "codesFolds", inPlace := ["internal/reflectlite.ValueOf", "(internal/reflectlite.Value).Type", "(internal/reflectlite.Value).IsNil", "internal/reflectlite.TypeOf", "(internal/reflectlite.Value).Elem", "(internal/reflectlite.Value).Set"], unfollowed := true, recurses := true, named := ["errors.errorType"], apart := false, laid := [("errors.errorType", laid_errors_errorType)] }
def CodesFoldsSaid : Prop := codesFoldsRow.holds Tryd.pinned (OpenSpec.ofChange codesFoldsSpec)

/-- ITS FALSE NEIGHBOUR: 'it returns false'. Refute it at one input. -/
def codesFoldsWrong : ChangeSpec := { name := "codesFolds", fn := fun _ => fun
  | [d1, d2] => { results := [.lit (.bool false)], args := [d1, d2] }
  | _ => none }
def CodesFoldsWrongFalsely : Prop := codesFoldsRow.holds Tryd.pinned (OpenSpec.ofChange codesFoldsWrong)

/-- 'kinlaw3.CodesBack': WHATEVER THE INPUT: true; the input reads as it did. -/
def codesBackSpec : ChangeSpec := { name := "codesBack", fn := fun _ => fun
  | [d] => { results := [.lit (.bool true)], args := [d] }
  | _ => none }
def codesBackRow : OpenClaim := { program := "ytehmgieocoppjaadoor", sum := "dc33a5baad97ab841f40e15c5b536c0340acd25d5ad92da1f9d75dd81fde1ca1", func := "kinescope/kinlaw3.CodesBack", spec := "codesBack", inPlace := ["internal/reflectlite.ValueOf", "(internal/reflectlite.Value).Type", "(internal/reflectlite.Value).IsNil", "internal/reflectlite.TypeOf", "(internal/reflectlite.Value).Elem", "(internal/reflectlite.Value).Set"], unfollowed := true, recurses := true, named := ["errors.errorType"], apart := false, laid := [("errors.errorType", laid_errors_errorType)] }
def CodesBackSaid : Prop := codesBackRow.holds Tryd.pinned (OpenSpec.ofChange codesBackSpec)

/-- ITS FALSE NEIGHBOUR: 'it returns false'. Refute it at one input. -/
def codesBackWrong : ChangeSpec := { name := "codesBack", fn := fun _ => fun
  | [d] => { results := [.lit (.bool false)], args := [d] }
  | _ => none }
def CodesBackWrongFalsely : Prop := codesBackRow.holds Tryd.pinned (OpenSpec.ofChange codesBackWrong)

/-- 'kinlaw3.CodesUnfolds': WHATEVER THE INPUT: true; the input reads as it did. -/
def codesUnfoldsSpec : ChangeSpec := { name := "codesUnfolds", fn := fun _ => fun
  | [d1, d2] => { results := [.lit (.bool true)], args := [d1, d2] }
  | _ => none }
def codesUnfoldsRow : OpenClaim := { program := "ytehmgieocoppjaadoor", sum := "dc33a5baad97ab841f40e15c5b536c0340acd25d5ad92da1f9d75dd81fde1ca1", func := "kinescope/kinlaw3.CodesUnfolds", spec := "codesUnfolds", inPlace := ["internal/reflectlite.ValueOf", "(internal/reflectlite.Value).Type", "(internal/reflectlite.Value).IsNil", "internal/reflectlite.TypeOf", "(internal/reflectlite.Value).Elem", "(internal/reflectlite.Value).Set"], unfollowed := true, recurses := true, named := ["errors.errorType"], apart := false, laid := [("errors.errorType", laid_errors_errorType)] }
def CodesUnfoldsSaid : Prop := codesUnfoldsRow.holds Tryd.pinned (OpenSpec.ofChange codesUnfoldsSpec)

/-- ITS FALSE NEIGHBOUR: 'it returns false'. Refute it at one input. -/
def codesUnfoldsWrong : ChangeSpec := { name := "codesUnfolds", fn := fun _ => fun
  | [d1, d2] => { results := [.lit (.bool false)], args := [d1, d2] }
  | _ => none }
def CodesUnfoldsWrongFalsely : Prop := codesUnfoldsRow.holds Tryd.pinned (OpenSpec.ofChange codesUnfoldsWrong)

/-- 'kinlaw3.CodesBounds': WHATEVER THE INPUT: true; the input reads as it did. -/
def codesBoundsSpec : ChangeSpec := { name := "codesBounds", fn := fun _ => fun
  | [d1, d2, d3] => { results := [.lit (.bool true)], args := [d1, d2, d3] }
  | _ => none }
def codesBoundsRow : OpenClaim := { program := "ytehmgieocoppjaadoor", sum := "dc33a5baad97ab841f40e15c5b536c0340acd25d5ad92da1f9d75dd81fde1ca1", func := "kinescope/kinlaw3.CodesBounds", spec := "codesBounds", inPlace := ["internal/reflectlite.ValueOf", "(internal/reflectlite.Value).Type", "(internal/reflectlite.Value).IsNil", "internal/reflectlite.TypeOf", "(internal/reflectlite.Value).Elem", "(internal/reflectlite.Value).Set"], unfollowed := true, recurses := true, named := ["errors.errorType"], apart := false, laid := [("errors.errorType", laid_errors_errorType)] }
def CodesBoundsSaid : Prop := codesBoundsRow.holds Tryd.pinned (OpenSpec.ofChange codesBoundsSpec)

/-- ITS FALSE NEIGHBOUR: 'it returns false'. Refute it at one input. -/
def codesBoundsWrong : ChangeSpec := { name := "codesBounds", fn := fun _ => fun
  | [d1, d2, d3] => { results := [.lit (.bool false)], args := [d1, d2, d3] }
  | _ => none }
def CodesBoundsWrongFalsely : Prop := codesBoundsRow.holds Tryd.pinned (OpenSpec.ofChange codesBoundsWrong)

/-- 'kinlaw3.CodesRises': WHATEVER THE INPUT: true; the input reads as it did. -/
def codesRisesSpec : ChangeSpec := { name := "codesRises", fn := fun _ => fun
  | [d1, d2, d3] => { results := [.lit (.bool true)], args := [d1, d2, d3] }
  | _ => none }
def codesRisesRow : OpenClaim := { program := "ytehmgieocoppjaadoor", sum := "dc33a5baad97ab841f40e15c5b536c0340acd25d5ad92da1f9d75dd81fde1ca1", func := "kinescope/kinlaw3.CodesRises", spec := "codesRises", inPlace := ["internal/reflectlite.ValueOf", "(internal/reflectlite.Value).Type", "(internal/reflectlite.Value).IsNil", "internal/reflectlite.TypeOf", "(internal/reflectlite.Value).Elem", "(internal/reflectlite.Value).Set"], unfollowed := true, recurses := true, named := ["errors.errorType"], apart := false, laid := [("errors.errorType", laid_errors_errorType)] }
def CodesRisesSaid : Prop := codesRisesRow.holds Tryd.pinned (OpenSpec.ofChange codesRisesSpec)

/-- ITS FALSE NEIGHBOUR: 'it returns false'. Refute it at one input. -/
def codesRisesWrong : ChangeSpec := { name := "codesRises", fn := fun _ => fun
  | [d1, d2, d3] => { results := [.lit (.bool false)], args := [d1, d2, d3] }
  | _ => none }
def CodesRisesWrongFalsely : Prop := codesRisesRow.holds Tryd.pinned (OpenSpec.ofChange codesRisesWrong)

/-- 'kinlaw3.CodesOne': WHATEVER THE INPUT: true; the input reads as it did. -/
def codesOneSpec : ChangeSpec := { name := "codesOne", fn := fun _ => fun
  | [d1, d2, d3] => { results := [.lit (.bool true)], args := [d1, d2, d3] }
  | _ => none }
def codesOneRow : OpenClaim := { program := "ytehmgieocoppjaadoor", sum := "dc33a5baad97ab841f40e15c5b536c0340acd25d5ad92da1f9d75dd81fde1ca1", func := "kinescope/kinlaw3.CodesOne", spec := "codesOne", inPlace := ["internal/reflectlite.ValueOf", "(internal/reflectlite.Value).Type", "(internal/reflectlite.Value).IsNil", "internal/reflectlite.TypeOf", "(internal/reflectlite.Value).Elem", "(internal/reflectlite.Value).Set"], unfollowed := true, recurses := true, named := ["errors.errorType"], apart := false, laid := [("errors.errorType", laid_errors_errorType)] }
def CodesOneSaid : Prop := codesOneRow.holds Tryd.pinned (OpenSpec.ofChange codesOneSpec)

/-- ITS FALSE NEIGHBOUR: 'it returns false'. Refute it at one input. -/
def codesOneWrong : ChangeSpec := { name := "codesOne", fn := fun _ => fun
  | [d1, d2, d3] => { results := [.lit (.bool false)], args := [d1, d2, d3] }
  | _ => none }
def CodesOneWrongFalsely : Prop := codesOneRow.holds Tryd.pinned (OpenSpec.ofChange codesOneWrong)

/- THE SECOND FORM. 'bulk': how many values and letters a reading holds, each counted each time it is reached (what is shared counts as often as it is met; a slice's spare places count too). A statement '..UptoSaid' is the law's where the arguments, and the package variables that the reading takes, are together of bulk at most 1048576: NARROWER than '..Said'. Prove '..Said' where nothing that the law and all that it calls make is longer than what came in: it says more and counts as full. Else prove '..UptoSaid'. A law counts once. -/
mutual
def uptoBulk {H : Type} : DataW H → Nat
  | .lit (.string bytes) => bytes.length + 1
  | .lit _ => 1
  | .nil => 1
  | .ptr d => uptoBulk d + 1
  | .slice elems spare => uptoBulkAll elems + uptoBulkAll spare + 1
  | .agg parts => uptoBulkAll parts + 1
  | .iface _ d => uptoBulk d + 1
  | .map entries => uptoBulkEntries entries + 1
  | .held _ => 1
def uptoBulkAll {H : Type} : List (DataW H) → Nat
  | [] => 0
  | d :: r => uptoBulk d + uptoBulkAll r
def uptoBulkEntries {H : Type} : List (Lit × DataW H) → Nat
  | [] => 0
  | x :: r => uptoBulkEntry x + uptoBulkEntries r
def uptoBulkEntry {H : Type} : Lit × DataW H → Nat
  | (.string bytes, d) => bytes.length + uptoBulk d + 1
  | (_, d) => uptoBulk d + 1
 end
def uptoSmall : (H : Type) → List (DataW H) → Bool := fun _ ds => decide (uptoBulkAll ds ≤ 1048576)
def OpenSpec.upto (s : _root_.Go.ChangeSpec) : _root_.Go.OpenSpec := { _root_.Go.OpenSpec.ofChange s with cond := some uptoSmall }

/-- 'kinlaw2.BitsWrites', WHERE WHAT IT READS IS OF BULK AT MOST 1048576: true; the input reads as it did. -/
def bitsWritesUptoRow : OpenClaim := { program := "ytehmgieocoppjaadoor", sum := "dc33a5baad97ab841f40e15c5b536c0340acd25d5ad92da1f9d75dd81fde1ca1", func := "kinescope/kinlaw2.BitsWrites", spec := "bitsWrites", inPlace := ["internal/reflectlite.ValueOf", "(internal/reflectlite.Value).Type", "(internal/reflectlite.Value).IsNil", "internal/reflectlite.TypeOf", "(internal/reflectlite.Value).Elem", "(internal/reflectlite.Value).Set"], unfollowed := true, recurses := true, named := ["errors.errorType"], apart := false, laid := [("errors.errorType", laid_errors_errorType)], narrowed := true }
def BitsWritesUptoSaid : Prop := bitsWritesUptoRow.holds Tryd.pinned (OpenSpec.upto bitsWritesSpec)

/-- 'kinlaw3.CodesPuts', WHERE WHAT IT READS IS OF BULK AT MOST 1048576: true; the input reads as it did. -/
def codesPutsUptoRow : OpenClaim := { program := "ytehmgieocoppjaadoor", sum := "dc33a5baad97ab841f40e15c5b536c0340acd25d5ad92da1f9d75dd81fde1ca1", func := "kinescope/kinlaw3.CodesPuts", spec := "codesPuts", inPlace := ["internal/reflectlite.ValueOf", "(internal/reflectlite.Value).Type", "(internal/reflectlite.Value).IsNil", "internal/reflectlite.TypeOf", "(internal/reflectlite.Value).Elem", "(internal/reflectlite.Value).Set"], unfollowed := true, recurses := true, named := ["errors.errorType"], apart := false, laid := [("errors.errorType", laid_errors_errorType)], narrowed := true }
def CodesPutsUptoSaid : Prop := codesPutsUptoRow.holds Tryd.pinned (OpenSpec.upto codesPutsSpec)

/-- 'kinlaw3.CodesGets', WHERE WHAT IT READS IS OF BULK AT MOST 1048576: true; the input reads as it did. -/
def codesGetsUptoRow : OpenClaim := { program := "ytehmgieocoppjaadoor", sum := "dc33a5baad97ab841f40e15c5b536c0340acd25d5ad92da1f9d75dd81fde1ca1", func := "kinescope/kinlaw3.CodesGets", spec := "codesGets", inPlace := ["internal/reflectlite.ValueOf", "(internal/reflectlite.Value).Type", "(internal/reflectlite.Value).IsNil", "internal/reflectlite.TypeOf", "(internal/reflectlite.Value).Elem", "(internal/reflectlite.Value).Set"], unfollowed := true, recurses := true, named := ["errors.errorType"], apart := false, laid := [("errors.errorType", laid_errors_errorType)], narrowed := true }
def CodesGetsUptoSaid : Prop := codesGetsUptoRow.holds Tryd.pinned (OpenSpec.upto codesGetsSpec)

/-- 'kinlaw3.CodesFolds', WHERE WHAT IT READS IS OF BULK AT MOST 1048576: true; the input reads as it did. -/
def codesFoldsUptoRow : OpenClaim := { program := "ytehmgieocoppjaadoor", sum := "dc33a5baad97ab841f40e15c5b536c0340acd25d5ad92da1f9d75dd81fde1ca1", func := "kinescope/kinlaw3.CodesFolds", spec := "codesFolds", inPlace := ["internal/reflectlite.ValueOf", "(internal/reflectlite.Value).Type", "(internal/reflectlite.Value).IsNil", "internal/reflectlite.TypeOf", "(internal/reflectlite.Value).Elem", "(internal/reflectlite.Value).Set"], unfollowed := true, recurses := true, named := ["errors.errorType"], apart := false, laid := [("errors.errorType", laid_errors_errorType)], narrowed := true }
def CodesFoldsUptoSaid : Prop := codesFoldsUptoRow.holds Tryd.pinned (OpenSpec.upto codesFoldsSpec)

/-- 'kinlaw3.CodesBack', WHERE WHAT IT READS IS OF BULK AT MOST 1048576: true; the input reads as it did. -/
def codesBackUptoRow : OpenClaim := { program := "ytehmgieocoppjaadoor", sum := "dc33a5baad97ab841f40e15c5b536c0340acd25d5ad92da1f9d75dd81fde1ca1", func := "kinescope/kinlaw3.CodesBack", spec := "codesBack", inPlace := ["internal/reflectlite.ValueOf", "(internal/reflectlite.Value).Type", "(internal/reflectlite.Value).IsNil", "internal/reflectlite.TypeOf", "(internal/reflectlite.Value).Elem", "(internal/reflectlite.Value).Set"], unfollowed := true, recurses := true, named := ["errors.errorType"], apart := false, laid := [("errors.errorType", laid_errors_errorType)], narrowed := true }
def CodesBackUptoSaid : Prop := codesBackUptoRow.holds Tryd.pinned (OpenSpec.upto codesBackSpec)

/-- 'kinlaw3.CodesUnfolds', WHERE WHAT IT READS IS OF BULK AT MOST 1048576: true; the input reads as it did. -/
def codesUnfoldsUptoRow : OpenClaim := { program := "ytehmgieocoppjaadoor", sum := "dc33a5baad97ab841f40e15c5b536c0340acd25d5ad92da1f9d75dd81fde1ca1", func := "kinescope/kinlaw3.CodesUnfolds", spec := "codesUnfolds", inPlace := ["internal/reflectlite.ValueOf", "(internal/reflectlite.Value).Type", "(internal/reflectlite.Value).IsNil", "internal/reflectlite.TypeOf", "(internal/reflectlite.Value).Elem", "(internal/reflectlite.Value).Set"], unfollowed := true, recurses := true, named := ["errors.errorType"], apart := false, laid := [("errors.errorType", laid_errors_errorType)], narrowed := true }
def CodesUnfoldsUptoSaid : Prop := codesUnfoldsUptoRow.holds Tryd.pinned (OpenSpec.upto codesUnfoldsSpec)

/-- 'kinlaw3.CodesBounds', WHERE WHAT IT READS IS OF BULK AT MOST 1048576: true; the input reads as it did. -/
def codesBoundsUptoRow : OpenClaim := { program := "ytehmgieocoppjaadoor", sum := "dc33a5baad97ab841f40e15c5b536c0340acd25d5ad92da1f9d75dd81fde1ca1", func := "kinescope/kinlaw3.CodesBounds", spec := "codesBounds", inPlace := ["internal/reflectlite.ValueOf", "(internal/reflectlite.Value).Type", "(internal/reflectlite.Value).IsNil", "internal/reflectlite.TypeOf", "(internal/reflectlite.Value).Elem", "(internal/reflectlite.Value).Set"], unfollowed := true, recurses := true, named := ["errors.errorType"], apart := false, laid := [("errors.errorType", laid_errors_errorType)], narrowed := true }
def CodesBoundsUptoSaid : Prop := codesBoundsUptoRow.holds Tryd.pinned (OpenSpec.upto codesBoundsSpec)

/-- 'kinlaw3.CodesRises', WHERE WHAT IT READS IS OF BULK AT MOST 1048576: true; the input reads as it did. -/
def codesRisesUptoRow : OpenClaim := { program := "ytehmgieocoppjaadoor", sum := "dc33a5baad97ab841f40e15c5b536c0340acd25d5ad92da1f9d75dd81fde1ca1", func := "kinescope/kinlaw3.CodesRises", spec := "codesRises", inPlace := ["internal/reflectlite.ValueOf", "(internal/reflectlite.Value).Type", "(internal/reflectlite.Value).IsNil", "internal/reflectlite.TypeOf", "(internal/reflectlite.Value).Elem", "(internal/reflectlite.Value).Set"], unfollowed := true, recurses := true, named := ["errors.errorType"], apart := false, laid := [("errors.errorType", laid_errors_errorType)], narrowed := true }
def CodesRisesUptoSaid : Prop := codesRisesUptoRow.holds Tryd.pinned (OpenSpec.upto codesRisesSpec)

/-- 'kinlaw3.CodesOne', WHERE WHAT IT READS IS OF BULK AT MOST 1048576: true; the input reads as it did. -/
def codesOneUptoRow : OpenClaim := { program := "ytehmgieocoppjaadoor", sum := "dc33a5baad97ab841f40e15c5b536c0340acd25d5ad92da1f9d75dd81fde1ca1", func := "kinescope/kinlaw3.CodesOne", spec := "codesOne", inPlace := ["internal/reflectlite.ValueOf", "(internal/reflectlite.Value).Type", "(internal/reflectlite.Value).IsNil", "internal/reflectlite.TypeOf", "(internal/reflectlite.Value).Elem", "(internal/reflectlite.Value).Set"], unfollowed := true, recurses := true, named := ["errors.errorType"], apart := false, laid := [("errors.errorType", laid_errors_errorType)], narrowed := true }
def CodesOneUptoSaid : Prop := codesOneUptoRow.holds Tryd.pinned (OpenSpec.upto codesOneSpec)

end Rows
end Go.Proofs.YtehmgieocoppjaaDoor
