/-
  NARROWER THAN 'FOR EVERY INPUT', by the rows' own cells (each row's printed sentence says how): SyntaxHeads: laid · SyntaxPairs: laid · SyntaxKinds: laid.
  DERIVED. THE GIVEN ROWS OF THIS SEAT. 3 by the template 'for every input the law returns true; each argument reads behind the call as it read before'; 0 by the template 'total and deterministic' (their statements: YtpofabebmeickaaDoorTotals.lean).
  GIVEN WITH THE SEED: the statements are not yours to turn. If you find one false, say at which input.
  Laid BY PROGRAM, IN A SANDBOX (cutbox-rows.mjs): the forced cells as the released guide's own fill.sh prints them over the translation 206e546799b18bd9… (all of the seat's roots in one cut). By AI agents, Wed Nov 11 2026. No macro, syntax, notation, axiom, sorry.
-/
import Derived.Test.YtpofabebmeickaaDoorChecked
import GoSem.Claim
import GoSem.ClaimJoined
import GoSem.ClaimMapViews
import Derived.JoinedTies
import Derived.KernelRfl
namespace Go.Proofs.YtpofabebmeickaaDoor
/- THE CELL 'sum', in the pinned program and in every row, IS THE sha256 OF THE DUMP (.gsa) THAT YtpofabebmeickaaDoorProg.lean LOADS. Nothing in Lean hashes anything: it is a label: what it is worth is what the hold of that sum in a sandbox is worth. -/
noncomputable def Tryd.pinned : Pinned := { name := "ytpofabebmeickaadoor", sum := "206e546799b18bd915cee2612720bc71e87d3b52a5613f6c7b536efa840ccd08", checked := Tryd.checked }
namespace Rows
def none {H : Type} : Left H := { results := [], args := [] }

/- WHAT THE LISTED PACKAGE-LEVEL VARIABLES READ AS WHEN THE CALL BEGINS. Each datum BY PROGRAM (the guide's laid-datum.mjs) off the statement by which the dump's own 'gosem.cut.vars' lays the variable. In a bare row this is a premise. The card (YtpofabebmeickaaDoorCards.lean) ties it to the program's text. -/
def laid_errors_errorType {H : Type} : DataW H := .iface "internal/reflectlite.rtype" (.agg [.ptr (.lit (.string [101, 114, 114, 111, 114]))])
def laid_kinescope_unit_nibbles {H : Type} : DataW H := .agg [.lit (.int .u32 0), .lit (.int .u32 498536548), .lit (.int .u32 997073096), .lit (.int .u32 651767980), .lit (.int .u32 1994146192), .lit (.int .u32 1802195444), .lit (.int .u32 1303535960), .lit (.int .u32 1342533948), .lit (.int .u32 3988292384), .lit (.int .u32 4027552580), .lit (.int .u32 3604390888), .lit (.int .u32 3412177804), .lit (.int .u32 2607071920), .lit (.int .u32 2262029012), .lit (.int .u32 2685067896), .lit (.int .u32 3183342108)]

/-- 'kinlaw20.SyntaxHeads': WHATEVER THE INPUT: true; the input reads as it did. -/
def syntaxHeadsSpec : ChangeSpec := { name := "syntaxHeads", fn := fun _ => fun
  | [d1, d2] => { results := [.lit (.bool true)], args := [d1, d2] }
  | _ => none }
def syntaxHeadsRow : OpenClaim := { program := "ytpofabebmeickaadoor", sum := "206e546799b18bd915cee2612720bc71e87d3b52a5613f6c7b536efa840ccd08", func := "kinescope/kinlaw20.SyntaxHeads", spec := "syntaxHeads", inPlace := ["internal/reflectlite.ValueOf", "(internal/reflectlite.Value).Type", "(internal/reflectlite.Value).IsNil", "internal/reflectlite.TypeOf", "(internal/reflectlite.Value).Elem", "(internal/reflectlite.Value).Set"], unfollowed := true, recurses := true, named := ["errors.errorType"], apart := false, laid := [("errors.errorType", laid_errors_errorType)] }
def SyntaxHeadsSaid : Prop := syntaxHeadsRow.holds Tryd.pinned (OpenSpec.ofChange syntaxHeadsSpec)

/-- ITS FALSE NEIGHBOUR: 'it returns false'. Refute it at one input. -/
def syntaxHeadsWrong : ChangeSpec := { name := "syntaxHeads", fn := fun _ => fun
  | [d1, d2] => { results := [.lit (.bool false)], args := [d1, d2] }
  | _ => none }
def SyntaxHeadsWrongFalsely : Prop := syntaxHeadsRow.holds Tryd.pinned (OpenSpec.ofChange syntaxHeadsWrong)

/-- 'kinlaw20.SyntaxPairs': WHATEVER THE INPUT: true; the input reads as it did. -/
def syntaxPairsSpec : ChangeSpec := { name := "syntaxPairs", fn := fun _ => fun
  | [d1, d2] => { results := [.lit (.bool true)], args := [d1, d2] }
  | _ => none }
def syntaxPairsRow : OpenClaim := { program := "ytpofabebmeickaadoor", sum := "206e546799b18bd915cee2612720bc71e87d3b52a5613f6c7b536efa840ccd08", func := "kinescope/kinlaw20.SyntaxPairs", spec := "syntaxPairs", inPlace := ["internal/reflectlite.ValueOf", "(internal/reflectlite.Value).Type", "(internal/reflectlite.Value).IsNil", "internal/reflectlite.TypeOf", "(internal/reflectlite.Value).Elem", "(internal/reflectlite.Value).Set"], unfollowed := true, recurses := true, named := ["errors.errorType", "kinescope/unit.nibbles"], apart := false, laid := [("errors.errorType", laid_errors_errorType), ("kinescope/unit.nibbles", laid_kinescope_unit_nibbles)] }
def SyntaxPairsSaid : Prop := syntaxPairsRow.holds Tryd.pinned (OpenSpec.ofChange syntaxPairsSpec)

/-- ITS FALSE NEIGHBOUR: 'it returns false'. Refute it at one input. -/
def syntaxPairsWrong : ChangeSpec := { name := "syntaxPairs", fn := fun _ => fun
  | [d1, d2] => { results := [.lit (.bool false)], args := [d1, d2] }
  | _ => none }
def SyntaxPairsWrongFalsely : Prop := syntaxPairsRow.holds Tryd.pinned (OpenSpec.ofChange syntaxPairsWrong)

/-- 'kinlaw20.SyntaxKinds': WHATEVER THE INPUT: true; the input reads as it did. -/
def syntaxKindsSpec : ChangeSpec := { name := "syntaxKinds", fn := fun _ => fun
  | [d1, d2] => { results := [.lit (.bool true)], args := [d1, d2] }
  | _ => none }
def syntaxKindsRow : OpenClaim := { program := "ytpofabebmeickaadoor", sum := "206e546799b18bd915cee2612720bc71e87d3b52a5613f6c7b536efa840ccd08", func := "kinescope/kinlaw20.SyntaxKinds", spec := "syntaxKinds", inPlace := ["internal/reflectlite.ValueOf", "(internal/reflectlite.Value).Type", "(internal/reflectlite.Value).IsNil", "internal/reflectlite.TypeOf", "(internal/reflectlite.Value).Elem", "(internal/reflectlite.Value).Set"], unfollowed := true, recurses := true, named := ["errors.errorType"], apart := false, laid := [("errors.errorType", laid_errors_errorType)] }
def SyntaxKindsSaid : Prop := syntaxKindsRow.holds Tryd.pinned (OpenSpec.ofChange syntaxKindsSpec)

/-- ITS FALSE NEIGHBOUR: 'it returns false'. Refute it at one input. -/
def syntaxKindsWrong : ChangeSpec := { name := "syntaxKinds", fn := fun _ => fun
  | [d1, d2] => { results := [.lit (.bool false)], args := [d1, d2] }
  | _ => none }
def SyntaxKindsWrongFalsely : Prop := syntaxKindsRow.holds Tryd.pinned (OpenSpec.ofChange syntaxKindsWrong)

/- THE SECOND FORM. 'bulk': how many values and letters a reading holds, each counted each time it is reached (what is shared counts as often as it is met; a slice's spare places count too). A statement '..UptoSaid' is the law's where the arguments, and the package variables that the reading takes, are together of bulk at most 1048576: NARROWER than '..Said'. Prove '..Said' where nothing that the law and all that it calls make is longer than what came in: it says more and counts as full. Else prove '..UptoSaid'. A law counts once. -/
mutual
def uptoBulk {H : Type} : DataW H → Nat
  | .lit (.string bytes) => bytes.length + 1
  | .lit _ => 1
  | .nil => 1
  | .ptr d => uptoBulk d + 1
  | .slice elems spare => uptoBulkAll elems + uptoBulkAll spare + 1
  | .agg parts => uptoBulkAll parts + 1
  | .iface _ d => uptoBulk d + 1
  | .map entries => uptoBulkEntries entries + 1
  | .held _ => 1
def uptoBulkAll {H : Type} : List (DataW H) → Nat
  | [] => 0
  | d :: r => uptoBulk d + uptoBulkAll r
def uptoBulkEntries {H : Type} : List (Lit × DataW H) → Nat
  | [] => 0
  | x :: r => uptoBulkEntry x + uptoBulkEntries r
def uptoBulkEntry {H : Type} : Lit × DataW H → Nat
  | (.string bytes, d) => bytes.length + uptoBulk d + 1
  | (_, d) => uptoBulk d + 1
 end
def uptoSmall : (H : Type) → List (DataW H) → Bool := fun _ ds => decide (uptoBulkAll ds ≤ 1048576)
def OpenSpec.upto (s : _root_.Go.ChangeSpec) : _root_.Go.OpenSpec := { _root_.Go.OpenSpec.ofChange s with cond := some uptoSmall }

/-- 'kinlaw20.SyntaxHeads', WHERE WHAT IT READS IS OF BULK AT MOST 1048576: true; the input reads as it did. -/
def syntaxHeadsUptoRow : OpenClaim := { program := "ytpofabebmeickaadoor", sum := "206e546799b18bd915cee2612720bc71e87d3b52a5613f6c7b536efa840ccd08", func := "kinescope/kinlaw20.SyntaxHeads", spec := "syntaxHeads", inPlace := ["internal/reflectlite.ValueOf", "(internal/reflectlite.Value).Type", "(internal/reflectlite.Value).IsNil", "internal/reflectlite.TypeOf", "(internal/reflectlite.Value).Elem", "(internal/reflectlite.Value).Set"], unfollowed := true, recurses := true, named := ["errors.errorType"], apart := false, laid := [("errors.errorType", laid_errors_errorType)], narrowed := true }
def SyntaxHeadsUptoSaid : Prop := syntaxHeadsUptoRow.holds Tryd.pinned (OpenSpec.upto syntaxHeadsSpec)

/-- 'kinlaw20.SyntaxPairs', WHERE WHAT IT READS IS OF BULK AT MOST 1048576: true; the input reads as it did. -/
def syntaxPairsUptoRow : OpenClaim := { program := "ytpofabebmeickaadoor", sum := "206e546799b18bd915cee2612720bc71e87d3b52a5613f6c7b536efa840ccd08", func := "kinescope/kinlaw20.SyntaxPairs", spec := "syntaxPairs", inPlace := ["internal/reflectlite.ValueOf", "(internal/reflectlite.Value).Type", "(internal/reflectlite.Value).IsNil", "internal/reflectlite.TypeOf", "(internal/reflectlite.Value).Elem", "(internal/reflectlite.Value).Set"], unfollowed := true, recurses := true, named := ["errors.errorType", "kinescope/unit.nibbles"], apart := false, laid := [("errors.errorType", laid_errors_errorType), ("kinescope/unit.nibbles", laid_kinescope_unit_nibbles)], narrowed := true }
def SyntaxPairsUptoSaid : Prop := syntaxPairsUptoRow.holds Tryd.pinned (OpenSpec.upto syntaxPairsSpec)

/-- 'kinlaw20.SyntaxKinds', WHERE WHAT IT READS IS OF BULK AT MOST 1048576: true; the input reads as it did. -/
def syntaxKindsUptoRow : OpenClaim := { program := "ytpofabebmeickaadoor", sum := "206e546799b18bd915cee2612720bc71e87d3b52a5613f6c7b536efa840ccd08", func := "kinescope/kinlaw20.SyntaxKinds", spec := "syntaxKinds", inPlace := ["internal/reflectlite.ValueOf", "(internal/reflectlite.Value).Type", "(internal/reflectlite.Value).IsNil", "internal/reflectlite.TypeOf", "(internal/reflectlite.Value).Elem", "(internal/reflectlite.Value).Set"], unfollowed := true, recurses := true, named := ["errors.errorType"], apart := false, laid := [("errors.errorType", laid_errors_errorType)], narrowed := true }
def SyntaxKindsUptoSaid : Prop := syntaxKindsUptoRow.holds Tryd.pinned (OpenSpec.upto syntaxKindsSpec)

end Rows
end Go.Proofs.YtpofabebmeickaaDoor
