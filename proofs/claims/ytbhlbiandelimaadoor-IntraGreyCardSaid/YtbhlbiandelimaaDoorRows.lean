/-
  NARROWER THAN 'FOR EVERY INPUT', by the rows' own cells (each row's printed sentence says how): IntraEdges: laid · IntraPredicts: laid · IntraChooses: laid · IntraSamples: laid · IntraLeast: laid · IntraGrey: laid · IntraTurned: laid · SceneUnlikes: laid · SceneGroups: laid · SceneOnce: laid · SceneTurned: laid · SceneCuts: laid.
  DERIVED. THE GIVEN ROWS OF THIS SEAT. 12 by the template 'for every input the law returns true; each argument reads behind the call as it read before'; 0 by the template 'total and deterministic' (their statements: YtbhlbiandelimaaDoorTotals.lean).
  GIVEN WITH THE SEED: the statements are not yours to turn. If you find one false, say at which input.
  Laid BY PROGRAM, IN A SANDBOX (cutbox-rows.mjs): the forced cells as the released guide's own fill.sh prints them over the translation 5610b6c03d7aa5e0… (all of the seat's roots in one cut). By AI agents, Wed Nov 11 2026. No macro, syntax, notation, axiom, sorry.
-/
import Derived.Test.YtbhlbiandelimaaDoorChecked
import GoSem.Claim
import GoSem.ClaimJoined
import GoSem.ClaimMapViews
import Derived.JoinedTies
import Derived.KernelRfl
namespace Go.Proofs.YtbhlbiandelimaaDoor
/- THE CELL 'sum', in the pinned program and in every row, IS THE sha256 OF THE DUMP (.gsa) THAT YtbhlbiandelimaaDoorProg.lean LOADS. Nothing in Lean hashes anything: it is a label: what it is worth is what the hold of that sum in a sandbox is worth. -/
noncomputable def Tryd.pinned : Pinned := { name := "ytbhlbiandelimaadoor", sum := "5610b6c03d7aa5e041e75e6af85ceb25fc54ca9bbdb0ed79b2755c95b7db3601", checked := Tryd.checked }
namespace Rows
def none {H : Type} : Left H := { results := [], args := [] }

/- WHAT THE LISTED PACKAGE-LEVEL VARIABLES READ AS WHEN THE CALL BEGINS. Each datum BY PROGRAM (the guide's laid-datum.mjs) off the statement by which the dump's own 'gosem.cut.vars' lays the variable. In a bare row this is a premise. The card (YtbhlbiandelimaaDoorCards.lean) ties it to the program's text. -/
def laid_errors_errorType {H : Type} : DataW H := .iface "internal/reflectlite.rtype" (.agg [.ptr (.lit (.string [101, 114, 114, 111, 114]))])

/-- 'kinlaw10.IntraEdges': WHATEVER THE INPUT: true; the input reads as it did. -/
def intraEdgesSpec : ChangeSpec := { name := "intraEdges", fn := fun _ => fun
  | [d1, d2, d3, d4] => { results := [.lit (.bool true)], args := [d1, d2, d3, d4] }
  | _ => none }
def intraEdgesRow : OpenClaim := { program := "ytbhlbiandelimaadoor", sum := "5610b6c03d7aa5e041e75e6af85ceb25fc54ca9bbdb0ed79b2755c95b7db3601", func := "kinescope/kinlaw10.IntraEdges", spec := "intraEdges", inPlace := ["internal/reflectlite.ValueOf", "(internal/reflectlite.Value).Type", "(internal/reflectlite.Value).IsNil", "internal/reflectlite.TypeOf", "(internal/reflectlite.Value).Elem", "(internal/reflectlite.Value).Set"], unfollowed := true, recurses := true, named := ["errors.errorType"], apart := false, laid := [("errors.errorType", laid_errors_errorType)] }
def IntraEdgesSaid : Prop := intraEdgesRow.holds Tryd.pinned (OpenSpec.ofChange intraEdgesSpec)

/-- ITS FALSE NEIGHBOUR: 'it returns false'. Refute it at one input. -/
def intraEdgesWrong : ChangeSpec := { name := "intraEdges", fn := fun _ => fun
  | [d1, d2, d3, d4] => { results := [.lit (.bool false)], args := [d1, d2, d3, d4] }
  | _ => none }
def IntraEdgesWrongFalsely : Prop := intraEdgesRow.holds Tryd.pinned (OpenSpec.ofChange intraEdgesWrong)

/-- 'kinlaw10.IntraPredicts': WHATEVER THE INPUT: true; the input reads as it did. -/
def intraPredictsSpec : ChangeSpec := { name := "intraPredicts", fn := fun _ => fun
  | [d1, d2, d3, d4] => { results := [.lit (.bool true)], args := [d1, d2, d3, d4] }
  | _ => none }
def intraPredictsRow : OpenClaim := { program := "ytbhlbiandelimaadoor", sum := "5610b6c03d7aa5e041e75e6af85ceb25fc54ca9bbdb0ed79b2755c95b7db3601", func := "kinescope/kinlaw10.IntraPredicts", spec := "intraPredicts", inPlace := ["internal/reflectlite.ValueOf", "(internal/reflectlite.Value).Type", "(internal/reflectlite.Value).IsNil", "internal/reflectlite.TypeOf", "(internal/reflectlite.Value).Elem", "(internal/reflectlite.Value).Set"], unfollowed := true, recurses := true, named := ["errors.errorType"], apart := false, laid := [("errors.errorType", laid_errors_errorType)] }
def IntraPredictsSaid : Prop := intraPredictsRow.holds Tryd.pinned (OpenSpec.ofChange intraPredictsSpec)

/-- ITS FALSE NEIGHBOUR: 'it returns false'. Refute it at one input. -/
def intraPredictsWrong : ChangeSpec := { name := "intraPredicts", fn := fun _ => fun
  | [d1, d2, d3, d4] => { results := [.lit (.bool false)], args := [d1, d2, d3, d4] }
  | _ => none }
def IntraPredictsWrongFalsely : Prop := intraPredictsRow.holds Tryd.pinned (OpenSpec.ofChange intraPredictsWrong)

/-- 'kinlaw10.IntraChooses': WHATEVER THE INPUT: true; the input reads as it did. -/
def intraChoosesSpec : ChangeSpec := { name := "intraChooses", fn := fun _ => fun
  | [d1, d2, d3, d4] => { results := [.lit (.bool true)], args := [d1, d2, d3, d4] }
  | _ => none }
def intraChoosesRow : OpenClaim := { program := "ytbhlbiandelimaadoor", sum := "5610b6c03d7aa5e041e75e6af85ceb25fc54ca9bbdb0ed79b2755c95b7db3601", func := "kinescope/kinlaw10.IntraChooses", spec := "intraChooses", inPlace := ["internal/reflectlite.ValueOf", "(internal/reflectlite.Value).Type", "(internal/reflectlite.Value).IsNil", "internal/reflectlite.TypeOf", "(internal/reflectlite.Value).Elem", "(internal/reflectlite.Value).Set"], unfollowed := true, recurses := true, named := ["errors.errorType"], apart := false, laid := [("errors.errorType", laid_errors_errorType)] }
def IntraChoosesSaid : Prop := intraChoosesRow.holds Tryd.pinned (OpenSpec.ofChange intraChoosesSpec)

/-- ITS FALSE NEIGHBOUR: 'it returns false'. Refute it at one input. -/
def intraChoosesWrong : ChangeSpec := { name := "intraChooses", fn := fun _ => fun
  | [d1, d2, d3, d4] => { results := [.lit (.bool false)], args := [d1, d2, d3, d4] }
  | _ => none }
def IntraChoosesWrongFalsely : Prop := intraChoosesRow.holds Tryd.pinned (OpenSpec.ofChange intraChoosesWrong)

/-- 'kinlaw10.IntraSamples': WHATEVER THE INPUT: true; the input reads as it did. -/
def intraSamplesSpec : ChangeSpec := { name := "intraSamples", fn := fun _ => fun
  | [d1, d2, d3, d4, d5] => { results := [.lit (.bool true)], args := [d1, d2, d3, d4, d5] }
  | _ => none }
def intraSamplesRow : OpenClaim := { program := "ytbhlbiandelimaadoor", sum := "5610b6c03d7aa5e041e75e6af85ceb25fc54ca9bbdb0ed79b2755c95b7db3601", func := "kinescope/kinlaw10.IntraSamples", spec := "intraSamples", inPlace := ["internal/reflectlite.ValueOf", "(internal/reflectlite.Value).Type", "(internal/reflectlite.Value).IsNil", "internal/reflectlite.TypeOf", "(internal/reflectlite.Value).Elem", "(internal/reflectlite.Value).Set"], unfollowed := true, recurses := true, named := ["errors.errorType"], apart := false, laid := [("errors.errorType", laid_errors_errorType)] }
def IntraSamplesSaid : Prop := intraSamplesRow.holds Tryd.pinned (OpenSpec.ofChange intraSamplesSpec)

/-- ITS FALSE NEIGHBOUR: 'it returns false'. Refute it at one input. -/
def intraSamplesWrong : ChangeSpec := { name := "intraSamples", fn := fun _ => fun
  | [d1, d2, d3, d4, d5] => { results := [.lit (.bool false)], args := [d1, d2, d3, d4, d5] }
  | _ => none }
def IntraSamplesWrongFalsely : Prop := intraSamplesRow.holds Tryd.pinned (OpenSpec.ofChange intraSamplesWrong)

/-- 'kinlaw10.IntraLeast': WHATEVER THE INPUT: true; the input reads as it did. -/
def intraLeastSpec : ChangeSpec := { name := "intraLeast", fn := fun _ => fun
  | [d1, d2, d3, d4, d5] => { results := [.lit (.bool true)], args := [d1, d2, d3, d4, d5] }
  | _ => none }
def intraLeastRow : OpenClaim := { program := "ytbhlbiandelimaadoor", sum := "5610b6c03d7aa5e041e75e6af85ceb25fc54ca9bbdb0ed79b2755c95b7db3601", func := "kinescope/kinlaw10.IntraLeast", spec := "intraLeast", inPlace := ["internal/reflectlite.ValueOf", "(internal/reflectlite.Value).Type", "(internal/reflectlite.Value).IsNil", "internal/reflectlite.TypeOf", "(internal/reflectlite.Value).Elem", "(internal/reflectlite.Value).Set"], unfollowed := true, recurses := true, named := ["errors.errorType"], apart := false, laid := [("errors.errorType", laid_errors_errorType)] }
def IntraLeastSaid : Prop := intraLeastRow.holds Tryd.pinned (OpenSpec.ofChange intraLeastSpec)

/-- ITS FALSE NEIGHBOUR: 'it returns false'. Refute it at one input. -/
def intraLeastWrong : ChangeSpec := { name := "intraLeast", fn := fun _ => fun
  | [d1, d2, d3, d4, d5] => { results := [.lit (.bool false)], args := [d1, d2, d3, d4, d5] }
  | _ => none }
def IntraLeastWrongFalsely : Prop := intraLeastRow.holds Tryd.pinned (OpenSpec.ofChange intraLeastWrong)

/-- 'kinlaw10.IntraGrey': WHATEVER THE INPUT: true; the input reads as it did. -/
def intraGreySpec : ChangeSpec := { name := "intraGrey", fn := fun _ => fun
  | [d1, d2] => { results := [.lit (.bool true)], args := [d1, d2] }
  | _ => none }
def intraGreyRow : OpenClaim := { program := "ytbhlbiandelimaadoor", sum := "5610b6c03d7aa5e041e75e6af85ceb25fc54ca9bbdb0ed79b2755c95b7db3601", func := "kinescope/kinlaw10.IntraGrey", spec := "intraGrey", inPlace := ["internal/reflectlite.ValueOf", "(internal/reflectlite.Value).Type", "(internal/reflectlite.Value).IsNil", "internal/reflectlite.TypeOf", "(internal/reflectlite.Value).Elem", "(internal/reflectlite.Value).Set"], unfollowed := true, recurses := true, named := ["errors.errorType"], apart := false, laid := [("errors.errorType", laid_errors_errorType)] }
def IntraGreySaid : Prop := intraGreyRow.holds Tryd.pinned (OpenSpec.ofChange intraGreySpec)

/-- ITS FALSE NEIGHBOUR: 'it returns false'. Refute it at one input. -/
def intraGreyWrong : ChangeSpec := { name := "intraGrey", fn := fun _ => fun
  | [d1, d2] => { results := [.lit (.bool false)], args := [d1, d2] }
  | _ => none }
def IntraGreyWrongFalsely : Prop := intraGreyRow.holds Tryd.pinned (OpenSpec.ofChange intraGreyWrong)

/-- 'kinlaw10.IntraTurned': WHATEVER THE INPUT: true; the input reads as it did. -/
def intraTurnedSpec : ChangeSpec := { name := "intraTurned", fn := fun _ => fun
  | [d1, d2, d3] => { results := [.lit (.bool true)], args := [d1, d2, d3] }
  | _ => none }
def intraTurnedRow : OpenClaim := { program := "ytbhlbiandelimaadoor", sum := "5610b6c03d7aa5e041e75e6af85ceb25fc54ca9bbdb0ed79b2755c95b7db3601", func := "kinescope/kinlaw10.IntraTurned", spec := "intraTurned", inPlace := ["internal/reflectlite.ValueOf", "(internal/reflectlite.Value).Type", "(internal/reflectlite.Value).IsNil", "internal/reflectlite.TypeOf", "(internal/reflectlite.Value).Elem", "(internal/reflectlite.Value).Set"], unfollowed := true, recurses := true, named := ["errors.errorType"], apart := false, laid := [("errors.errorType", laid_errors_errorType)] }
def IntraTurnedSaid : Prop := intraTurnedRow.holds Tryd.pinned (OpenSpec.ofChange intraTurnedSpec)

/-- ITS FALSE NEIGHBOUR: 'it returns false'. Refute it at one input. -/
def intraTurnedWrong : ChangeSpec := { name := "intraTurned", fn := fun _ => fun
  | [d1, d2, d3] => { results := [.lit (.bool false)], args := [d1, d2, d3] }
  | _ => none }
def IntraTurnedWrongFalsely : Prop := intraTurnedRow.holds Tryd.pinned (OpenSpec.ofChange intraTurnedWrong)

/-- 'kinlaw16.SceneUnlikes': WHATEVER THE INPUT: true; the input reads as it did. -/
def sceneUnlikesSpec : ChangeSpec := { name := "sceneUnlikes", fn := fun _ => fun
  | [d1, d2] => { results := [.lit (.bool true)], args := [d1, d2] }
  | _ => none }
def sceneUnlikesRow : OpenClaim := { program := "ytbhlbiandelimaadoor", sum := "5610b6c03d7aa5e041e75e6af85ceb25fc54ca9bbdb0ed79b2755c95b7db3601", func := "kinescope/kinlaw16.SceneUnlikes", spec := "sceneUnlikes", inPlace := ["internal/reflectlite.ValueOf", "(internal/reflectlite.Value).Type", "(internal/reflectlite.Value).IsNil", "internal/reflectlite.TypeOf", "(internal/reflectlite.Value).Elem", "(internal/reflectlite.Value).Set"], unfollowed := true, recurses := true, named := ["errors.errorType"], apart := false, laid := [("errors.errorType", laid_errors_errorType)] }
def SceneUnlikesSaid : Prop := sceneUnlikesRow.holds Tryd.pinned (OpenSpec.ofChange sceneUnlikesSpec)

/-- ITS FALSE NEIGHBOUR: 'it returns false'. Refute it at one input. -/
def sceneUnlikesWrong : ChangeSpec := { name := "sceneUnlikes", fn := fun _ => fun
  | [d1, d2] => { results := [.lit (.bool false)], args := [d1, d2] }
  | _ => none }
def SceneUnlikesWrongFalsely : Prop := sceneUnlikesRow.holds Tryd.pinned (OpenSpec.ofChange sceneUnlikesWrong)

/-- 'kinlaw16.SceneGroups': WHATEVER THE INPUT: true; the input reads as it did. -/
def sceneGroupsSpec : ChangeSpec := { name := "sceneGroups", fn := fun _ => fun
  | [d1, d2, d3] => { results := [.lit (.bool true)], args := [d1, d2, d3] }
  | _ => none }
def sceneGroupsRow : OpenClaim := { program := "ytbhlbiandelimaadoor", sum := "5610b6c03d7aa5e041e75e6af85ceb25fc54ca9bbdb0ed79b2755c95b7db3601", func := "kinescope/kinlaw16.SceneGroups", spec := "sceneGroups", inPlace := ["internal/reflectlite.ValueOf", "(internal/reflectlite.Value).Type", "(internal/reflectlite.Value).IsNil", "internal/reflectlite.TypeOf", "(internal/reflectlite.Value).Elem", "(internal/reflectlite.Value).Set"], unfollowed := true, recurses := true, named := ["errors.errorType"], apart := false, laid := [("errors.errorType", laid_errors_errorType)] }
def SceneGroupsSaid : Prop := sceneGroupsRow.holds Tryd.pinned (OpenSpec.ofChange sceneGroupsSpec)

/-- ITS FALSE NEIGHBOUR: 'it returns false'. Refute it at one input. -/
def sceneGroupsWrong : ChangeSpec := { name := "sceneGroups", fn := fun _ => fun
  | [d1, d2, d3] => { results := [.lit (.bool false)], args := [d1, d2, d3] }
  | _ => none }
def SceneGroupsWrongFalsely : Prop := sceneGroupsRow.holds Tryd.pinned (OpenSpec.ofChange sceneGroupsWrong)

/-- 'kinlaw16.SceneOnce': WHATEVER THE INPUT: true; the input reads as it did. -/
def sceneOnceSpec : ChangeSpec := { name := "sceneOnce", fn := fun _ => fun
  | [d1, d2, d3] => { results := [.lit (.bool true)], args := [d1, d2, d3] }
  | _ => none }
def sceneOnceRow : OpenClaim := { program := "ytbhlbiandelimaadoor", sum := "5610b6c03d7aa5e041e75e6af85ceb25fc54ca9bbdb0ed79b2755c95b7db3601", func := "kinescope/kinlaw16.SceneOnce", spec := "sceneOnce", inPlace := ["internal/reflectlite.ValueOf", "(internal/reflectlite.Value).Type", "(internal/reflectlite.Value).IsNil", "internal/reflectlite.TypeOf", "(internal/reflectlite.Value).Elem", "(internal/reflectlite.Value).Set"], unfollowed := true, recurses := true, named := ["errors.errorType"], apart := false, laid := [("errors.errorType", laid_errors_errorType)] }
def SceneOnceSaid : Prop := sceneOnceRow.holds Tryd.pinned (OpenSpec.ofChange sceneOnceSpec)

/-- ITS FALSE NEIGHBOUR: 'it returns false'. Refute it at one input. -/
def sceneOnceWrong : ChangeSpec := { name := "sceneOnce", fn := fun _ => fun
  | [d1, d2, d3] => { results := [.lit (.bool false)], args := [d1, d2, d3] }
  | _ => none }
def SceneOnceWrongFalsely : Prop := sceneOnceRow.holds Tryd.pinned (OpenSpec.ofChange sceneOnceWrong)

/-- 'kinlaw16.SceneTurned': WHATEVER THE INPUT: true; the input reads as it did. -/
def sceneTurnedSpec : ChangeSpec := { name := "sceneTurned", fn := fun _ => fun
  | [d1, d2] => { results := [.lit (.bool true)], args := [d1, d2] }
  | _ => none }
def sceneTurnedRow : OpenClaim := { program := "ytbhlbiandelimaadoor", sum := "5610b6c03d7aa5e041e75e6af85ceb25fc54ca9bbdb0ed79b2755c95b7db3601", func := "kinescope/kinlaw16.SceneTurned", spec := "sceneTurned", inPlace := ["internal/reflectlite.ValueOf", "(internal/reflectlite.Value).Type", "(internal/reflectlite.Value).IsNil", "internal/reflectlite.TypeOf", "(internal/reflectlite.Value).Elem", "(internal/reflectlite.Value).Set"], unfollowed := true, recurses := true, named := ["errors.errorType"], apart := false, laid := [("errors.errorType", laid_errors_errorType)] }
def SceneTurnedSaid : Prop := sceneTurnedRow.holds Tryd.pinned (OpenSpec.ofChange sceneTurnedSpec)

/-- ITS FALSE NEIGHBOUR: 'it returns false'. Refute it at one input. -/
def sceneTurnedWrong : ChangeSpec := { name := "sceneTurned", fn := fun _ => fun
  | [d1, d2] => { results := [.lit (.bool false)], args := [d1, d2] }
  | _ => none }
def SceneTurnedWrongFalsely : Prop := sceneTurnedRow.holds Tryd.pinned (OpenSpec.ofChange sceneTurnedWrong)

/-- 'kinlaw16.SceneCuts': WHATEVER THE INPUT: true; the input reads as it did. -/
def sceneCutsSpec : ChangeSpec := { name := "sceneCuts", fn := fun _ => fun
  | [d1, d2, d3] => { results := [.lit (.bool true)], args := [d1, d2, d3] }
  | _ => none }
def sceneCutsRow : OpenClaim := { program := "ytbhlbiandelimaadoor", sum := "5610b6c03d7aa5e041e75e6af85ceb25fc54ca9bbdb0ed79b2755c95b7db3601", func := "kinescope/kinlaw16.SceneCuts", spec := "sceneCuts", inPlace := ["internal/reflectlite.ValueOf", "(internal/reflectlite.Value).Type", "(internal/reflectlite.Value).IsNil", "internal/reflectlite.TypeOf", "(internal/reflectlite.Value).Elem", "(internal/reflectlite.Value).Set"], unfollowed := true, recurses := true, named := ["errors.errorType"], apart := false, laid := [("errors.errorType", laid_errors_errorType)] }
def SceneCutsSaid : Prop := sceneCutsRow.holds Tryd.pinned (OpenSpec.ofChange sceneCutsSpec)

/-- ITS FALSE NEIGHBOUR: 'it returns false'. Refute it at one input. -/
def sceneCutsWrong : ChangeSpec := { name := "sceneCuts", fn := fun _ => fun
  | [d1, d2, d3] => { results := [.lit (.bool false)], args := [d1, d2, d3] }
  | _ => none }
def SceneCutsWrongFalsely : Prop := sceneCutsRow.holds Tryd.pinned (OpenSpec.ofChange sceneCutsWrong)

/- THE SECOND FORM. 'bulk': how many values and letters a reading holds, each counted each time it is reached (what is shared counts as often as it is met; a slice's spare places count too). A statement '..UptoSaid' is the law's where the arguments, and the package variables that the reading takes, are together of bulk at most 1048576: NARROWER than '..Said'. Prove '..Said' where nothing that the law and all that it calls make is longer than what came in: it says more and counts as full. Else prove '..UptoSaid'. A law counts once. -/
mutual
def uptoBulk {H : Type} : DataW H → Nat
  | .lit (.string bytes) => bytes.length + 1
  | .lit _ => 1
  | .nil => 1
  | .ptr d => uptoBulk d + 1
  | .slice elems spare => uptoBulkAll elems + uptoBulkAll spare + 1
  | .agg parts => uptoBulkAll parts + 1
  | .iface _ d => uptoBulk d + 1
  | .map entries => uptoBulkEntries entries + 1
  | .held _ => 1
def uptoBulkAll {H : Type} : List (DataW H) → Nat
  | [] => 0
  | d :: r => uptoBulk d + uptoBulkAll r
def uptoBulkEntries {H : Type} : List (Lit × DataW H) → Nat
  | [] => 0
  | x :: r => uptoBulkEntry x + uptoBulkEntries r
def uptoBulkEntry {H : Type} : Lit × DataW H → Nat
  | (.string bytes, d) => bytes.length + uptoBulk d + 1
  | (_, d) => uptoBulk d + 1
 end
def uptoSmall : (H : Type) → List (DataW H) → Bool := fun _ ds => decide (uptoBulkAll ds ≤ 1048576)
def OpenSpec.upto (s : _root_.Go.ChangeSpec) : _root_.Go.OpenSpec := { _root_.Go.OpenSpec.ofChange s with cond := some uptoSmall }

/-- 'kinlaw10.IntraEdges', WHERE WHAT IT READS IS OF BULK AT MOST 1048576: true; the input reads as it did. -/
def intraEdgesUptoRow : OpenClaim := { program := "ytbhlbiandelimaadoor", sum := "5610b6c03d7aa5e041e75e6af85ceb25fc54ca9bbdb0ed79b2755c95b7db3601", func := "kinescope/kinlaw10.IntraEdges", spec := "intraEdges", inPlace := ["internal/reflectlite.ValueOf", "(internal/reflectlite.Value).Type", "(internal/reflectlite.Value).IsNil", "internal/reflectlite.TypeOf", "(internal/reflectlite.Value).Elem", "(internal/reflectlite.Value).Set"], unfollowed := true, recurses := true, named := ["errors.errorType"], apart := false, laid := [("errors.errorType", laid_errors_errorType)], narrowed := true }
def IntraEdgesUptoSaid : Prop := intraEdgesUptoRow.holds Tryd.pinned (OpenSpec.upto intraEdgesSpec)

/-- 'kinlaw10.IntraPredicts', WHERE WHAT IT READS IS OF BULK AT MOST 1048576: true; the input reads as it did. -/
def intraPredictsUptoRow : OpenClaim := { program := "ytbhlbiandelimaadoor", sum := "5610b6c03d7aa5e041e75e6af85ceb25fc54ca9bbdb0ed79b2755c95b7db3601", func := "kinescope/kinlaw10.IntraPredicts", spec := "intraPredicts", inPlace := ["internal/reflectlite.ValueOf", "(internal/reflectlite.Value).Type", "(internal/reflectlite.Value).IsNil", "internal/reflectlite.TypeOf", "(internal/reflectlite.Value).Elem", "(internal/reflectlite.Value).Set"], unfollowed := true, recurses := true, named := ["errors.errorType"], apart := false, laid := [("errors.errorType", laid_errors_errorType)], narrowed := true }
def IntraPredictsUptoSaid : Prop := intraPredictsUptoRow.holds Tryd.pinned (OpenSpec.upto intraPredictsSpec)

/-- 'kinlaw10.IntraChooses', WHERE WHAT IT READS IS OF BULK AT MOST 1048576: true; the input reads as it did. -/
def intraChoosesUptoRow : OpenClaim := { program := "ytbhlbiandelimaadoor", sum := "5610b6c03d7aa5e041e75e6af85ceb25fc54ca9bbdb0ed79b2755c95b7db3601", func := "kinescope/kinlaw10.IntraChooses", spec := "intraChooses", inPlace := ["internal/reflectlite.ValueOf", "(internal/reflectlite.Value).Type", "(internal/reflectlite.Value).IsNil", "internal/reflectlite.TypeOf", "(internal/reflectlite.Value).Elem", "(internal/reflectlite.Value).Set"], unfollowed := true, recurses := true, named := ["errors.errorType"], apart := false, laid := [("errors.errorType", laid_errors_errorType)], narrowed := true }
def IntraChoosesUptoSaid : Prop := intraChoosesUptoRow.holds Tryd.pinned (OpenSpec.upto intraChoosesSpec)

/-- 'kinlaw10.IntraSamples', WHERE WHAT IT READS IS OF BULK AT MOST 1048576: true; the input reads as it did. -/
def intraSamplesUptoRow : OpenClaim := { program := "ytbhlbiandelimaadoor", sum := "5610b6c03d7aa5e041e75e6af85ceb25fc54ca9bbdb0ed79b2755c95b7db3601", func := "kinescope/kinlaw10.IntraSamples", spec := "intraSamples", inPlace := ["internal/reflectlite.ValueOf", "(internal/reflectlite.Value).Type", "(internal/reflectlite.Value).IsNil", "internal/reflectlite.TypeOf", "(internal/reflectlite.Value).Elem", "(internal/reflectlite.Value).Set"], unfollowed := true, recurses := true, named := ["errors.errorType"], apart := false, laid := [("errors.errorType", laid_errors_errorType)], narrowed := true }
def IntraSamplesUptoSaid : Prop := intraSamplesUptoRow.holds Tryd.pinned (OpenSpec.upto intraSamplesSpec)

/-- 'kinlaw10.IntraLeast', WHERE WHAT IT READS IS OF BULK AT MOST 1048576: true; the input reads as it did. -/
def intraLeastUptoRow : OpenClaim := { program := "ytbhlbiandelimaadoor", sum := "5610b6c03d7aa5e041e75e6af85ceb25fc54ca9bbdb0ed79b2755c95b7db3601", func := "kinescope/kinlaw10.IntraLeast", spec := "intraLeast", inPlace := ["internal/reflectlite.ValueOf", "(internal/reflectlite.Value).Type", "(internal/reflectlite.Value).IsNil", "internal/reflectlite.TypeOf", "(internal/reflectlite.Value).Elem", "(internal/reflectlite.Value).Set"], unfollowed := true, recurses := true, named := ["errors.errorType"], apart := false, laid := [("errors.errorType", laid_errors_errorType)], narrowed := true }
def IntraLeastUptoSaid : Prop := intraLeastUptoRow.holds Tryd.pinned (OpenSpec.upto intraLeastSpec)

/-- 'kinlaw10.IntraGrey', WHERE WHAT IT READS IS OF BULK AT MOST 1048576: true; the input reads as it did. -/
def intraGreyUptoRow : OpenClaim := { program := "ytbhlbiandelimaadoor", sum := "5610b6c03d7aa5e041e75e6af85ceb25fc54ca9bbdb0ed79b2755c95b7db3601", func := "kinescope/kinlaw10.IntraGrey", spec := "intraGrey", inPlace := ["internal/reflectlite.ValueOf", "(internal/reflectlite.Value).Type", "(internal/reflectlite.Value).IsNil", "internal/reflectlite.TypeOf", "(internal/reflectlite.Value).Elem", "(internal/reflectlite.Value).Set"], unfollowed := true, recurses := true, named := ["errors.errorType"], apart := false, laid := [("errors.errorType", laid_errors_errorType)], narrowed := true }
def IntraGreyUptoSaid : Prop := intraGreyUptoRow.holds Tryd.pinned (OpenSpec.upto intraGreySpec)

/-- 'kinlaw10.IntraTurned', WHERE WHAT IT READS IS OF BULK AT MOST 1048576: true; the input reads as it did. -/
def intraTurnedUptoRow : OpenClaim := { program := "ytbhlbiandelimaadoor", sum := "5610b6c03d7aa5e041e75e6af85ceb25fc54ca9bbdb0ed79b2755c95b7db3601", func := "kinescope/kinlaw10.IntraTurned", spec := "intraTurned", inPlace := ["internal/reflectlite.ValueOf", "(internal/reflectlite.Value).Type", "(internal/reflectlite.Value).IsNil", "internal/reflectlite.TypeOf", "(internal/reflectlite.Value).Elem", "(internal/reflectlite.Value).Set"], unfollowed := true, recurses := true, named := ["errors.errorType"], apart := false, laid := [("errors.errorType", laid_errors_errorType)], narrowed := true }
def IntraTurnedUptoSaid : Prop := intraTurnedUptoRow.holds Tryd.pinned (OpenSpec.upto intraTurnedSpec)

/-- 'kinlaw16.SceneUnlikes', WHERE WHAT IT READS IS OF BULK AT MOST 1048576: true; the input reads as it did. -/
def sceneUnlikesUptoRow : OpenClaim := { program := "ytbhlbiandelimaadoor", sum := "5610b6c03d7aa5e041e75e6af85ceb25fc54ca9bbdb0ed79b2755c95b7db3601", func := "kinescope/kinlaw16.SceneUnlikes", spec := "sceneUnlikes", inPlace := ["internal/reflectlite.ValueOf", "(internal/reflectlite.Value).Type", "(internal/reflectlite.Value).IsNil", "internal/reflectlite.TypeOf", "(internal/reflectlite.Value).Elem", "(internal/reflectlite.Value).Set"], unfollowed := true, recurses := true, named := ["errors.errorType"], apart := false, laid := [("errors.errorType", laid_errors_errorType)], narrowed := true }
def SceneUnlikesUptoSaid : Prop := sceneUnlikesUptoRow.holds Tryd.pinned (OpenSpec.upto sceneUnlikesSpec)

/-- 'kinlaw16.SceneGroups', WHERE WHAT IT READS IS OF BULK AT MOST 1048576: true; the input reads as it did. -/
def sceneGroupsUptoRow : OpenClaim := { program := "ytbhlbiandelimaadoor", sum := "5610b6c03d7aa5e041e75e6af85ceb25fc54ca9bbdb0ed79b2755c95b7db3601", func := "kinescope/kinlaw16.SceneGroups", spec := "sceneGroups", inPlace := ["internal/reflectlite.ValueOf", "(internal/reflectlite.Value).Type", "(internal/reflectlite.Value).IsNil", "internal/reflectlite.TypeOf", "(internal/reflectlite.Value).Elem", "(internal/reflectlite.Value).Set"], unfollowed := true, recurses := true, named := ["errors.errorType"], apart := false, laid := [("errors.errorType", laid_errors_errorType)], narrowed := true }
def SceneGroupsUptoSaid : Prop := sceneGroupsUptoRow.holds Tryd.pinned (OpenSpec.upto sceneGroupsSpec)

/-- 'kinlaw16.SceneOnce', WHERE WHAT IT READS IS OF BULK AT MOST 1048576: true; the input reads as it did. -/
def sceneOnceUptoRow : OpenClaim := { program := "ytbhlbiandelimaadoor", sum := "5610b6c03d7aa5e041e75e6af85ceb25fc54ca9bbdb0ed79b2755c95b7db3601", func := "kinescope/kinlaw16.SceneOnce", spec := "sceneOnce", inPlace := ["internal/reflectlite.ValueOf", "(internal/reflectlite.Value).Type", "(internal/reflectlite.Value).IsNil", "internal/reflectlite.TypeOf", "(internal/reflectlite.Value).Elem", "(internal/reflectlite.Value).Set"], unfollowed := true, recurses := true, named := ["errors.errorType"], apart := false, laid := [("errors.errorType", laid_errors_errorType)], narrowed := true }
def SceneOnceUptoSaid : Prop := sceneOnceUptoRow.holds Tryd.pinned (OpenSpec.upto sceneOnceSpec)

/-- 'kinlaw16.SceneTurned', WHERE WHAT IT READS IS OF BULK AT MOST 1048576: true; the input reads as it did. -/
def sceneTurnedUptoRow : OpenClaim := { program := "ytbhlbiandelimaadoor", sum := "5610b6c03d7aa5e041e75e6af85ceb25fc54ca9bbdb0ed79b2755c95b7db3601", func := "kinescope/kinlaw16.SceneTurned", spec := "sceneTurned", inPlace := ["internal/reflectlite.ValueOf", "(internal/reflectlite.Value).Type", "(internal/reflectlite.Value).IsNil", "internal/reflectlite.TypeOf", "(internal/reflectlite.Value).Elem", "(internal/reflectlite.Value).Set"], unfollowed := true, recurses := true, named := ["errors.errorType"], apart := false, laid := [("errors.errorType", laid_errors_errorType)], narrowed := true }
def SceneTurnedUptoSaid : Prop := sceneTurnedUptoRow.holds Tryd.pinned (OpenSpec.upto sceneTurnedSpec)

/-- 'kinlaw16.SceneCuts', WHERE WHAT IT READS IS OF BULK AT MOST 1048576: true; the input reads as it did. -/
def sceneCutsUptoRow : OpenClaim := { program := "ytbhlbiandelimaadoor", sum := "5610b6c03d7aa5e041e75e6af85ceb25fc54ca9bbdb0ed79b2755c95b7db3601", func := "kinescope/kinlaw16.SceneCuts", spec := "sceneCuts", inPlace := ["internal/reflectlite.ValueOf", "(internal/reflectlite.Value).Type", "(internal/reflectlite.Value).IsNil", "internal/reflectlite.TypeOf", "(internal/reflectlite.Value).Elem", "(internal/reflectlite.Value).Set"], unfollowed := true, recurses := true, named := ["errors.errorType"], apart := false, laid := [("errors.errorType", laid_errors_errorType)], narrowed := true }
def SceneCutsUptoSaid : Prop := sceneCutsUptoRow.holds Tryd.pinned (OpenSpec.upto sceneCutsSpec)

end Rows
end Go.Proofs.YtbhlbiandelimaaDoor
