/-
  NARROWER THAN 'FOR EVERY INPUT', by the rows' own cells (each row's printed sentence says how): PlaneMakes: laid · PlaneAsks: laid · PlanePuts: laid · PlaneBack: laid · PlanePeaks: laid · PlaneTwo: laid · IntraEdges: laid · SceneUnlikes: laid · SceneGroups: laid · SceneOnce: laid · SceneTurned: laid · SceneCuts: laid.
  DERIVED. THE GIVEN ROWS OF THIS SEAT. 12 by the template 'for every input the law returns true; each argument reads behind the call as it read before'; 0 by the template 'total and deterministic' (their statements: YtkighedghgcdjaaDoorTotals.lean).
  GIVEN WITH THE SEED: the statements are not yours to turn. If you find one false, say at which input.
  Laid BY PROGRAM, IN A SANDBOX (cutbox-rows.mjs): the forced cells as the released guide's own fill.sh prints them over the translation ee00fa7304a1592e… (all of the seat's roots in one cut). By AI agents, Wed Nov 11 2026. No macro, syntax, notation, axiom, sorry.
-/
import Derived.Test.YtkighedghgcdjaaDoorChecked
import GoSem.Claim
import GoSem.ClaimJoined
import GoSem.ClaimMapViews
import Derived.JoinedTies
import Derived.KernelRfl
namespace Go.Proofs.YtkighedghgcdjaaDoor
/- THE CELL 'sum', in the pinned program and in every row, IS THE sha256 OF THE DUMP (.gsa) THAT YtkighedghgcdjaaDoorProg.lean LOADS. Nothing in Lean hashes anything: it is a label: what it is worth is what the hold of that sum in a sandbox is worth. -/
noncomputable def Tryd.pinned : Pinned := { name := "ytkighedghgcdjaadoor", sum := "ee00fa7304a1592e9d45a6f2d457b7a4d418a9e2c092431c83106f8b79a1e96b", checked := Tryd.checked }
namespace Rows
def none {H : Type} : Left H := { results := [], args := [] }

/- WHAT THE LISTED PACKAGE-LEVEL VARIABLES READ AS WHEN THE CALL BEGINS. Each datum BY PROGRAM (the guide's laid-datum.mjs) off the statement by which the dump's own 'gosem.cut.vars' lays the variable. In a bare row this is a premise. The card (YtkighedghgcdjaaDoorCards.lean) ties it to the program's text. -/
def laid_errors_errorType {H : Type} : DataW H := .iface "internal/reflectlite.rtype" (.agg [.ptr (.lit (.string [101, 114, 114, 111, 114]))])

/-- 'kinlaw6.PlaneMakes': WHATEVER THE INPUT: true; the input reads as it did. -/
def planeMakesSpec : ChangeSpec := { name := "planeMakes", fn := fun _ => fun
  | [d1, d2, d3, d4] => { results := [.lit (.bool true)], args := [d1, d2, d3, d4] }
  | _ => none }
def planeMakesRow : OpenClaim := { program := "ytkighedghgcdjaadoor", sum := "ee00fa7304a1592e9d45a6f2d457b7a4d418a9e2c092431c83106f8b79a1e96b", func := "kinescope/kinlaw6.PlaneMakes", spec := "planeMakes", inPlace := ["internal/reflectlite.ValueOf", "(internal/reflectlite.Value).Type", "(internal/reflectlite.Value).IsNil", "internal/reflectlite.TypeOf", "(internal/reflectlite.Value).Elem", "(internal/reflectlite.Value).Set"], unfollowed := true, recurses := true, named := ["errors.errorType"], apart := false, laid := [("errors.errorType", laid_errors_errorType)] }
def PlaneMakesSaid : Prop := planeMakesRow.holds Tryd.pinned (OpenSpec.ofChange planeMakesSpec)

/-- ITS FALSE NEIGHBOUR: 'it returns false'. Refute it at one input. -/
def planeMakesWrong : ChangeSpec := { name := "planeMakes", fn := fun _ => fun
  | [d1, d2, d3, d4] => { results := [.lit (.bool false)], args := [d1, d2, d3, d4] }
  | _ => none }
def PlaneMakesWrongFalsely : Prop := planeMakesRow.holds Tryd.pinned (OpenSpec.ofChange planeMakesWrong)

/-- 'kinlaw6.PlaneAsks': WHATEVER THE INPUT: true; the input reads as it did. -/
def planeAsksSpec : ChangeSpec := { name := "planeAsks", fn := fun _ => fun
  | [d1, d2, d3, d4] => { results := [.lit (.bool true)], args := [d1, d2, d3, d4] }
  | _ => none }
def planeAsksRow : OpenClaim := { program := "ytkighedghgcdjaadoor", sum := "ee00fa7304a1592e9d45a6f2d457b7a4d418a9e2c092431c83106f8b79a1e96b", func := "kinescope/kinlaw6.PlaneAsks", spec := "planeAsks", inPlace := ["internal/reflectlite.ValueOf", "(internal/reflectlite.Value).Type", "(internal/reflectlite.Value).IsNil", "internal/reflectlite.TypeOf", "(internal/reflectlite.Value).Elem", "(internal/reflectlite.Value).Set"], unfollowed := true, recurses := true, named := ["errors.errorType"], apart := false, laid := [("errors.errorType", laid_errors_errorType)] }
def PlaneAsksSaid : Prop := planeAsksRow.holds Tryd.pinned (OpenSpec.ofChange planeAsksSpec)

/-- ITS FALSE NEIGHBOUR: 'it returns false'. Refute it at one input. -/
def planeAsksWrong : ChangeSpec := { name := "planeAsks", fn := fun _ => fun
  | [d1, d2, d3, d4] => { results := [.lit (.bool false)], args := [d1, d2, d3, d4] }
  | _ => none }
def PlaneAsksWrongFalsely : Prop := planeAsksRow.holds Tryd.pinned (OpenSpec.ofChange planeAsksWrong)

/-- 'kinlaw6.PlanePuts': WHATEVER THE INPUT: true; the input reads as it did. -/
def planePutsSpec : ChangeSpec := { name := "planePuts", fn := fun _ => fun
  | [d1, d2, d3, d4, d5] => { results := [.lit (.bool true)], args := [d1, d2, d3, d4, d5] }
  | _ => none }
def planePutsRow : OpenClaim := { program := "ytkighedghgcdjaadoor", sum := "ee00fa7304a1592e9d45a6f2d457b7a4d418a9e2c092431c83106f8b79a1e96b", func := "kinescope/kinlaw6.PlanePuts", spec := "planePuts", inPlace := ["internal/reflectlite.ValueOf", "(internal/reflectlite.Value).Type", "(internal/reflectlite.Value).IsNil", "internal/reflectlite.TypeOf", "(internal/reflectlite.Value).Elem", "(internal/reflectlite.Value).Set"], unfollowed := true, recurses := true, named := ["errors.errorType"], apart := false, laid := [("errors.errorType", laid_errors_errorType)] }
def PlanePutsSaid : Prop := planePutsRow.holds Tryd.pinned (OpenSpec.ofChange planePutsSpec)

/-- ITS FALSE NEIGHBOUR: 'it returns false'. Refute it at one input. -/
def planePutsWrong : ChangeSpec := { name := "planePuts", fn := fun _ => fun
  | [d1, d2, d3, d4, d5] => { results := [.lit (.bool false)], args := [d1, d2, d3, d4, d5] }
  | _ => none }
def PlanePutsWrongFalsely : Prop := planePutsRow.holds Tryd.pinned (OpenSpec.ofChange planePutsWrong)

/-- 'kinlaw6.PlaneBack': WHATEVER THE INPUT: true; the input reads as it did. -/
def planeBackSpec : ChangeSpec := { name := "planeBack", fn := fun _ => fun
  | [d1, d2, d3, d4, d5] => { results := [.lit (.bool true)], args := [d1, d2, d3, d4, d5] }
  | _ => none }
def planeBackRow : OpenClaim := { program := "ytkighedghgcdjaadoor", sum := "ee00fa7304a1592e9d45a6f2d457b7a4d418a9e2c092431c83106f8b79a1e96b", func := "kinescope/kinlaw6.PlaneBack", spec := "planeBack", inPlace := ["internal/reflectlite.ValueOf", "(internal/reflectlite.Value).Type", "(internal/reflectlite.Value).IsNil", "internal/reflectlite.TypeOf", "(internal/reflectlite.Value).Elem", "(internal/reflectlite.Value).Set"], unfollowed := true, recurses := true, named := ["errors.errorType"], apart := false, laid := [("errors.errorType", laid_errors_errorType)] }
def PlaneBackSaid : Prop := planeBackRow.holds Tryd.pinned (OpenSpec.ofChange planeBackSpec)

/-- ITS FALSE NEIGHBOUR: 'it returns false'. Refute it at one input. -/
def planeBackWrong : ChangeSpec := { name := "planeBack", fn := fun _ => fun
  | [d1, d2, d3, d4, d5] => { results := [.lit (.bool false)], args := [d1, d2, d3, d4, d5] }
  | _ => none }
def PlaneBackWrongFalsely : Prop := planeBackRow.holds Tryd.pinned (OpenSpec.ofChange planeBackWrong)

/-- 'kinlaw6.PlanePeaks': WHATEVER THE INPUT: true; the input reads as it did. -/
def planePeaksSpec : ChangeSpec := { name := "planePeaks", fn := fun _ => fun
  | [d1, d2] => { results := [.lit (.bool true)], args := [d1, d2] }
  | _ => none }
def planePeaksRow : OpenClaim := { program := "ytkighedghgcdjaadoor", sum := "ee00fa7304a1592e9d45a6f2d457b7a4d418a9e2c092431c83106f8b79a1e96b", func := "kinescope/kinlaw6.PlanePeaks", spec := "planePeaks", inPlace := ["internal/reflectlite.ValueOf", "(internal/reflectlite.Value).Type", "(internal/reflectlite.Value).IsNil", "internal/reflectlite.TypeOf", "(internal/reflectlite.Value).Elem", "(internal/reflectlite.Value).Set"], unfollowed := true, recurses := true, named := ["errors.errorType"], apart := false, laid := [("errors.errorType", laid_errors_errorType)] }
def PlanePeaksSaid : Prop := planePeaksRow.holds Tryd.pinned (OpenSpec.ofChange planePeaksSpec)

/-- ITS FALSE NEIGHBOUR: 'it returns false'. Refute it at one input. -/
def planePeaksWrong : ChangeSpec := { name := "planePeaks", fn := fun _ => fun
  | [d1, d2] => { results := [.lit (.bool false)], args := [d1, d2] }
  | _ => none }
def PlanePeaksWrongFalsely : Prop := planePeaksRow.holds Tryd.pinned (OpenSpec.ofChange planePeaksWrong)

/-- 'kinlaw6.PlaneTwo': WHATEVER THE INPUT: true; the input reads as it did. -/
def planeTwoSpec : ChangeSpec := { name := "planeTwo", fn := fun _ => fun
  | [d1, d2, d3, d4, d5, d6, d7, d8] => { results := [.lit (.bool true)], args := [d1, d2, d3, d4, d5, d6, d7, d8] }
  | _ => none }
def planeTwoRow : OpenClaim := { program := "ytkighedghgcdjaadoor", sum := "ee00fa7304a1592e9d45a6f2d457b7a4d418a9e2c092431c83106f8b79a1e96b", func := "kinescope/kinlaw6.PlaneTwo", spec := "planeTwo", inPlace := ["internal/reflectlite.ValueOf", "(internal/reflectlite.Value).Type", "(internal/reflectlite.Value).IsNil", "internal/reflectlite.TypeOf", "(internal/reflectlite.Value).Elem", "(internal/reflectlite.Value).Set"], unfollowed := true, recurses := true, named := ["errors.errorType"], apart := false, laid := [("errors.errorType", laid_errors_errorType)] }
def PlaneTwoSaid : Prop := planeTwoRow.holds Tryd.pinned (OpenSpec.ofChange planeTwoSpec)

/-- ITS FALSE NEIGHBOUR: 'it returns false'. Refute it at one input. -/
def planeTwoWrong : ChangeSpec := { name := "planeTwo", fn := fun _ => fun
  | [d1, d2, d3, d4, d5, d6, d7, d8] => { results := [.lit (.bool false)], args := [d1, d2, d3, d4, d5, d6, d7, d8] }
  | _ => none }
def PlaneTwoWrongFalsely : Prop := planeTwoRow.holds Tryd.pinned (OpenSpec.ofChange planeTwoWrong)

/-- 'kinlaw10.IntraEdges': WHATEVER THE INPUT: true; the input reads as it did. -/
def intraEdgesSpec : ChangeSpec := { name := "intraEdges", fn := fun _ => fun
  | [d1, d2, d3, d4] => { results := [.lit (.bool true)], args := [d1, d2, d3, d4] }
  | _ => none }
def intraEdgesRow : OpenClaim := { program := "ytkighedghgcdjaadoor", sum := "ee00fa7304a1592e9d45a6f2d457b7a4d418a9e2c092431c83106f8b79a1e96b", func := "kinescope/kinlaw10.IntraEdges", spec := "intraEdges", inPlace := ["internal/reflectlite.ValueOf", "(internal/reflectlite.Value).Type", "(internal/reflectlite.Value).IsNil", "internal/reflectlite.TypeOf", "(internal/reflectlite.Value).Elem", "(internal/reflectlite.Value).Set"], unfollowed := true, recurses := true, named := ["errors.errorType"], apart := false, laid := [("errors.errorType", laid_errors_errorType)] }
def IntraEdgesSaid : Prop := intraEdgesRow.holds Tryd.pinned (OpenSpec.ofChange intraEdgesSpec)

/-- ITS FALSE NEIGHBOUR: 'it returns false'. Refute it at one input. -/
def intraEdgesWrong : ChangeSpec := { name := "intraEdges", fn := fun _ => fun
  | [d1, d2, d3, d4] => { results := [.lit (.bool false)], args := [d1, d2, d3, d4] }
  | _ => none }
def IntraEdgesWrongFalsely : Prop := intraEdgesRow.holds Tryd.pinned (OpenSpec.ofChange intraEdgesWrong)

/-- 'kinlaw16.SceneUnlikes': WHATEVER THE INPUT: true; the input reads as it did. -/
def sceneUnlikesSpec : ChangeSpec := { name := "sceneUnlikes", fn := fun _ => fun
  | [d1, d2] => { results := [.lit (.bool true)], args := [d1, d2] }
  | _ => none }
def sceneUnlikesRow : OpenClaim := { program := "ytkighedghgcdjaadoor", sum := "ee00fa7304a1592e9d45a6f2d457b7a4d418a9e2c092431c83106f8b79a1e96b", func := "kinescope/kinlaw16.SceneUnlikes", spec := "sceneUnlikes", inPlace := ["internal/reflectlite.ValueOf", "(internal/reflectlite.Value).Type", "(internal/reflectlite.Value).IsNil", "internal/reflectlite.TypeOf", "(internal/reflectlite.Value).Elem", "(internal/reflectlite.Value).Set"], unfollowed := true, recurses := true, named := ["errors.errorType"], apart := false, laid := [("errors.errorType", laid_errors_errorType)] }
def SceneUnlikesSaid : Prop := sceneUnlikesRow.holds Tryd.pinned (OpenSpec.ofChange sceneUnlikesSpec)

/-- ITS FALSE NEIGHBOUR: 'it returns false'. Refute it at one input. -/
def sceneUnlikesWrong : ChangeSpec := { name := "sceneUnlikes", fn := fun _ => fun
  | [d1, d2] => { results := [.lit (.bool false)], args := [d1, d2] }
  | _ => none }
def SceneUnlikesWrongFalsely : Prop := sceneUnlikesRow.holds Tryd.pinned (OpenSpec.ofChange sceneUnlikesWrong)

/-- 'kinlaw16.SceneGroups': WHATEVER THE INPUT: true; the input reads as it did. -/
def sceneGroupsSpec : ChangeSpec := { name := "sceneGroups", fn := fun _ => fun
  | [d1, d2, d3] => { results := [.lit (.bool true)], args := [d1, d2, d3] }
  | _ => none }
def sceneGroupsRow : OpenClaim := { program := "ytkighedghgcdjaadoor", sum := "ee00fa7304a1592e9d45a6f2d457b7a4d418a9e2c092431c83106f8b79a1e96b", func := "kinescope/kinlaw16.SceneGroups", spec := "sceneGroups", inPlace := ["internal/reflectlite.ValueOf", "(internal/reflectlite.Value).Type", "(internal/reflectlite.Value).IsNil", "internal/reflectlite.TypeOf", "(internal/reflectlite.Value).Elem", "(internal/reflectlite.Value).Set"], unfollowed := true, recurses := true, named := ["errors.errorType"], apart := false, laid := [("errors.errorType", laid_errors_errorType)] }
def SceneGroupsSaid : Prop := sceneGroupsRow.holds Tryd.pinned (OpenSpec.ofChange sceneGroupsSpec)

/-- ITS FALSE NEIGHBOUR: 'it returns false'. Refute it at one input. -/
def sceneGroupsWrong : ChangeSpec := { name := "sceneGroups", fn := fun _ => fun
  | [d1, d2, d3] => { results := [.lit (.bool false)], args := [d1, d2, d3] }
  | _ => none }
def SceneGroupsWrongFalsely : Prop := sceneGroupsRow.holds Tryd.pinned (OpenSpec.ofChange sceneGroupsWrong)

/-- 'kinlaw16.SceneOnce': WHATEVER THE INPUT: true; the input reads as it did. -/
def sceneOnceSpec : ChangeSpec := { name := "sceneOnce", fn := fun _ => fun
  | [d1, d2, d3] => { results := [.lit (.bool true)], args := [d1, d2, d3] }
  | _ => none }
def sceneOnceRow : OpenClaim := { program := "ytkighedghgcdjaadoor", sum := "ee00fa7304a1592e9d45a6f2d457b7a4d418a9e2c092431c83106f8b79a1e96b", func := "kinescope/kinlaw16.SceneOnce", spec := "sceneOnce", inPlace := ["internal/reflectlite.ValueOf", "(internal/reflectlite.Value).Type", "(internal/reflectlite.Value).IsNil", "internal/reflectlite.TypeOf", "(internal/reflectlite.Value).Elem", "(internal/reflectlite.Value).Set"], unfollowed := true, recurses := true, named := ["errors.errorType"], apart := false, laid := [("errors.errorType", laid_errors_errorType)] }
def SceneOnceSaid : Prop := sceneOnceRow.holds Tryd.pinned (OpenSpec.ofChange sceneOnceSpec)

/-- ITS FALSE NEIGHBOUR: 'it returns false'. Refute it at one input. -/
def sceneOnceWrong : ChangeSpec := { name := "sceneOnce", fn := fun _ => fun
  | [d1, d2, d3] => { results := [.lit (.bool false)], args := [d1, d2, d3] }
  | _ => none }
def SceneOnceWrongFalsely : Prop := sceneOnceRow.holds Tryd.pinned (OpenSpec.ofChange sceneOnceWrong)

/-- 'kinlaw16.SceneTurned': WHATEVER THE INPUT: true; the input reads as it did. -/
def sceneTurnedSpec : ChangeSpec := { name := "sceneTurned", fn := fun _ => fun
  | [d1, d2] => { results := [.lit (.bool true)], args := [d1, d2] }
  | _ => none }
def sceneTurnedRow : OpenClaim := { program := "ytkighedghgcdjaadoor", sum := "ee00fa7304a1592e9d45a6f2d457b7a4d418a9e2c092431c83106f8b79a1e96b", func := "kinescope/kinlaw16.SceneTurned", spec := "sceneTurned", inPlace := ["internal/reflectlite.ValueOf", "(internal/reflectlite.Value).Type", "(internal/reflectlite.Value).IsNil", "internal/reflectlite.TypeOf", "(internal/reflectlite.Value).Elem", "(internal/reflectlite.Value).Set"], unfollowed := true, recurses := true, named := ["errors.errorType"], apart := false, laid := [("errors.errorType", laid_errors_errorType)] }
def SceneTurnedSaid : Prop := sceneTurnedRow.holds Tryd.pinned (OpenSpec.ofChange sceneTurnedSpec)

/-- ITS FALSE NEIGHBOUR: 'it returns false'. Refute it at one input. -/
def sceneTurnedWrong : ChangeSpec := { name := "sceneTurned", fn := fun _ => fun
  | [d1, d2] => { results := [.lit (.bool false)], args := [d1, d2] }
  | _ => none }
def SceneTurnedWrongFalsely : Prop := sceneTurnedRow.holds Tryd.pinned (OpenSpec.ofChange sceneTurnedWrong)

/-- 'kinlaw16.SceneCuts': WHATEVER THE INPUT: true; the input reads as it did. -/
def sceneCutsSpec : ChangeSpec := { name := "sceneCuts", fn := fun _ => fun
  | [d1, d2, d3] => { results := [.lit (.bool true)], args := [d1, d2, d3] }
  | _ => none }
def sceneCutsRow : OpenClaim := { program := "ytkighedghgcdjaadoor", sum := "ee00fa7304a1592e9d45a6f2d457b7a4d418a9e2c092431c83106f8b79a1e96b", func := "kinescope/kinlaw16.SceneCuts", spec := "sceneCuts", inPlace := ["internal/reflectlite.ValueOf", "(internal/reflectlite.Value).Type", "(internal/reflectlite.Value).IsNil", "internal/reflectlite.TypeOf", "(internal/reflectlite.Value).Elem", "(internal/reflectlite.Value).Set"], unfollowed := true, recurses := true, named := ["errors.errorType"], apart := false, laid := [("errors.errorType", laid_errors_errorType)] }
def SceneCutsSaid : Prop := sceneCutsRow.holds Tryd.pinned (OpenSpec.ofChange sceneCutsSpec)

/-- ITS FALSE NEIGHBOUR: 'it returns false'. Refute it at one input. -/
def sceneCutsWrong : ChangeSpec := { name := "sceneCuts", fn := fun _ => fun
  | [d1, d2, d3] => { results := [.lit (.bool false)], args := [d1, d2, d3] }
  | _ => none }
def SceneCutsWrongFalsely : Prop := sceneCutsRow.holds Tryd.pinned (OpenSpec.ofChange sceneCutsWrong)

/- THE SECOND FORM. 'bulk': how many values and letters a reading holds, each counted each time it is reached (what is shared counts as often as it is met; a slice's spare places count too). A statement '..UptoSaid' is the law's where the arguments, and the package variables that the reading takes, are together of bulk at most 1048576: NARROWER than '..Said'. Prove '..Said' where nothing that the law and all that it calls make is longer than what came in: it says more and counts as full. Else prove '..UptoSaid'. A law counts once. -/
mutual
def uptoBulk {H : Type} : DataW H → Nat
  | .lit (.string bytes) => bytes.length + 1
  | .lit _ => 1
  | .nil => 1
  | .ptr d => uptoBulk d + 1
  | .slice elems spare => uptoBulkAll elems + uptoBulkAll spare + 1
  | .agg parts => uptoBulkAll parts + 1
  | .iface _ d => uptoBulk d + 1
  | .map entries => uptoBulkEntries entries + 1
  | .held _ => 1
def uptoBulkAll {H : Type} : List (DataW H) → Nat
  | [] => 0
  | d :: r => uptoBulk d + uptoBulkAll r
def uptoBulkEntries {H : Type} : List (Lit × DataW H) → Nat
  | [] => 0
  | x :: r => uptoBulkEntry x + uptoBulkEntries r
def uptoBulkEntry {H : Type} : Lit × DataW H → Nat
  | (.string bytes, d) => bytes.length + uptoBulk d + 1
  | (_, d) => uptoBulk d + 1
 end
def uptoSmall : (H : Type) → List (DataW H) → Bool := fun _ ds => decide (uptoBulkAll ds ≤ 1048576)
def OpenSpec.upto (s : _root_.Go.ChangeSpec) : _root_.Go.OpenSpec := { _root_.Go.OpenSpec.ofChange s with cond := some uptoSmall }

/-- 'kinlaw6.PlaneMakes', WHERE WHAT IT READS IS OF BULK AT MOST 1048576: true; the input reads as it did. -/
def planeMakesUptoRow : OpenClaim := { program := "ytkighedghgcdjaadoor", sum := "ee00fa7304a1592e9d45a6f2d457b7a4d418a9e2c092431c83106f8b79a1e96b", func := "kinescope/kinlaw6.PlaneMakes", spec := "planeMakes", inPlace := ["internal/reflectlite.ValueOf", "(internal/reflectlite.Value).Type", "(internal/reflectlite.Value).IsNil", "internal/reflectlite.TypeOf", "(internal/reflectlite.Value).Elem", "(internal/reflectlite.Value).Set"], unfollowed := true, recurses := true, named := ["errors.errorType"], apart := false, laid := [("errors.errorType", laid_errors_errorType)], narrowed := true }
def PlaneMakesUptoSaid : Prop := planeMakesUptoRow.holds Tryd.pinned (OpenSpec.upto planeMakesSpec)

/-- 'kinlaw6.PlaneAsks', WHERE WHAT IT READS IS OF BULK AT MOST 1048576: true; the input reads as it did. -/
def planeAsksUptoRow : OpenClaim := { program := "ytkighedghgcdjaadoor", sum := "ee00fa7304a1592e9d45a6f2d457b7a4d418a9e2c092431c83106f8b79a1e96b", func := "kinescope/kinlaw6.PlaneAsks", spec := "planeAsks", inPlace := ["internal/reflectlite.ValueOf", "(internal/reflectlite.Value).Type", "(internal/reflectlite.Value).IsNil", "internal/reflectlite.TypeOf", "(internal/reflectlite.Value).Elem", "(internal/reflectlite.Value).Set"], unfollowed := true, recurses := true, named := ["errors.errorType"], apart := false, laid := [("errors.errorType", laid_errors_errorType)], narrowed := true }
def PlaneAsksUptoSaid : Prop := planeAsksUptoRow.holds Tryd.pinned (OpenSpec.upto planeAsksSpec)

/-- 'kinlaw6.PlanePuts', WHERE WHAT IT READS IS OF BULK AT MOST 1048576: true; the input reads as it did. -/
def planePutsUptoRow : OpenClaim := { program := "ytkighedghgcdjaadoor", sum := "ee00fa7304a1592e9d45a6f2d457b7a4d418a9e2c092431c83106f8b79a1e96b", func := "kinescope/kinlaw6.PlanePuts", spec := "planePuts", inPlace := ["internal/reflectlite.ValueOf", "(internal/reflectlite.Value).Type", "(internal/reflectlite.Value).IsNil", "internal/reflectlite.TypeOf", "(internal/reflectlite.Value).Elem", "(internal/reflectlite.Value).Set"], unfollowed := true, recurses := true, named := ["errors.errorType"], apart := false, laid := [("errors.errorType", laid_errors_errorType)], narrowed := true }
def PlanePutsUptoSaid : Prop := planePutsUptoRow.holds Tryd.pinned (OpenSpec.upto planePutsSpec)

/-- 'kinlaw6.PlaneBack', WHERE WHAT IT READS IS OF BULK AT MOST 1048576: true; the input reads as it did. -/
def planeBackUptoRow : OpenClaim := { program := "ytkighedghgcdjaadoor", sum := "ee00fa7304a1592e9d45a6f2d457b7a4d418a9e2c092431c83106f8b79a1e96b", func := "kinescope/kinlaw6.PlaneBack", spec := "planeBack", inPlace := ["internal/reflectlite.ValueOf", "(internal/reflectlite.Value).Type", "(internal/reflectlite.Value).IsNil", "internal/reflectlite.TypeOf", "(internal/reflectlite.Value).Elem", "(internal/reflectlite.Value).Set"], unfollowed := true, recurses := true, named := ["errors.errorType"], apart := false, laid := [("errors.errorType", laid_errors_errorType)], narrowed := true }
def PlaneBackUptoSaid : Prop := planeBackUptoRow.holds Tryd.pinned (OpenSpec.upto planeBackSpec)

/-- 'kinlaw6.PlanePeaks', WHERE WHAT IT READS IS OF BULK AT MOST 1048576: true; the input reads as it did. -/
def planePeaksUptoRow : OpenClaim := { program := "ytkighedghgcdjaadoor", sum := "ee00fa7304a1592e9d45a6f2d457b7a4d418a9e2c092431c83106f8b79a1e96b", func := "kinescope/kinlaw6.PlanePeaks", spec := "planePeaks", inPlace := ["internal/reflectlite.ValueOf", "(internal/reflectlite.Value).Type", "(internal/reflectlite.Value).IsNil", "internal/reflectlite.TypeOf", "(internal/reflectlite.Value).Elem", "(internal/reflectlite.Value).Set"], unfollowed := true, recurses := true, named := ["errors.errorType"], apart := false, laid := [("errors.errorType", laid_errors_errorType)], narrowed := true }
def PlanePeaksUptoSaid : Prop := planePeaksUptoRow.holds Tryd.pinned (OpenSpec.upto planePeaksSpec)

/-- 'kinlaw6.PlaneTwo', WHERE WHAT IT READS IS OF BULK AT MOST 1048576: true; the input reads as it did. -/
def planeTwoUptoRow : OpenClaim := { program := "ytkighedghgcdjaadoor", sum := "ee00fa7304a1592e9d45a6f2d457b7a4d418a9e2c092431c83106f8b79a1e96b", func := "kinescope/kinlaw6.PlaneTwo", spec := "planeTwo", inPlace := ["internal/reflectlite.ValueOf", "(internal/reflectlite.Value).Type", "(internal/reflectlite.Value).IsNil", "internal/reflectlite.TypeOf", "(internal/reflectlite.Value).Elem", "(internal/reflectlite.Value).Set"], unfollowed := true, recurses := true, named := ["errors.errorType"], apart := false, laid := [("errors.errorType", laid_errors_errorType)], narrowed := true }
def PlaneTwoUptoSaid : Prop := planeTwoUptoRow.holds Tryd.pinned (OpenSpec.upto planeTwoSpec)

/-- 'kinlaw10.IntraEdges', WHERE WHAT IT READS IS OF BULK AT MOST 1048576: true; the input reads as it did. -/
def intraEdgesUptoRow : OpenClaim := { program := "ytkighedghgcdjaadoor", sum := "ee00fa7304a1592e9d45a6f2d457b7a4d418a9e2c092431c83106f8b79a1e96b", func := "kinescope/kinlaw10.IntraEdges", spec := "intraEdges", inPlace := ["internal/reflectlite.ValueOf", "(internal/reflectlite.Value).Type", "(internal/reflectlite.Value).IsNil", "internal/reflectlite.TypeOf", "(internal/reflectlite.Value).Elem", "(internal/reflectlite.Value).Set"], unfollowed := true, recurses := true, named := ["errors.errorType"], apart := false, laid := [("errors.errorType", laid_errors_errorType)], narrowed := true }
def IntraEdgesUptoSaid : Prop := intraEdgesUptoRow.holds Tryd.pinned (OpenSpec.upto intraEdgesSpec)

/-- 'kinlaw16.SceneUnlikes', WHERE WHAT IT READS IS OF BULK AT MOST 1048576: true; the input reads as it did. -/
def sceneUnlikesUptoRow : OpenClaim := { program := "ytkighedghgcdjaadoor", sum := "ee00fa7304a1592e9d45a6f2d457b7a4d418a9e2c092431c83106f8b79a1e96b", func := "kinescope/kinlaw16.SceneUnlikes", spec := "sceneUnlikes", inPlace := ["internal/reflectlite.ValueOf", "(internal/reflectlite.Value).Type", "(internal/reflectlite.Value).IsNil", "internal/reflectlite.TypeOf", "(internal/reflectlite.Value).Elem", "(internal/reflectlite.Value).Set"], unfollowed := true, recurses := true, named := ["errors.errorType"], apart := false, laid := [("errors.errorType", laid_errors_errorType)], narrowed := true }
def SceneUnlikesUptoSaid : Prop := sceneUnlikesUptoRow.holds Tryd.pinned (OpenSpec.upto sceneUnlikesSpec)

/-- 'kinlaw16.SceneGroups', WHERE WHAT IT READS IS OF BULK AT MOST 1048576: true; the input reads as it did. -/
def sceneGroupsUptoRow : OpenClaim := { program := "ytkighedghgcdjaadoor", sum := "ee00fa7304a1592e9d45a6f2d457b7a4d418a9e2c092431c83106f8b79a1e96b", func := "kinescope/kinlaw16.SceneGroups", spec := "sceneGroups", inPlace := ["internal/reflectlite.ValueOf", "(internal/reflectlite.Value).Type", "(internal/reflectlite.Value).IsNil", "internal/reflectlite.TypeOf", "(internal/reflectlite.Value).Elem", "(internal/reflectlite.Value).Set"], unfollowed := true, recurses := true, named := ["errors.errorType"], apart := false, laid := [("errors.errorType", laid_errors_errorType)], narrowed := true }
def SceneGroupsUptoSaid : Prop := sceneGroupsUptoRow.holds Tryd.pinned (OpenSpec.upto sceneGroupsSpec)

/-- 'kinlaw16.SceneOnce', WHERE WHAT IT READS IS OF BULK AT MOST 1048576: true; the input reads as it did. -/
def sceneOnceUptoRow : OpenClaim := { program := "ytkighedghgcdjaadoor", sum := "ee00fa7304a1592e9d45a6f2d457b7a4d418a9e2c092431c83106f8b79a1e96b", func := "kinescope/kinlaw16.SceneOnce", spec := "sceneOnce", inPlace := ["internal/reflectlite.ValueOf", "(internal/reflectlite.Value).Type", "(internal/reflectlite.Value).IsNil", "internal/reflectlite.TypeOf", "(internal/reflectlite.Value).Elem", "(internal/reflectlite.Value).Set"], unfollowed := true, recurses := true, named := ["errors.errorType"], apart := false, laid := [("errors.errorType", laid_errors_errorType)], narrowed := true }
def SceneOnceUptoSaid : Prop := sceneOnceUptoRow.holds Tryd.pinned (OpenSpec.upto sceneOnceSpec)

/-- 'kinlaw16.SceneTurned', WHERE WHAT IT READS IS OF BULK AT MOST 1048576: true; the input reads as it did. -/
def sceneTurnedUptoRow : OpenClaim := { program := "ytkighedghgcdjaadoor", sum := "ee00fa7304a1592e9d45a6f2d457b7a4d418a9e2c092431c83106f8b79a1e96b", func := "kinescope/kinlaw16.SceneTurned", spec := "sceneTurned", inPlace := ["internal/reflectlite.ValueOf", "(internal/reflectlite.Value).Type", "(internal/reflectlite.Value).IsNil", "internal/reflectlite.TypeOf", "(internal/reflectlite.Value).Elem", "(internal/reflectlite.Value).Set"], unfollowed := true, recurses := true, named := ["errors.errorType"], apart := false, laid := [("errors.errorType", laid_errors_errorType)], narrowed := true }
def SceneTurnedUptoSaid : Prop := sceneTurnedUptoRow.holds Tryd.pinned (OpenSpec.upto sceneTurnedSpec)

/-- 'kinlaw16.SceneCuts', WHERE WHAT IT READS IS OF BULK AT MOST 1048576: true; the input reads as it did. -/
def sceneCutsUptoRow : OpenClaim := { program := "ytkighedghgcdjaadoor", sum := "ee00fa7304a1592e9d45a6f2d457b7a4d418a9e2c092431c83106f8b79a1e96b", func := "kinescope/kinlaw16.SceneCuts", spec := "sceneCuts", inPlace := ["internal/reflectlite.ValueOf", "(internal/reflectlite.Value).Type", "(internal/reflectlite.Value).IsNil", "internal/reflectlite.TypeOf", "(internal/reflectlite.Value).Elem", "(internal/reflectlite.Value).Set"], unfollowed := true, recurses := true, named := ["errors.errorType"], apart := false, laid := [("errors.errorType", laid_errors_errorType)], narrowed := true }
def SceneCutsUptoSaid : Prop := sceneCutsUptoRow.holds Tryd.pinned (OpenSpec.upto sceneCutsSpec)

end Rows
end Go.Proofs.YtkighedghgcdjaaDoor
