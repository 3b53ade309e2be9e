/-
  NARROWER THAN 'FOR EVERY INPUT', by the rows' own cells (each row's printed sentence says how): MotionHalves: laid · MotionCosts: laid · MotionSearches: laid · MotionSamples: laid · MotionBest: laid · MotionWhole: laid · SceneGroups: laid · SceneOnce: laid · StatsTells: laid · StatsWeighs: laid · StatsLeast: laid · StatsApart: laid · StatsFlat: laid.
  DERIVED. THE GIVEN ROWS OF THIS SEAT. 13 by the template 'for every input the law returns true; each argument reads behind the call as it read before'; 0 by the template 'total and deterministic' (their statements: YtmhbmegmlpenkaaDoorTotals.lean).
  GIVEN WITH THE SEED: the statements are not yours to turn. If you find one false, say at which input.
  Laid BY PROGRAM, IN A SANDBOX (cutbox-rows.mjs): the forced cells as the released guide's own fill.sh prints them over the translation 7c1eb4d1c3794286… (all of the seat's roots in one cut). By AI agents, Wed Nov 11 2026. No macro, syntax, notation, axiom, sorry.
-/
import Derived.Test.YtmhbmegmlpenkaaDoorChecked
import GoSem.Claim
import GoSem.ClaimJoined
import GoSem.ClaimMapViews
import Derived.JoinedTies
import Derived.KernelRfl
namespace Go.Proofs.YtmhbmegmlpenkaaDoor
/- THE CELL 'sum', in the pinned program and in every row, IS THE sha256 OF THE DUMP (.gsa) THAT YtmhbmegmlpenkaaDoorProg.lean LOADS. Nothing in Lean hashes anything: it is a label: what it is worth is what the hold of that sum in a sandbox is worth. -/
noncomputable def Tryd.pinned : Pinned := { name := "ytmhbmegmlpenkaadoor", sum := "7c1eb4d1c3794286f96c6ea9bb3b7dc139aab7d575997dd6321a89a3cc31654e", checked := Tryd.checked }
namespace Rows
def none {H : Type} : Left H := { results := [], args := [] }

/- WHAT THE LISTED PACKAGE-LEVEL VARIABLES READ AS WHEN THE CALL BEGINS. Each datum BY PROGRAM (the guide's laid-datum.mjs) off the statement by which the dump's own 'gosem.cut.vars' lays the variable. In a bare row this is a premise. The card (YtmhbmegmlpenkaaDoorCards.lean) ties it to the program's text. -/
def laid_errors_errorType {H : Type} : DataW H := .iface "internal/reflectlite.rtype" (.agg [.ptr (.lit (.string [101, 114, 114, 111, 114]))])

/-- 'kinlaw11.MotionHalves': WHATEVER THE INPUT: true; the input reads as it did. -/
def motionHalvesSpec : ChangeSpec := { name := "motionHalves", fn := fun _ => fun
  | [d1, d2, d3, d4, d5, d6, d7] => { results := [.lit (.bool true)], args := [d1, d2, d3, d4, d5, d6, d7] }
  | _ => none }
def motionHalvesRow : OpenClaim := { program := "ytmhbmegmlpenkaadoor", sum := "7c1eb4d1c3794286f96c6ea9bb3b7dc139aab7d575997dd6321a89a3cc31654e", func := "kinescope/kinlaw11.MotionHalves", spec := "motionHalves", inPlace := ["internal/reflectlite.ValueOf", "(internal/reflectlite.Value).Type", "(internal/reflectlite.Value).IsNil", "internal/reflectlite.TypeOf", "(internal/reflectlite.Value).Elem", "(internal/reflectlite.Value).Set"], unfollowed := true, recurses := true, named := ["errors.errorType"], apart := false, laid := [("errors.errorType", laid_errors_errorType)] }
def MotionHalvesSaid : Prop := motionHalvesRow.holds Tryd.pinned (OpenSpec.ofChange motionHalvesSpec)

/-- ITS FALSE NEIGHBOUR: 'it returns false'. Refute it at one input. -/
def motionHalvesWrong : ChangeSpec := { name := "motionHalves", fn := fun _ => fun
  | [d1, d2, d3, d4, d5, d6, d7] => { results := [.lit (.bool false)], args := [d1, d2, d3, d4, d5, d6, d7] }
  | _ => none }
def MotionHalvesWrongFalsely : Prop := motionHalvesRow.holds Tryd.pinned (OpenSpec.ofChange motionHalvesWrong)

/-- 'kinlaw11.MotionCosts': WHATEVER THE INPUT: true; the input reads as it did. -/
def motionCostsSpec : ChangeSpec := { name := "motionCosts", fn := fun _ => fun
  | [d1, d2, d3] => { results := [.lit (.bool true)], args := [d1, d2, d3] }
  | _ => none }
def motionCostsRow : OpenClaim := { program := "ytmhbmegmlpenkaadoor", sum := "7c1eb4d1c3794286f96c6ea9bb3b7dc139aab7d575997dd6321a89a3cc31654e", func := "kinescope/kinlaw11.MotionCosts", spec := "motionCosts", inPlace := ["internal/reflectlite.ValueOf", "(internal/reflectlite.Value).Type", "(internal/reflectlite.Value).IsNil", "internal/reflectlite.TypeOf", "(internal/reflectlite.Value).Elem", "(internal/reflectlite.Value).Set"], unfollowed := true, recurses := true, named := ["errors.errorType"], apart := false, laid := [("errors.errorType", laid_errors_errorType)] }
def MotionCostsSaid : Prop := motionCostsRow.holds Tryd.pinned (OpenSpec.ofChange motionCostsSpec)

/-- ITS FALSE NEIGHBOUR: 'it returns false'. Refute it at one input. -/
def motionCostsWrong : ChangeSpec := { name := "motionCosts", fn := fun _ => fun
  | [d1, d2, d3] => { results := [.lit (.bool false)], args := [d1, d2, d3] }
  | _ => none }
def MotionCostsWrongFalsely : Prop := motionCostsRow.holds Tryd.pinned (OpenSpec.ofChange motionCostsWrong)

/-- 'kinlaw11.MotionSearches': WHATEVER THE INPUT: true; the input reads as it did. -/
def motionSearchesSpec : ChangeSpec := { name := "motionSearches", fn := fun _ => fun
  | [d1, d2, d3, d4, d5] => { results := [.lit (.bool true)], args := [d1, d2, d3, d4, d5] }
  | _ => none }
def motionSearchesRow : OpenClaim := { program := "ytmhbmegmlpenkaadoor", sum := "7c1eb4d1c3794286f96c6ea9bb3b7dc139aab7d575997dd6321a89a3cc31654e", func := "kinescope/kinlaw11.MotionSearches", spec := "motionSearches", inPlace := ["internal/reflectlite.ValueOf", "(internal/reflectlite.Value).Type", "(internal/reflectlite.Value).IsNil", "internal/reflectlite.TypeOf", "(internal/reflectlite.Value).Elem", "(internal/reflectlite.Value).Set"], unfollowed := true, recurses := true, named := ["errors.errorType"], apart := false, laid := [("errors.errorType", laid_errors_errorType)] }
def MotionSearchesSaid : Prop := motionSearchesRow.holds Tryd.pinned (OpenSpec.ofChange motionSearchesSpec)

/-- ITS FALSE NEIGHBOUR: 'it returns false'. Refute it at one input. -/
def motionSearchesWrong : ChangeSpec := { name := "motionSearches", fn := fun _ => fun
  | [d1, d2, d3, d4, d5] => { results := [.lit (.bool false)], args := [d1, d2, d3, d4, d5] }
  | _ => none }
def MotionSearchesWrongFalsely : Prop := motionSearchesRow.holds Tryd.pinned (OpenSpec.ofChange motionSearchesWrong)

/-- 'kinlaw11.MotionSamples': WHATEVER THE INPUT: true; the input reads as it did. -/
def motionSamplesSpec : ChangeSpec := { name := "motionSamples", fn := fun _ => fun
  | [d1, d2, d3, d4, d5] => { results := [.lit (.bool true)], args := [d1, d2, d3, d4, d5] }
  | _ => none }
def motionSamplesRow : OpenClaim := { program := "ytmhbmegmlpenkaadoor", sum := "7c1eb4d1c3794286f96c6ea9bb3b7dc139aab7d575997dd6321a89a3cc31654e", func := "kinescope/kinlaw11.MotionSamples", spec := "motionSamples", inPlace := ["internal/reflectlite.ValueOf", "(internal/reflectlite.Value).Type", "(internal/reflectlite.Value).IsNil", "internal/reflectlite.TypeOf", "(internal/reflectlite.Value).Elem", "(internal/reflectlite.Value).Set"], unfollowed := true, recurses := true, named := ["errors.errorType"], apart := false, laid := [("errors.errorType", laid_errors_errorType)] }
def MotionSamplesSaid : Prop := motionSamplesRow.holds Tryd.pinned (OpenSpec.ofChange motionSamplesSpec)

/-- ITS FALSE NEIGHBOUR: 'it returns false'. Refute it at one input. -/
def motionSamplesWrong : ChangeSpec := { name := "motionSamples", fn := fun _ => fun
  | [d1, d2, d3, d4, d5] => { results := [.lit (.bool false)], args := [d1, d2, d3, d4, d5] }
  | _ => none }
def MotionSamplesWrongFalsely : Prop := motionSamplesRow.holds Tryd.pinned (OpenSpec.ofChange motionSamplesWrong)

/-- 'kinlaw11.MotionBest': WHATEVER THE INPUT: true; the input reads as it did. -/
def motionBestSpec : ChangeSpec := { name := "motionBest", fn := fun _ => fun
  | [d1, d2, d3, d4, d5, d6] => { results := [.lit (.bool true)], args := [d1, d2, d3, d4, d5, d6] }
  | _ => none }
def motionBestRow : OpenClaim := { program := "ytmhbmegmlpenkaadoor", sum := "7c1eb4d1c3794286f96c6ea9bb3b7dc139aab7d575997dd6321a89a3cc31654e", func := "kinescope/kinlaw11.MotionBest", spec := "motionBest", inPlace := ["internal/reflectlite.ValueOf", "(internal/reflectlite.Value).Type", "(internal/reflectlite.Value).IsNil", "internal/reflectlite.TypeOf", "(internal/reflectlite.Value).Elem", "(internal/reflectlite.Value).Set"], unfollowed := true, recurses := true, named := ["errors.errorType"], apart := false, laid := [("errors.errorType", laid_errors_errorType)] }
def MotionBestSaid : Prop := motionBestRow.holds Tryd.pinned (OpenSpec.ofChange motionBestSpec)

/-- ITS FALSE NEIGHBOUR: 'it returns false'. Refute it at one input. -/
def motionBestWrong : ChangeSpec := { name := "motionBest", fn := fun _ => fun
  | [d1, d2, d3, d4, d5, d6] => { results := [.lit (.bool false)], args := [d1, d2, d3, d4, d5, d6] }
  | _ => none }
def MotionBestWrongFalsely : Prop := motionBestRow.holds Tryd.pinned (OpenSpec.ofChange motionBestWrong)

/-- 'kinlaw11.MotionWhole': WHATEVER THE INPUT: true; the input reads as it did. -/
def motionWholeSpec : ChangeSpec := { name := "motionWhole", fn := fun _ => fun
  | [d1, d2, d3, d4, d5] => { results := [.lit (.bool true)], args := [d1, d2, d3, d4, d5] }
  | _ => none }
def motionWholeRow : OpenClaim := { program := "ytmhbmegmlpenkaadoor", sum := "7c1eb4d1c3794286f96c6ea9bb3b7dc139aab7d575997dd6321a89a3cc31654e", func := "kinescope/kinlaw11.MotionWhole", spec := "motionWhole", inPlace := ["internal/reflectlite.ValueOf", "(internal/reflectlite.Value).Type", "(internal/reflectlite.Value).IsNil", "internal/reflectlite.TypeOf", "(internal/reflectlite.Value).Elem", "(internal/reflectlite.Value).Set"], unfollowed := true, recurses := true, named := ["errors.errorType"], apart := false, laid := [("errors.errorType", laid_errors_errorType)] }
def MotionWholeSaid : Prop := motionWholeRow.holds Tryd.pinned (OpenSpec.ofChange motionWholeSpec)

/-- ITS FALSE NEIGHBOUR: 'it returns false'. Refute it at one input. -/
def motionWholeWrong : ChangeSpec := { name := "motionWhole", fn := fun _ => fun
  | [d1, d2, d3, d4, d5] => { results := [.lit (.bool false)], args := [d1, d2, d3, d4, d5] }
  | _ => none }
def MotionWholeWrongFalsely : Prop := motionWholeRow.holds Tryd.pinned (OpenSpec.ofChange motionWholeWrong)

/-- 'kinlaw16.SceneGroups': WHATEVER THE INPUT: true; the input reads as it did. -/
def sceneGroupsSpec : ChangeSpec := { name := "sceneGroups", fn := fun _ => fun
  | [d1, d2, d3] => { results := [.lit (.bool true)], args := [d1, d2, d3] }
  | _ => none }
def sceneGroupsRow : OpenClaim := { program := "ytmhbmegmlpenkaadoor", sum := "7c1eb4d1c3794286f96c6ea9bb3b7dc139aab7d575997dd6321a89a3cc31654e", func := "kinescope/kinlaw16.SceneGroups", spec := "sceneGroups", inPlace := ["internal/reflectlite.ValueOf", "(internal/reflectlite.Value).Type", "(internal/reflectlite.Value).IsNil", "internal/reflectlite.TypeOf", "(internal/reflectlite.Value).Elem", "(internal/reflectlite.Value).Set"], unfollowed := true, recurses := true, named := ["errors.errorType"], apart := false, laid := [("errors.errorType", laid_errors_errorType)] }
def SceneGroupsSaid : Prop := sceneGroupsRow.holds Tryd.pinned (OpenSpec.ofChange sceneGroupsSpec)

/-- ITS FALSE NEIGHBOUR: 'it returns false'. Refute it at one input. -/
def sceneGroupsWrong : ChangeSpec := { name := "sceneGroups", fn := fun _ => fun
  | [d1, d2, d3] => { results := [.lit (.bool false)], args := [d1, d2, d3] }
  | _ => none }
def SceneGroupsWrongFalsely : Prop := sceneGroupsRow.holds Tryd.pinned (OpenSpec.ofChange sceneGroupsWrong)

/-- 'kinlaw16.SceneOnce': WHATEVER THE INPUT: true; the input reads as it did. -/
def sceneOnceSpec : ChangeSpec := { name := "sceneOnce", fn := fun _ => fun
  | [d1, d2, d3] => { results := [.lit (.bool true)], args := [d1, d2, d3] }
  | _ => none }
def sceneOnceRow : OpenClaim := { program := "ytmhbmegmlpenkaadoor", sum := "7c1eb4d1c3794286f96c6ea9bb3b7dc139aab7d575997dd6321a89a3cc31654e", func := "kinescope/kinlaw16.SceneOnce", spec := "sceneOnce", inPlace := ["internal/reflectlite.ValueOf", "(internal/reflectlite.Value).Type", "(internal/reflectlite.Value).IsNil", "internal/reflectlite.TypeOf", "(internal/reflectlite.Value).Elem", "(internal/reflectlite.Value).Set"], unfollowed := true, recurses := true, named := ["errors.errorType"], apart := false, laid := [("errors.errorType", laid_errors_errorType)] }
def SceneOnceSaid : Prop := sceneOnceRow.holds Tryd.pinned (OpenSpec.ofChange sceneOnceSpec)

/-- ITS FALSE NEIGHBOUR: 'it returns false'. Refute it at one input. -/
def sceneOnceWrong : ChangeSpec := { name := "sceneOnce", fn := fun _ => fun
  | [d1, d2, d3] => { results := [.lit (.bool false)], args := [d1, d2, d3] }
  | _ => none }
def SceneOnceWrongFalsely : Prop := sceneOnceRow.holds Tryd.pinned (OpenSpec.ofChange sceneOnceWrong)

/-- 'kinlaw17.StatsTells': WHATEVER THE INPUT: true; the input reads as it did. -/
def statsTellsSpec : ChangeSpec := { name := "statsTells", fn := fun _ => fun
  | [d1, d2] => { results := [.lit (.bool true)], args := [d1, d2] }
  | _ => none }
def statsTellsRow : OpenClaim := { program := "ytmhbmegmlpenkaadoor", sum := "7c1eb4d1c3794286f96c6ea9bb3b7dc139aab7d575997dd6321a89a3cc31654e", func := "kinescope/kinlaw17.StatsTells", spec := "statsTells", inPlace := ["internal/reflectlite.ValueOf", "(internal/reflectlite.Value).Type", "(internal/reflectlite.Value).IsNil", "internal/reflectlite.TypeOf", "(internal/reflectlite.Value).Elem", "(internal/reflectlite.Value).Set"], unfollowed := true, recurses := true, named := ["errors.errorType"], apart := false, laid := [("errors.errorType", laid_errors_errorType)] }
def StatsTellsSaid : Prop := statsTellsRow.holds Tryd.pinned (OpenSpec.ofChange statsTellsSpec)

/-- ITS FALSE NEIGHBOUR: 'it returns false'. Refute it at one input. -/
def statsTellsWrong : ChangeSpec := { name := "statsTells", fn := fun _ => fun
  | [d1, d2] => { results := [.lit (.bool false)], args := [d1, d2] }
  | _ => none }
def StatsTellsWrongFalsely : Prop := statsTellsRow.holds Tryd.pinned (OpenSpec.ofChange statsTellsWrong)

/-- 'kinlaw17.StatsWeighs': WHATEVER THE INPUT: true; the input reads as it did. -/
def statsWeighsSpec : ChangeSpec := { name := "statsWeighs", fn := fun _ => fun
  | [d1, d2] => { results := [.lit (.bool true)], args := [d1, d2] }
  | _ => none }
def statsWeighsRow : OpenClaim := { program := "ytmhbmegmlpenkaadoor", sum := "7c1eb4d1c3794286f96c6ea9bb3b7dc139aab7d575997dd6321a89a3cc31654e", func := "kinescope/kinlaw17.StatsWeighs", spec := "statsWeighs", inPlace := ["internal/reflectlite.ValueOf", "(internal/reflectlite.Value).Type", "(internal/reflectlite.Value).IsNil", "internal/reflectlite.TypeOf", "(internal/reflectlite.Value).Elem", "(internal/reflectlite.Value).Set"], unfollowed := true, recurses := true, named := ["errors.errorType"], apart := false, laid := [("errors.errorType", laid_errors_errorType)] }
def StatsWeighsSaid : Prop := statsWeighsRow.holds Tryd.pinned (OpenSpec.ofChange statsWeighsSpec)

/-- ITS FALSE NEIGHBOUR: 'it returns false'. Refute it at one input. -/
def statsWeighsWrong : ChangeSpec := { name := "statsWeighs", fn := fun _ => fun
  | [d1, d2] => { results := [.lit (.bool false)], args := [d1, d2] }
  | _ => none }
def StatsWeighsWrongFalsely : Prop := statsWeighsRow.holds Tryd.pinned (OpenSpec.ofChange statsWeighsWrong)

/-- 'kinlaw17.StatsLeast': WHATEVER THE INPUT: true; the input reads as it did. -/
def statsLeastSpec : ChangeSpec := { name := "statsLeast", fn := fun _ => fun
  | [d1, d2] => { results := [.lit (.bool true)], args := [d1, d2] }
  | _ => none }
def statsLeastRow : OpenClaim := { program := "ytmhbmegmlpenkaadoor", sum := "7c1eb4d1c3794286f96c6ea9bb3b7dc139aab7d575997dd6321a89a3cc31654e", func := "kinescope/kinlaw17.StatsLeast", spec := "statsLeast", inPlace := ["internal/reflectlite.ValueOf", "(internal/reflectlite.Value).Type", "(internal/reflectlite.Value).IsNil", "internal/reflectlite.TypeOf", "(internal/reflectlite.Value).Elem", "(internal/reflectlite.Value).Set"], unfollowed := true, recurses := true, named := ["errors.errorType"], apart := false, laid := [("errors.errorType", laid_errors_errorType)] }
def StatsLeastSaid : Prop := statsLeastRow.holds Tryd.pinned (OpenSpec.ofChange statsLeastSpec)

/-- ITS FALSE NEIGHBOUR: 'it returns false'. Refute it at one input. -/
def statsLeastWrong : ChangeSpec := { name := "statsLeast", fn := fun _ => fun
  | [d1, d2] => { results := [.lit (.bool false)], args := [d1, d2] }
  | _ => none }
def StatsLeastWrongFalsely : Prop := statsLeastRow.holds Tryd.pinned (OpenSpec.ofChange statsLeastWrong)

/-- 'kinlaw17.StatsApart': WHATEVER THE INPUT: true; the input reads as it did. -/
def statsApartSpec : ChangeSpec := { name := "statsApart", fn := fun _ => fun
  | [d1, d2] => { results := [.lit (.bool true)], args := [d1, d2] }
  | _ => none }
def statsApartRow : OpenClaim := { program := "ytmhbmegmlpenkaadoor", sum := "7c1eb4d1c3794286f96c6ea9bb3b7dc139aab7d575997dd6321a89a3cc31654e", func := "kinescope/kinlaw17.StatsApart", spec := "statsApart", inPlace := ["internal/reflectlite.ValueOf", "(internal/reflectlite.Value).Type", "(internal/reflectlite.Value).IsNil", "internal/reflectlite.TypeOf", "(internal/reflectlite.Value).Elem", "(internal/reflectlite.Value).Set"], unfollowed := true, recurses := true, named := ["errors.errorType"], apart := false, laid := [("errors.errorType", laid_errors_errorType)] }
def StatsApartSaid : Prop := statsApartRow.holds Tryd.pinned (OpenSpec.ofChange statsApartSpec)

/-- ITS FALSE NEIGHBOUR: 'it returns false'. Refute it at one input. -/
def statsApartWrong : ChangeSpec := { name := "statsApart", fn := fun _ => fun
  | [d1, d2] => { results := [.lit (.bool false)], args := [d1, d2] }
  | _ => none }
def StatsApartWrongFalsely : Prop := statsApartRow.holds Tryd.pinned (OpenSpec.ofChange statsApartWrong)

/-- 'kinlaw17.StatsFlat': WHATEVER THE INPUT: true; the input reads as it did. -/
def statsFlatSpec : ChangeSpec := { name := "statsFlat", fn := fun _ => fun
  | [d1, d2] => { results := [.lit (.bool true)], args := [d1, d2] }
  | _ => none }
def statsFlatRow : OpenClaim := { program := "ytmhbmegmlpenkaadoor", sum := "7c1eb4d1c3794286f96c6ea9bb3b7dc139aab7d575997dd6321a89a3cc31654e", func := "kinescope/kinlaw17.StatsFlat", spec := "statsFlat", inPlace := ["internal/reflectlite.ValueOf", "(internal/reflectlite.Value).Type", "(internal/reflectlite.Value).IsNil", "internal/reflectlite.TypeOf", "(internal/reflectlite.Value).Elem", "(internal/reflectlite.Value).Set"], unfollowed := true, recurses := true, named := ["errors.errorType"], apart := false, laid := [("errors.errorType", laid_errors_errorType)] }
def StatsFlatSaid : Prop := statsFlatRow.holds Tryd.pinned (OpenSpec.ofChange statsFlatSpec)

/-- ITS FALSE NEIGHBOUR: 'it returns false'. Refute it at one input. -/
def statsFlatWrong : ChangeSpec := { name := "statsFlat", fn := fun _ => fun
  | [d1, d2] => { results := [.lit (.bool false)], args := [d1, d2] }
  | _ => none }
def StatsFlatWrongFalsely : Prop := statsFlatRow.holds Tryd.pinned (OpenSpec.ofChange statsFlatWrong)

/- THE SECOND FORM. 'bulk': how many values and letters a reading holds, each counted each time it is reached (what is shared counts as often as it is met; a slice's spare places count too). A statement '..UptoSaid' is the law's where the arguments, and the package variables that the reading takes, are together of bulk at most 1048576: NARROWER than '..Said'. Prove '..Said' where nothing that the law and all that it calls make is longer than what came in: it says more and counts as full. Else prove '..UptoSaid'. A law counts once. -/
mutual
def uptoBulk {H : Type} : DataW H → Nat
  | .lit (.string bytes) => bytes.length + 1
  | .lit _ => 1
  | .nil => 1
  | .ptr d => uptoBulk d + 1
  | .slice elems spare => uptoBulkAll elems + uptoBulkAll spare + 1
  | .agg parts => uptoBulkAll parts + 1
  | .iface _ d => uptoBulk d + 1
  | .map entries => uptoBulkEntries entries + 1
  | .held _ => 1
def uptoBulkAll {H : Type} : List (DataW H) → Nat
  | [] => 0
  | d :: r => uptoBulk d + uptoBulkAll r
def uptoBulkEntries {H : Type} : List (Lit × DataW H) → Nat
  | [] => 0
  | x :: r => uptoBulkEntry x + uptoBulkEntries r
def uptoBulkEntry {H : Type} : Lit × DataW H → Nat
  | (.string bytes, d) => bytes.length + uptoBulk d + 1
  | (_, d) => uptoBulk d + 1
 end
def uptoSmall : (H : Type) → List (DataW H) → Bool := fun _ ds => decide (uptoBulkAll ds ≤ 1048576)
def OpenSpec.upto (s : _root_.Go.ChangeSpec) : _root_.Go.OpenSpec := { _root_.Go.OpenSpec.ofChange s with cond := some uptoSmall }

/-- 'kinlaw11.MotionHalves', WHERE WHAT IT READS IS OF BULK AT MOST 1048576: true; the input reads as it did. -/
def motionHalvesUptoRow : OpenClaim := { program := "ytmhbmegmlpenkaadoor", sum := "7c1eb4d1c3794286f96c6ea9bb3b7dc139aab7d575997dd6321a89a3cc31654e", func := "kinescope/kinlaw11.MotionHalves", spec := "motionHalves", inPlace := ["internal/reflectlite.ValueOf", "(internal/reflectlite.Value).Type", "(internal/reflectlite.Value).IsNil", "internal/reflectlite.TypeOf", "(internal/reflectlite.Value).Elem", "(internal/reflectlite.Value).Set"], unfollowed := true, recurses := true, named := ["errors.errorType"], apart := false, laid := [("errors.errorType", laid_errors_errorType)], narrowed := true }
def MotionHalvesUptoSaid : Prop := motionHalvesUptoRow.holds Tryd.pinned (OpenSpec.upto motionHalvesSpec)

/-- 'kinlaw11.MotionCosts', WHERE WHAT IT READS IS OF BULK AT MOST 1048576: true; the input reads as it did. -/
def motionCostsUptoRow : OpenClaim := { program := "ytmhbmegmlpenkaadoor", sum := "7c1eb4d1c3794286f96c6ea9bb3b7dc139aab7d575997dd6321a89a3cc31654e", func := "kinescope/kinlaw11.MotionCosts", spec := "motionCosts", inPlace := ["internal/reflectlite.ValueOf", "(internal/reflectlite.Value).Type", "(internal/reflectlite.Value).IsNil", "internal/reflectlite.TypeOf", "(internal/reflectlite.Value).Elem", "(internal/reflectlite.Value).Set"], unfollowed := true, recurses := true, named := ["errors.errorType"], apart := false, laid := [("errors.errorType", laid_errors_errorType)], narrowed := true }
def MotionCostsUptoSaid : Prop := motionCostsUptoRow.holds Tryd.pinned (OpenSpec.upto motionCostsSpec)

/-- 'kinlaw11.MotionSearches', WHERE WHAT IT READS IS OF BULK AT MOST 1048576: true; the input reads as it did. -/
def motionSearchesUptoRow : OpenClaim := { program := "ytmhbmegmlpenkaadoor", sum := "7c1eb4d1c3794286f96c6ea9bb3b7dc139aab7d575997dd6321a89a3cc31654e", func := "kinescope/kinlaw11.MotionSearches", spec := "motionSearches", inPlace := ["internal/reflectlite.ValueOf", "(internal/reflectlite.Value).Type", "(internal/reflectlite.Value).IsNil", "internal/reflectlite.TypeOf", "(internal/reflectlite.Value).Elem", "(internal/reflectlite.Value).Set"], unfollowed := true, recurses := true, named := ["errors.errorType"], apart := false, laid := [("errors.errorType", laid_errors_errorType)], narrowed := true }
def MotionSearchesUptoSaid : Prop := motionSearchesUptoRow.holds Tryd.pinned (OpenSpec.upto motionSearchesSpec)

/-- 'kinlaw11.MotionSamples', WHERE WHAT IT READS IS OF BULK AT MOST 1048576: true; the input reads as it did. -/
def motionSamplesUptoRow : OpenClaim := { program := "ytmhbmegmlpenkaadoor", sum := "7c1eb4d1c3794286f96c6ea9bb3b7dc139aab7d575997dd6321a89a3cc31654e", func := "kinescope/kinlaw11.MotionSamples", spec := "motionSamples", inPlace := ["internal/reflectlite.ValueOf", "(internal/reflectlite.Value).Type", "(internal/reflectlite.Value).IsNil", "internal/reflectlite.TypeOf", "(internal/reflectlite.Value).Elem", "(internal/reflectlite.Value).Set"], unfollowed := true, recurses := true, named := ["errors.errorType"], apart := false, laid := [("errors.errorType", laid_errors_errorType)], narrowed := true }
def MotionSamplesUptoSaid : Prop := motionSamplesUptoRow.holds Tryd.pinned (OpenSpec.upto motionSamplesSpec)

/-- 'kinlaw11.MotionBest', WHERE WHAT IT READS IS OF BULK AT MOST 1048576: true; the input reads as it did. -/
def motionBestUptoRow : OpenClaim := { program := "ytmhbmegmlpenkaadoor", sum := "7c1eb4d1c3794286f96c6ea9bb3b7dc139aab7d575997dd6321a89a3cc31654e", func := "kinescope/kinlaw11.MotionBest", spec := "motionBest", inPlace := ["internal/reflectlite.ValueOf", "(internal/reflectlite.Value).Type", "(internal/reflectlite.Value).IsNil", "internal/reflectlite.TypeOf", "(internal/reflectlite.Value).Elem", "(internal/reflectlite.Value).Set"], unfollowed := true, recurses := true, named := ["errors.errorType"], apart := false, laid := [("errors.errorType", laid_errors_errorType)], narrowed := true }
def MotionBestUptoSaid : Prop := motionBestUptoRow.holds Tryd.pinned (OpenSpec.upto motionBestSpec)

/-- 'kinlaw11.MotionWhole', WHERE WHAT IT READS IS OF BULK AT MOST 1048576: true; the input reads as it did. -/
def motionWholeUptoRow : OpenClaim := { program := "ytmhbmegmlpenkaadoor", sum := "7c1eb4d1c3794286f96c6ea9bb3b7dc139aab7d575997dd6321a89a3cc31654e", func := "kinescope/kinlaw11.MotionWhole", spec := "motionWhole", inPlace := ["internal/reflectlite.ValueOf", "(internal/reflectlite.Value).Type", "(internal/reflectlite.Value).IsNil", "internal/reflectlite.TypeOf", "(internal/reflectlite.Value).Elem", "(internal/reflectlite.Value).Set"], unfollowed := true, recurses := true, named := ["errors.errorType"], apart := false, laid := [("errors.errorType", laid_errors_errorType)], narrowed := true }
def MotionWholeUptoSaid : Prop := motionWholeUptoRow.holds Tryd.pinned (OpenSpec.upto motionWholeSpec)

/-- 'kinlaw16.SceneGroups', WHERE WHAT IT READS IS OF BULK AT MOST 1048576: true; the input reads as it did. -/
def sceneGroupsUptoRow : OpenClaim := { program := "ytmhbmegmlpenkaadoor", sum := "7c1eb4d1c3794286f96c6ea9bb3b7dc139aab7d575997dd6321a89a3cc31654e", func := "kinescope/kinlaw16.SceneGroups", spec := "sceneGroups", inPlace := ["internal/reflectlite.ValueOf", "(internal/reflectlite.Value).Type", "(internal/reflectlite.Value).IsNil", "internal/reflectlite.TypeOf", "(internal/reflectlite.Value).Elem", "(internal/reflectlite.Value).Set"], unfollowed := true, recurses := true, named := ["errors.errorType"], apart := false, laid := [("errors.errorType", laid_errors_errorType)], narrowed := true }
def SceneGroupsUptoSaid : Prop := sceneGroupsUptoRow.holds Tryd.pinned (OpenSpec.upto sceneGroupsSpec)

/-- 'kinlaw16.SceneOnce', WHERE WHAT IT READS IS OF BULK AT MOST 1048576: true; the input reads as it did. -/
def sceneOnceUptoRow : OpenClaim := { program := "ytmhbmegmlpenkaadoor", sum := "7c1eb4d1c3794286f96c6ea9bb3b7dc139aab7d575997dd6321a89a3cc31654e", func := "kinescope/kinlaw16.SceneOnce", spec := "sceneOnce", inPlace := ["internal/reflectlite.ValueOf", "(internal/reflectlite.Value).Type", "(internal/reflectlite.Value).IsNil", "internal/reflectlite.TypeOf", "(internal/reflectlite.Value).Elem", "(internal/reflectlite.Value).Set"], unfollowed := true, recurses := true, named := ["errors.errorType"], apart := false, laid := [("errors.errorType", laid_errors_errorType)], narrowed := true }
def SceneOnceUptoSaid : Prop := sceneOnceUptoRow.holds Tryd.pinned (OpenSpec.upto sceneOnceSpec)

/-- 'kinlaw17.StatsTells', WHERE WHAT IT READS IS OF BULK AT MOST 1048576: true; the input reads as it did. -/
def statsTellsUptoRow : OpenClaim := { program := "ytmhbmegmlpenkaadoor", sum := "7c1eb4d1c3794286f96c6ea9bb3b7dc139aab7d575997dd6321a89a3cc31654e", func := "kinescope/kinlaw17.StatsTells", spec := "statsTells", inPlace := ["internal/reflectlite.ValueOf", "(internal/reflectlite.Value).Type", "(internal/reflectlite.Value).IsNil", "internal/reflectlite.TypeOf", "(internal/reflectlite.Value).Elem", "(internal/reflectlite.Value).Set"], unfollowed := true, recurses := true, named := ["errors.errorType"], apart := false, laid := [("errors.errorType", laid_errors_errorType)], narrowed := true }
def StatsTellsUptoSaid : Prop := statsTellsUptoRow.holds Tryd.pinned (OpenSpec.upto statsTellsSpec)

/-- 'kinlaw17.StatsWeighs', WHERE WHAT IT READS IS OF BULK AT MOST 1048576: true; the input reads as it did. -/
def statsWeighsUptoRow : OpenClaim := { program := "ytmhbmegmlpenkaadoor", sum := "7c1eb4d1c3794286f96c6ea9bb3b7dc139aab7d575997dd6321a89a3cc31654e", func := "kinescope/kinlaw17.StatsWeighs", spec := "statsWeighs", inPlace := ["internal/reflectlite.ValueOf", "(internal/reflectlite.Value).Type", "(internal/reflectlite.Value).IsNil", "internal/reflectlite.TypeOf", "(internal/reflectlite.Value).Elem", "(internal/reflectlite.Value).Set"], unfollowed := true, recurses := true, named := ["errors.errorType"], apart := false, laid := [("errors.errorType", laid_errors_errorType)], narrowed := true }
def StatsWeighsUptoSaid : Prop := statsWeighsUptoRow.holds Tryd.pinned (OpenSpec.upto statsWeighsSpec)

/-- 'kinlaw17.StatsLeast', WHERE WHAT IT READS IS OF BULK AT MOST 1048576: true; the input reads as it did. -/
def statsLeastUptoRow : OpenClaim := { program := "ytmhbmegmlpenkaadoor", sum := "7c1eb4d1c3794286f96c6ea9bb3b7dc139aab7d575997dd6321a89a3cc31654e", func := "kinescope/kinlaw17.StatsLeast", spec := "statsLeast", inPlace := ["internal/reflectlite.ValueOf", "(internal/reflectlite.Value).Type", "(internal/reflectlite.Value).IsNil", "internal/reflectlite.TypeOf", "(internal/reflectlite.Value).Elem", "(internal/reflectlite.Value).Set"], unfollowed := true, recurses := true, named := ["errors.errorType"], apart := false, laid := [("errors.errorType", laid_errors_errorType)], narrowed := true }
def StatsLeastUptoSaid : Prop := statsLeastUptoRow.holds Tryd.pinned (OpenSpec.upto statsLeastSpec)

/-- 'kinlaw17.StatsApart', WHERE WHAT IT READS IS OF BULK AT MOST 1048576: true; the input reads as it did. -/
def statsApartUptoRow : OpenClaim := { program := "ytmhbmegmlpenkaadoor", sum := "7c1eb4d1c3794286f96c6ea9bb3b7dc139aab7d575997dd6321a89a3cc31654e", func := "kinescope/kinlaw17.StatsApart", spec := "statsApart", inPlace := ["internal/reflectlite.ValueOf", "(internal/reflectlite.Value).Type", "(internal/reflectlite.Value).IsNil", "internal/reflectlite.TypeOf", "(internal/reflectlite.Value).Elem", "(internal/reflectlite.Value).Set"], unfollowed := true, recurses := true, named := ["errors.errorType"], apart := false, laid := [("errors.errorType", laid_errors_errorType)], narrowed := true }
def StatsApartUptoSaid : Prop := statsApartUptoRow.holds Tryd.pinned (OpenSpec.upto statsApartSpec)

/-- 'kinlaw17.StatsFlat', WHERE WHAT IT READS IS OF BULK AT MOST 1048576: true; the input reads as it did. -/
def statsFlatUptoRow : OpenClaim := { program := "ytmhbmegmlpenkaadoor", sum := "7c1eb4d1c3794286f96c6ea9bb3b7dc139aab7d575997dd6321a89a3cc31654e", func := "kinescope/kinlaw17.StatsFlat", spec := "statsFlat", inPlace := ["internal/reflectlite.ValueOf", "(internal/reflectlite.Value).Type", "(internal/reflectlite.Value).IsNil", "internal/reflectlite.TypeOf", "(internal/reflectlite.Value).Elem", "(internal/reflectlite.Value).Set"], unfollowed := true, recurses := true, named := ["errors.errorType"], apart := false, laid := [("errors.errorType", laid_errors_errorType)], narrowed := true }
def StatsFlatUptoSaid : Prop := statsFlatUptoRow.holds Tryd.pinned (OpenSpec.upto statsFlatSpec)

end Rows
end Go.Proofs.YtmhbmegmlpenkaaDoor
