/-
  NARROWER THAN 'FOR EVERY INPUT', by the rows' own cells (each row's printed sentence says how): UnitMakes: laid · UnitLong: laid · UnitNexts: laid · UnitSplits: laid · UnitBack: laid · UnitTurned: laid · UnitJoins: laid.
  DERIVED. THE GIVEN ROWS OF THIS SEAT. 7 by the template 'for every input the law returns true; each argument reads behind the call as it read before'; 0 by the template 'total and deterministic' (their statements: YtkjllhphpkmaiaaDoorTotals.lean).
  GIVEN WITH THE SEED: the statements are not yours to turn. If you find one false, say at which input.
  Laid BY PROGRAM, IN A SANDBOX (cutbox-rows.mjs): the forced cells as the released guide's own fill.sh prints them over the translation 95551b55d77417ea… (all of the seat's roots in one cut). By AI agents, Wed Nov 11 2026. No macro, syntax, notation, axiom, sorry.
-/
import Derived.Test.YtkjllhphpkmaiaaDoorChecked
import GoSem.Claim
import GoSem.ClaimJoined
import GoSem.ClaimMapViews
import Derived.JoinedTies
import Derived.KernelRfl
namespace Go.Proofs.YtkjllhphpkmaiaaDoor
/- THE CELL 'sum', in the pinned program and in every row, IS THE sha256 OF THE DUMP (.gsa) THAT YtkjllhphpkmaiaaDoorProg.lean LOADS. Nothing in Lean hashes anything: it is a label: what it is worth is what the hold of that sum in a sandbox is worth. -/
noncomputable def Tryd.pinned : Pinned := { name := "ytkjllhphpkmaiaadoor", sum := "95551b55d77417ea4c12de73d5e40b6b42b7e30bcf073cdaf6db3a7a7ccecece", checked := Tryd.checked }
namespace Rows
def none {H : Type} : Left H := { results := [], args := [] }

/- WHAT THE LISTED PACKAGE-LEVEL VARIABLES READ AS WHEN THE CALL BEGINS. Each datum BY PROGRAM (the guide's laid-datum.mjs) off the statement by which the dump's own 'gosem.cut.vars' lays the variable. In a bare row this is a premise. The card (YtkjllhphpkmaiaaDoorCards.lean) ties it to the program's text. -/
def laid_errors_errorType {H : Type} : DataW H := .iface "internal/reflectlite.rtype" (.agg [.ptr (.lit (.string [101, 114, 114, 111, 114]))])
def laid_kinescope_unit_nibbles {H : Type} : DataW H := .agg [.lit (.int .u32 0), .lit (.int .u32 498536548), .lit (.int .u32 997073096), .lit (.int .u32 651767980), .lit (.int .u32 1994146192), .lit (.int .u32 1802195444), .lit (.int .u32 1303535960), .lit (.int .u32 1342533948), .lit (.int .u32 3988292384), .lit (.int .u32 4027552580), .lit (.int .u32 3604390888), .lit (.int .u32 3412177804), .lit (.int .u32 2607071920), .lit (.int .u32 2262029012), .lit (.int .u32 2685067896), .lit (.int .u32 3183342108)]

/-- 'kinlaw4.UnitMakes': WHATEVER THE INPUT: true; the input reads as it did. -/
def unitMakesSpec : ChangeSpec := { name := "unitMakes", fn := fun _ => fun
  | [d1, d2, d3] => { results := [.lit (.bool true)], args := [d1, d2, d3] }
  | _ => none }
def unitMakesRow : OpenClaim := { program := "ytkjllhphpkmaiaadoor", sum := "95551b55d77417ea4c12de73d5e40b6b42b7e30bcf073cdaf6db3a7a7ccecece", func := "kinescope/kinlaw4.UnitMakes", spec := "unitMakes", inPlace := ["internal/reflectlite.ValueOf", "(internal/reflectlite.Value).Type", "(internal/reflectlite.Value).IsNil", "internal/reflectlite.TypeOf", "(internal/reflectlite.Value).Elem", "(internal/reflectlite.Value).Set"], unfollowed := true, recurses := true, named := ["kinescope/unit.nibbles", "errors.errorType"], apart := false, laid := [("errors.errorType", laid_errors_errorType), ("kinescope/unit.nibbles", laid_kinescope_unit_nibbles)] }
def UnitMakesSaid : Prop := unitMakesRow.holds Tryd.pinned (OpenSpec.ofChange unitMakesSpec)

/-- ITS FALSE NEIGHBOUR: 'it returns false'. Refute it at one input. -/
def unitMakesWrong : ChangeSpec := { name := "unitMakes", fn := fun _ => fun
  | [d1, d2, d3] => { results := [.lit (.bool false)], args := [d1, d2, d3] }
  | _ => none }
def UnitMakesWrongFalsely : Prop := unitMakesRow.holds Tryd.pinned (OpenSpec.ofChange unitMakesWrong)

/-- 'kinlaw4.UnitLong': WHATEVER THE INPUT: true; the input reads as it did. -/
def unitLongSpec : ChangeSpec := { name := "unitLong", fn := fun _ => fun
  | [d1, d2, d3] => { results := [.lit (.bool true)], args := [d1, d2, d3] }
  | _ => none }
def unitLongRow : OpenClaim := { program := "ytkjllhphpkmaiaadoor", sum := "95551b55d77417ea4c12de73d5e40b6b42b7e30bcf073cdaf6db3a7a7ccecece", func := "kinescope/kinlaw4.UnitLong", spec := "unitLong", inPlace := ["internal/reflectlite.ValueOf", "(internal/reflectlite.Value).Type", "(internal/reflectlite.Value).IsNil", "internal/reflectlite.TypeOf", "(internal/reflectlite.Value).Elem", "(internal/reflectlite.Value).Set"], unfollowed := true, recurses := true, named := ["kinescope/unit.nibbles", "errors.errorType"], apart := false, laid := [("errors.errorType", laid_errors_errorType), ("kinescope/unit.nibbles", laid_kinescope_unit_nibbles)] }
def UnitLongSaid : Prop := unitLongRow.holds Tryd.pinned (OpenSpec.ofChange unitLongSpec)

/-- ITS FALSE NEIGHBOUR: 'it returns false'. Refute it at one input. -/
def unitLongWrong : ChangeSpec := { name := "unitLong", fn := fun _ => fun
  | [d1, d2, d3] => { results := [.lit (.bool false)], args := [d1, d2, d3] }
  | _ => none }
def UnitLongWrongFalsely : Prop := unitLongRow.holds Tryd.pinned (OpenSpec.ofChange unitLongWrong)

/-- 'kinlaw4.UnitNexts': WHATEVER THE INPUT: true; the input reads as it did. -/
def unitNextsSpec : ChangeSpec := { name := "unitNexts", fn := fun _ => fun
  | [d1, d2] => { results := [.lit (.bool true)], args := [d1, d2] }
  | _ => none }
def unitNextsRow : OpenClaim := { program := "ytkjllhphpkmaiaadoor", sum := "95551b55d77417ea4c12de73d5e40b6b42b7e30bcf073cdaf6db3a7a7ccecece", func := "kinescope/kinlaw4.UnitNexts", spec := "unitNexts", inPlace := ["internal/reflectlite.ValueOf", "(internal/reflectlite.Value).Type", "(internal/reflectlite.Value).IsNil", "internal/reflectlite.TypeOf", "(internal/reflectlite.Value).Elem", "(internal/reflectlite.Value).Set"], unfollowed := true, recurses := true, named := ["kinescope/unit.nibbles", "errors.errorType"], apart := false, laid := [("errors.errorType", laid_errors_errorType), ("kinescope/unit.nibbles", laid_kinescope_unit_nibbles)] }
def UnitNextsSaid : Prop := unitNextsRow.holds Tryd.pinned (OpenSpec.ofChange unitNextsSpec)

/-- ITS FALSE NEIGHBOUR: 'it returns false'. Refute it at one input. -/
def unitNextsWrong : ChangeSpec := { name := "unitNexts", fn := fun _ => fun
  | [d1, d2] => { results := [.lit (.bool false)], args := [d1, d2] }
  | _ => none }
def UnitNextsWrongFalsely : Prop := unitNextsRow.holds Tryd.pinned (OpenSpec.ofChange unitNextsWrong)

/-- 'kinlaw4.UnitSplits': WHATEVER THE INPUT: true; the input reads as it did. -/
def unitSplitsSpec : ChangeSpec := { name := "unitSplits", fn := fun _ => fun
  | [d] => { results := [.lit (.bool true)], args := [d] }
  | _ => none }
def unitSplitsRow : OpenClaim := { program := "ytkjllhphpkmaiaadoor", sum := "95551b55d77417ea4c12de73d5e40b6b42b7e30bcf073cdaf6db3a7a7ccecece", func := "kinescope/kinlaw4.UnitSplits", spec := "unitSplits", inPlace := ["internal/reflectlite.ValueOf", "(internal/reflectlite.Value).Type", "(internal/reflectlite.Value).IsNil", "internal/reflectlite.TypeOf", "(internal/reflectlite.Value).Elem", "(internal/reflectlite.Value).Set"], unfollowed := true, recurses := true, named := ["kinescope/unit.nibbles", "errors.errorType"], apart := false, laid := [("errors.errorType", laid_errors_errorType), ("kinescope/unit.nibbles", laid_kinescope_unit_nibbles)] }
def UnitSplitsSaid : Prop := unitSplitsRow.holds Tryd.pinned (OpenSpec.ofChange unitSplitsSpec)

/-- ITS FALSE NEIGHBOUR: 'it returns false'. Refute it at one input. -/
def unitSplitsWrong : ChangeSpec := { name := "unitSplits", fn := fun _ => fun
  | [d] => { results := [.lit (.bool false)], args := [d] }
  | _ => none }
def UnitSplitsWrongFalsely : Prop := unitSplitsRow.holds Tryd.pinned (OpenSpec.ofChange unitSplitsWrong)

/-- 'kinlaw4.UnitBack': WHATEVER THE INPUT: true; the input reads as it did. -/
def unitBackSpec : ChangeSpec := { name := "unitBack", fn := fun _ => fun
  | [d1, d2, d3] => { results := [.lit (.bool true)], args := [d1, d2, d3] }
  | _ => none }
def unitBackRow : OpenClaim := { program := "ytkjllhphpkmaiaadoor", sum := "95551b55d77417ea4c12de73d5e40b6b42b7e30bcf073cdaf6db3a7a7ccecece", func := "kinescope/kinlaw4.UnitBack", spec := "unitBack", inPlace := ["internal/reflectlite.ValueOf", "(internal/reflectlite.Value).Type", "(internal/reflectlite.Value).IsNil", "internal/reflectlite.TypeOf", "(internal/reflectlite.Value).Elem", "(internal/reflectlite.Value).Set"], unfollowed := true, recurses := true, named := ["kinescope/unit.nibbles", "errors.errorType"], apart := false, laid := [("errors.errorType", laid_errors_errorType), ("kinescope/unit.nibbles", laid_kinescope_unit_nibbles)] }
def UnitBackSaid : Prop := unitBackRow.holds Tryd.pinned (OpenSpec.ofChange unitBackSpec)

/-- ITS FALSE NEIGHBOUR: 'it returns false'. Refute it at one input. -/
def unitBackWrong : ChangeSpec := { name := "unitBack", fn := fun _ => fun
  | [d1, d2, d3] => { results := [.lit (.bool false)], args := [d1, d2, d3] }
  | _ => none }
def UnitBackWrongFalsely : Prop := unitBackRow.holds Tryd.pinned (OpenSpec.ofChange unitBackWrong)

/-- 'kinlaw4.UnitTurned': WHATEVER THE INPUT: true; the input reads as it did. -/
def unitTurnedSpec : ChangeSpec := { name := "unitTurned", fn := fun _ => fun
  | [d1, d2, d3, d4] => { results := [.lit (.bool true)], args := [d1, d2, d3, d4] }
  | _ => none }
def unitTurnedRow : OpenClaim := { program := "ytkjllhphpkmaiaadoor", sum := "95551b55d77417ea4c12de73d5e40b6b42b7e30bcf073cdaf6db3a7a7ccecece", func := "kinescope/kinlaw4.UnitTurned", spec := "unitTurned", inPlace := ["internal/reflectlite.ValueOf", "(internal/reflectlite.Value).Type", "(internal/reflectlite.Value).IsNil", "internal/reflectlite.TypeOf", "(internal/reflectlite.Value).Elem", "(internal/reflectlite.Value).Set"], unfollowed := true, recurses := true, named := ["kinescope/unit.nibbles", "errors.errorType"], apart := false, laid := [("errors.errorType", laid_errors_errorType), ("kinescope/unit.nibbles", laid_kinescope_unit_nibbles)] }
def UnitTurnedSaid : Prop := unitTurnedRow.holds Tryd.pinned (OpenSpec.ofChange unitTurnedSpec)

/-- ITS FALSE NEIGHBOUR: 'it returns false'. Refute it at one input. -/
def unitTurnedWrong : ChangeSpec := { name := "unitTurned", fn := fun _ => fun
  | [d1, d2, d3, d4] => { results := [.lit (.bool false)], args := [d1, d2, d3, d4] }
  | _ => none }
def UnitTurnedWrongFalsely : Prop := unitTurnedRow.holds Tryd.pinned (OpenSpec.ofChange unitTurnedWrong)

/-- 'kinlaw4.UnitJoins': WHATEVER THE INPUT: true; the input reads as it did. -/
def unitJoinsSpec : ChangeSpec := { name := "unitJoins", fn := fun _ => fun
  | [d1, d2] => { results := [.lit (.bool true)], args := [d1, d2] }
  | _ => none }
def unitJoinsRow : OpenClaim := { program := "ytkjllhphpkmaiaadoor", sum := "95551b55d77417ea4c12de73d5e40b6b42b7e30bcf073cdaf6db3a7a7ccecece", func := "kinescope/kinlaw4.UnitJoins", spec := "unitJoins", inPlace := ["internal/reflectlite.ValueOf", "(internal/reflectlite.Value).Type", "(internal/reflectlite.Value).IsNil", "internal/reflectlite.TypeOf", "(internal/reflectlite.Value).Elem", "(internal/reflectlite.Value).Set"], unfollowed := true, recurses := true, named := ["kinescope/unit.nibbles", "errors.errorType"], apart := false, laid := [("errors.errorType", laid_errors_errorType), ("kinescope/unit.nibbles", laid_kinescope_unit_nibbles)] }
def UnitJoinsSaid : Prop := unitJoinsRow.holds Tryd.pinned (OpenSpec.ofChange unitJoinsSpec)

/-- ITS FALSE NEIGHBOUR: 'it returns false'. Refute it at one input. -/
def unitJoinsWrong : ChangeSpec := { name := "unitJoins", fn := fun _ => fun
  | [d1, d2] => { results := [.lit (.bool false)], args := [d1, d2] }
  | _ => none }
def UnitJoinsWrongFalsely : Prop := unitJoinsRow.holds Tryd.pinned (OpenSpec.ofChange unitJoinsWrong)

/- THE SECOND FORM. 'bulk': how many values and letters a reading holds, each counted each time it is reached (what is shared counts as often as it is met; a slice's spare places count too). A statement '..UptoSaid' is the law's where the arguments, and the package variables that the reading takes, are together of bulk at most 1048576: NARROWER than '..Said'. Prove '..Said' where nothing that the law and all that it calls make is longer than what came in: it says more and counts as full. Else prove '..UptoSaid'. A law counts once. -/
mutual
def uptoBulk {H : Type} : DataW H → Nat
  | .lit (.string bytes) => bytes.length + 1
  | .lit _ => 1
  | .nil => 1
  | .ptr d => uptoBulk d + 1
  | .slice elems spare => uptoBulkAll elems + uptoBulkAll spare + 1
  | .agg parts => uptoBulkAll parts + 1
  | .iface _ d => uptoBulk d + 1
  | .map entries => uptoBulkEntries entries + 1
  | .held _ => 1
def uptoBulkAll {H : Type} : List (DataW H) → Nat
  | [] => 0
  | d :: r => uptoBulk d + uptoBulkAll r
def uptoBulkEntries {H : Type} : List (Lit × DataW H) → Nat
  | [] => 0
  | x :: r => uptoBulkEntry x + uptoBulkEntries r
def uptoBulkEntry {H : Type} : Lit × DataW H → Nat
  | (.string bytes, d) => bytes.length + uptoBulk d + 1
  | (_, d) => uptoBulk d + 1
 end
def uptoSmall : (H : Type) → List (DataW H) → Bool := fun _ ds => decide (uptoBulkAll ds ≤ 1048576)
def OpenSpec.upto (s : _root_.Go.ChangeSpec) : _root_.Go.OpenSpec := { _root_.Go.OpenSpec.ofChange s with cond := some uptoSmall }

/-- 'kinlaw4.UnitMakes', WHERE WHAT IT READS IS OF BULK AT MOST 1048576: true; the input reads as it did. -/
def unitMakesUptoRow : OpenClaim := { program := "ytkjllhphpkmaiaadoor", sum := "95551b55d77417ea4c12de73d5e40b6b42b7e30bcf073cdaf6db3a7a7ccecece", func := "kinescope/kinlaw4.UnitMakes", spec := "unitMakes", inPlace := ["internal/reflectlite.ValueOf", "(internal/reflectlite.Value).Type", "(internal/reflectlite.Value).IsNil", "internal/reflectlite.TypeOf", "(internal/reflectlite.Value).Elem", "(internal/reflectlite.Value).Set"], unfollowed := true, recurses := true, named := ["kinescope/unit.nibbles", "errors.errorType"], apart := false, laid := [("errors.errorType", laid_errors_errorType), ("kinescope/unit.nibbles", laid_kinescope_unit_nibbles)], narrowed := true }
def UnitMakesUptoSaid : Prop := unitMakesUptoRow.holds Tryd.pinned (OpenSpec.upto unitMakesSpec)

/-- 'kinlaw4.UnitLong', WHERE WHAT IT READS IS OF BULK AT MOST 1048576: true; the input reads as it did. -/
def unitLongUptoRow : OpenClaim := { program := "ytkjllhphpkmaiaadoor", sum := "95551b55d77417ea4c12de73d5e40b6b42b7e30bcf073cdaf6db3a7a7ccecece", func := "kinescope/kinlaw4.UnitLong", spec := "unitLong", inPlace := ["internal/reflectlite.ValueOf", "(internal/reflectlite.Value).Type", "(internal/reflectlite.Value).IsNil", "internal/reflectlite.TypeOf", "(internal/reflectlite.Value).Elem", "(internal/reflectlite.Value).Set"], unfollowed := true, recurses := true, named := ["kinescope/unit.nibbles", "errors.errorType"], apart := false, laid := [("errors.errorType", laid_errors_errorType), ("kinescope/unit.nibbles", laid_kinescope_unit_nibbles)], narrowed := true }
def UnitLongUptoSaid : Prop := unitLongUptoRow.holds Tryd.pinned (OpenSpec.upto unitLongSpec)

/-- 'kinlaw4.UnitNexts', WHERE WHAT IT READS IS OF BULK AT MOST 1048576: true; the input reads as it did. -/
def unitNextsUptoRow : OpenClaim := { program := "ytkjllhphpkmaiaadoor", sum := "95551b55d77417ea4c12de73d5e40b6b42b7e30bcf073cdaf6db3a7a7ccecece", func := "kinescope/kinlaw4.UnitNexts", spec := "unitNexts", inPlace := ["internal/reflectlite.ValueOf", "(internal/reflectlite.Value).Type", "(internal/reflectlite.Value).IsNil", "internal/reflectlite.TypeOf", "(internal/reflectlite.Value).Elem", "(internal/reflectlite.Value).Set"], unfollowed := true, recurses := true, named := ["kinescope/unit.nibbles", "errors.errorType"], apart := false, laid := [("errors.errorType", laid_errors_errorType), ("kinescope/unit.nibbles", laid_kinescope_unit_nibbles)], narrowed := true }
def UnitNextsUptoSaid : Prop := unitNextsUptoRow.holds Tryd.pinned (OpenSpec.upto unitNextsSpec)

/-- 'kinlaw4.UnitSplits', WHERE WHAT IT READS IS OF BULK AT MOST 1048576: true; the input reads as it did. -/
def unitSplitsUptoRow : OpenClaim := { program := "ytkjllhphpkmaiaadoor", sum := "95551b55d77417ea4c12de73d5e40b6b42b7e30bcf073cdaf6db3a7a7ccecece", func := "kinescope/kinlaw4.UnitSplits", spec := "unitSplits", inPlace := ["internal/reflectlite.ValueOf", "(internal/reflectlite.Value).Type", "(internal/reflectlite.Value).IsNil", "internal/reflectlite.TypeOf", "(internal/reflectlite.Value).Elem", "(internal/reflectlite.Value).Set"], unfollowed := true, recurses := true, named := ["kinescope/unit.nibbles", "errors.errorType"], apart := false, laid := [("errors.errorType", laid_errors_errorType), ("kinescope/unit.nibbles", laid_kinescope_unit_nibbles)], narrowed := true }
def UnitSplitsUptoSaid : Prop := unitSplitsUptoRow.holds Tryd.pinned (OpenSpec.upto unitSplitsSpec)

/-- 'kinlaw4.UnitBack', WHERE WHAT IT READS IS OF BULK AT MOST 1048576: true; the input reads as it did. -/
def unitBackUptoRow : OpenClaim := { program := "ytkjllhphpkmaiaadoor", sum := "95551b55d77417ea4c12de73d5e40b6b42b7e30bcf073cdaf6db3a7a7ccecece", func := "kinescope/kinlaw4.UnitBack", spec := "unitBack", inPlace := ["internal/reflectlite.ValueOf", "(internal/reflectlite.Value).Type", "(internal/reflectlite.Value).IsNil", "internal/reflectlite.TypeOf", "(internal/reflectlite.Value).Elem", "(internal/reflectlite.Value).Set"], unfollowed := true, recurses := true, named := ["kinescope/unit.nibbles", "errors.errorType"], apart := false, laid := [("errors.errorType", laid_errors_errorType), ("kinescope/unit.nibbles", laid_kinescope_unit_nibbles)], narrowed := true }
def UnitBackUptoSaid : Prop := unitBackUptoRow.holds Tryd.pinned (OpenSpec.upto unitBackSpec)

/-- 'kinlaw4.UnitTurned', WHERE WHAT IT READS IS OF BULK AT MOST 1048576: true; the input reads as it did. -/
def unitTurnedUptoRow : OpenClaim := { program := "ytkjllhphpkmaiaadoor", sum := "95551b55d77417ea4c12de73d5e40b6b42b7e30bcf073cdaf6db3a7a7ccecece", func := "kinescope/kinlaw4.UnitTurned", spec := "unitTurned", inPlace := ["internal/reflectlite.ValueOf", "(internal/reflectlite.Value).Type", "(internal/reflectlite.Value).IsNil", "internal/reflectlite.TypeOf", "(internal/reflectlite.Value).Elem", "(internal/reflectlite.Value).Set"], unfollowed := true, recurses := true, named := ["kinescope/unit.nibbles", "errors.errorType"], apart := false, laid := [("errors.errorType", laid_errors_errorType), ("kinescope/unit.nibbles", laid_kinescope_unit_nibbles)], narrowed := true }
def UnitTurnedUptoSaid : Prop := unitTurnedUptoRow.holds Tryd.pinned (OpenSpec.upto unitTurnedSpec)

/-- 'kinlaw4.UnitJoins', WHERE WHAT IT READS IS OF BULK AT MOST 1048576: true; the input reads as it did. -/
def unitJoinsUptoRow : OpenClaim := { program := "ytkjllhphpkmaiaadoor", sum := "95551b55d77417ea4c12de73d5e40b6b42b7e30bcf073cdaf6db3a7a7ccecece", func := "kinescope/kinlaw4.UnitJoins", spec := "unitJoins", inPlace := ["internal/reflectlite.ValueOf", "(internal/reflectlite.Value).Type", "(internal/reflectlite.Value).IsNil", "internal/reflectlite.TypeOf", "(internal/reflectlite.Value).Elem", "(internal/reflectlite.Value).Set"], unfollowed := true, recurses := true, named := ["kinescope/unit.nibbles", "errors.errorType"], apart := false, laid := [("errors.errorType", laid_errors_errorType), ("kinescope/unit.nibbles", laid_kinescope_unit_nibbles)], narrowed := true }
def UnitJoinsUptoSaid : Prop := unitJoinsUptoRow.holds Tryd.pinned (OpenSpec.upto unitJoinsSpec)

end Rows
end Go.Proofs.YtkjllhphpkmaiaaDoor
