/-
  NARROWER THAN 'FOR EVERY INPUT', by the rows' own cells (each row's printed sentence says how): LogPacks: laid · LogScans: laid · LogKeys: laid · LogBack: laid · LogAgain: laid · LogJoins: laid.
  DERIVED. THE GIVEN ROWS OF THIS SEAT. 6 by the template 'for every input the law returns true; each argument reads behind the call as it read before'; 0 by the template 'total and deterministic' (their statements: YtmphochnmdmioaaDoorTotals.lean).
  GIVEN WITH THE SEED: the statements are not yours to turn. If you find one false, say at which input.
  Laid BY PROGRAM, IN A SANDBOX (cutbox-rows.mjs): the forced cells as the released guide's own fill.sh prints them over the translation 6555711e57650f59… (all of the seat's roots in one cut). By AI agents, Wed Nov 11 2026. No macro, syntax, notation, axiom, sorry.
-/
import Derived.Test.YtmphochnmdmioaaDoorChecked
import GoSem.Claim
import GoSem.ClaimJoined
import GoSem.ClaimMapViews
import Derived.JoinedTies
import Derived.KernelRfl
namespace Go.Proofs.YtmphochnmdmioaaDoor
/- THE CELL 'sum', in the pinned program and in every row, IS THE sha256 OF THE DUMP (.gsa) THAT YtmphochnmdmioaaDoorProg.lean LOADS. Nothing in Lean hashes anything: it is a label: what it is worth is what the hold of that sum in a sandbox is worth. -/
noncomputable def Tryd.pinned : Pinned := { name := "ytmphochnmdmioaadoor", sum := "6555711e57650f59a3404cf53104517c8a7663432351b0802d24ac0a58e9fd76", checked := Tryd.checked }
namespace Rows
def none {H : Type} : Left H := { results := [], args := [] }

/- WHAT THE LISTED PACKAGE-LEVEL VARIABLES READ AS WHEN THE CALL BEGINS. Each datum BY PROGRAM (the guide's laid-datum.mjs) off the statement by which the dump's own 'gosem.cut.vars' lays the variable. In a bare row this is a premise. The card (YtmphochnmdmioaaDoorCards.lean) ties it to the program's text. -/
def laid_errors_errorType {H : Type} : DataW H := .iface "internal/reflectlite.rtype" (.agg [.ptr (.lit (.string [101, 114, 114, 111, 114]))])
def laid_kinescope_unit_nibbles {H : Type} : DataW H := .agg [.lit (.int .u32 0), .lit (.int .u32 498536548), .lit (.int .u32 997073096), .lit (.int .u32 651767980), .lit (.int .u32 1994146192), .lit (.int .u32 1802195444), .lit (.int .u32 1303535960), .lit (.int .u32 1342533948), .lit (.int .u32 3988292384), .lit (.int .u32 4027552580), .lit (.int .u32 3604390888), .lit (.int .u32 3412177804), .lit (.int .u32 2607071920), .lit (.int .u32 2262029012), .lit (.int .u32 2685067896), .lit (.int .u32 3183342108)]

/-- 'kinlaw26.LogPacks': WHATEVER THE INPUT: true; the input reads as it did. -/
def logPacksSpec : ChangeSpec := { name := "logPacks", fn := fun _ => fun
  | [d1, d2] => { results := [.lit (.bool true)], args := [d1, d2] }
  | _ => none }
def logPacksRow : OpenClaim := { program := "ytmphochnmdmioaadoor", sum := "6555711e57650f59a3404cf53104517c8a7663432351b0802d24ac0a58e9fd76", func := "kinescope/kinlaw26.LogPacks", spec := "logPacks", inPlace := ["internal/reflectlite.ValueOf", "(internal/reflectlite.Value).Type", "(internal/reflectlite.Value).IsNil", "internal/reflectlite.TypeOf", "(internal/reflectlite.Value).Elem", "(internal/reflectlite.Value).Set"], unfollowed := true, recurses := true, named := ["kinescope/unit.nibbles", "errors.errorType"], apart := false, laid := [("errors.errorType", laid_errors_errorType), ("kinescope/unit.nibbles", laid_kinescope_unit_nibbles)] }
def LogPacksSaid : Prop := logPacksRow.holds Tryd.pinned (OpenSpec.ofChange logPacksSpec)

/-- ITS FALSE NEIGHBOUR: 'it returns false'. Refute it at one input. -/
def logPacksWrong : ChangeSpec := { name := "logPacks", fn := fun _ => fun
  | [d1, d2] => { results := [.lit (.bool false)], args := [d1, d2] }
  | _ => none }
def LogPacksWrongFalsely : Prop := logPacksRow.holds Tryd.pinned (OpenSpec.ofChange logPacksWrong)

/-- 'kinlaw26.LogScans': WHATEVER THE INPUT: true; the input reads as it did. -/
def logScansSpec : ChangeSpec := { name := "logScans", fn := fun _ => fun
  | [d] => { results := [.lit (.bool true)], args := [d] }
  | _ => none }
def logScansRow : OpenClaim := { program := "ytmphochnmdmioaadoor", sum := "6555711e57650f59a3404cf53104517c8a7663432351b0802d24ac0a58e9fd76", func := "kinescope/kinlaw26.LogScans", spec := "logScans", inPlace := ["internal/reflectlite.ValueOf", "(internal/reflectlite.Value).Type", "(internal/reflectlite.Value).IsNil", "internal/reflectlite.TypeOf", "(internal/reflectlite.Value).Elem", "(internal/reflectlite.Value).Set"], unfollowed := true, recurses := true, named := ["kinescope/unit.nibbles", "errors.errorType"], apart := false, laid := [("errors.errorType", laid_errors_errorType), ("kinescope/unit.nibbles", laid_kinescope_unit_nibbles)] }
def LogScansSaid : Prop := logScansRow.holds Tryd.pinned (OpenSpec.ofChange logScansSpec)

/-- ITS FALSE NEIGHBOUR: 'it returns false'. Refute it at one input. -/
def logScansWrong : ChangeSpec := { name := "logScans", fn := fun _ => fun
  | [d] => { results := [.lit (.bool false)], args := [d] }
  | _ => none }
def LogScansWrongFalsely : Prop := logScansRow.holds Tryd.pinned (OpenSpec.ofChange logScansWrong)

/-- 'kinlaw26.LogKeys': WHATEVER THE INPUT: true; the input reads as it did. -/
def logKeysSpec : ChangeSpec := { name := "logKeys", fn := fun _ => fun
  | [d1, d2] => { results := [.lit (.bool true)], args := [d1, d2] }
  | _ => none }
def logKeysRow : OpenClaim := { program := "ytmphochnmdmioaadoor", sum := "6555711e57650f59a3404cf53104517c8a7663432351b0802d24ac0a58e9fd76", func := "kinescope/kinlaw26.LogKeys", spec := "logKeys", inPlace := ["internal/reflectlite.ValueOf", "(internal/reflectlite.Value).Type", "(internal/reflectlite.Value).IsNil", "internal/reflectlite.TypeOf", "(internal/reflectlite.Value).Elem", "(internal/reflectlite.Value).Set"], unfollowed := true, recurses := true, named := ["kinescope/unit.nibbles", "errors.errorType"], apart := false, laid := [("errors.errorType", laid_errors_errorType), ("kinescope/unit.nibbles", laid_kinescope_unit_nibbles)] }
def LogKeysSaid : Prop := logKeysRow.holds Tryd.pinned (OpenSpec.ofChange logKeysSpec)

/-- ITS FALSE NEIGHBOUR: 'it returns false'. Refute it at one input. -/
def logKeysWrong : ChangeSpec := { name := "logKeys", fn := fun _ => fun
  | [d1, d2] => { results := [.lit (.bool false)], args := [d1, d2] }
  | _ => none }
def LogKeysWrongFalsely : Prop := logKeysRow.holds Tryd.pinned (OpenSpec.ofChange logKeysWrong)

/-- 'kinlaw26.LogBack': WHATEVER THE INPUT: true; the input reads as it did. -/
def logBackSpec : ChangeSpec := { name := "logBack", fn := fun _ => fun
  | [d1, d2] => { results := [.lit (.bool true)], args := [d1, d2] }
  | _ => none }
def logBackRow : OpenClaim := { program := "ytmphochnmdmioaadoor", sum := "6555711e57650f59a3404cf53104517c8a7663432351b0802d24ac0a58e9fd76", func := "kinescope/kinlaw26.LogBack", spec := "logBack", inPlace := ["internal/reflectlite.ValueOf", "(internal/reflectlite.Value).Type", "(internal/reflectlite.Value).IsNil", "internal/reflectlite.TypeOf", "(internal/reflectlite.Value).Elem", "(internal/reflectlite.Value).Set"], unfollowed := true, recurses := true, named := ["kinescope/unit.nibbles", "errors.errorType"], apart := false, laid := [("errors.errorType", laid_errors_errorType), ("kinescope/unit.nibbles", laid_kinescope_unit_nibbles)] }
def LogBackSaid : Prop := logBackRow.holds Tryd.pinned (OpenSpec.ofChange logBackSpec)

/-- ITS FALSE NEIGHBOUR: 'it returns false'. Refute it at one input. -/
def logBackWrong : ChangeSpec := { name := "logBack", fn := fun _ => fun
  | [d1, d2] => { results := [.lit (.bool false)], args := [d1, d2] }
  | _ => none }
def LogBackWrongFalsely : Prop := logBackRow.holds Tryd.pinned (OpenSpec.ofChange logBackWrong)

/-- 'kinlaw26.LogAgain': WHATEVER THE INPUT: true; the input reads as it did. -/
def logAgainSpec : ChangeSpec := { name := "logAgain", fn := fun _ => fun
  | [d] => { results := [.lit (.bool true)], args := [d] }
  | _ => none }
def logAgainRow : OpenClaim := { program := "ytmphochnmdmioaadoor", sum := "6555711e57650f59a3404cf53104517c8a7663432351b0802d24ac0a58e9fd76", func := "kinescope/kinlaw26.LogAgain", spec := "logAgain", inPlace := ["internal/reflectlite.ValueOf", "(internal/reflectlite.Value).Type", "(internal/reflectlite.Value).IsNil", "internal/reflectlite.TypeOf", "(internal/reflectlite.Value).Elem", "(internal/reflectlite.Value).Set"], unfollowed := true, recurses := true, named := ["kinescope/unit.nibbles", "errors.errorType"], apart := false, laid := [("errors.errorType", laid_errors_errorType), ("kinescope/unit.nibbles", laid_kinescope_unit_nibbles)] }
def LogAgainSaid : Prop := logAgainRow.holds Tryd.pinned (OpenSpec.ofChange logAgainSpec)

/-- ITS FALSE NEIGHBOUR: 'it returns false'. Refute it at one input. -/
def logAgainWrong : ChangeSpec := { name := "logAgain", fn := fun _ => fun
  | [d] => { results := [.lit (.bool false)], args := [d] }
  | _ => none }
def LogAgainWrongFalsely : Prop := logAgainRow.holds Tryd.pinned (OpenSpec.ofChange logAgainWrong)

/-- 'kinlaw26.LogJoins': WHATEVER THE INPUT: true; the input reads as it did. -/
def logJoinsSpec : ChangeSpec := { name := "logJoins", fn := fun _ => fun
  | [d1, d2] => { results := [.lit (.bool true)], args := [d1, d2] }
  | _ => none }
def logJoinsRow : OpenClaim := { program := "ytmphochnmdmioaadoor", sum := "6555711e57650f59a3404cf53104517c8a7663432351b0802d24ac0a58e9fd76", func := "kinescope/kinlaw26.LogJoins", spec := "logJoins", inPlace := ["internal/reflectlite.ValueOf", "(internal/reflectlite.Value).Type", "(internal/reflectlite.Value).IsNil", "internal/reflectlite.TypeOf", "(internal/reflectlite.Value).Elem", "(internal/reflectlite.Value).Set"], unfollowed := true, recurses := true, named := ["kinescope/unit.nibbles", "errors.errorType"], apart := false, laid := [("errors.errorType", laid_errors_errorType), ("kinescope/unit.nibbles", laid_kinescope_unit_nibbles)] }
def LogJoinsSaid : Prop := logJoinsRow.holds Tryd.pinned (OpenSpec.ofChange logJoinsSpec)

/-- ITS FALSE NEIGHBOUR: 'it returns false'. Refute it at one input. -/
def logJoinsWrong : ChangeSpec := { name := "logJoins", fn := fun _ => fun
  | [d1, d2] => { results := [.lit (.bool false)], args := [d1, d2] }
  | _ => none }
def LogJoinsWrongFalsely : Prop := logJoinsRow.holds Tryd.pinned (OpenSpec.ofChange logJoinsWrong)

/- THE SECOND FORM. 'bulk': how many values and letters a reading holds, each counted each time it is reached (what is shared counts as often as it is met; a slice's spare places count too). A statement '..UptoSaid' is the law's where the arguments, and the package variables that the reading takes, are together of bulk at most 1048576: NARROWER than '..Said'. Prove '..Said' where nothing that the law and all that it calls make is longer than what came in: it says more and counts as full. Else prove '..UptoSaid'. A law counts once. -/
mutual
def uptoBulk {H : Type} : DataW H → Nat
  | .lit (.string bytes) => bytes.length + 1
  | .lit _ => 1
  | .nil => 1
  | .ptr d => uptoBulk d + 1
  | .slice elems spare => uptoBulkAll elems + uptoBulkAll spare + 1
  | .agg parts => uptoBulkAll parts + 1
  | .iface _ d => uptoBulk d + 1
  | .map entries => uptoBulkEntries entries + 1
  | .held _ => 1
def uptoBulkAll {H : Type} : List (DataW H) → Nat
  | [] => 0
  | d :: r => uptoBulk d + uptoBulkAll r
def uptoBulkEntries {H : Type} : List (Lit × DataW H) → Nat
  | [] => 0
  | x :: r => uptoBulkEntry x + uptoBulkEntries r
def uptoBulkEntry {H : Type} : Lit × DataW H → Nat
  | (.string bytes, d) => bytes.length + uptoBulk d + 1
  | (_, d) => uptoBulk d + 1
 end
def uptoSmall : (H : Type) → List (DataW H) → Bool := fun _ ds => decide (uptoBulkAll ds ≤ 1048576)
def OpenSpec.upto (s : _root_.Go.ChangeSpec) : _root_.Go.OpenSpec := { _root_.Go.OpenSpec.ofChange s with cond := some uptoSmall }

/-- 'kinlaw26.LogPacks', WHERE WHAT IT READS IS OF BULK AT MOST 1048576: true; the input reads as it did. -/
def logPacksUptoRow : OpenClaim := { program := "ytmphochnmdmioaadoor", sum := "6555711e57650f59a3404cf53104517c8a7663432351b0802d24ac0a58e9fd76", func := "kinescope/kinlaw26.LogPacks", spec := "logPacks", inPlace := ["internal/reflectlite.ValueOf", "(internal/reflectlite.Value).Type", "(internal/reflectlite.Value).IsNil", "internal/reflectlite.TypeOf", "(internal/reflectlite.Value).Elem", "(internal/reflectlite.Value).Set"], unfollowed := true, recurses := true, named := ["kinescope/unit.nibbles", "errors.errorType"], apart := false, laid := [("errors.errorType", laid_errors_errorType), ("kinescope/unit.nibbles", laid_kinescope_unit_nibbles)], narrowed := true }
def LogPacksUptoSaid : Prop := logPacksUptoRow.holds Tryd.pinned (OpenSpec.upto logPacksSpec)

/-- 'kinlaw26.LogScans', WHERE WHAT IT READS IS OF BULK AT MOST 1048576: true; the input reads as it did. -/
def logScansUptoRow : OpenClaim := { program := "ytmphochnmdmioaadoor", sum := "6555711e57650f59a3404cf53104517c8a7663432351b0802d24ac0a58e9fd76", func := "kinescope/kinlaw26.LogScans", spec := "logScans", inPlace := ["internal/reflectlite.ValueOf", "(internal/reflectlite.Value).Type", "(internal/reflectlite.Value).IsNil", "internal/reflectlite.TypeOf", "(internal/reflectlite.Value).Elem", "(internal/reflectlite.Value).Set"], unfollowed := true, recurses := true, named := ["kinescope/unit.nibbles", "errors.errorType"], apart := false, laid := [("errors.errorType", laid_errors_errorType), ("kinescope/unit.nibbles", laid_kinescope_unit_nibbles)], narrowed := true }
def LogScansUptoSaid : Prop := logScansUptoRow.holds Tryd.pinned (OpenSpec.upto logScansSpec)

/-- 'kinlaw26.LogKeys', WHERE WHAT IT READS IS OF BULK AT MOST 1048576: true; the input reads as it did. -/
def logKeysUptoRow : OpenClaim := { program := "ytmphochnmdmioaadoor", sum := "6555711e57650f59a3404cf53104517c8a7663432351b0802d24ac0a58e9fd76", func := "kinescope/kinlaw26.LogKeys", spec := "logKeys", inPlace := ["internal/reflectlite.ValueOf", "(internal/reflectlite.Value).Type", "(internal/reflectlite.Value).IsNil", "internal/reflectlite.TypeOf", "(internal/reflectlite.Value).Elem", "(internal/reflectlite.Value).Set"], unfollowed := true, recurses := true, named := ["kinescope/unit.nibbles", "errors.errorType"], apart := false, laid := [("errors.errorType", laid_errors_errorType), ("kinescope/unit.nibbles", laid_kinescope_unit_nibbles)], narrowed := true }
def LogKeysUptoSaid : Prop := logKeysUptoRow.holds Tryd.pinned (OpenSpec.upto logKeysSpec)

/-- 'kinlaw26.LogBack', WHERE WHAT IT READS IS OF BULK AT MOST 1048576: true; the input reads as it did. -/
def logBackUptoRow : OpenClaim := { program := "ytmphochnmdmioaadoor", sum := "6555711e57650f59a3404cf53104517c8a7663432351b0802d24ac0a58e9fd76", func := "kinescope/kinlaw26.LogBack", spec := "logBack", inPlace := ["internal/reflectlite.ValueOf", "(internal/reflectlite.Value).Type", "(internal/reflectlite.Value).IsNil", "internal/reflectlite.TypeOf", "(internal/reflectlite.Value).Elem", "(internal/reflectlite.Value).Set"], unfollowed := true, recurses := true, named := ["kinescope/unit.nibbles", "errors.errorType"], apart := false, laid := [("errors.errorType", laid_errors_errorType), ("kinescope/unit.nibbles", laid_kinescope_unit_nibbles)], narrowed := true }
def LogBackUptoSaid : Prop := logBackUptoRow.holds Tryd.pinned (OpenSpec.upto logBackSpec)

/-- 'kinlaw26.LogAgain', WHERE WHAT IT READS IS OF BULK AT MOST 1048576: true; the input reads as it did. -/
def logAgainUptoRow : OpenClaim := { program := "ytmphochnmdmioaadoor", sum := "6555711e57650f59a3404cf53104517c8a7663432351b0802d24ac0a58e9fd76", func := "kinescope/kinlaw26.LogAgain", spec := "logAgain", inPlace := ["internal/reflectlite.ValueOf", "(internal/reflectlite.Value).Type", "(internal/reflectlite.Value).IsNil", "internal/reflectlite.TypeOf", "(internal/reflectlite.Value).Elem", "(internal/reflectlite.Value).Set"], unfollowed := true, recurses := true, named := ["kinescope/unit.nibbles", "errors.errorType"], apart := false, laid := [("errors.errorType", laid_errors_errorType), ("kinescope/unit.nibbles", laid_kinescope_unit_nibbles)], narrowed := true }
def LogAgainUptoSaid : Prop := logAgainUptoRow.holds Tryd.pinned (OpenSpec.upto logAgainSpec)

/-- 'kinlaw26.LogJoins', WHERE WHAT IT READS IS OF BULK AT MOST 1048576: true; the input reads as it did. -/
def logJoinsUptoRow : OpenClaim := { program := "ytmphochnmdmioaadoor", sum := "6555711e57650f59a3404cf53104517c8a7663432351b0802d24ac0a58e9fd76", func := "kinescope/kinlaw26.LogJoins", spec := "logJoins", inPlace := ["internal/reflectlite.ValueOf", "(internal/reflectlite.Value).Type", "(internal/reflectlite.Value).IsNil", "internal/reflectlite.TypeOf", "(internal/reflectlite.Value).Elem", "(internal/reflectlite.Value).Set"], unfollowed := true, recurses := true, named := ["kinescope/unit.nibbles", "errors.errorType"], apart := false, laid := [("errors.errorType", laid_errors_errorType), ("kinescope/unit.nibbles", laid_kinescope_unit_nibbles)], narrowed := true }
def LogJoinsUptoSaid : Prop := logJoinsUptoRow.holds Tryd.pinned (OpenSpec.upto logJoinsSpec)

end Rows
end Go.Proofs.YtmphochnmdmioaaDoor
