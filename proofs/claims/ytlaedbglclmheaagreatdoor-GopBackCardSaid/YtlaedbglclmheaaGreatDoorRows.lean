/-
  NARROWER THAN 'FOR EVERY INPUT', by the rows' own cells (each row's printed sentence says how): GopPacks: laid · GopParses: laid · GopBack: laid · GopSums: laid · BoxMuxes: laid · BoxOpens: laid · BoxAlone: laid.
  DERIVED. THE GIVEN ROWS OF THIS SEAT. 7 by the template 'for every input the law returns true; each argument reads behind the call as it read before'; 0 by the template 'total and deterministic' (their statements: YtlaedbglclmheaaGreatDoorTotals.lean).
  GIVEN WITH THE SEED: the statements are not yours to turn. If you find one false, say at which input.
  Laid BY PROGRAM, IN A SANDBOX (cutbox-rows.mjs): the forced cells as the released guide's own fill.sh prints them over the translation fe3a6c6e7a683e6d… (all of the seat's roots in one cut). By AI agents, Wed Nov 11 2026. No macro, syntax, notation, axiom, sorry.
-/
import Derived.Test.YtlaedbglclmheaaGreatDoorChecked
import GoSem.PinnedTables
import GoSem.Claim
import GoSem.ClaimJoined
import GoSem.ClaimMapViews
import Derived.JoinedTies
import Derived.KernelRfl
namespace Go.Proofs.YtlaedbglclmheaaGreatDoor
/- THE CELL 'sum', in the pinned program and in every row, IS THE sha256 OF THE DUMP (.gsa) THAT YtlaedbglclmheaaGreatDoorProg.lean LOADS. Nothing in Lean hashes anything: it is a label: what it is worth is what the hold of that sum in a sandbox is worth. -/
noncomputable def Tryz.pinned : Pinned := { name := "ytlaedbglclmheaagreatdoor", sum := "fe3a6c6e7a683e6d882b1836c7f51053b4c1341d834a2688af8675b7b813a4aa", checked := Tryz.checked }
namespace Rows
def none {H : Type} : Left H := { results := [], args := [] }

/- WHAT THE LISTED PACKAGE-LEVEL VARIABLES READ AS WHEN THE CALL BEGINS. Each datum BY PROGRAM (the guide's laid-datum.mjs) off the statement by which the dump's own 'gosem.cut.vars' lays the variable. In a bare row this is a premise. The card (YtlaedbglclmheaaGreatDoorCards.lean) ties it to the program's text. -/
def laid_unicode_utf8_acceptRanges {H : Type} : DataW H := .agg [.agg [.lit (.int .u8 128), .lit (.int .u8 191)], .agg [.lit (.int .u8 160), .lit (.int .u8 191)], .agg [.lit (.int .u8 128), .lit (.int .u8 159)], .agg [.lit (.int .u8 144), .lit (.int .u8 191)], .agg [.lit (.int .u8 128), .lit (.int .u8 143)], .agg [.lit (.int .u8 0), .lit (.int .u8 0)], .agg [.lit (.int .u8 0), .lit (.int .u8 0)], .agg [.lit (.int .u8 0), .lit (.int .u8 0)], .agg [.lit (.int .u8 0), .lit (.int .u8 0)], .agg [.lit (.int .u8 0), .lit (.int .u8 0)], .agg [.lit (.int .u8 0), .lit (.int .u8 0)], .agg [.lit (.int .u8 0), .lit (.int .u8 0)], .agg [.lit (.int .u8 0), .lit (.int .u8 0)], .agg [.lit (.int .u8 0), .lit (.int .u8 0)], .agg [.lit (.int .u8 0), .lit (.int .u8 0)], .agg [.lit (.int .u8 0), .lit (.int .u8 0)]]
def laid_errors_errorType {H : Type} : DataW H := .iface "internal/reflectlite.rtype" (.agg [.ptr (.lit (.string [101, 114, 114, 111, 114]))])
def laid_kinescope_unit_nibbles {H : Type} : DataW H := .agg [.lit (.int .u32 0), .lit (.int .u32 498536548), .lit (.int .u32 997073096), .lit (.int .u32 651767980), .lit (.int .u32 1994146192), .lit (.int .u32 1802195444), .lit (.int .u32 1303535960), .lit (.int .u32 1342533948), .lit (.int .u32 3988292384), .lit (.int .u32 4027552580), .lit (.int .u32 3604390888), .lit (.int .u32 3412177804), .lit (.int .u32 2607071920), .lit (.int .u32 2262029012), .lit (.int .u32 2685067896), .lit (.int .u32 3183342108)]
/-- One of Go's own tables, pinned by name: the form's constant. -/
def laid_unicode_utf8_first : DataW Unit := Go.Pinned.utf8First

/-- 'kinlaw23.GopPacks': WHATEVER THE INPUT: true; the input reads as it did. -/
def gopPacksSpec : ChangeSpec := { name := "gopPacks", fn := fun _ => fun
  | [d] => { results := [.lit (.bool true)], args := [d] }
  | _ => none }
def gopPacksRow : OpenClaim := { program := "ytlaedbglclmheaagreatdoor", sum := "fe3a6c6e7a683e6d882b1836c7f51053b4c1341d834a2688af8675b7b813a4aa", func := "kinescope/kinlaw23.GopPacks", spec := "gopPacks", inPlace := ["slices.overlaps[func() (kinescope/encode.choice, error)]", "internal/reflectlite.ValueOf", "(internal/reflectlite.Value).Type", "(internal/reflectlite.Value).IsNil", "internal/reflectlite.TypeOf", "(internal/reflectlite.Value).Elem", "(internal/reflectlite.Value).Set"], unfollowed := true, recurses := true, named := ["unicode/utf8.first", "unicode/utf8.acceptRanges", "kinescope/unit.nibbles", "errors.errorType"], apart := false, laid := [("unicode/utf8.acceptRanges", laid_unicode_utf8_acceptRanges), ("errors.errorType", laid_errors_errorType), ("kinescope/unit.nibbles", laid_kinescope_unit_nibbles), ("unicode/utf8.first", laid_unicode_utf8_first)] }
def GopPacksSaid : Prop := gopPacksRow.holds Tryz.pinned (OpenSpec.ofChange gopPacksSpec)

/-- ITS FALSE NEIGHBOUR: 'it returns false'. Refute it at one input. -/
def gopPacksWrong : ChangeSpec := { name := "gopPacks", fn := fun _ => fun
  | [d] => { results := [.lit (.bool false)], args := [d] }
  | _ => none }
def GopPacksWrongFalsely : Prop := gopPacksRow.holds Tryz.pinned (OpenSpec.ofChange gopPacksWrong)

/-- 'kinlaw23.GopParses': WHATEVER THE INPUT: true; the input reads as it did. -/
def gopParsesSpec : ChangeSpec := { name := "gopParses", fn := fun _ => fun
  | [d] => { results := [.lit (.bool true)], args := [d] }
  | _ => none }
def gopParsesRow : OpenClaim := { program := "ytlaedbglclmheaagreatdoor", sum := "fe3a6c6e7a683e6d882b1836c7f51053b4c1341d834a2688af8675b7b813a4aa", func := "kinescope/kinlaw23.GopParses", spec := "gopParses", inPlace := ["slices.overlaps[func() (kinescope/encode.choice, error)]", "internal/reflectlite.ValueOf", "(internal/reflectlite.Value).Type", "(internal/reflectlite.Value).IsNil", "internal/reflectlite.TypeOf", "(internal/reflectlite.Value).Elem", "(internal/reflectlite.Value).Set"], unfollowed := true, recurses := true, named := ["unicode/utf8.first", "unicode/utf8.acceptRanges", "kinescope/unit.nibbles", "errors.errorType"], apart := false, laid := [("unicode/utf8.acceptRanges", laid_unicode_utf8_acceptRanges), ("errors.errorType", laid_errors_errorType), ("kinescope/unit.nibbles", laid_kinescope_unit_nibbles), ("unicode/utf8.first", laid_unicode_utf8_first)] }
def GopParsesSaid : Prop := gopParsesRow.holds Tryz.pinned (OpenSpec.ofChange gopParsesSpec)

/-- ITS FALSE NEIGHBOUR: 'it returns false'. Refute it at one input. -/
def gopParsesWrong : ChangeSpec := { name := "gopParses", fn := fun _ => fun
  | [d] => { results := [.lit (.bool false)], args := [d] }
  | _ => none }
def GopParsesWrongFalsely : Prop := gopParsesRow.holds Tryz.pinned (OpenSpec.ofChange gopParsesWrong)

/-- 'kinlaw23.GopBack': WHATEVER THE INPUT: true; the input reads as it did. -/
def gopBackSpec : ChangeSpec := { name := "gopBack", fn := fun _ => fun
  | [d1, d2] => { results := [.lit (.bool true)], args := [d1, d2] }
  | _ => none }
def gopBackRow : OpenClaim := { program := "ytlaedbglclmheaagreatdoor", sum := "fe3a6c6e7a683e6d882b1836c7f51053b4c1341d834a2688af8675b7b813a4aa", func := "kinescope/kinlaw23.GopBack", spec := "gopBack", inPlace := ["slices.overlaps[func() (kinescope/encode.choice, error)]", "internal/reflectlite.ValueOf", "(internal/reflectlite.Value).Type", "(internal/reflectlite.Value).IsNil", "internal/reflectlite.TypeOf", "(internal/reflectlite.Value).Elem", "(internal/reflectlite.Value).Set"], unfollowed := true, recurses := true, named := ["unicode/utf8.first", "unicode/utf8.acceptRanges", "kinescope/unit.nibbles", "errors.errorType"], apart := false, laid := [("unicode/utf8.acceptRanges", laid_unicode_utf8_acceptRanges), ("errors.errorType", laid_errors_errorType), ("kinescope/unit.nibbles", laid_kinescope_unit_nibbles), ("unicode/utf8.first", laid_unicode_utf8_first)] }
def GopBackSaid : Prop := gopBackRow.holds Tryz.pinned (OpenSpec.ofChange gopBackSpec)

/-- ITS FALSE NEIGHBOUR: 'it returns false'. Refute it at one input. -/
def gopBackWrong : ChangeSpec := { name := "gopBack", fn := fun _ => fun
  | [d1, d2] => { results := [.lit (.bool false)], args := [d1, d2] }
  | _ => none }
def GopBackWrongFalsely : Prop := gopBackRow.holds Tryz.pinned (OpenSpec.ofChange gopBackWrong)

/-- 'kinlaw23.GopSums': WHATEVER THE INPUT: true; the input reads as it did. -/
def gopSumsSpec : ChangeSpec := { name := "gopSums", fn := fun _ => fun
  | [d] => { results := [.lit (.bool true)], args := [d] }
  | _ => none }
def gopSumsRow : OpenClaim := { program := "ytlaedbglclmheaagreatdoor", sum := "fe3a6c6e7a683e6d882b1836c7f51053b4c1341d834a2688af8675b7b813a4aa", func := "kinescope/kinlaw23.GopSums", spec := "gopSums", inPlace := ["slices.overlaps[func() (kinescope/encode.choice, error)]", "internal/reflectlite.ValueOf", "(internal/reflectlite.Value).Type", "(internal/reflectlite.Value).IsNil", "internal/reflectlite.TypeOf", "(internal/reflectlite.Value).Elem", "(internal/reflectlite.Value).Set"], unfollowed := true, recurses := true, named := ["unicode/utf8.first", "unicode/utf8.acceptRanges", "kinescope/unit.nibbles", "errors.errorType"], apart := false, laid := [("unicode/utf8.acceptRanges", laid_unicode_utf8_acceptRanges), ("errors.errorType", laid_errors_errorType), ("kinescope/unit.nibbles", laid_kinescope_unit_nibbles), ("unicode/utf8.first", laid_unicode_utf8_first)] }
def GopSumsSaid : Prop := gopSumsRow.holds Tryz.pinned (OpenSpec.ofChange gopSumsSpec)

/-- ITS FALSE NEIGHBOUR: 'it returns false'. Refute it at one input. -/
def gopSumsWrong : ChangeSpec := { name := "gopSums", fn := fun _ => fun
  | [d] => { results := [.lit (.bool false)], args := [d] }
  | _ => none }
def GopSumsWrongFalsely : Prop := gopSumsRow.holds Tryz.pinned (OpenSpec.ofChange gopSumsWrong)

/-- 'kinlaw24.BoxMuxes': WHATEVER THE INPUT: true; the input reads as it did. -/
def boxMuxesSpec : ChangeSpec := { name := "boxMuxes", fn := fun _ => fun
  | [d1, d2, d3, d4] => { results := [.lit (.bool true)], args := [d1, d2, d3, d4] }
  | _ => none }
def boxMuxesRow : OpenClaim := { program := "ytlaedbglclmheaagreatdoor", sum := "fe3a6c6e7a683e6d882b1836c7f51053b4c1341d834a2688af8675b7b813a4aa", func := "kinescope/kinlaw24.BoxMuxes", spec := "boxMuxes", inPlace := ["internal/reflectlite.ValueOf", "(internal/reflectlite.Value).Type", "(internal/reflectlite.Value).IsNil", "internal/reflectlite.TypeOf", "(internal/reflectlite.Value).Elem", "(internal/reflectlite.Value).Set"], unfollowed := true, recurses := true, named := ["kinescope/unit.nibbles", "errors.errorType"], apart := false, laid := [("errors.errorType", laid_errors_errorType), ("kinescope/unit.nibbles", laid_kinescope_unit_nibbles)] }
def BoxMuxesSaid : Prop := boxMuxesRow.holds Tryz.pinned (OpenSpec.ofChange boxMuxesSpec)

/-- ITS FALSE NEIGHBOUR: 'it returns false'. Refute it at one input. -/
def boxMuxesWrong : ChangeSpec := { name := "boxMuxes", fn := fun _ => fun
  | [d1, d2, d3, d4] => { results := [.lit (.bool false)], args := [d1, d2, d3, d4] }
  | _ => none }
def BoxMuxesWrongFalsely : Prop := boxMuxesRow.holds Tryz.pinned (OpenSpec.ofChange boxMuxesWrong)

/-- 'kinlaw24.BoxOpens': WHATEVER THE INPUT: true; the input reads as it did. -/
def boxOpensSpec : ChangeSpec := { name := "boxOpens", fn := fun _ => fun
  | [d] => { results := [.lit (.bool true)], args := [d] }
  | _ => none }
def boxOpensRow : OpenClaim := { program := "ytlaedbglclmheaagreatdoor", sum := "fe3a6c6e7a683e6d882b1836c7f51053b4c1341d834a2688af8675b7b813a4aa", func := "kinescope/kinlaw24.BoxOpens", spec := "boxOpens", inPlace := ["internal/reflectlite.ValueOf", "(internal/reflectlite.Value).Type", "(internal/reflectlite.Value).IsNil", "internal/reflectlite.TypeOf", "(internal/reflectlite.Value).Elem", "(internal/reflectlite.Value).Set"], unfollowed := true, recurses := true, named := ["kinescope/unit.nibbles", "errors.errorType"], apart := false, laid := [("errors.errorType", laid_errors_errorType), ("kinescope/unit.nibbles", laid_kinescope_unit_nibbles)] }
def BoxOpensSaid : Prop := boxOpensRow.holds Tryz.pinned (OpenSpec.ofChange boxOpensSpec)

/-- ITS FALSE NEIGHBOUR: 'it returns false'. Refute it at one input. -/
def boxOpensWrong : ChangeSpec := { name := "boxOpens", fn := fun _ => fun
  | [d] => { results := [.lit (.bool false)], args := [d] }
  | _ => none }
def BoxOpensWrongFalsely : Prop := boxOpensRow.holds Tryz.pinned (OpenSpec.ofChange boxOpensWrong)

/-- 'kinlaw24.BoxAlone': WHATEVER THE INPUT: true; the input reads as it did. -/
def boxAloneSpec : ChangeSpec := { name := "boxAlone", fn := fun _ => fun
  | [d] => { results := [.lit (.bool true)], args := [d] }
  | _ => none }
def boxAloneRow : OpenClaim := { program := "ytlaedbglclmheaagreatdoor", sum := "fe3a6c6e7a683e6d882b1836c7f51053b4c1341d834a2688af8675b7b813a4aa", func := "kinescope/kinlaw24.BoxAlone", spec := "boxAlone", inPlace := ["internal/reflectlite.ValueOf", "(internal/reflectlite.Value).Type", "(internal/reflectlite.Value).IsNil", "internal/reflectlite.TypeOf", "(internal/reflectlite.Value).Elem", "(internal/reflectlite.Value).Set"], unfollowed := true, recurses := true, named := ["kinescope/unit.nibbles", "errors.errorType"], apart := false, laid := [("errors.errorType", laid_errors_errorType), ("kinescope/unit.nibbles", laid_kinescope_unit_nibbles)] }
def BoxAloneSaid : Prop := boxAloneRow.holds Tryz.pinned (OpenSpec.ofChange boxAloneSpec)

/-- ITS FALSE NEIGHBOUR: 'it returns false'. Refute it at one input. -/
def boxAloneWrong : ChangeSpec := { name := "boxAlone", fn := fun _ => fun
  | [d] => { results := [.lit (.bool false)], args := [d] }
  | _ => none }
def BoxAloneWrongFalsely : Prop := boxAloneRow.holds Tryz.pinned (OpenSpec.ofChange boxAloneWrong)

/- THE SECOND FORM. 'bulk': how many values and letters a reading holds, each counted each time it is reached (what is shared counts as often as it is met; a slice's spare places count too). A statement '..UptoSaid' is the law's where the arguments, and the package variables that the reading takes, are together of bulk at most 1048576: NARROWER than '..Said'. Prove '..Said' where nothing that the law and all that it calls make is longer than what came in: it says more and counts as full. Else prove '..UptoSaid'. A law counts once. -/
mutual
def uptoBulk {H : Type} : DataW H → Nat
  | .lit (.string bytes) => bytes.length + 1
  | .lit _ => 1
  | .nil => 1
  | .ptr d => uptoBulk d + 1
  | .slice elems spare => uptoBulkAll elems + uptoBulkAll spare + 1
  | .agg parts => uptoBulkAll parts + 1
  | .iface _ d => uptoBulk d + 1
  | .map entries => uptoBulkEntries entries + 1
  | .held _ => 1
def uptoBulkAll {H : Type} : List (DataW H) → Nat
  | [] => 0
  | d :: r => uptoBulk d + uptoBulkAll r
def uptoBulkEntries {H : Type} : List (Lit × DataW H) → Nat
  | [] => 0
  | x :: r => uptoBulkEntry x + uptoBulkEntries r
def uptoBulkEntry {H : Type} : Lit × DataW H → Nat
  | (.string bytes, d) => bytes.length + uptoBulk d + 1
  | (_, d) => uptoBulk d + 1
 end
def uptoSmall : (H : Type) → List (DataW H) → Bool := fun _ ds => decide (uptoBulkAll ds ≤ 1048576)
def OpenSpec.upto (s : _root_.Go.ChangeSpec) : _root_.Go.OpenSpec := { _root_.Go.OpenSpec.ofChange s with cond := some uptoSmall }

/-- 'kinlaw23.GopPacks', WHERE WHAT IT READS IS OF BULK AT MOST 1048576: true; the input reads as it did. -/
def gopPacksUptoRow : OpenClaim := { program := "ytlaedbglclmheaagreatdoor", sum := "fe3a6c6e7a683e6d882b1836c7f51053b4c1341d834a2688af8675b7b813a4aa", func := "kinescope/kinlaw23.GopPacks", spec := "gopPacks", inPlace := ["slices.overlaps[func() (kinescope/encode.choice, error)]", "internal/reflectlite.ValueOf", "(internal/reflectlite.Value).Type", "(internal/reflectlite.Value).IsNil", "internal/reflectlite.TypeOf", "(internal/reflectlite.Value).Elem", "(internal/reflectlite.Value).Set"], unfollowed := true, recurses := true, named := ["unicode/utf8.first", "unicode/utf8.acceptRanges", "kinescope/unit.nibbles", "errors.errorType"], apart := false, laid := [("unicode/utf8.acceptRanges", laid_unicode_utf8_acceptRanges), ("errors.errorType", laid_errors_errorType), ("kinescope/unit.nibbles", laid_kinescope_unit_nibbles), ("unicode/utf8.first", laid_unicode_utf8_first)], narrowed := true }
def GopPacksUptoSaid : Prop := gopPacksUptoRow.holds Tryz.pinned (OpenSpec.upto gopPacksSpec)

/-- 'kinlaw23.GopParses', WHERE WHAT IT READS IS OF BULK AT MOST 1048576: true; the input reads as it did. -/
def gopParsesUptoRow : OpenClaim := { program := "ytlaedbglclmheaagreatdoor", sum := "fe3a6c6e7a683e6d882b1836c7f51053b4c1341d834a2688af8675b7b813a4aa", func := "kinescope/kinlaw23.GopParses", spec := "gopParses", inPlace := ["slices.overlaps[func() (kinescope/encode.choice, error)]", "internal/reflectlite.ValueOf", "(internal/reflectlite.Value).Type", "(internal/reflectlite.Value).IsNil", "internal/reflectlite.TypeOf", "(internal/reflectlite.Value).Elem", "(internal/reflectlite.Value).Set"], unfollowed := true, recurses := true, named := ["unicode/utf8.first", "unicode/utf8.acceptRanges", "kinescope/unit.nibbles", "errors.errorType"], apart := false, laid := [("unicode/utf8.acceptRanges", laid_unicode_utf8_acceptRanges), ("errors.errorType", laid_errors_errorType), ("kinescope/unit.nibbles", laid_kinescope_unit_nibbles), ("unicode/utf8.first", laid_unicode_utf8_first)], narrowed := true }
def GopParsesUptoSaid : Prop := gopParsesUptoRow.holds Tryz.pinned (OpenSpec.upto gopParsesSpec)

/-- 'kinlaw23.GopBack', WHERE WHAT IT READS IS OF BULK AT MOST 1048576: true; the input reads as it did. -/
def gopBackUptoRow : OpenClaim := { program := "ytlaedbglclmheaagreatdoor", sum := "fe3a6c6e7a683e6d882b1836c7f51053b4c1341d834a2688af8675b7b813a4aa", func := "kinescope/kinlaw23.GopBack", spec := "gopBack", inPlace := ["slices.overlaps[func() (kinescope/encode.choice, error)]", "internal/reflectlite.ValueOf", "(internal/reflectlite.Value).Type", "(internal/reflectlite.Value).IsNil", "internal/reflectlite.TypeOf", "(internal/reflectlite.Value).Elem", "(internal/reflectlite.Value).Set"], unfollowed := true, recurses := true, named := ["unicode/utf8.first", "unicode/utf8.acceptRanges", "kinescope/unit.nibbles", "errors.errorType"], apart := false, laid := [("unicode/utf8.acceptRanges", laid_unicode_utf8_acceptRanges), ("errors.errorType", laid_errors_errorType), ("kinescope/unit.nibbles", laid_kinescope_unit_nibbles), ("unicode/utf8.first", laid_unicode_utf8_first)], narrowed := true }
def GopBackUptoSaid : Prop := gopBackUptoRow.holds Tryz.pinned (OpenSpec.upto gopBackSpec)

/-- 'kinlaw23.GopSums', WHERE WHAT IT READS IS OF BULK AT MOST 1048576: true; the input reads as it did. -/
def gopSumsUptoRow : OpenClaim := { program := "ytlaedbglclmheaagreatdoor", sum := "fe3a6c6e7a683e6d882b1836c7f51053b4c1341d834a2688af8675b7b813a4aa", func := "kinescope/kinlaw23.GopSums", spec := "gopSums", inPlace := ["slices.overlaps[func() (kinescope/encode.choice, error)]", "internal/reflectlite.ValueOf", "(internal/reflectlite.Value).Type", "(internal/reflectlite.Value).IsNil", "internal/reflectlite.TypeOf", "(internal/reflectlite.Value).Elem", "(internal/reflectlite.Value).Set"], unfollowed := true, recurses := true, named := ["unicode/utf8.first", "unicode/utf8.acceptRanges", "kinescope/unit.nibbles", "errors.errorType"], apart := false, laid := [("unicode/utf8.acceptRanges", laid_unicode_utf8_acceptRanges), ("errors.errorType", laid_errors_errorType), ("kinescope/unit.nibbles", laid_kinescope_unit_nibbles), ("unicode/utf8.first", laid_unicode_utf8_first)], narrowed := true }
def GopSumsUptoSaid : Prop := gopSumsUptoRow.holds Tryz.pinned (OpenSpec.upto gopSumsSpec)

/-- 'kinlaw24.BoxMuxes', WHERE WHAT IT READS IS OF BULK AT MOST 1048576: true; the input reads as it did. -/
def boxMuxesUptoRow : OpenClaim := { program := "ytlaedbglclmheaagreatdoor", sum := "fe3a6c6e7a683e6d882b1836c7f51053b4c1341d834a2688af8675b7b813a4aa", func := "kinescope/kinlaw24.BoxMuxes", spec := "boxMuxes", inPlace := ["internal/reflectlite.ValueOf", "(internal/reflectlite.Value).Type", "(internal/reflectlite.Value).IsNil", "internal/reflectlite.TypeOf", "(internal/reflectlite.Value).Elem", "(internal/reflectlite.Value).Set"], unfollowed := true, recurses := true, named := ["kinescope/unit.nibbles", "errors.errorType"], apart := false, laid := [("errors.errorType", laid_errors_errorType), ("kinescope/unit.nibbles", laid_kinescope_unit_nibbles)], narrowed := true }
def BoxMuxesUptoSaid : Prop := boxMuxesUptoRow.holds Tryz.pinned (OpenSpec.upto boxMuxesSpec)

/-- 'kinlaw24.BoxOpens', WHERE WHAT IT READS IS OF BULK AT MOST 1048576: true; the input reads as it did. -/
def boxOpensUptoRow : OpenClaim := { program := "ytlaedbglclmheaagreatdoor", sum := "fe3a6c6e7a683e6d882b1836c7f51053b4c1341d834a2688af8675b7b813a4aa", func := "kinescope/kinlaw24.BoxOpens", spec := "boxOpens", inPlace := ["internal/reflectlite.ValueOf", "(internal/reflectlite.Value).Type", "(internal/reflectlite.Value).IsNil", "internal/reflectlite.TypeOf", "(internal/reflectlite.Value).Elem", "(internal/reflectlite.Value).Set"], unfollowed := true, recurses := true, named := ["kinescope/unit.nibbles", "errors.errorType"], apart := false, laid := [("errors.errorType", laid_errors_errorType), ("kinescope/unit.nibbles", laid_kinescope_unit_nibbles)], narrowed := true }
def BoxOpensUptoSaid : Prop := boxOpensUptoRow.holds Tryz.pinned (OpenSpec.upto boxOpensSpec)

/-- 'kinlaw24.BoxAlone', WHERE WHAT IT READS IS OF BULK AT MOST 1048576: true; the input reads as it did. -/
def boxAloneUptoRow : OpenClaim := { program := "ytlaedbglclmheaagreatdoor", sum := "fe3a6c6e7a683e6d882b1836c7f51053b4c1341d834a2688af8675b7b813a4aa", func := "kinescope/kinlaw24.BoxAlone", spec := "boxAlone", inPlace := ["internal/reflectlite.ValueOf", "(internal/reflectlite.Value).Type", "(internal/reflectlite.Value).IsNil", "internal/reflectlite.TypeOf", "(internal/reflectlite.Value).Elem", "(internal/reflectlite.Value).Set"], unfollowed := true, recurses := true, named := ["kinescope/unit.nibbles", "errors.errorType"], apart := false, laid := [("errors.errorType", laid_errors_errorType), ("kinescope/unit.nibbles", laid_kinescope_unit_nibbles)], narrowed := true }
def BoxAloneUptoSaid : Prop := boxAloneUptoRow.holds Tryz.pinned (OpenSpec.upto boxAloneSpec)

end Rows
end Go.Proofs.YtlaedbglclmheaaGreatDoor
