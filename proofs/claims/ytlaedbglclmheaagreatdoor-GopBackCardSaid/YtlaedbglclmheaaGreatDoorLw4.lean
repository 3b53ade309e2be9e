/- What the rows of layer 4 list: errors.errorType and the table of the sum. -/
import Derived.Test.YtlaedbglclmheaaGreatDoorLaw
import Derived.Test.YtlaedbglclmheaaGreatDoorZc
namespace Go.Proofs.YtlaedbglclmheaaGreatDoor
set_option linter.unusedVariables false
set_option linter.unusedSimpArgs false
open Go.ChangeShapes Go.WideShapes Go.ChangeAt Go.RowKit

def nibZ : List Int := (List.range 16).map fun r => (nib r : Int)
theorem nib_laid : (Rows.laid_kinescope_unit_nibbles : DataW Unit) = .agg (nibZ.map fun n => .lit (.int .u32 n)) := by
  unfold nibZ
  rw [nib_tab]
  rfl
theorem nibZ_get {r : Nat} (h : r < 16) : nibZ[r]? = some (nib r : Int) := by
  unfold nibZ
  rw [List.getElem?_map, List.getElem?_range h]
  rfl
theorem nb_of_met {W : World} (h : laidMet Tryz.prog [("kinescope/unit.nibbles", Rows.laid_kinescope_unit_nibbles)] W) : NbIs W := by
  intro r hr
  obtain ⟨ps, ⟨g, t, cs, fuel, p, q, hg, ht, hv, hd, _, _⟩, _, _⟩ := h
  obtain rfl := Option.some.inj ((show Tryz.prog.globalNamed "kinescope/unit.nibbles" = some 0 by kernel_rfl).symm.trans hg)
  obtain rfl := Option.some.inj ((show (Tryz.prog.globals[0]?).map (·.type) = some 207 by kernel_rfl).symm.trans ht)
  obtain ⟨xs, m, _, ex, _, hl, hel⟩ := DataW.trod_array (show Tryz.prog.underlying 207 = some (.array 16 168) by kernel_rfl) hd
  have c5 : Tryz.prog.cellsOf 168 = 1 := by kernel_rfl
  have hE := hel r hr
  rw [c5, Nat.mul_one, List.getElem?_eq_getElem (by omega)] at hE
  obtain ⟨z, e1, e2, _⟩ := DataW.trod_int (show Tryz.prog.underlying 168 = some (.int .u32) by kernel_rfl) hE
  have e3 : (xs.map (·.1)) = nibZ.map fun n => (.lit (.int .u32 n) : DataW Unit) := by
    have := (Prod.mk.inj ex).1
    rw [nib_laid] at this
    exact (DataW.agg.inj this).symm
  have e4 : (xs.map (·.1))[r]? = (nibZ.map fun n => (DataW.lit (.int .u32 n) : DataW Unit))[r]? := by rw [e3]
  rw [List.getElem?_map, List.getElem?_map, List.getElem?_eq_getElem (by omega : r < xs.length), nibZ_get hr, e2] at e4
  have hz : z = (nib r : Int) := by
    simp only [Option.map_some, Option.some.injEq, DataW.lit.injEq, Lit.int.injEq, true_and] at e4
    exact e4
  rw [World.var?_cell hg hv r, ← hz]
  have : cs.toList[r]? = some (.int .u32 z) := by
    have h0 : ((cs.toList.drop r).take 1)[0]? = some (.int .u32 z) := by rw [e1]; rfl
    simpa using h0
  simpa using this
theorem facts_of_laid4 {W : World} (h : laidMetH Tryz.prog [("errors.errorType", Rows.laid_errors_errorType), ("kinescope/unit.nibbles", Rows.laid_kinescope_unit_nibbles)] W) : EtIs W ∧ NbIs W := by
  have h' : laidMet Tryz.prog [("kinescope/unit.nibbles", Rows.laid_kinescope_unit_nibbles)] W ∧ handlesMet Tryz.prog [("errors.errorType", Rows.laid_errors_errorType)] W := h
  exact ⟨et_of_handles (List.mem_singleton.2 rfl) h'.2, nb_of_met h'.1⟩
/-- a world that meets what the rows list -/
noncomputable def laidWorld4 (os : Os) : World :=
  let w0 := laidWorld os
  { w0 with heap := w0.heap.modify 0 fun
      | .cells _ t frozen => .cells #[.int .u32 0, .int .u32 498536548, .int .u32 997073096, .int .u32 651767980, .int .u32 1994146192, .int .u32 1802195444, .int .u32 1303535960, .int .u32 1342533948, .int .u32 3988292384, .int .u32 4027552580, .int .u32 3604390888, .int .u32 3412177804, .int .u32 2607071920, .int .u32 2262029012, .int .u32 2685067896, .int .u32 3183342108] t frozen
      | o => o }
theorem laidWorld4_met (os : Os) (args : Array Value) : laidMetH Tryz.prog [("errors.errorType", Rows.laid_errors_errorType), ("kinescope/unit.nibbles", Rows.laid_kinescope_unit_nibbles)] ((laidWorld4 os).forCall (fun _ _ => 0) ⟨#[], args, []⟩).memory :=
  laidMetH_of_parts (laidMet_of_run' 8 (by kernel_rfl) (by kernel_rfl)) (by kernel_rfl)
end Go.Proofs.YtlaedbglclmheaaGreatDoor
