/- Arguments opened: a []int; a frame; structs of ints. -/
import Derived.Test.YtkjllhphpkmaiaaDoorInts
import Derived.Test.YtkjllhphpkmaiaaDoorMat
import Derived.Deep.Matrix
import Derived.OpenShut
import Derived.Lib.SmallJoins
namespace Go.Proofs.YtkjllhphpkmaiaaDoor
set_option linter.unusedVariables false
set_option linter.unusedSimpArgs false
open Go.ChangeShapes Go.WideShapes Go.ChangeAt Go.RowKit Go.Joins Go.Deep
section
variable {H : Type} {enc : TypeId × Value → H} {w : World}

theorem wf_bounds {n : Int} (h : (Lit.int .i64 n).wf = true) : -9223372036854775808 ≤ n ∧ n ≤ 9223372036854775807 := bounds_i64 h

theorem lits_cells {k : IntKind} {zs : List Int} {n j : Nat} {u : Value} (h : ((zs.take n).map (Value.int k))[j]? = some u) : j < zs.length ∧ u = .int k (zs.getD j 0) := by
  rw [List.getElem?_map] at h
  obtain ⟨x, hx, rfl⟩ := Option.map_eq_some_iff.1 h
  rw [List.getElem?_take] at hx
  split at hx
  · obtain ⟨hj, e⟩ := List.getElem?_eq_some_iff.1 hx
    exact ⟨hj, by simp [List.getD, hx]⟩
  · cases hx

set_option maxRecDepth 100000 in
theorem ints_of_trod {sp : Nat → Bool} {v : Value} {y : DataW H × List MemPlace} {fuel : Nat} (hsp : ∀ b, sp b = true) (hf : DataW.trod enc Tryd.prog w 0 sp true fuel 59 [v] = some y) :
    ∃ zs : List Int, Row w v zs.length (zs.map (Value.int .i64)) ∧ zs.length ≤ 9223372036854775807 ∧ ∀ x ∈ zs, -9223372036854775808 ≤ x ∧ x ≤ 9223372036854775807 := by
  rcases open_ints Tryd.underlying59 (k := .i64) Tryd.underlying3 (by kernel_rfl) hf with ⟨hc, _⟩ | ⟨a, len, cap, zs, hc, _, hl, hm, hlen, _, hcell, hw⟩
  · obtain rfl : v = .slice none 0 0 := (List.cons.inj hc).1
    exact ⟨[], Row.nil w, by simp, by simp⟩
  · obtain rfl : v = .slice (some a) len cap := (List.cons.inj hc).1
    rw [hsp a.block] at hlen
    simp only [if_true] at hlen
    have hl' : (zs.take len).length = len := by simp; omega
    refine ⟨zs.take len, ⟨some a, cap, by rw [hl'], by rw [hl']; exact hl, hm, fun h0 => ?_, fun g off ha j u hu => ?_⟩, ?_, fun x hx => wf_bounds (hw x (List.mem_of_mem_take hx))⟩
    · have hp : 0 < zs.length := by rw [hl'] at h0; omega
      obtain ⟨b, off, rfl, _⟩ := ints_at hcell hp
      exact ⟨b, off, rfl⟩
    · obtain ⟨hj, rfl⟩ := lits_cells hu
      have := hcell j hj
      obtain rfl := Option.some.inj ha
      rwa [Go.WideShapes.add_plain] at this
    · rw [hl']; unfold maxLen at hm; omega
set_option maxRecDepth 100000 in
theorem ints_of_reading {r : Reach} {b0 : Nat} {sp : Nat → Bool} {v : Value} {d : DataW H} {p : List MemPlace} (hsp : ∀ b, sp b = true) (hv : Value.okWide Tryd.prog w r b0 59 v) (h : DataW.Trod enc Tryd.prog w 0 sp true 59 v d p) :
    ∃ zs : List Int, Row w v zs.length (zs.map (Value.int .i64)) ∧ zs.length ≤ 9223372036854775807 ∧ ∀ x ∈ zs, -9223372036854775808 ≤ x ∧ x ≤ 9223372036854775807 := by
  obtain ⟨a0, l0, c0, rfl⟩ := okWide_slice Tryd.underlying59 hv
  obtain ⟨fuel, hf⟩ := h
  exact ints_of_trod hsp hf

def isI64 (P : Program) (f : Field) : Bool := match P.underlying f.type with
  | some (.int .i64) => true
  | _ => false
theorem isI64_out {P : Program} {f : Field} (h : isI64 P f = true) : P.underlying f.type = some (.int .i64) := by
  unfold isI64 at h
  split at h
  · assumption
  · cases h

theorem open_int_struct {P : Program} {t : TypeId} {fs : Array Field} {r : Reach} {b0 : Nat} {sp : Nat → Bool} {v : Value} {d : DataW H} {p : List MemPlace} (hs : P.underlying t = some (.struct fs))
    (hone : oneCellFields P fs = true) (hint : fs.toList.all (isI64 P) = true) (hC : P.cellsOf t = fs.size)
    (hv : Value.okWide P w r b0 t v) (h : DataW.Trod enc P w 0 sp true t v d p) :
    ∃ zs : List Int, v = .agg (zs.map (Value.int .i64)).toArray ∧ zs.length = fs.size ∧ ∀ x ∈ zs, -9223372036854775808 ≤ x ∧ x ≤ 9223372036854775807 := by
  obtain ⟨cs, rfl, hsz⟩ := okWide_struct hs hv
  obtain ⟨l⟩ := cs
  obtain ⟨fuel, hf⟩ := h
  obtain ⟨xs, n, _, _, hl, hlen, hg⟩ := DataW.trod_struct hs hf
  have hl' : l.length = fs.size := by simpa [hC] using hsz
  have each : ∀ (i : Nat) (hi : i < l.length), ∃ m, l[i] = .int .i64 m ∧ (Lit.int .i64 m).wf = true := fun i hi => by
    have hif : i < fs.size := by omega
    have hfi : fs[i]? = some fs[i] := by simp
    obtain ⟨o0, k0⟩ := hone_of hone i _ hfi
    have h1 := hg i _ hfi
    rw [o0, k0] at h1
    have hone' : ((Value.agg ⟨l⟩).cells.toList.drop i).take 1 = [l[i]] := by
      simp only [Value.cells]
      rw [List.drop_eq_getElem_cons (by simpa using hi)]
      rfl
    rw [hone', List.getElem?_eq_getElem (by omega)] at h1
    have hi64 : isI64 P fs[i] = true := List.all_eq_true.1 hint _ (by simp)
    obtain ⟨m, hm, _, hw⟩ := DataW.trod_int (isI64_out hi64) h1
    exact ⟨m, (List.cons.inj hm).1, hw⟩
  refine ⟨l.map intOf, ?_, by simpa using hl', fun x hx => ?_⟩
  · congr 1
    apply Array.ext'
    simp only [List.map_map]
    symm
    conv => rhs; rw [← List.map_id l]
    apply List.map_congr_left
    intro u hu
    obtain ⟨i, hi, rfl⟩ := List.getElem_of_mem hu
    obtain ⟨m, hm, _⟩ := each i hi
    simp [hm, intOf]
  · obtain ⟨u, hu, rfl⟩ := List.mem_map.1 hx
    obtain ⟨i, hi, rfl⟩ := List.getElem_of_mem hu
    obtain ⟨m, hm, hw⟩ := each i hi
    rw [hm]
    exact wf_bounds hw

end
end Go.Proofs.YtkjllhphpkmaiaaDoor
