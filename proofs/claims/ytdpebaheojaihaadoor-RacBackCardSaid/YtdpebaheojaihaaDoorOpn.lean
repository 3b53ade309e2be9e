/- Arguments opened: a []int; a frame; structs of ints. -/
import Derived.Test.YtdpebaheojaihaaDoorInts
import Derived.Test.YtdpebaheojaihaaDoorMat
import Derived.Deep.Matrix
import Derived.OpenShut
import Derived.Lib.SmallJoins
namespace Go.Proofs.YtdpebaheojaihaaDoor
set_option linter.unusedVariables false
set_option linter.unusedSimpArgs false
open Go.ChangeShapes Go.WideShapes Go.ChangeAt Go.RowKit Go.Joins Go.Deep
section
variable {H : Type} {enc : TypeId × Value → H} {w : World}

theorem wf_bounds {n : Int} (h : (Lit.int .i64 n).wf = true) : -9223372036854775808 ≤ n ∧ n ≤ 9223372036854775807 := bounds_i64 h

theorem lits_cells {k : IntKind} {zs : List Int} {n j : Nat} {u : Value} (h : ((zs.take n).map (Value.int k))[j]? = some u) : j < zs.length ∧ u = .int k (zs.getD j 0) := by
  rw [List.getElem?_map] at h
  obtain ⟨x, hx, rfl⟩ := Option.map_eq_some_iff.1 h
  rw [List.getElem?_take] at hx
  split at hx
  · obtain ⟨hj, e⟩ := List.getElem?_eq_some_iff.1 hx
    exact ⟨hj, by simp [List.getD, hx]⟩
  · cases hx

def isI64 (P : Program) (f : Field) : Bool := match P.underlying f.type with
  | some (.int .i64) => true
  | _ => false
theorem isI64_out {P : Program} {f : Field} (h : isI64 P f = true) : P.underlying f.type = some (.int .i64) := by
  unfold isI64 at h
  split at h
  · assumption
  · cases h

theorem open_int_struct {P : Program} {t : TypeId} {fs : Array Field} {r : Reach} {b0 : Nat} {sp : Nat → Bool} {v : Value} {d : DataW H} {p : List MemPlace} (hs : P.underlying t = some (.struct fs))
    (hone : oneCellFields P fs = true) (hint : fs.toList.all (isI64 P) = true) (hC : P.cellsOf t = fs.size)
    (hv : Value.okWide P w r b0 t v) (h : DataW.Trod enc P w 0 sp true t v d p) :
    ∃ zs : List Int, v = .agg (zs.map (Value.int .i64)).toArray ∧ zs.length = fs.size ∧ ∀ x ∈ zs, -9223372036854775808 ≤ x ∧ x ≤ 9223372036854775807 := by
  obtain ⟨cs, rfl, hsz⟩ := okWide_struct hs hv
  obtain ⟨l⟩ := cs
  obtain ⟨fuel, hf⟩ := h
  obtain ⟨xs, n, _, _, hl, hlen, hg⟩ := DataW.trod_struct hs hf
  have hl' : l.length = fs.size := by simpa [hC] using hsz
  have each : ∀ (i : Nat) (hi : i < l.length), ∃ m, l[i] = .int .i64 m ∧ (Lit.int .i64 m).wf = true := fun i hi => by
    have hif : i < fs.size := by omega
    have hfi : fs[i]? = some fs[i] := by simp
    obtain ⟨o0, k0⟩ := hone_of hone i _ hfi
    have h1 := hg i _ hfi
    rw [o0, k0] at h1
    have hone' : ((Value.agg ⟨l⟩).cells.toList.drop i).take 1 = [l[i]] := by
      simp only [Value.cells]
      rw [List.drop_eq_getElem_cons (by simpa using hi)]
      rfl
    rw [hone', List.getElem?_eq_getElem (by omega)] at h1
    have hi64 : isI64 P fs[i] = true := List.all_eq_true.1 hint _ (by simp)
    obtain ⟨m, hm, _, hw⟩ := DataW.trod_int (isI64_out hi64) h1
    exact ⟨m, (List.cons.inj hm).1, hw⟩
  refine ⟨l.map intOf, ?_, by simpa using hl', fun x hx => ?_⟩
  · congr 1
    apply Array.ext'
    simp only [List.map_map]
    symm
    conv => rhs; rw [← List.map_id l]
    apply List.map_congr_left
    intro u hu
    obtain ⟨i, hi, rfl⟩ := List.getElem_of_mem hu
    obtain ⟨m, hm, _⟩ := each i hi
    simp [hm, intOf]
  · obtain ⟨u, hu, rfl⟩ := List.mem_map.1 hx
    obtain ⟨i, hi, rfl⟩ := List.getElem_of_mem hu
    obtain ⟨m, hm, hw⟩ := each i hi
    rw [hm]
    exact wf_bounds hw

end
end Go.Proofs.YtdpebaheojaihaaDoor
