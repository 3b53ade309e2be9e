/- Contracts of this seat: Opn. -/
import Derived.Test.YtlaedbglclmheaaGreatDoorZb
import Derived.Test.YtlaedbglclmheaaGreatDoorZk
import Derived.Deep.Matrix
import Derived.OpenShut
import Derived.Lib.SmallJoins
/- Arguments opened: a []int; a frame; structs of ints. -/
namespace Go.Proofs.YtlaedbglclmheaaGreatDoor
set_option linter.unusedVariables false
set_option linter.unusedSimpArgs false
open Go.ChangeShapes Go.WideShapes Go.ChangeAt Go.RowKit Go.Joins Go.Deep
section
variable {H : Type} {enc : TypeId × Value → H} {w : World}

theorem wf_bounds {n : Int} (h : (Lit.int .i64 n).wf = true) : -9223372036854775808 ≤ n ∧ n ≤ 9223372036854775807 := bounds_i64 h

theorem lits_cells {k : IntKind} {zs : List Int} {n j : Nat} {u : Value} (h : ((zs.take n).map (Value.int k))[j]? = some u) : j < zs.length ∧ u = .int k (zs.getD j 0) := by
  rw [List.getElem?_map] at h
  obtain ⟨x, hx, rfl⟩ := Option.map_eq_some_iff.1 h
  rw [List.getElem?_take] at hx
  split at hx
  · obtain ⟨hj, e⟩ := List.getElem?_eq_some_iff.1 hx
    exact ⟨hj, by simp [List.getD, hx]⟩
  · cases hx

set_option maxRecDepth 100000 in
theorem ints_of_trod {sp : Nat → Bool} {v : Value} {y : DataW H × List MemPlace} {fuel : Nat} (hsp : ∀ b, sp b = true) (hf : DataW.trod enc Tryz.prog w 0 sp true fuel 49 [v] = some y) :
    ∃ zs : List Int, Row w v zs.length (zs.map (Value.int .i64)) ∧ zs.length ≤ 9223372036854775807 ∧ ∀ x ∈ zs, -9223372036854775808 ≤ x ∧ x ≤ 9223372036854775807 := by
  rcases open_ints Tryz.underlying49 (k := .i64) Tryz.underlying3 (by kernel_rfl) hf with ⟨hc, _⟩ | ⟨a, len, cap, zs, hc, _, hl, hm, hlen, _, hcell, hw⟩
  · obtain rfl : v = .slice none 0 0 := (List.cons.inj hc).1
    exact ⟨[], Row.nil w, by simp, by simp⟩
  · obtain rfl : v = .slice (some a) len cap := (List.cons.inj hc).1
    rw [hsp a.block] at hlen
    simp only [if_true] at hlen
    have hl' : (zs.take len).length = len := by simp; omega
    refine ⟨zs.take len, ⟨some a, cap, by rw [hl'], by rw [hl']; exact hl, hm, fun h0 => ?_, fun g off ha j u hu => ?_⟩, ?_, fun x hx => wf_bounds (hw x (List.mem_of_mem_take hx))⟩
    · have hp : 0 < zs.length := by rw [hl'] at h0; omega
      obtain ⟨b, off, rfl, _⟩ := ints_at hcell hp
      exact ⟨b, off, rfl⟩
    · obtain ⟨hj, rfl⟩ := lits_cells hu
      have := hcell j hj
      obtain rfl := Option.some.inj ha
      rwa [Go.WideShapes.add_plain] at this
    · rw [hl']; unfold maxLen at hm; omega
set_option maxRecDepth 100000 in
theorem ints_of_reading {r : Reach} {b0 : Nat} {sp : Nat → Bool} {v : Value} {d : DataW H} {p : List MemPlace} (hsp : ∀ b, sp b = true) (hv : Value.okWide Tryz.prog w r b0 49 v) (h : DataW.Trod enc Tryz.prog w 0 sp true 49 v d p) :
    ∃ zs : List Int, Row w v zs.length (zs.map (Value.int .i64)) ∧ zs.length ≤ 9223372036854775807 ∧ ∀ x ∈ zs, -9223372036854775808 ≤ x ∧ x ≤ 9223372036854775807 := by
  obtain ⟨a0, l0, c0, rfl⟩ := okWide_slice Tryz.underlying49 hv
  obtain ⟨fuel, hf⟩ := h
  exact ints_of_trod hsp hf

def isI64 (P : Program) (f : Field) : Bool := match P.underlying f.type with
  | some (.int .i64) => true
  | _ => false
theorem isI64_out {P : Program} {f : Field} (h : isI64 P f = true) : P.underlying f.type = some (.int .i64) := by
  unfold isI64 at h
  split at h
  · assumption
  · cases h

theorem open_int_struct {P : Program} {t : TypeId} {fs : Array Field} {r : Reach} {b0 : Nat} {sp : Nat → Bool} {v : Value} {d : DataW H} {p : List MemPlace} (hs : P.underlying t = some (.struct fs))
    (hone : oneCellFields P fs = true) (hint : fs.toList.all (isI64 P) = true) (hC : P.cellsOf t = fs.size)
    (hv : Value.okWide P w r b0 t v) (h : DataW.Trod enc P w 0 sp true t v d p) :
    ∃ zs : List Int, v = .agg (zs.map (Value.int .i64)).toArray ∧ zs.length = fs.size ∧ ∀ x ∈ zs, -9223372036854775808 ≤ x ∧ x ≤ 9223372036854775807 := by
  obtain ⟨cs, rfl, hsz⟩ := okWide_struct hs hv
  obtain ⟨l⟩ := cs
  obtain ⟨fuel, hf⟩ := h
  obtain ⟨xs, n, _, _, hl, hlen, hg⟩ := DataW.trod_struct hs hf
  have hl' : l.length = fs.size := by simpa [hC] using hsz
  have each : ∀ (i : Nat) (hi : i < l.length), ∃ m, l[i] = .int .i64 m ∧ (Lit.int .i64 m).wf = true := fun i hi => by
    have hif : i < fs.size := by omega
    have hfi : fs[i]? = some fs[i] := by simp
    obtain ⟨o0, k0⟩ := hone_of hone i _ hfi
    have h1 := hg i _ hfi
    rw [o0, k0] at h1
    have hone' : ((Value.agg ⟨l⟩).cells.toList.drop i).take 1 = [l[i]] := by
      simp only [Value.cells]
      rw [List.drop_eq_getElem_cons (by simpa using hi)]
      rfl
    rw [hone', List.getElem?_eq_getElem (by omega)] at h1
    have hi64 : isI64 P fs[i] = true := List.all_eq_true.1 hint _ (by simp)
    obtain ⟨m, hm, _, hw⟩ := DataW.trod_int (isI64_out hi64) h1
    exact ⟨m, (List.cons.inj hm).1, hw⟩
  refine ⟨l.map intOf, ?_, by simpa using hl', fun x hx => ?_⟩
  · congr 1
    apply Array.ext'
    simp only [List.map_map]
    symm
    conv => rhs; rw [← List.map_id l]
    apply List.map_congr_left
    intro u hu
    obtain ⟨i, hi, rfl⟩ := List.getElem_of_mem hu
    obtain ⟨m, hm, _⟩ := each i hi
    simp [hm, intOf]
  · obtain ⟨u, hu, rfl⟩ := List.mem_map.1 hx
    obtain ⟨i, hi, rfl⟩ := List.getElem_of_mem hu
    obtain ⟨m, hm, hw⟩ := each i hi
    rw [hm]
    exact wf_bounds hw

set_option maxRecDepth 100000 in
theorem rows_of_reading {r : Reach} {b0 : Nat} {sp : Nat → Bool} {v : Value} {d : DataW H} {p : List MemPlace} (hv : Value.okWide Tryz.prog w r b0 333 v) (h : DataW.Trod enc Tryz.prog w 0 (fun _ => true) true 333 v d p) :
    ∃ L : List (List Int), Mat w v L := by
  obtain ⟨a0, l0, c0, rfl⟩ := okWide_slice Tryz.underlying333 hv
  obtain ⟨fuel, hf⟩ := h
  rcases open_int_rows Tryz.underlying333 Tryz.underlying49 (k := .i64) Tryz.underlying3 (by kernel_rfl) (by kernel_rfl) hf with ⟨hc, _⟩ | ⟨a, len, cap, A, L, C, Z, hc, _, hl, hm, _, hr⟩
  · have hv : Value.slice a0 l0 c0 = .slice none 0 0 := by simpa [Value.cells] using hc
    rw [hv]
    exact ⟨[], Mat.nil w⟩
  · have hv : Value.slice a0 l0 c0 = .slice (some a) len cap := by simpa [Value.cells] using hc
    rw [hv]
    refine ⟨(List.range len).map fun q => (Z q).take (L q), some a, cap, by simp, by simpa using hl, hm, fun h0 => ?_⟩
    have h0 : 0 < len := by simpa using h0
    have ha : ∃ g off, a = ⟨g, off, none⟩ := by
      have := (hr 0 (by omega)).1
      obtain ⟨g, off, spot⟩ := a
      have hspot : spot = none := by simpa [Addr.add] using World.cell?_spot this
      subst hspot
      exact ⟨g, off, rfl⟩
    obtain ⟨g, off, rfl⟩ := ha
    refine ⟨g, off, rfl, fun q row hq => ?_⟩
    rw [List.getElem?_map] at hq
    obtain ⟨j, hj, rfl⟩ := Option.map_eq_some_iff.1 hq
    obtain ⟨hlt, e⟩ := List.getElem?_eq_some_iff.1 hj
    simp at hlt e
    subst e
    obtain ⟨h1, h2, h3, h4, h5, h6, h7⟩ := hr q (by omega)
    have hl' : ((Z q).take (L q)).length = L q := by simp; omega
    refine ⟨A q, L q, C q, by rw [← h1, Go.WideShapes.add_plain], ⟨A q, C q, by rw [hl'], by rw [hl']; exact h2, h3, fun h0 => ?_, fun g' off' ha j u hu => ?_⟩⟩
    · rw [hl'] at h0
      cases hA : A q with
      | none => have := h6 hA; omega
      | some a' =>
        have := (h7 a' hA).2 0 (by omega)
        obtain ⟨g', off', spot⟩ := a'
        have hspot : spot = none := by simpa [Addr.add] using World.cell?_spot this
        subst hspot
        exact ⟨g', off', rfl⟩
    · obtain ⟨hj, rfl⟩ := lits_cells hu
      have := (h7 _ ha).2 j (by omega)
      rwa [Go.WideShapes.add_plain] at this
set_option maxRecDepth 100000 in
theorem open_frame {r : Reach} {b0 : Nat} {sp : Nat → Bool} {v : Value} {d : DataW H} {p : List MemPlace} (hsp : ∀ b, sp b = true)
    (hv : Value.okWide Tryz.prog w r b0 99 v) (h : DataW.Trod enc Tryz.prog w 0 sp true 99 v d p) :
    ∃ (W H' : Int) (u : Value) (zs : List Int), v = .agg #[.int .i64 W, .int .i64 H', u] ∧ (-9223372036854775808 ≤ W ∧ W ≤ 9223372036854775807) ∧ (-9223372036854775808 ≤ H' ∧ H' ≤ 9223372036854775807) ∧
      Row w u zs.length (zs.map (Value.int .i64)) ∧ zs.length ≤ 9223372036854775807 ∧ ∀ x ∈ zs, -9223372036854775808 ≤ x ∧ x ≤ 9223372036854775807 := by
  obtain ⟨v0, v1, v2, y0, y1, y2, n, rfl, -, -, h0, h1, h2⟩ := open_agg3 Tryz.underlying99 (by kernel_rfl) (by kernel_rfl) hv h
  obtain ⟨m0, e0, -, w0⟩ := DataW.trod_int Tryz.underlying3 h0
  obtain ⟨m1, e1, -, w1⟩ := DataW.trod_int Tryz.underlying3 h1
  obtain ⟨zs, hz⟩ := ints_of_trod hsp h2
  obtain rfl := (List.cons.inj e0).1
  obtain rfl := (List.cons.inj e1).1
  exact ⟨m0, m1, v2, zs, rfl, wf_bounds w0, wf_bounds w1, hz⟩
end
end Go.Proofs.YtlaedbglclmheaaGreatDoor
