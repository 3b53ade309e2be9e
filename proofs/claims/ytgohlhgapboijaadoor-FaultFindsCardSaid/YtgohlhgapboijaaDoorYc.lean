/- Contracts of this seat: OpSt. -/
import Derived.Test.YtgohlhgapboijaaDoorZb
import Derived.OpenShut
import Derived.Lib.SmallJoins
import Derived.Deep.Slices
/- A list of fault.Step opened. -/
namespace Go.Proofs.YtgohlhgapboijaaDoor
set_option linter.unusedVariables false
set_option linter.unusedSimpArgs false
open Go.ChangeShapes Go.WideShapes Go.ChangeAt Go.RowKit Go.Joins Go.Deep

theorem stepCells_inv {L : List (ByteArray × Int)} {j : Nat} {u : Value} (h : (stepCells L)[j]? = some u) : ∃ s m, L[j / 2]? = some (s, m) ∧ (j % 2 = 0 → u = .string s) ∧ (j % 2 = 1 → u = .int .i64 m) := by
  have hl := (List.getElem?_eq_some_iff.1 h).1
  rw [stepCells_length] at hl
  obtain ⟨⟨s, m⟩, hy⟩ : ∃ y, L[j / 2]? = some y := ⟨_, List.getElem?_eq_getElem (by omega)⟩
  obtain ⟨h0, h1⟩ := stepCells_get L (j / 2) s m hy
  refine ⟨s, m, hy, fun e => ?_, fun e => ?_⟩
  · rw [show j / 2 * 2 = j by omega, h] at h0
    exact Option.some.inj h0
  · rw [show j / 2 * 2 + 1 = j by omega, h] at h1
    exact Option.some.inj h1
section
variable {H : Type} {enc : TypeId × Value → H} {w : World}
set_option maxRecDepth 100000 in
theorem st_of_trod {sp : Nat → Bool} {fuel : Nat} {cs : List Value} {y : DataW H × List MemPlace} (hl : cs.length = 2) (hf : DataW.trod enc Tryd.prog w 0 sp true fuel 34 cs = some y) :
    ∃ (s : ByteArray) (m : Int), cs = [.string s, .int .i64 m] ∧ -9223372036854775808 ≤ m ∧ m ≤ 9223372036854775807 := by
  obtain ⟨ys, n', hn', hy, hlen, hyl, hg⟩ := DataW.trod_struct Tryd.underlying34 hf
  match cs, hl, ys, hyl with
  | [v0, v1], _, [y0, y1], _ =>
    obtain ⟨s, e0, -⟩ := DataW.trod_string Tryd.underlying9 (show DataW.trod enc Tryd.prog w 0 sp true n' 9 _ = some y0 from hg 0 _ rfl)
    obtain ⟨m1, e1, -, w1⟩ := DataW.trod_int Tryd.underlying3 (show DataW.trod enc Tryd.prog w 0 sp true n' 3 _ = some y1 from hg 1 _ rfl)
    obtain rfl := (List.cons.inj e0).1
    obtain rfl := (List.cons.inj e1).1
    exact ⟨s, m1, rfl, (bounds_i64 w1).1, (bounds_i64 w1).2⟩
set_option maxRecDepth 100000 in
theorem steps_of_reading {r : Reach} {b0 : Nat} {v : Value} {d : DataW H} {p : List MemPlace} (hv : Value.okWide Tryd.prog w r b0 22 v) (h : DataW.Trod enc Tryd.prog w 0 (fun _ => true) true 22 v d p) :
    ∃ L : List (ByteArray × Int), Row w v L.length (stepCells L) ∧ ∀ y ∈ L, -9223372036854775808 ≤ y.2 ∧ y.2 ≤ 9223372036854775807 := by
  obtain ⟨a0, l0, c0, rfl⟩ := okWide_slice Tryd.underlying22 hv
  obtain ⟨fuel, hf⟩ := h
  rcases open_slice Tryd.underlying22 hf with ⟨hc, _⟩ | ⟨a, len, cap, m, n, D, Pl, hc, _, hl, hm, hmm, _, hx⟩
  · have hv : Value.slice a0 l0 c0 = .slice none 0 0 := by simpa [Value.cells] using hc
    rw [hv]
    exact ⟨[], Row.nil w, by simp⟩
  · have hv : Value.slice a0 l0 c0 = .slice (some a) len cap := by simpa [Value.cells] using hc
    rw [hv]
    have hC : Tryd.prog.cellsOf 34 = 2 := by kernel_rfl
    have hm' : m = cap := by simpa using hmm
    have each : ∀ i, i < len → ∃ q : ByteArray × Int, (w.cell? (a.add (i * 2)) = some (.string q.1) ∧ w.cell? (a.add (i * 2 + 1)) = some (.int .i64 q.2)) ∧ -9223372036854775808 ≤ q.2 ∧ q.2 ≤ 9223372036854775807 := by
      intro i hi
      obtain ⟨cs', h1, h2⟩ := hx i (by omega)
      rw [hC] at h1
      obtain ⟨_, hlen, hcell⟩ := World.cells?_some h1
      obtain ⟨s, z, rfl, hz⟩ := st_of_trod hlen h2
      have e0 := hcell 0 (by omega)
      have e1 := hcell 1 (by omega)
      rw [add_add] at e0 e1
      exact ⟨(s, z), ⟨by simpa using e0, by simpa using e1⟩, hz⟩
    obtain ⟨q, hq⟩ := choose_lt each
    have hLl : ((List.range len).map q).length = len := by simp
    have hget : ∀ j, j < len → ((List.range len).map q)[j]? = some (q j) := fun j hj => by rw [List.getElem?_map, List.getElem?_range hj]; rfl
    refine ⟨(List.range len).map q, ?_, fun o ho => ?_⟩
    · rw [hLl]
      refine ⟨some a, cap, rfl, by omega, hm, fun h0 => ?_, fun g off ha j u hu => ?_⟩
      · have := (hq 0 h0).1.1
        obtain ⟨g, off, spot⟩ := a
        have hspot : spot = none := by simpa [Addr.add] using World.cell?_spot this
        subst hspot
        exact ⟨g, off, rfl⟩
      · obtain rfl := Option.some.inj ha
        have hjl := (List.getElem?_eq_some_iff.1 hu).1
        rw [stepCells_length, hLl] at hjl
        obtain ⟨s, z, hs, k0, k1⟩ := stepCells_inv hu
        rw [hget (j / 2) (by omega)] at hs
        have hs' : q (j / 2) = (s, z) := Option.some.inj hs
        obtain ⟨⟨c0', c1'⟩, -⟩ := hq (j / 2) (by omega)
        rw [hs'] at c0' c1'
        rw [Go.WideShapes.add_plain] at c0' c1'
        rcases Nat.mod_two_eq_zero_or_one j with hj | hj
        · rw [k0 hj, show off + j = off + j / 2 * 2 by omega]; exact c0'
        · rw [k1 hj, show off + j = off + (j / 2 * 2 + 1) by omega]; exact c1'
    · obtain ⟨k, hk, rfl⟩ := List.mem_map.1 ho
      exact (hq k (List.mem_range.1 hk)).2
end
end Go.Proofs.YtgohlhgapboijaaDoor
