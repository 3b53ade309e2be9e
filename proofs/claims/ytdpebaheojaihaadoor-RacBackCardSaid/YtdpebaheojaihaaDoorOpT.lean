/- A list of kinlaw12's operations opened: a number and a yes or no each; a list of yes and no. -/
import Derived.Test.YtdpebaheojaihaaDoorOpn
import Derived.Deep.Slices
import Derived.Deep.Grids
namespace Go.Proofs.YtdpebaheojaihaaDoor
set_option linter.unusedVariables false
set_option linter.unusedSimpArgs false
open Go.ChangeShapes Go.WideShapes Go.ChangeAt Go.RowKit Go.Joins Go.Deep

abbrev Ot := Int × Bool
def OtIn (w : World) (g i : Nat) (o : Ot) : Prop := w.cell? ⟨g, i, none⟩ = some (.int .i64 o.1) ∧ w.cell? ⟨g, i + 1, none⟩ = some (.bool o.2)
def Ots (w : World) (v : Value) (L : List Ot) : Prop := (∃ a cap, v = .slice a L.length cap ∧ L.length ≤ cap ∧ cap ≤ maxLen ∧ (0 < L.length → ∃ g off, a = some ⟨g, off, none⟩ ∧ ∀ q o, L[q]? = some o → OtIn w g (off + q * 2) o)) ∧ ∀ o ∈ L, -9223372036854775808 ≤ o.1 ∧ o.1 ≤ 9223372036854775807
theorem OtIn.ext {w w' : World} {g i : Nat} {o : Ot} (h : OtIn w g i o) (k : Ext w w') : OtIn w' g i o := ⟨k.cell h.1, k.cell h.2⟩
theorem Ots.ext {w w' : World} {v : Value} {L : List Ot} (h : Ots w v L) (k : Ext w w') : Ots w' v L := by
  obtain ⟨⟨a, cap, e, h1, h2, h3⟩, hb⟩ := h
  refine ⟨⟨a, cap, e, h1, h2, fun h0 => ?_⟩, hb⟩
  obtain ⟨g, off, ha, hq⟩ := h3 h0
  exact ⟨g, off, ha, fun q o ho => (hq q o ho).ext k⟩
theorem Ots.form {w : World} {v : Value} {L : List Ot} (h : Ots w v L) : ∃ a cap, v = .slice a L.length cap := by
  obtain ⟨⟨a, cap, e, -⟩, -⟩ := h
  exact ⟨a, cap, e⟩
theorem Ots.had {w : World} {a : Option Addr} {n cap : Nat} {L : List Ot} (h : Ots w (.slice a n cap) L) (hn : 0 < L.length) : ∃ g off, a = some ⟨g, off, none⟩ ∧ ∀ q o, L[q]? = some o → OtIn w g (off + q * 2) o := by
  obtain ⟨⟨a', cap', e, -, -, h3⟩, -⟩ := h
  simp only [Value.slice.injEq] at e
  obtain ⟨rfl, -, -⟩ := e
  exact h3 hn
theorem Ots.small {w : World} {v : Value} {L : List Ot} (h : Ots w v L) : L.length ≤ maxLen := by
  obtain ⟨⟨a', cap', e, h1, h2, h3⟩, -⟩ := h
  omega
/-- a list of yes and no -/
def Bls (w : World) (v : Value) (L : List Bool) : Prop := ∃ a cap, v = .slice a L.length cap ∧ L.length ≤ maxLen ∧ (0 < L.length → ∃ g off, a = some ⟨g, off, none⟩ ∧ ∀ q x, L[q]? = some x → w.cell? ⟨g, off + q, none⟩ = some (.bool x))
theorem Bls.ext {w w' : World} {v : Value} {L : List Bool} (h : Bls w v L) (k : Ext w w') : Bls w' v L := by
  obtain ⟨a, cap, e, h1, h3⟩ := h
  refine ⟨a, cap, e, h1, fun h0 => ?_⟩
  obtain ⟨g, off, ha, hq⟩ := h3 h0
  exact ⟨g, off, ha, fun q o ho => k.cell (hq q o ho)⟩
section
variable {H : Type} {enc : TypeId × Value → H} {w : World}
set_option maxRecDepth 100000 in
theorem ot_of_trod {sp : Nat → Bool} {fuel : Nat} {cs : List Value} {y : DataW H × List MemPlace} (hl : cs.length = 2) (hf : DataW.trod enc Tryd.prog w 0 sp true fuel 29 cs = some y) :
    ∃ o : Ot, cs = [.int .i64 o.1, .bool o.2] ∧ (-9223372036854775808 ≤ o.1 ∧ o.1 ≤ 9223372036854775807) := by
  obtain ⟨ys, n', hn', hy, hlen, hyl, hg⟩ := DataW.trod_struct Tryd.underlying29 hf
  match cs, hl, ys, hyl with
  | [v0, v1], _, [y0, y1], _ =>
    obtain ⟨m0, e0, -, w0⟩ := DataW.trod_int Tryd.underlying3 (show DataW.trod enc Tryd.prog w 0 sp true n' 3 _ = some y0 from hg 0 _ rfl)
    obtain ⟨m1, e1, -⟩ := DataW.trod_bool Tryd.underlying4 (show DataW.trod enc Tryd.prog w 0 sp true n' 4 _ = some y1 from hg 1 _ rfl)
    obtain rfl := (List.cons.inj e0).1
    obtain rfl := (List.cons.inj e1).1
    exact ⟨(m0, m1), rfl, wf_bounds w0⟩
set_option maxRecDepth 100000 in
theorem ots_of_reading {r : Reach} {b0 : Nat} {v : Value} {d : DataW H} {p : List MemPlace} (hv : Value.okWide Tryd.prog w r b0 22 v) (h : DataW.Trod enc Tryd.prog w 0 (fun _ => true) true 22 v d p) :
    ∃ L : List Ot, Ots w v L := by
  obtain ⟨a0, l0, c0, rfl⟩ := okWide_slice Tryd.underlying22 hv
  obtain ⟨fuel, hf⟩ := h
  rcases open_slice Tryd.underlying22 hf with ⟨hc, _⟩ | ⟨a, len, cap, m, n, D, Pl, hc, _, hl, hm, hmm, _, hx⟩
  · have hv : Value.slice a0 l0 c0 = .slice none 0 0 := by simpa [Value.cells] using hc
    rw [hv]
    exact ⟨[], ⟨none, 0, rfl, Nat.le_refl _, Nat.zero_le _, fun h => absurd h (Nat.lt_irrefl _)⟩, by simp⟩
  · have hv : Value.slice a0 l0 c0 = .slice (some a) len cap := by simpa [Value.cells] using hc
    rw [hv]
    have hC : Tryd.prog.cellsOf 29 = 2 := by kernel_rfl
    have hm' : m = cap := by simpa using hmm
    have each : ∀ i, i < len → ∃ q : Ot, w.cell? (a.add (i * 2)) = some (.int .i64 q.1) ∧ w.cell? (a.add (i * 2 + 1)) = some (.bool q.2) ∧ (-9223372036854775808 ≤ q.1 ∧ q.1 ≤ 9223372036854775807) := by
      intro i hi
      obtain ⟨cs', h1, h2⟩ := hx i (by omega)
      rw [hC] at h1
      obtain ⟨_, hlen, hcell⟩ := World.cells?_some h1
      obtain ⟨f, rfl, hr⟩ := ot_of_trod hlen h2
      have e0 := hcell 0 (by omega)
      have e1 := hcell 1 (by omega)
      rw [add_add] at e0 e1
      exact ⟨f, by simpa using e0, by simpa using e1, hr⟩
    obtain ⟨q, hq⟩ := choose_lt each
    refine ⟨(List.range len).map q, ⟨some a, cap, by simp, by simpa using hl, hm, fun h0 => ?_⟩, fun o ho => ?_⟩
    · have h0 : 0 < len := by simpa using h0
      have ha : ∃ g off, a = ⟨g, off, none⟩ := by
        have := (hq 0 h0).1
        obtain ⟨g, off, spot⟩ := a
        have hspot : spot = none := by simpa [Addr.add] using World.cell?_spot this
        subst hspot
        exact ⟨g, off, rfl⟩
      obtain ⟨g, off, rfl⟩ := ha
      refine ⟨g, off, rfl, fun j f hj => ?_⟩
      rw [List.getElem?_map] at hj
      obtain ⟨j', hj', rfl⟩ := Option.map_eq_some_iff.1 hj
      obtain ⟨hlt, e⟩ := List.getElem?_eq_some_iff.1 hj'
      simp at hlt e
      subst e
      obtain ⟨h1, h2, -⟩ := hq j (by omega)
      rw [Go.WideShapes.add_plain] at h1 h2
      exact ⟨h1, h2⟩
    · obtain ⟨k, hk, rfl⟩ := List.mem_map.1 ho
      exact (hq k (List.mem_range.1 hk)).2.2
end
end Go.Proofs.YtdpebaheojaihaaDoor
