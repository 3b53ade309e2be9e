/- A list of kinlaw3's operations opened: four numbers each. -/
import Derived.Test.YtehmgieocoppjaaDoorZs
namespace Go.Proofs.YtehmgieocoppjaaDoor
set_option linter.unusedVariables false
set_option linter.unusedSimpArgs false
open Go.ChangeShapes Go.WideShapes Go.ChangeAt Go.RowKit Go.Joins Go.Deep

/-- what an operation is: its kind, a number, k, a bound -/
abbrev Oq4 := Int × Int × Int × Int
def OqIn (w : World) (g i : Nat) (o : Oq4) : Prop := w.cell? ⟨g, i, none⟩ = some (.int .i64 o.1) ∧ w.cell? ⟨g, i + 1, none⟩ = some (.int .i64 o.2.1) ∧ w.cell? ⟨g, i + 2, none⟩ = some (.int .i64 o.2.2.1) ∧ w.cell? ⟨g, i + 3, none⟩ = some (.int .i64 o.2.2.2)
def oqb (o : Oq4) : Prop := (-9223372036854775808 ≤ o.1 ∧ o.1 ≤ 9223372036854775807) ∧ (-9223372036854775808 ≤ o.2.1 ∧ o.2.1 ≤ 9223372036854775807) ∧ (-9223372036854775808 ≤ o.2.2.1 ∧ o.2.2.1 ≤ 9223372036854775807) ∧ -9223372036854775808 ≤ o.2.2.2 ∧ o.2.2.2 ≤ 9223372036854775807
def Oqs (w : World) (v : Value) (L : List Oq4) : Prop := (∃ a cap, v = .slice a L.length cap ∧ L.length ≤ cap ∧ cap ≤ maxLen ∧ (0 < L.length → ∃ g off, a = some ⟨g, off, none⟩ ∧ ∀ q o, L[q]? = some o → OqIn w g (off + q * 4) o)) ∧ ∀ o ∈ L, oqb o
theorem OqIn.ext {w w' : World} {g i : Nat} {o : Oq4} (h : OqIn w g i o) (k : Ext w w') : OqIn w' g i o := ⟨k.cell h.1, k.cell h.2.1, k.cell h.2.2.1, k.cell h.2.2.2⟩
theorem Oqs.ext {w w' : World} {v : Value} {L : List Oq4} (h : Oqs w v L) (k : Ext w w') : Oqs w' v L := by
  obtain ⟨⟨a, cap, e, h1, h2, h3⟩, hb⟩ := h
  refine ⟨⟨a, cap, e, h1, h2, fun h0 => ?_⟩, hb⟩
  obtain ⟨g, off, ha, hq⟩ := h3 h0
  exact ⟨g, off, ha, fun q o ho => (hq q o ho).ext k⟩
theorem Oqs.form {w : World} {v : Value} {L : List Oq4} (h : Oqs w v L) : ∃ a cap, v = .slice a L.length cap := by
  obtain ⟨⟨a, cap, e, -⟩, -⟩ := h
  exact ⟨a, cap, e⟩
theorem Oqs.had {w : World} {a : Option Addr} {n cap : Nat} {L : List Oq4} (h : Oqs w (.slice a n cap) L) (hn : 0 < L.length) : ∃ g off, a = some ⟨g, off, none⟩ ∧ ∀ q o, L[q]? = some o → OqIn w g (off + q * 4) o := by
  obtain ⟨⟨a', cap', e, -, -, h3⟩, -⟩ := h
  simp only [Value.slice.injEq] at e
  obtain ⟨rfl, -, -⟩ := e
  exact h3 hn
theorem Oqs.small {w : World} {v : Value} {L : List Oq4} (h : Oqs w v L) : L.length ≤ maxLen := by
  obtain ⟨⟨a', cap', e, h1, h2, h3⟩, -⟩ := h
  omega
section
variable {H : Type} {enc : TypeId × Value → H} {w : World}
set_option maxRecDepth 100000 in
theorem oq_of_trod {sp : Nat → Bool} {fuel : Nat} {cs : List Value} {y : DataW H × List MemPlace} (hl : cs.length = 4) (hf : DataW.trod enc Tryd.prog w 0 sp true fuel 50 cs = some y) :
    ∃ o : Oq4, cs = [.int .i64 o.1, .int .i64 o.2.1, .int .i64 o.2.2.1, .int .i64 o.2.2.2] ∧ oqb o := by
  obtain ⟨ys, n', hn', hy, hlen, hyl, hg⟩ := DataW.trod_struct Tryd.underlying50 hf
  match cs, hl, ys, hyl with
  | [v0, v1, v2, v3], _, [y0, y1, y2, y3], _ =>
    obtain ⟨m0, e0, -, w0⟩ := DataW.trod_int Tryd.underlying3 (show DataW.trod enc Tryd.prog w 0 sp true n' 3 _ = some y0 from hg 0 _ rfl)
    obtain ⟨m1, e1, -, w1⟩ := DataW.trod_int Tryd.underlying3 (show DataW.trod enc Tryd.prog w 0 sp true n' 3 _ = some y1 from hg 1 _ rfl)
    obtain ⟨m2, e2, -, w2⟩ := DataW.trod_int Tryd.underlying3 (show DataW.trod enc Tryd.prog w 0 sp true n' 3 _ = some y2 from hg 2 _ rfl)
    obtain ⟨m3, e3, -, w3⟩ := DataW.trod_int Tryd.underlying3 (show DataW.trod enc Tryd.prog w 0 sp true n' 3 _ = some y3 from hg 3 _ rfl)
    obtain rfl := (List.cons.inj e0).1
    obtain rfl := (List.cons.inj e1).1
    obtain rfl := (List.cons.inj e2).1
    obtain rfl := (List.cons.inj e3).1
    exact ⟨(m0, m1, m2, m3), rfl, wf_bounds w0, wf_bounds w1, wf_bounds w2, wf_bounds w3⟩
set_option maxRecDepth 100000 in
theorem oqs_of_reading {r : Reach} {b0 : Nat} {v : Value} {d : DataW H} {p : List MemPlace} (hv : Value.okWide Tryd.prog w r b0 47 v) (h : DataW.Trod enc Tryd.prog w 0 (fun _ => true) true 47 v d p) :
    ∃ L : List Oq4, Oqs w v L := by
  obtain ⟨a0, l0, c0, rfl⟩ := okWide_slice Tryd.underlying47 hv
  obtain ⟨fuel, hf⟩ := h
  rcases open_slice Tryd.underlying47 hf with ⟨hc, _⟩ | ⟨a, len, cap, m, n, D, Pl, hc, _, hl, hm, hmm, _, hx⟩
  · have hv : Value.slice a0 l0 c0 = .slice none 0 0 := by simpa [Value.cells] using hc
    rw [hv]
    exact ⟨[], ⟨none, 0, rfl, Nat.le_refl _, Nat.zero_le _, fun h => absurd h (Nat.lt_irrefl _)⟩, by simp⟩
  · have hv : Value.slice a0 l0 c0 = .slice (some a) len cap := by simpa [Value.cells] using hc
    rw [hv]
    have hC : Tryd.prog.cellsOf 50 = 4 := by kernel_rfl
    have hm' : m = cap := by simpa using hmm
    have each : ∀ i, i < len → ∃ q : Oq4, w.cell? (a.add (i * 4)) = some (.int .i64 q.1) ∧ w.cell? (a.add (i * 4 + 1)) = some (.int .i64 q.2.1) ∧ w.cell? (a.add (i * 4 + 2)) = some (.int .i64 q.2.2.1) ∧ w.cell? (a.add (i * 4 + 3)) = some (.int .i64 q.2.2.2) ∧ oqb q := by
      intro i hi
      obtain ⟨cs', h1, h2⟩ := hx i (by omega)
      rw [hC] at h1
      obtain ⟨_, hlen, hcell⟩ := World.cells?_some h1
      obtain ⟨f, rfl, hr⟩ := oq_of_trod hlen h2
      have e0 := hcell 0 (by omega)
      have e1 := hcell 1 (by omega)
      have e2 := hcell 2 (by omega)
      have e3 := hcell 3 (by omega)
      rw [add_add] at e0 e1 e2 e3
      exact ⟨f, by simpa using e0, by simpa using e1, by simpa using e2, by simpa using e3, hr⟩
    obtain ⟨q, hq⟩ := choose_lt each
    refine ⟨(List.range len).map q, ⟨some a, cap, by simp, by simpa using hl, hm, fun h0 => ?_⟩, fun o ho => ?_⟩
    · have h0 : 0 < len := by simpa using h0
      have ha : ∃ g off, a = ⟨g, off, none⟩ := by
        have := (hq 0 h0).1
        obtain ⟨g, off, spot⟩ := a
        have hspot : spot = none := by simpa [Addr.add] using World.cell?_spot this
        subst hspot
        exact ⟨g, off, rfl⟩
      obtain ⟨g, off, rfl⟩ := ha
      refine ⟨g, off, rfl, fun j f hj => ?_⟩
      rw [List.getElem?_map] at hj
      obtain ⟨j', hj', rfl⟩ := Option.map_eq_some_iff.1 hj
      obtain ⟨hlt, e⟩ := List.getElem?_eq_some_iff.1 hj'
      simp at hlt e
      subst e
      obtain ⟨h1, h2, h3, h4, -⟩ := hq j (by omega)
      rw [Go.WideShapes.add_plain] at h1 h2 h3 h4
      exact ⟨h1, h2, h3, h4⟩
    · obtain ⟨k, hk, rfl⟩ := List.mem_map.1 ho
      exact (hq k (List.mem_range.1 hk)).2.2.2.2
end
end Go.Proofs.YtehmgieocoppjaaDoor
