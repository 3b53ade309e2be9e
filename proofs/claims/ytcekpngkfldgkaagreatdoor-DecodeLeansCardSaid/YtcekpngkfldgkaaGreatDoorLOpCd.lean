/- Arguments opened: a list of coded frames. -/
import Derived.Test.YtcekpngkfldgkaaGreatDoorUmb
import Derived.Deep.Slices
namespace Go.Proofs.YtcekpngkfldgkaaGreatDoor
set_option linter.unusedVariables false
set_option linter.unusedSimpArgs false
open Go.ChangeShapes Go.WideShapes Go.ChangeAt Go.RowKit Go.Joins Go.Deep
section
variable {H : Type} {enc : TypeId × Value → H} {w : World}

set_option maxRecDepth 100000 in
theorem coded_of_trod {fuel : Nat} {cs : List Value} {y : DataW H × List MemPlace} (hl : cs.length = 2) (hf : DataW.trod enc Tryz.prog w 0 (fun _ => true) true fuel 63 cs = some y) :
    ∃ (f : Cd) (u : Value), cs = [.int .i64 f.1, u] ∧ Row w u f.2.length (byV f.2) ∧ ∀ x ∈ f.2, x < 256 := by
  obtain ⟨y0, y1, n, -, -, h0, h1⟩ := trod_struct2 Tryz.underlying63 hf
  match cs, hl with
  | [v0, v1], _ =>
    obtain ⟨m0, e0, -, w0⟩ := DataW.trod_int Tryz.underlying3 h0
    obtain ⟨bs, hr, hb⟩ := bys_of_trod h1
    obtain rfl := (List.cons.inj e0).1
    exact ⟨(m0, bs), v1, rfl, hr, hb⟩
set_option maxRecDepth 100000 in
theorem cds_of_reading {r : Reach} {b0 : Nat} {v : Value} {d : DataW H} {p : List MemPlace} (hv : Value.okWide Tryz.prog w r b0 51 v) (h : DataW.Trod enc Tryz.prog w 0 (fun _ => true) true 51 v d p) :
    ∃ L : List Cd, Cds w v L := by
  obtain ⟨a0, l0, c0, rfl⟩ := okWide_slice Tryz.underlying51 hv
  obtain ⟨fuel, hf⟩ := h
  rcases open_slice Tryz.underlying51 hf with ⟨hc, _⟩ | ⟨a, len, cap, m, n, D, Pl, hc, _, hl, hm, hmm, _, hx⟩
  · have hv : Value.slice a0 l0 c0 = .slice none 0 0 := by simpa [Value.cells] using hc
    rw [hv]
    exact ⟨[], Cds.nil w⟩
  · have hv : Value.slice a0 l0 c0 = .slice (some a) len cap := by simpa [Value.cells] using hc
    rw [hv]
    have hC : Tryz.prog.cellsOf 63 = 2 := by kernel_rfl
    have hm' : m = cap := by simpa using hmm
    have each : ∀ i, i < len → ∃ q : Cd × Value, w.cell? (a.add (i * 2)) = some (.int .i64 q.1.1) ∧ w.cell? (a.add (i * 2 + 1)) = some q.2 ∧ Row w q.2 q.1.2.length (byV q.1.2) ∧ ∀ x ∈ q.1.2, x < 256 := by
      intro i hi
      obtain ⟨cs', h1, h2⟩ := hx i (by omega)
      rw [hC] at h1
      obtain ⟨_, hlen, hcell⟩ := World.cells?_some h1
      obtain ⟨f, u, rfl, hr, hb⟩ := coded_of_trod hlen h2
      have e0 := hcell 0 (by omega)
      have e1 := hcell 1 (by omega)
      rw [add_add] at e0 e1
      exact ⟨(f, u), by simpa using e0, by simpa using e1, hr, hb⟩
    obtain ⟨q, hq⟩ := choose_lt each
    refine ⟨(List.range len).map fun i => (q i).1, some a, cap, by simp, ⟨by simpa using hl, hm⟩, fun h0 => ?_⟩
    have h0 : 0 < len := by simpa using h0
    have ha : ∃ g off, a = ⟨g, off, none⟩ := by
      have := (hq 0 h0).1
      obtain ⟨g, off, spot⟩ := a
      have hspot : spot = none := by simpa [Addr.add] using World.cell?_spot this
      subst hspot
      exact ⟨g, off, rfl⟩
    obtain ⟨g, off, rfl⟩ := ha
    refine ⟨g, off, rfl, fun j f hj => ?_⟩
    rw [List.getElem?_map] at hj
    obtain ⟨j', hj', rfl⟩ := Option.map_eq_some_iff.1 hj
    obtain ⟨hlt, e⟩ := List.getElem?_eq_some_iff.1 hj'
    simp at hlt e
    subst e
    obtain ⟨h1, h2, h3, h4⟩ := hq j hlt
    obtain ⟨ra, rc, hu⟩ := h3.form
    rw [Go.WideShapes.add_plain] at h1 h2
    rw [hu] at h2 h3
    exact ⟨ra, _, rc, h1, by rw [Nat.add_assoc]; exact h2, h3, h4⟩
end
end Go.Proofs.YtcekpngkfldgkaaGreatDoor
