/- Contracts of this seat: OpF. -/
import Derived.Test.YtgohlhgapboijaaGreatDoorZe
import Derived.Test.YtgohlhgapboijaaGreatDoorZg
import Derived.Deep.Slices
/- Arguments opened: a list of frames. -/
namespace Go.Proofs.YtgohlhgapboijaaGreatDoor
set_option linter.unusedVariables false
set_option linter.unusedSimpArgs false
open Go.ChangeShapes Go.WideShapes Go.ChangeAt Go.RowKit Go.Joins Go.Deep
section
variable {H : Type} {enc : TypeId × Value → H} {w : World}

set_option maxRecDepth 100000 in
theorem frame_of_trod {sp : Nat → Bool} {fuel : Nat} {cs : List Value} {y : DataW H × List MemPlace} (hsp : ∀ b, sp b = true) (hl : cs.length = 3) (hf : DataW.trod enc Tryz.prog w 0 sp true fuel 48 cs = some y) :
    ∃ (f : Fr) (u : Value), cs = [.int .i64 f.1, .int .i64 f.2.1, u] ∧ Row w u f.2.2.length (f.2.2.map (Value.int .i64)) := by
  obtain ⟨y0, y1, y2, n, -, -, h0, h1, h2⟩ := trod_struct3 Tryz.underlying48 hf
  match cs, hl with
  | [v0, v1, v2], _ =>
    obtain ⟨m0, e0, -, w0⟩ := DataW.trod_int Tryz.underlying3 h0
    obtain ⟨m1, e1, -, w1⟩ := DataW.trod_int Tryz.underlying3 h1
    obtain ⟨zs, hz, -, -⟩ := ints_of_trod hsp h2
    obtain rfl := (List.cons.inj e0).1
    obtain rfl := (List.cons.inj e1).1
    exact ⟨(m0, m1, zs), v2, rfl, hz⟩
set_option maxRecDepth 100000 in
theorem fms_of_reading {r : Reach} {b0 : Nat} {v : Value} {d : DataW H} {p : List MemPlace} (hv : Value.okWide Tryz.prog w r b0 22 v) (h : DataW.Trod enc Tryz.prog w 0 (fun _ => true) true 22 v d p) :
    ∃ L : List Fr, Fms w v L := by
  obtain ⟨a0, l0, c0, rfl⟩ := okWide_slice Tryz.underlying22 hv
  obtain ⟨fuel, hf⟩ := h
  rcases open_slice Tryz.underlying22 hf with ⟨hc, _⟩ | ⟨a, len, cap, m, n, D, Pl, hc, _, hl, hm, hmm, _, hx⟩
  · have hv : Value.slice a0 l0 c0 = .slice none 0 0 := by simpa [Value.cells] using hc
    rw [hv]
    exact ⟨[], Fms.nil w⟩
  · have hv : Value.slice a0 l0 c0 = .slice (some a) len cap := by simpa [Value.cells] using hc
    rw [hv]
    have hC : Tryz.prog.cellsOf 48 = 3 := by kernel_rfl
    have hm' : m = cap := by simpa using hmm
    have each : ∀ i, i < len → ∃ q : Fr × Value, w.cell? (a.add (i * 3)) = some (.int .i64 q.1.1) ∧ w.cell? (a.add (i * 3 + 1)) = some (.int .i64 q.1.2.1) ∧ w.cell? (a.add (i * 3 + 2)) = some q.2 ∧ Row w q.2 q.1.2.2.length (q.1.2.2.map (Value.int .i64)) := by
      intro i hi
      obtain ⟨cs', h1, h2⟩ := hx i (by omega)
      rw [hC] at h1
      obtain ⟨_, hlen, hcell⟩ := World.cells?_some h1
      obtain ⟨f, u, rfl, hr⟩ := frame_of_trod (fun _ => rfl) hlen h2
      have e0 := hcell 0 (by omega)
      have e1 := hcell 1 (by omega)
      have e2 := hcell 2 (by omega)
      rw [add_add] at e0 e1 e2
      exact ⟨(f, u), by simpa using e0, by simpa using e1, by simpa using e2, hr⟩
    obtain ⟨q, hq⟩ := choose_lt each
    refine ⟨(List.range len).map fun i => (q i).1, some a, cap, by simp, fun h0 => ?_⟩
    have h0 : 0 < len := by simpa using h0
    have ha : ∃ g off, a = ⟨g, off, none⟩ := by
      have := (hq 0 h0).1
      obtain ⟨g, off, spot⟩ := a
      have hspot : spot = none := by simpa [Addr.add] using World.cell?_spot this
      subst hspot
      exact ⟨g, off, rfl⟩
    obtain ⟨g, off, rfl⟩ := ha
    refine ⟨g, off, rfl, fun j f hj => ?_⟩
    rw [List.getElem?_map] at hj
    obtain ⟨j', hj', rfl⟩ := Option.map_eq_some_iff.1 hj
    obtain ⟨hlt, e⟩ := List.getElem?_eq_some_iff.1 hj'
    simp at hlt e
    subst e
    obtain ⟨h1, h2, h3, h4⟩ := hq j hlt
    obtain ⟨ra, rc, hu⟩ := h4.form
    rw [Go.WideShapes.add_plain] at h1 h2 h3
    rw [hu] at h3 h4
    exact ⟨ra, _, rc, h1, by rw [Nat.add_assoc]; exact h2, by rw [Nat.add_assoc]; exact h3, h4⟩
end
end Go.Proofs.YtgohlhgapboijaaGreatDoor
