/- Contracts of this seat: OpF, OpC, OpP. -/
import Derived.Test.YtgohlhgapboijaaDoorZe
import Derived.Test.YtgohlhgapboijaaDoorZg
import Derived.Deep.Slices
import Derived.Test.YtgohlhgapboijaaDoorZu
/- Arguments opened: a list of frames. -/
namespace Go.Proofs.YtgohlhgapboijaaDoor
set_option linter.unusedVariables false
set_option linter.unusedSimpArgs false
open Go.ChangeShapes Go.WideShapes Go.ChangeAt Go.RowKit Go.Joins Go.Deep
section
variable {H : Type} {enc : TypeId × Value → H} {w : World}

set_option maxRecDepth 100000 in
theorem frame_of_trod {sp : Nat → Bool} {fuel : Nat} {cs : List Value} {y : DataW H × List MemPlace} (hsp : ∀ b, sp b = true) (hl : cs.length = 3) (hf : DataW.trod enc Tryd.prog w 0 sp true fuel 54 cs = some y) :
    ∃ (f : Fr) (u : Value), cs = [.int .i64 f.1, .int .i64 f.2.1, u] ∧ Row w u f.2.2.length (f.2.2.map (Value.int .i64)) := by
  obtain ⟨y0, y1, y2, n, -, -, h0, h1, h2⟩ := trod_struct3 Tryd.underlying54 hf
  match cs, hl with
  | [v0, v1, v2], _ =>
    obtain ⟨m0, e0, -, w0⟩ := DataW.trod_int Tryd.underlying3 h0
    obtain ⟨m1, e1, -, w1⟩ := DataW.trod_int Tryd.underlying3 h1
    obtain ⟨zs, hz, -, -⟩ := ints_of_trod hsp h2
    obtain rfl := (List.cons.inj e0).1
    obtain rfl := (List.cons.inj e1).1
    exact ⟨(m0, m1, zs), v2, rfl, hz⟩
set_option maxRecDepth 100000 in
theorem fms_of_reading {r : Reach} {b0 : Nat} {v : Value} {d : DataW H} {p : List MemPlace} (hv : Value.okWide Tryd.prog w r b0 57 v) (h : DataW.Trod enc Tryd.prog w 0 (fun _ => true) true 57 v d p) :
    ∃ L : List Fr, Fms w v L := by
  obtain ⟨a0, l0, c0, rfl⟩ := okWide_slice Tryd.underlying57 hv
  obtain ⟨fuel, hf⟩ := h
  rcases open_slice Tryd.underlying57 hf with ⟨hc, _⟩ | ⟨a, len, cap, m, n, D, Pl, hc, _, hl, hm, hmm, _, hx⟩
  · have hv : Value.slice a0 l0 c0 = .slice none 0 0 := by simpa [Value.cells] using hc
    rw [hv]
    exact ⟨[], Fms.nil w⟩
  · have hv : Value.slice a0 l0 c0 = .slice (some a) len cap := by simpa [Value.cells] using hc
    rw [hv]
    have hC : Tryd.prog.cellsOf 54 = 3 := by kernel_rfl
    have hm' : m = cap := by simpa using hmm
    have each : ∀ i, i < len → ∃ q : Fr × Value, w.cell? (a.add (i * 3)) = some (.int .i64 q.1.1) ∧ w.cell? (a.add (i * 3 + 1)) = some (.int .i64 q.1.2.1) ∧ w.cell? (a.add (i * 3 + 2)) = some q.2 ∧ Row w q.2 q.1.2.2.length (q.1.2.2.map (Value.int .i64)) := by
      intro i hi
      obtain ⟨cs', h1, h2⟩ := hx i (by omega)
      rw [hC] at h1
      obtain ⟨_, hlen, hcell⟩ := World.cells?_some h1
      obtain ⟨f, u, rfl, hr⟩ := frame_of_trod (fun _ => rfl) hlen h2
      have e0 := hcell 0 (by omega)
      have e1 := hcell 1 (by omega)
      have e2 := hcell 2 (by omega)
      rw [add_add] at e0 e1 e2
      exact ⟨(f, u), by simpa using e0, by simpa using e1, by simpa using e2, hr⟩
    obtain ⟨q, hq⟩ := choose_lt each
    refine ⟨(List.range len).map fun i => (q i).1, some a, cap, by simp, fun h0 => ?_⟩
    have h0 : 0 < len := by simpa using h0
    have ha : ∃ g off, a = ⟨g, off, none⟩ := by
      have := (hq 0 h0).1
      obtain ⟨g, off, spot⟩ := a
      have hspot : spot = none := by simpa [Addr.add] using World.cell?_spot this
      subst hspot
      exact ⟨g, off, rfl⟩
    obtain ⟨g, off, rfl⟩ := ha
    refine ⟨g, off, rfl, fun j f hj => ?_⟩
    rw [List.getElem?_map] at hj
    obtain ⟨j', hj', rfl⟩ := Option.map_eq_some_iff.1 hj
    obtain ⟨hlt, e⟩ := List.getElem?_eq_some_iff.1 hj'
    simp at hlt e
    subst e
    obtain ⟨h1, h2, h3, h4⟩ := hq j hlt
    obtain ⟨ra, rc, hu⟩ := h4.form
    rw [Go.WideShapes.add_plain] at h1 h2 h3
    rw [hu] at h3 h4
    exact ⟨ra, _, rc, h1, by rw [Nat.add_assoc]; exact h2, by rw [Nat.add_assoc]; exact h3, h4⟩
end
end Go.Proofs.YtgohlhgapboijaaDoor

/- Arguments opened: a list of frames is no longer than it may grow. -/
namespace Go.Proofs.YtgohlhgapboijaaDoor
set_option linter.unusedVariables false
set_option linter.unusedSimpArgs false
open Go.ChangeShapes Go.WideShapes Go.ChangeAt Go.RowKit Go.Joins Go.Deep

set_option maxRecDepth 100000 in
theorem frames_caps {H : Type} {enc : TypeId × Value → H} {w : World} {v : Value} {d : DataW H} {p : List MemPlace} (h : DataW.Trod enc Tryd.prog w 0 (fun _ => true) true 57 v d p) (a : Option Addr) (n cap : Nat) (e : v = .slice a n cap) : n ≤ cap ∧ cap ≤ maxLen := by
  subst e
  obtain ⟨fuel, hf⟩ := h
  rcases open_slice Tryd.underlying57 hf with ⟨hc, _⟩ | ⟨a', len, cap', m, n', D, Pl, hc, _, hl, hm, _⟩
  · have hv : Value.slice a n cap = .slice none 0 0 := by simpa [Value.cells] using hc
    simp only [Value.slice.injEq] at hv
    obtain ⟨-, rfl, rfl⟩ := hv
    exact ⟨Nat.le_refl _, by unfold maxLen; omega⟩
  · have hv : Value.slice a n cap = .slice (some a') len cap' := by simpa [Value.cells] using hc
    simp only [Value.slice.injEq] at hv
    obtain ⟨-, rfl, rfl⟩ := hv
    exact ⟨hl, hm⟩
end Go.Proofs.YtgohlhgapboijaaDoor

/- Arguments opened: bytes, a slice that is nil or has an address; a byte. -/
namespace Go.Proofs.YtgohlhgapboijaaDoor
set_option linter.unusedVariables false
set_option linter.unusedSimpArgs false
open Go.ChangeShapes Go.WideShapes Go.ChangeAt Go.RowKit Go.Joins Go.Deep

section
variable {H : Type} {enc : TypeId × Value → H} {w : World}
set_option maxRecDepth 100000 in
theorem bysp_of_reading {r : Reach} {b0 : Nat} {v : Value} {d : DataW H} {p : List MemPlace} (hv : Value.okWide Tryd.prog w r b0 59 v) (h : DataW.Trod enc Tryd.prog w 0 (fun _ => true) true 59 v d p) :
    ∃ bs : List Nat, Row w v bs.length (bs.map fun x : Nat => Value.int .u8 (x : Int)) ∧ (∀ x ∈ bs, x < 256) ∧ Plain v := by
  obtain ⟨a0, l0, c0, rfl⟩ := okWide_slice Tryd.underlying59 hv
  obtain ⟨fuel, hf⟩ := h
  rcases open_ints Tryd.underlying59 (k := .u8) Tryd.underlying5 (by kernel_rfl) hf with ⟨hc, _⟩ | ⟨a, len, cap, zs, hc, _, hl, hm, hlen, _, hcell, hw⟩
  · have hv : Value.slice a0 l0 c0 = .slice none 0 0 := (List.cons.inj hc).1
    rw [hv]
    exact ⟨[], Row.nil w, by simp, .inl rfl⟩
  · have hv : Value.slice a0 l0 c0 = .slice (some a) len cap := (List.cons.inj hc).1
    rw [hv]
    simp only [if_true] at hlen
    have hB : ∀ x ∈ zs, 0 ≤ x ∧ x < 256 := fun x hx => by
      have h := hw x hx
      simp [Lit.wf, IntKind.min, IntKind.max, IntKind.signed, IntKind.bits] at h
      omega
    have hl' : ((zs.take len).map Int.toNat).length = len := by simp; omega
    have hcv : ((zs.take len).map Int.toNat).map (fun x : Nat => Value.int .u8 (x : Int)) = (zs.take len).map (Value.int .u8) := by
      rw [List.map_map]
      apply List.map_congr_left
      intro x hx
      have := hB x (List.mem_of_mem_take hx)
      show Value.int .u8 ((x.toNat : Nat) : Int) = _
      rw [Int.toNat_of_nonneg this.1]
    refine ⟨(zs.take len).map Int.toNat, ?_, fun x hx => ?_, .inr ⟨_, _, _, rfl⟩⟩
    · rw [hcv]
      refine ⟨some a, cap, by rw [hl'], by rw [hl']; exact hl, hm, fun h0 => ?_, fun g off ha j u hu => ?_⟩
      · have hp : 0 < zs.length := by rw [hl'] at h0; omega
        obtain ⟨b, off, rfl, _⟩ := ints_at hcell hp
        exact ⟨b, off, rfl⟩
      · obtain ⟨hj, rfl⟩ := lits_cells hu
        have := hcell j hj
        obtain rfl := Option.some.inj ha
        rwa [Go.WideShapes.add_plain] at this
    · obtain ⟨z, hz, rfl⟩ := List.mem_map.1 hx
      have := hB z (List.mem_of_mem_take hz)
      omega
set_option maxRecDepth 100000 in
theorem open_byte {r : Reach} {b0 : Nat} {v : Value} {d : DataW H} {ps : List MemPlace} (hval : Value.okWide Tryd.prog w r b0 5 v) (hd : DataW.Trod enc Tryd.prog w 0 (fun _ => true) true 5 v d ps) :
    ∃ n : Nat, v = .int .u8 (n : Int) ∧ d = .lit (.int .u8 (n : Int)) ∧ ps = [] ∧ n < 256 := by
  obtain ⟨z, rfl, rfl, rfl, hw⟩ := open_int Tryd.underlying5 hval hd
  have hb : 0 ≤ z ∧ z < 256 := by
    simp [Lit.wf, IntKind.min, IntKind.max, IntKind.signed, IntKind.bits] at hw
    omega
  refine ⟨z.toNat, ?_, ?_, rfl, by omega⟩ <;> rw [Int.toNat_of_nonneg hb.1]
end
end Go.Proofs.YtgohlhgapboijaaDoor
