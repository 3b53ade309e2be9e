/- Arguments opened: a chunk of coded frames. -/
import Derived.Test.YtlaedbglclmheaaGreatDoorZm
import Derived.Test.YtlaedbglclmheaaGreatDoorGp3
import Derived.Deep.Slices
import Derived.Lib.SmallJoins
namespace Go.Proofs.YtlaedbglclmheaaGreatDoor
set_option linter.unusedVariables false
set_option linter.unusedSimpArgs false
open Go.ChangeShapes Go.WideShapes Go.ChangeAt Go.RowKit Go.Joins Go.Deep
section
variable {H : Type} {enc : TypeId × Value → H} {w : World}
set_option maxRecDepth 100000 in
theorem bysq_of_trod {fuel : Nat} {v : Value} {y : DataW H × List MemPlace} (hf : DataW.trod enc Tryz.prog w 0 (fun _ => true) true fuel 30 [v] = some y) :
    ∃ bs : List Nat, (Row w v bs.length (bs.map fun x : Nat => Value.int .u8 (x : Int)) ∧ ∀ x ∈ bs, x < 256) ∧ Plain v := by
  rcases open_ints Tryz.underlying30 (k := .u8) Tryz.underlying5 (by kernel_rfl) hf with ⟨hc, _⟩ | ⟨a, len, cap, zs, hc, _, hl, hm, hlen, _, hcell, hw⟩
  · have hv : v = .slice none 0 0 := (List.cons.inj hc).1
    rw [hv]
    exact ⟨[], ⟨Row.nil w, by simp⟩, .inl rfl⟩
  · have hv : v = .slice (some a) len cap := (List.cons.inj hc).1
    rw [hv]
    simp only [if_true] at hlen
    have hB : ∀ x ∈ zs, 0 ≤ x ∧ x < 256 := fun x hx => by
      have h := hw x hx
      simp [Lit.wf, IntKind.min, IntKind.max, IntKind.signed, IntKind.bits] at h
      omega
    have hl' : ((zs.take len).map Int.toNat).length = len := by simp; omega
    have hcv : ((zs.take len).map Int.toNat).map (fun x : Nat => Value.int .u8 (x : Int)) = (zs.take len).map (Value.int .u8) := by
      rw [List.map_map]
      apply List.map_congr_left
      intro x hx
      have := hB x (List.mem_of_mem_take hx)
      show Value.int .u8 ((x.toNat : Nat) : Int) = _
      rw [Int.toNat_of_nonneg this.1]
    refine ⟨(zs.take len).map Int.toNat, ⟨?_, fun x hx => ?_⟩, .inr ⟨_, _, _, rfl⟩⟩
    · rw [hcv]
      refine ⟨some a, cap, by rw [hl'], by rw [hl']; exact hl, hm, fun h0 => ?_, fun g off ha j u hu => ?_⟩
      · have hp : 0 < zs.length := by rw [hl'] at h0; omega
        obtain ⟨b, off, rfl, _⟩ := ints_at hcell hp
        exact ⟨b, off, rfl⟩
      · obtain ⟨hj, rfl⟩ := lits_cells hu
        have := hcell j hj
        obtain rfl := Option.some.inj ha
        rwa [Go.WideShapes.add_plain] at this
    · obtain ⟨z, hz, rfl⟩ := List.mem_map.1 hx
      have := hB z (List.mem_of_mem_take hz)
      omega
set_option maxRecDepth 100000 in
theorem codedq_of_trod {fuel : Nat} {cs : List Value} {y : DataW H × List MemPlace} (hl : cs.length = 2) (hf : DataW.trod enc Tryz.prog w 0 (fun _ => true) true fuel 61 cs = some y) :
    ∃ (f : Cd) (u : Value), cs = [.int .i64 f.1, u] ∧ (Row w u f.2.length (byV f.2) ∧ ∀ x ∈ f.2, x < 256) ∧ Plain u := by
  obtain ⟨y0, y1, n, -, -, h0, h1⟩ := trod_struct2 Tryz.underlying61 hf
  match cs, hl with
  | [v0, v1], _ =>
    obtain ⟨m0, e0, -, w0⟩ := DataW.trod_int Tryz.underlying3 h0
    obtain ⟨bs, hr, hp⟩ := bysq_of_trod h1
    obtain rfl := (List.cons.inj e0).1
    exact ⟨(m0, bs), v1, rfl, hr, hp⟩
set_option maxRecDepth 100000 in
theorem cdsq_of_trod {fuel : Nat} {v : Value} {y : DataW H × List MemPlace} (h : DataW.trod enc Tryz.prog w 0 (fun _ => true) true fuel 24 [v] = some y) :
    ∃ L : List Cd, Cds w v L ∧ CdsP w v := by
  rcases open_slice Tryz.underlying24 h with ⟨hc, _⟩ | ⟨a, len, cap, m, n, D, Pl, hc, _, hl, hm, hmm, _, hx⟩
  · have hv : v = .slice none 0 0 := (List.cons.inj hc).1
    rw [hv]
    exact ⟨[], Cds.nil w, fun g off n cap q u e => by cases e⟩
  · have hv : v = .slice (some a) len cap := (List.cons.inj hc).1
    rw [hv]
    have hC : Tryz.prog.cellsOf 61 = 2 := by kernel_rfl
    have hm' : m = cap := by simpa using hmm
    have each : ∀ i, i < len → ∃ q : Cd × Value, w.cell? (a.add (i * 2)) = some (.int .i64 q.1.1) ∧ w.cell? (a.add (i * 2 + 1)) = some q.2 ∧ (Row w q.2 q.1.2.length (byV q.1.2) ∧ ∀ x ∈ q.1.2, x < 256) ∧ Plain q.2 := by
      intro i hi
      obtain ⟨cs', h1, h2⟩ := hx i (by omega)
      rw [hC] at h1
      obtain ⟨_, hlen, hcell⟩ := World.cells?_some h1
      obtain ⟨f, u, rfl, hr, hp⟩ := codedq_of_trod hlen h2
      have e0 := hcell 0 (by omega)
      have e1 := hcell 1 (by omega)
      rw [add_add] at e0 e1
      exact ⟨(f, u), by simpa using e0, by simpa using e1, hr, hp⟩
    obtain ⟨q, hq⟩ := choose_lt each
    refine ⟨(List.range len).map fun i => (q i).1, ⟨some a, cap, by simp, ⟨by simpa using hl, hm⟩, fun h0 => ?_⟩, ?_⟩
    · have h0 : 0 < len := by simpa using h0
      have ha : ∃ g off, a = ⟨g, off, none⟩ := by
        have := (hq 0 h0).1
        obtain ⟨g, off, spot⟩ := a
        have hspot : spot = none := by simpa [Addr.add] using World.cell?_spot this
        subst hspot
        exact ⟨g, off, rfl⟩
      obtain ⟨g, off, rfl⟩ := ha
      refine ⟨g, off, rfl, fun j f hj => ?_⟩
      rw [List.getElem?_map] at hj
      obtain ⟨j', hj', rfl⟩ := Option.map_eq_some_iff.1 hj
      obtain ⟨hlt, e⟩ := List.getElem?_eq_some_iff.1 hj'
      simp at hlt e
      subst e
      obtain ⟨h1, h2, ⟨h3, h4⟩, -⟩ := hq j hlt
      obtain ⟨ra, rc, hu⟩ := h3.form
      rw [Go.WideShapes.add_plain] at h1 h2
      rw [hu] at h2 h3
      exact ⟨ra, _, rc, h1, by rw [Nat.add_assoc]; exact h2, h3, h4⟩
    · intro g off n2 cap2 j u e hj hcl
      simp only [Value.slice.injEq, Option.some.injEq] at e
      obtain ⟨rfl, rfl, rfl⟩ := e
      obtain ⟨-, h2, -, hp⟩ := hq j hj
      rw [Go.WideShapes.add_plain] at h2
      rw [show off + j * 2 + 1 = off + (j * 2 + 1) by omega, h2] at hcl
      rw [← Option.some.inj hcl]
      exact hp
set_option maxRecDepth 100000 in
theorem chunk_of_trod {fuel : Nat} {cs : List Value} {y : DataW H × List MemPlace} (hl : cs.length = 4) (hf : DataW.trod enc Tryz.prog w 0 (fun _ => true) true fuel 26 cs = some y) :
    ∃ (n f c : Int) (u : Value) (L : List Cd), cs = [.int .i64 n, .int .i64 f, .int .i64 c, u] ∧ Cds w u L ∧ CdsP w u := by
  have cg : Tryz.prog.cellsOf 23 = 2 := by kernel_rfl
  have ci : Tryz.prog.cellsOf 3 = 1 := by kernel_rfl
  have cl : Tryz.prog.cellsOf 24 = 1 := by kernel_rfl
  obtain ⟨ys, n', hn', hy, hlen, hyl, hg⟩ := DataW.trod_struct Tryz.underlying26 hf
  match cs, hl, ys, hyl with
  | [v0, v1, v2, v3], _, [y0, y1, y2], _ =>
    have t0 : DataW.trod enc Tryz.prog w 0 (fun _ => true) true n' 3 (([v0, v1, v2, v3].drop 0).take (Tryz.prog.cellsOf 3)) = some y0 := hg 0 _ rfl
    have t1 : DataW.trod enc Tryz.prog w 0 (fun _ => true) true n' 23 (([v0, v1, v2, v3].drop 1).take (Tryz.prog.cellsOf 23)) = some y1 := hg 1 _ rfl
    have t2 : DataW.trod enc Tryz.prog w 0 (fun _ => true) true n' 24 (([v0, v1, v2, v3].drop 3).take (Tryz.prog.cellsOf 24)) = some y2 := hg 2 _ rfl
    rw [ci] at t0
    rw [cg] at t1
    rw [cl] at t2
    have t0 : DataW.trod enc Tryz.prog w 0 (fun _ => true) true n' 3 [v0] = some y0 := t0
    have t1 : DataW.trod enc Tryz.prog w 0 (fun _ => true) true n' 23 [v1, v2] = some y1 := t1
    have t2 : DataW.trod enc Tryz.prog w 0 (fun _ => true) true n' 24 [v3] = some y2 := t2
    obtain ⟨m0, e0, -, -⟩ := DataW.trod_int Tryz.underlying3 t0
    obtain rfl := (List.cons.inj e0).1
    obtain ⟨z0, z1, n2, -, -, g0, g1⟩ := trod_struct2 Tryz.underlying23 t1
    obtain ⟨m1, e1, -, -⟩ := DataW.trod_int Tryz.underlying3 (show DataW.trod enc Tryz.prog w 0 (fun _ => true) true n2 3 [v1] = some z0 from g0)
    obtain ⟨m2, e2, -, -⟩ := DataW.trod_int Tryz.underlying3 (show DataW.trod enc Tryz.prog w 0 (fun _ => true) true n2 3 [v2] = some z1 from g1)
    obtain rfl := (List.cons.inj e1).1
    obtain rfl := (List.cons.inj e2).1
    obtain ⟨L, hL, hp⟩ := cdsq_of_trod t2
    exact ⟨m0, m1, m2, v3, L, rfl, hL, hp⟩
set_option maxRecDepth 100000 in
theorem open_chunk {r : Reach} {b0 : Nat} {v : Value} {d : DataW H} {p : List MemPlace} (hv : Value.okWide Tryz.prog w r b0 26 v) (h : DataW.Trod enc Tryz.prog w 0 (fun _ => true) true 26 v d p) :
    ∃ (n f c : Int) (u : Value) (L : List Cd), v = .agg #[.int .i64 n, .int .i64 f, .int .i64 c, u] ∧ Cds w u L ∧ CdsP w u := by
  obtain ⟨cs, rfl, hsz⟩ := okWide_struct Tryz.underlying26 hv
  obtain ⟨l⟩ := cs
  obtain ⟨fuel, hf⟩ := h
  have hC : Tryz.prog.cellsOf 26 = 4 := by kernel_rfl
  obtain ⟨n, f, c, u, L, e, hL, hp⟩ := chunk_of_trod (cs := l) (by rw [hC] at hsz; simpa using hsz) hf
  exact ⟨n, f, c, u, L, by rw [e], hL, hp⟩
end
end Go.Proofs.YtlaedbglclmheaaGreatDoor
