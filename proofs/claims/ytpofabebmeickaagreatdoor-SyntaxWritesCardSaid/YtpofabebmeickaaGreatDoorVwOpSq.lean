/- Arguments opened: a square, a list of squares. -/
import Derived.Test.YtpofabebmeickaaGreatDoorVwZb
import Derived.Test.YtpofabebmeickaaGreatDoorVwZs
import Derived.Deep.Slices
namespace Go.Proofs.YtpofabebmeickaaGreatDoor
set_option linter.unusedVariables false
set_option linter.unusedSimpArgs false
open Go.ChangeShapes Go.WideShapes Go.ChangeAt Go.RowKit Go.Joins Go.Deep

instance : Inhabited Sq := ⟨sq0⟩
/-- the lists of a square of an argument -/
def RawSq (w : World) (q : Sq) (L s0 s1 s2 s3 : Value) : Prop := Row w L q.L.length (q.L.map (Value.int .i64)) ∧ Row w s0 q.s0.length (q.s0.map (Value.int .i64)) ∧ Row w s1 q.s1.length (q.s1.map (Value.int .i64)) ∧ Row w s2 q.s2.length (q.s2.map (Value.int .i64)) ∧ Row w s3 q.s3.length (q.s3.map (Value.int .i64))
theorem RawSq.ext {w w' : World} {q : Sq} {L s0 s1 s2 s3 : Value} (h : RawSq w q L s0 s1 s2 s3) (k : Ext w w') : RawSq w' q L s0 s1 s2 s3 := ⟨h.1.ext k, h.2.1.ext k, h.2.2.1.ext k, h.2.2.2.1.ext k, h.2.2.2.2.ext k⟩
def sqC (q : Sq) (L s0 s1 s2 s3 : Value) : List Value := [.int .i64 q.k, .int .i64 q.m, .int .i64 q.a, .int .i64 q.b, .int .i64 q.c, .int .i64 q.d, .int .i64 q.x, .int .i64 q.y, L, s0, s1, s2, s3]
/-- a list of squares that is an argument -/
def Sqs (w : World) (v : Value) (l : List Sq) : Prop := ∃ (a : Option Addr) (cap : Nat), v = .slice a l.length cap ∧ l.length ≤ cap ∧ cap ≤ maxLen ∧
  (0 < l.length → ∃ g off, a = some ⟨g, off, none⟩ ∧ ∀ i q, l[i]? = some q → ∃ L s0 s1 s2 s3, (∀ j u, (sqC q L s0 s1 s2 s3)[j]? = some u → w.cell? ⟨g, off + i * 13 + j, none⟩ = some u) ∧ RawSq w q L s0 s1 s2 s3)
theorem Sqs.ext {w w' : World} {v : Value} {l : List Sq} (h : Sqs w v l) (k : Ext w w') : Sqs w' v l := by
  obtain ⟨a, cap, h0, h1, h2, h3⟩ := h
  refine ⟨a, cap, h0, h1, h2, fun hl => ?_⟩
  obtain ⟨g, off, e, h4⟩ := h3 hl
  refine ⟨g, off, e, fun i q hq => ?_⟩
  obtain ⟨L, s0, s1, s2, s3, h5, h6⟩ := h4 i q hq
  exact ⟨L, s0, s1, s2, s3, fun j u hu => k.cell (h5 j u hu), h6.ext k⟩
theorem Sqs.form {w : World} {v : Value} {l : List Sq} (h : Sqs w v l) : ∃ a cap, v = .slice a l.length cap := by
  obtain ⟨a, cap, h0, -⟩ := h
  exact ⟨a, cap, h0⟩
theorem Sqs.small {w : World} {v : Value} {l : List Sq} (h : Sqs w v l) : l.length ≤ maxLen := by
  obtain ⟨a, cap, h0, h1, h2, -⟩ := h
  omega
section
variable {H : Type} {enc : TypeId × Value → H} {w : World}
theorem raw_of_trod {v : Value} {y : DataW H × List MemPlace} {fuel : Nat} (hf : DataW.trod enc Tryz.prog w 0 (fun _ => true) true fuel 33 [v] = some y) : ∃ zs : List Int, Row w v zs.length (zs.map (Value.int .i64)) := by
  obtain ⟨zs, h, -⟩ := ints_of_trod (fun _ => rfl) hf
  exact ⟨zs, h⟩
set_option maxRecDepth 100000 in
theorem sq_of_trod {fuel : Nat} {cs : List Value} {y : DataW H × List MemPlace} (hl : cs.length = 13) (hf : DataW.trod enc Tryz.prog w 0 (fun _ => true) true fuel 36 cs = some y) :
    ∃ q L s0 s1 s2 s3, cs = sqC q L s0 s1 s2 s3 ∧ RawSq w q L s0 s1 s2 s3 := by
  have c4 : Tryz.prog.cellsOf 30 = 4 := by kernel_rfl
  have c2 : Tryz.prog.cellsOf 32 = 2 := by kernel_rfl
  have cs4 : Tryz.prog.cellsOf 34 = 4 := by kernel_rfl
  have ci : Tryz.prog.cellsOf 3 = 1 := by kernel_rfl
  have cl : Tryz.prog.cellsOf 33 = 1 := by kernel_rfl
  obtain ⟨ys, n', hn', hy, hlen, hyl, hg⟩ := DataW.trod_struct Tryz.underlying36 hf
  match cs, hl, ys, hyl with
  | [v0, v1, v2, v3, v4, v5, v6, v7, v8, v9, v10, v11, v12], _, [y0, y1, y2, y3, y4, y5], _ =>
    have t0 : DataW.trod enc Tryz.prog w 0 (fun _ => true) true n' 3 (([v0, v1, v2, v3, v4, v5, v6, v7, v8, v9, v10, v11, v12].drop 0).take (Tryz.prog.cellsOf 3)) = some y0 := hg 0 _ rfl
    have t1 : DataW.trod enc Tryz.prog w 0 (fun _ => true) true n' 3 (([v0, v1, v2, v3, v4, v5, v6, v7, v8, v9, v10, v11, v12].drop 1).take (Tryz.prog.cellsOf 3)) = some y1 := hg 1 _ rfl
    have t2 : DataW.trod enc Tryz.prog w 0 (fun _ => true) true n' 30 (([v0, v1, v2, v3, v4, v5, v6, v7, v8, v9, v10, v11, v12].drop 2).take (Tryz.prog.cellsOf 30)) = some y2 := hg 2 _ rfl
    have t3 : DataW.trod enc Tryz.prog w 0 (fun _ => true) true n' 32 (([v0, v1, v2, v3, v4, v5, v6, v7, v8, v9, v10, v11, v12].drop 6).take (Tryz.prog.cellsOf 32)) = some y3 := hg 3 _ rfl
    have t4 : DataW.trod enc Tryz.prog w 0 (fun _ => true) true n' 33 (([v0, v1, v2, v3, v4, v5, v6, v7, v8, v9, v10, v11, v12].drop 8).take (Tryz.prog.cellsOf 33)) = some y4 := hg 4 _ rfl
    have t5 : DataW.trod enc Tryz.prog w 0 (fun _ => true) true n' 34 (([v0, v1, v2, v3, v4, v5, v6, v7, v8, v9, v10, v11, v12].drop 9).take (Tryz.prog.cellsOf 34)) = some y5 := hg 5 _ rfl
    rw [ci] at t0 t1
    rw [c4] at t2
    rw [c2] at t3
    rw [cl] at t4
    rw [cs4] at t5
    have t0 : DataW.trod enc Tryz.prog w 0 (fun _ => true) true n' 3 [v0] = some y0 := t0
    have t1 : DataW.trod enc Tryz.prog w 0 (fun _ => true) true n' 3 [v1] = some y1 := t1
    have t2 : DataW.trod enc Tryz.prog w 0 (fun _ => true) true n' 30 [v2, v3, v4, v5] = some y2 := t2
    have t3 : DataW.trod enc Tryz.prog w 0 (fun _ => true) true n' 32 [v6, v7] = some y3 := t3
    have t4 : DataW.trod enc Tryz.prog w 0 (fun _ => true) true n' 33 [v8] = some y4 := t4
    have t5 : DataW.trod enc Tryz.prog w 0 (fun _ => true) true n' 34 [v9, v10, v11, v12] = some y5 := t5
    obtain ⟨m0, e0, -, -⟩ := DataW.trod_int Tryz.underlying3 t0
    obtain ⟨m1, e1, -, -⟩ := DataW.trod_int Tryz.underlying3 t1
    obtain rfl := (List.cons.inj e0).1
    obtain rfl := (List.cons.inj e1).1
    obtain ⟨zs, n2, -, -, -, hz, hz2⟩ := DataW.trod_array Tryz.underlying30 t2
    rw [ci] at hz2
    match zs, hz with
    | [z0, z1, z2, z3], _ =>
      obtain ⟨ma, ea, -, -⟩ := DataW.trod_int Tryz.underlying3 (show DataW.trod enc Tryz.prog w 0 (fun _ => true) true n2 3 [v2] = some z0 from hz2 0 (by decide))
      obtain ⟨mb, eb, -, -⟩ := DataW.trod_int Tryz.underlying3 (show DataW.trod enc Tryz.prog w 0 (fun _ => true) true n2 3 [v3] = some z1 from hz2 1 (by decide))
      obtain ⟨mc, ec, -, -⟩ := DataW.trod_int Tryz.underlying3 (show DataW.trod enc Tryz.prog w 0 (fun _ => true) true n2 3 [v4] = some z2 from hz2 2 (by decide))
      obtain ⟨md, ed, -, -⟩ := DataW.trod_int Tryz.underlying3 (show DataW.trod enc Tryz.prog w 0 (fun _ => true) true n2 3 [v5] = some z3 from hz2 3 (by decide))
      obtain rfl := (List.cons.inj ea).1
      obtain rfl := (List.cons.inj eb).1
      obtain rfl := (List.cons.inj ec).1
      obtain rfl := (List.cons.inj ed).1
      obtain ⟨u0, u1, n3, -, -, h0, h1⟩ := trod_struct2 Tryz.underlying32 t3
      obtain ⟨mx, ex, -, -⟩ := DataW.trod_int Tryz.underlying3 h0
      obtain ⟨my, ey, -, -⟩ := DataW.trod_int Tryz.underlying3 h1
      obtain rfl := (List.cons.inj ex).1
      obtain rfl := (List.cons.inj ey).1
      obtain ⟨L, hL⟩ := raw_of_trod t4
      obtain ⟨ws, n4, -, -, -, hw, hw2⟩ := DataW.trod_array Tryz.underlying34 t5
      rw [cl] at hw2
      match ws, hw with
      | [w0, w1, w2, w3], _ =>
        obtain ⟨s0, hs0⟩ := raw_of_trod (show DataW.trod enc Tryz.prog w 0 (fun _ => true) true n4 33 [v9] = some w0 from hw2 0 (by decide))
        obtain ⟨s1, hs1⟩ := raw_of_trod (show DataW.trod enc Tryz.prog w 0 (fun _ => true) true n4 33 [v10] = some w1 from hw2 1 (by decide))
        obtain ⟨s2, hs2⟩ := raw_of_trod (show DataW.trod enc Tryz.prog w 0 (fun _ => true) true n4 33 [v11] = some w2 from hw2 2 (by decide))
        obtain ⟨s3, hs3⟩ := raw_of_trod (show DataW.trod enc Tryz.prog w 0 (fun _ => true) true n4 33 [v12] = some w3 from hw2 3 (by decide))
        exact ⟨⟨m0, m1, ma, mb, mc, md, mx, my, L, s0, s1, s2, s3⟩, v8, v9, v10, v11, v12, rfl, hL, hs0, hs1, hs2, hs3⟩
set_option maxRecDepth 100000 in
theorem sqs_of_reading {r : Reach} {b0 : Nat} {v : Value} {d : DataW H} {p : List MemPlace} (hv : Value.okWide Tryz.prog w r b0 22 v) (h : DataW.Trod enc Tryz.prog w 0 (fun _ => true) true 22 v d p) :
    ∃ l : List Sq, Sqs w v l := by
  obtain ⟨a0, l0, c0, rfl⟩ := okWide_slice Tryz.underlying22 hv
  obtain ⟨fuel, hf⟩ := h
  rcases open_slice Tryz.underlying22 hf with ⟨hc, _⟩ | ⟨a, len, cap, m, n, D, Pl, hc, _, hl, hm, hmm, _, hx⟩
  · have hv : Value.slice a0 l0 c0 = .slice none 0 0 := by simpa [Value.cells] using hc
    rw [hv]
    exact ⟨[], none, 0, rfl, Nat.le_refl _, Nat.zero_le _, fun h => absurd h (by simp)⟩
  · have hv : Value.slice a0 l0 c0 = .slice (some a) len cap := by simpa [Value.cells] using hc
    rw [hv]
    have hC : Tryz.prog.cellsOf 36 = 13 := by kernel_rfl
    have hm' : m = cap := by simpa using hmm
    have each : ∀ i, i < len → ∃ z : Sq × Value × Value × Value × Value × Value, (∀ j u, (sqC z.1 z.2.1 z.2.2.1 z.2.2.2.1 z.2.2.2.2.1 z.2.2.2.2.2)[j]? = some u → w.cell? (a.add (i * 13 + j)) = some u) ∧ RawSq w z.1 z.2.1 z.2.2.1 z.2.2.2.1 z.2.2.2.2.1 z.2.2.2.2.2 := by
      intro i hi
      obtain ⟨cs', h1, h2⟩ := hx i (by omega)
      rw [hC] at h1
      obtain ⟨_, hlen, hcell⟩ := World.cells?_some h1
      obtain ⟨q, L, s0, s1, s2, s3, rfl, hr⟩ := sq_of_trod hlen h2
      refine ⟨(q, L, s0, s1, s2, s3), fun j u hu => ?_, hr⟩
      have hj := (List.getElem?_eq_some_iff.1 hu).1
      have e0 := hcell j (by simpa [sqC] using hj)
      rw [add_add] at e0
      rw [e0]
      exact hu
    obtain ⟨q, hq⟩ := choose_lt each
    refine ⟨(List.range len).map (fun i => (q i).1), some a, cap, by simp, by simp; omega, hm, fun h0 => ?_⟩
    have h0 : 0 < len := by simpa using h0
    have ha : ∃ g off, a = ⟨g, off, none⟩ := by
      have := (hq 0 h0).1 0 _ rfl
      obtain ⟨g, off, spot⟩ := a
      have hspot : spot = none := by simpa [Addr.add] using World.cell?_spot this
      subst hspot
      exact ⟨g, off, rfl⟩
    obtain ⟨g, off, rfl⟩ := ha
    refine ⟨g, off, rfl, fun i s hs => ?_⟩
    rw [List.getElem?_map] at hs
    obtain ⟨j, hj, rfl⟩ := Option.map_eq_some_iff.1 hs
    obtain ⟨hlt, e⟩ := List.getElem?_eq_some_iff.1 hj
    simp at hlt e
    subst e
    obtain ⟨h1, h2⟩ := hq i (by omega)
    refine ⟨_, _, _, _, _, fun j u hu => ?_, h2⟩
    have := h1 j u hu
    rwa [Go.WideShapes.add_plain, ← Nat.add_assoc] at this
end
end Go.Proofs.YtpofabebmeickaaGreatDoor

