/- Contracts of this seat: OpRc. -/
import Derived.Test.YtmphochnmdmioaaDoorZc
import Derived.Test.YtmphochnmdmioaaDoorZi
/- Arguments opened: a record of the journal, a list of them, a unit. -/
namespace Go.Proofs.YtmphochnmdmioaaDoor
set_option linter.unusedVariables false
set_option linter.unusedSimpArgs false
open Go.ChangeShapes Go.WideShapes Go.ChangeAt Go.RowKit Go.Joins Go.Deep

instance : Inhabited Rc := ⟨zR⟩
def i64b (x : Int) : Prop := -9223372036854775808 ≤ x ∧ x ≤ 9223372036854775807
def rcb (r : Rc) : Prop := i64b r.k ∧ i64b r.s ∧ i64b r.n ∧ i64b r.l ∧ i64b r.c
theorem rcs_inv {L : List Rc} {j : Nat} {u : Value} (h : (rcs L)[j]? = some u) : ∃ r, L[j / 5]? = some r ∧ (rcC r)[j % 5]? = some u := by
  induction L generalizing j with
  | nil => simp [rcs] at h
  | cons a t ih =>
    have h : (rcC a ++ rcs t)[j]? = some u := h
    by_cases hj : j < 5
    · rw [List.getElem?_append_left (by show j < 5; exact hj)] at h
      exact ⟨a, by rw [Nat.div_eq_of_lt hj]; rfl, by rw [Nat.mod_eq_of_lt hj]; exact h⟩
    · rw [List.getElem?_append_right (by show 5 ≤ j; omega)] at h
      have h : (rcs t)[j - 5]? = some u := h
      obtain ⟨r, h1, h2⟩ := ih h
      refine ⟨r, ?_, ?_⟩
      · rw [show j / 5 = (j - 5) / 5 + 1 by omega, List.getElem?_cons_succ]; exact h1
      · rw [show j % 5 = (j - 5) % 5 by omega]; exact h2
theorem row_of_rc {w : World} {g off n cap : Nat} {L : List Rc} (hn : n = L.length) (h1 : n ≤ cap) (h2 : cap ≤ maxLen) (h : ∀ q r, L[q]? = some r → RcAt w g (off + q * 5) r) : Row w (.slice (some ⟨g, off, none⟩) n cap) n (rcs L) := by
  refine ⟨_, cap, rfl, h1, h2, fun _ => ⟨g, off, rfl⟩, fun g' off' ha j u hu => ?_⟩
  simp only [Option.some.injEq, Addr.mk.injEq, and_true] at ha
  obtain ⟨rfl, rfl⟩ := ha
  obtain ⟨r, hr, hx⟩ := rcs_inv hu
  obtain ⟨c0, c1, c2, c3, c4⟩ := h _ r hr
  have hj := Nat.div_add_mod j 5
  have h5 := Nat.mod_lt j (show 0 < 5 by decide)
  obtain ⟨q, hq⟩ : ∃ q, j / 5 = q := ⟨_, rfl⟩
  obtain ⟨i, hi⟩ : ∃ i, j % 5 = i := ⟨_, rfl⟩
  rw [hq] at hj c0 c1 c2 c3 c4
  rw [hi] at hx hj h5
  have e : off + j = off + q * 5 + i := by omega
  rw [e]
  match i, h5 with
  | 0, _ => obtain rfl := Option.some.inj hx; exact c0
  | 1, _ => obtain rfl := Option.some.inj hx; exact c1
  | 2, _ => obtain rfl := Option.some.inj hx; exact c2
  | 3, _ => obtain rfl := Option.some.inj hx; exact c3
  | 4, _ => obtain rfl := Option.some.inj hx; exact c4
section
variable {H : Type} {enc : TypeId × Value → H} {w : World}
set_option maxRecDepth 100000 in
theorem rc_of_trod {sp : Nat → Bool} {fuel : Nat} {cs : List Value} {y : DataW H × List MemPlace} (hl : cs.length = 5) (hf : DataW.trod enc Tryd.prog w 0 sp true fuel 24 cs = some y) :
    ∃ r : Rc, cs = rcC r ∧ rcb r := by
  obtain ⟨ys, n', hn', hy, hlen, hyl, hg⟩ := DataW.trod_struct Tryd.underlying24 hf
  match cs, hl, ys, hyl with
  | [v0, v1, v2, v3, v4], _, [y0, y1, y2, y3, y4], _ =>
    obtain ⟨m0, e0, -, w0⟩ := DataW.trod_int Tryd.underlying3 (show DataW.trod enc Tryd.prog w 0 sp true n' 3 _ = some y0 from hg 0 _ rfl)
    obtain ⟨m1, e1, -, w1⟩ := DataW.trod_int Tryd.underlying3 (show DataW.trod enc Tryd.prog w 0 sp true n' 3 _ = some y1 from hg 1 _ rfl)
    obtain ⟨m2, e2, -, w2⟩ := DataW.trod_int Tryd.underlying3 (show DataW.trod enc Tryd.prog w 0 sp true n' 3 _ = some y2 from hg 2 _ rfl)
    obtain ⟨m3, e3, -, w3⟩ := DataW.trod_int Tryd.underlying3 (show DataW.trod enc Tryd.prog w 0 sp true n' 3 _ = some y3 from hg 3 _ rfl)
    obtain ⟨m4, e4, -, w4⟩ := DataW.trod_int Tryd.underlying22 (show DataW.trod enc Tryd.prog w 0 sp true n' 22 _ = some y4 from hg 4 _ rfl)
    obtain rfl := (List.cons.inj e0).1
    obtain rfl := (List.cons.inj e1).1
    obtain rfl := (List.cons.inj e2).1
    obtain rfl := (List.cons.inj e3).1
    obtain rfl := (List.cons.inj e4).1
    exact ⟨⟨m0, m1, m2, m3, m4⟩, rfl, wf_bounds w0, wf_bounds w1, wf_bounds w2, wf_bounds w3, wf_bounds w4⟩
set_option maxRecDepth 100000 in
theorem open_rec {r : Reach} {b0 : Nat} {v : Value} {d : DataW H} {p : List MemPlace} (hv : Value.okWide Tryd.prog w r b0 24 v) (h : DataW.Trod enc Tryd.prog w 0 (fun _ => true) true 24 v d p) :
    ∃ x : Rc, v = rcA x ∧ rcb x := by
  obtain ⟨cs, rfl, hsz⟩ := okWide_struct Tryd.underlying24 hv
  obtain ⟨l⟩ := cs
  obtain ⟨fuel, hf⟩ := h
  have hC : Tryd.prog.cellsOf 24 = 5 := by kernel_rfl
  obtain ⟨x, e, hb⟩ := rc_of_trod (cs := l) (by rw [hC] at hsz; simpa using hsz) hf
  exact ⟨x, by rw [e]; rfl, hb⟩
set_option maxRecDepth 100000 in
theorem recs_of_reading {r : Reach} {b0 : Nat} {v : Value} {d : DataW H} {p : List MemPlace} (hv : Value.okWide Tryd.prog w r b0 49 v) (h : DataW.Trod enc Tryd.prog w 0 (fun _ => true) true 49 v d p) :
    ∃ L : List Rc, Row w v L.length (rcs L) ∧ ∀ x ∈ L, rcb x := by
  obtain ⟨a0, l0, c0, rfl⟩ := okWide_slice Tryd.underlying49 hv
  obtain ⟨fuel, hf⟩ := h
  rcases open_slice Tryd.underlying49 hf with ⟨hc, _⟩ | ⟨a, len, cap, m, n, D, Pl, hc, _, hl, hm, hmm, _, hx⟩
  · have hv : Value.slice a0 l0 c0 = .slice none 0 0 := by simpa [Value.cells] using hc
    rw [hv]
    exact ⟨[], Row.nil w, by simp⟩
  · have hv : Value.slice a0 l0 c0 = .slice (some a) len cap := by simpa [Value.cells] using hc
    rw [hv]
    have hC : Tryd.prog.cellsOf 24 = 5 := by kernel_rfl
    have hm' : m = cap := by simpa using hmm
    have each : ∀ i, i < len → ∃ q : Rc, (w.cell? (a.add (i * 5)) = some (.int .i64 q.k) ∧ w.cell? (a.add (i * 5 + 1)) = some (.int .i64 q.s) ∧ w.cell? (a.add (i * 5 + 2)) = some (.int .i64 q.n) ∧ w.cell? (a.add (i * 5 + 3)) = some (.int .i64 q.l) ∧ w.cell? (a.add (i * 5 + 4)) = some (.int .i64 q.c)) ∧ rcb q := by
      intro i hi
      obtain ⟨cs', h1, h2⟩ := hx i (by omega)
      rw [hC] at h1
      obtain ⟨_, hlen, hcell⟩ := World.cells?_some h1
      obtain ⟨f, rfl, hr⟩ := rc_of_trod hlen h2
      have e0 := hcell 0 (by omega)
      have e1 := hcell 1 (by omega)
      have e2 := hcell 2 (by omega)
      have e3 := hcell 3 (by omega)
      have e4 := hcell 4 (by omega)
      rw [add_add] at e0 e1 e2 e3 e4
      exact ⟨f, ⟨by simpa [rcC] using e0, by simpa [rcC] using e1, by simpa [rcC] using e2, by simpa [rcC] using e3, by simpa [rcC] using e4⟩, hr⟩
    obtain ⟨q, hq⟩ := choose_lt each
    by_cases h0 : 0 < len
    · have ha : ∃ g off, a = ⟨g, off, none⟩ := by
        have := (hq 0 h0).1.1
        obtain ⟨g, off, spot⟩ := a
        have hspot : spot = none := by simpa [Addr.add] using World.cell?_spot this
        subst hspot
        exact ⟨g, off, rfl⟩
      obtain ⟨g, off, rfl⟩ := ha
      refine ⟨(List.range len).map q, ?_, fun o ho => ?_⟩
      · rw [show ((List.range len).map q).length = len by simp]
        refine row_of_rc (by simp) (by omega) hm fun j f hj => ?_
        rw [List.getElem?_map] at hj
        obtain ⟨j', hj', rfl⟩ := Option.map_eq_some_iff.1 hj
        obtain ⟨hlt, e⟩ := List.getElem?_eq_some_iff.1 hj'
        simp at hlt e
        subst e
        obtain ⟨⟨h1, h2, h3, h4, h5⟩, -⟩ := hq j (by omega)
        rw [Go.WideShapes.add_plain] at h1 h2 h3 h4 h5
        exact ⟨h1, by rw [← Nat.add_assoc] at h2; exact h2, by rw [← Nat.add_assoc] at h3; exact h3, by rw [← Nat.add_assoc] at h4; exact h4, by rw [← Nat.add_assoc] at h5; exact h5⟩
      · obtain ⟨k, hk, rfl⟩ := List.mem_map.1 ho
        exact (hq k (List.mem_range.1 hk)).2
    · obtain rfl : len = 0 := by omega
      exact ⟨[], ⟨some a, cap, rfl, Nat.zero_le _, hm, fun h => absurd h (Nat.lt_irrefl _), fun g off ha j u hu => by simp [rcs] at hu⟩, by simp⟩
set_option maxRecDepth 100000 in
theorem bys_of_trod {fuel : Nat} {v : Value} {y : DataW H × List MemPlace} (hf : DataW.trod enc Tryd.prog w 0 (fun _ => true) true fuel 25 [v] = some y) :
    ∃ bs : List Nat, Row w v bs.length (bs.map fun x : Nat => Value.int .u8 (x : Int)) ∧ ∀ x ∈ bs, x < 256 := by
  rcases open_ints Tryd.underlying25 (k := .u8) Tryd.underlying5 (by kernel_rfl) hf with ⟨hc, _⟩ | ⟨a, len, cap, zs, hc, _, hl, hm, hlen, _, hcell, hw⟩
  · have hv : v = .slice none 0 0 := (List.cons.inj hc).1
    rw [hv]
    exact ⟨[], Row.nil w, by simp⟩
  · have hv : v = .slice (some a) len cap := (List.cons.inj hc).1
    rw [hv]
    simp only [if_true] at hlen
    have hB : ∀ x ∈ zs, 0 ≤ x ∧ x < 256 := fun x hx => by
      have h := hw x hx
      simp [Lit.wf, IntKind.min, IntKind.max, IntKind.signed, IntKind.bits] at h
      omega
    have hl' : ((zs.take len).map Int.toNat).length = len := by simp; omega
    have hcv : ((zs.take len).map Int.toNat).map (fun x : Nat => Value.int .u8 (x : Int)) = (zs.take len).map (Value.int .u8) := by
      rw [List.map_map]
      apply List.map_congr_left
      intro x hx
      have := hB x (List.mem_of_mem_take hx)
      show Value.int .u8 ((x.toNat : Nat) : Int) = _
      rw [Int.toNat_of_nonneg this.1]
    refine ⟨(zs.take len).map Int.toNat, ?_, fun x hx => ?_⟩
    · rw [hcv]
      refine ⟨some a, cap, by rw [hl'], by rw [hl']; exact hl, hm, fun h0 => ?_, fun g off ha j u hu => ?_⟩
      · have hp : 0 < zs.length := by rw [hl'] at h0; omega
        obtain ⟨b, off, rfl, _⟩ := ints_at hcell hp
        exact ⟨b, off, rfl⟩
      · obtain ⟨hj, rfl⟩ := lits_cells hu
        have := hcell j hj
        obtain rfl := Option.some.inj ha
        rwa [Go.WideShapes.add_plain] at this
    · obtain ⟨z, hz, rfl⟩ := List.mem_map.1 hx
      have := hB z (List.mem_of_mem_take hz)
      omega
set_option maxRecDepth 100000 in
theorem open_unit {r : Reach} {b0 : Nat} {v : Value} {d : DataW H} {p : List MemPlace} (hv : Value.okWide Tryd.prog w r b0 27 v) (h : DataW.Trod enc Tryd.prog w 0 (fun _ => true) true 27 v d p) :
    ∃ (K A E : Int) (u : Value) (bs : List Nat), v = .agg #[.int .i64 K, u, .int .i64 A, .int .i64 E] ∧ Row w u bs.length (bs.map fun x : Nat => Value.int .u8 (x : Int)) ∧ ∀ x ∈ bs, x < 256 := by
  obtain ⟨v0, v1, v2, v3, y0, y1, y2, y3, n, rfl, -, -, h0, h1, h2, h3⟩ := open_agg4 Tryd.underlying27 (by kernel_rfl) (by kernel_rfl) hv h
  obtain ⟨m0, e0, -, w0⟩ := DataW.trod_int Tryd.underlying3 h0
  obtain ⟨m2, e2, -, w2⟩ := DataW.trod_int Tryd.underlying3 h2
  obtain ⟨m3, e3, -, w3⟩ := DataW.trod_int Tryd.underlying3 h3
  obtain rfl := (List.cons.inj e0).1
  obtain rfl := (List.cons.inj e2).1
  obtain rfl := (List.cons.inj e3).1
  obtain ⟨bs, hr, hb⟩ := bys_of_trod h1
  exact ⟨m0, m2, m3, v1, bs, rfl, hr, hb⟩
end
end Go.Proofs.YtmphochnmdmioaaDoor
