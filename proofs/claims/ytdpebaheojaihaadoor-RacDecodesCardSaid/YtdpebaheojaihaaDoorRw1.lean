/- The landed decoder and the document's, step by step: plain. -/
import Derived.Test.YtdpebaheojaihaaDoorRx3
import Derived.Test.YtdpebaheojaihaaDoorOpT
namespace Go.Proofs.YtdpebaheojaihaaDoor
set_option linter.unusedVariables false
set_option linter.unusedSimpArgs false
open Go.RowKit Go.Extern.Stop Go.Stop Go.Extern

def lkI (t : Dc) (x : Xc) : Prop := t.pos = x.pos ∧ t.wid = x.rr ∧ (t.over = true → x.rr ≤ x.dd) ∧ (t.over = false → t.num = x.dd ∧ x.dd < x.rr)
theorem lk_step {bs : List Nat} (hb : ∀ x ∈ bs, x < 256) {t : Dc} {x : Xc} (h : lkI t x) (hw : t.wid < 16777216) : lkI (stpD bs t) (stpX bs x) := by
  obtain ⟨h1, h2, h3, h4⟩ := h
  have hx := getD_lt hb x.pos
  have e1 : (stpX bs x).dd = min (x.dd * 256 + bs.getD x.pos 0) 1099511627776 := rfl
  have e2 : (stpX bs x).rr = x.rr * 256 := rfl
  have e3 : (stpD bs t).num = t.num * 256 % 18446744073709551616 + bs.getD t.pos 0 := rfl
  refine ⟨by show t.pos + 1 = x.pos + 1; rw [h1], by show t.wid * 256 = x.rr * 256; rw [h2], fun ho => ?_, fun ho => ?_⟩
  · have := h3 ho
    rw [e1, e2]
    omega
  · obtain ⟨k1, k2⟩ := h4 ho
    rw [e1, e2, e3, h1]
    omega
theorem lk_mid {t : Dc} {x : Xc} (h : lkI t x) {w : Nat} (h1 : 1 ≤ w) (hw : w < t.wid) (hr : t.wid < 4294967296) : lkI (midD t w) (midX x w) ∧ upD t w = decide (w ≤ x.dd) := by
  obtain ⟨h1', h2, h3, h4⟩ := h
  have hu : upD t w = decide (w ≤ x.dd) := by
    unfold upD
    cases ho : t.over with
    | true =>
      have := h3 ho
      rw [decide_eq_true (by omega : w ≤ x.dd)]
      rfl
    | false =>
      rw [(h4 ho).1]
      rfl
  refine ⟨?_, hu⟩
  unfold midD midX
  rw [hu]
  by_cases hc : w ≤ x.dd
  · rw [decide_eq_true hc, if_pos rfl, if_pos hc]
    refine ⟨h1', by show t.wid - w = x.rr - w; rw [h2], fun ho => ?_, fun ho => ?_⟩
    · have := h3 ho
      show x.rr - w ≤ x.dd - w
      omega
    · obtain ⟨k1, k2⟩ := h4 ho
      refine ⟨?_, by show x.dd - w < x.rr - w; omega⟩
      show (t.num + (18446744073709551616 - w)) % 18446744073709551616 = x.dd - w
      rw [k1]
      omega
  · rw [decide_eq_false hc, if_neg (by simp), if_neg hc]
    refine ⟨h1', rfl, fun ho => ?_, fun ho => ?_⟩
    · have := h3 ho
      omega
    · exact ⟨(h4 ho).1, by show x.dd < w; omega⟩
theorem lk_nrm {bs : List Nat} (hb : ∀ x ∈ bs, x < 256) : ∀ (f : Nat) {t : Dc} {x : Xc}, lkI t x → lkI (nrmD bs f t) (nrmX bs f x)
  | 0, _, _, h => h
  | f + 1, t, x, h => by
    show lkI (if t.wid < 16777216 then nrmD bs f (stpD bs t) else t) (if x.rr < 16777216 then nrmX bs f (stpX bs x) else x)
    have e := h.2.1
    by_cases hw : t.wid < 16777216
    · rw [if_pos hw, if_pos (by rw [← e]; exact hw)]
      exact lk_nrm hb f (lk_step hb h hw)
    · rw [if_neg hw, if_neg (by rw [← e]; exact hw)]
      exact h
theorem lk_par {bs : List Nat} (hb : ∀ x ∈ bs, x < 256) {t : Dc} {x : Xc} (h : lkI t x) {w : Nat} (h1 : 1 ≤ w) (hw : w < t.wid) (hr : t.wid < 4294967296) : lkI (parD bs t w) (parX bs x w) ∧ upD t w = decide (w ≤ x.dd) := by
  obtain ⟨a, b⟩ := lk_mid h h1 hw hr
  exact ⟨lk_nrm hb 3 a, b⟩
theorem lk_new {bs : List Nat} (hb : ∀ x ∈ bs, x < 256) : lkI (newD bs) (nxN bs 4) := by
  have key : ∀ k, k ≤ 4 → (mvN bs k).pos = (nxN bs k).pos ∧ (mvN bs k).num = (nxN bs k).dd ∧ (nxN bs k).rr = 4294967295 := by
    intro k
    induction k with
    | zero => intro _; exact ⟨rfl, rfl, rfl⟩
    | succ k ih =>
      intro hk
      obtain ⟨i1, i2, i3⟩ := ih (by omega)
      obtain ⟨-, -, -, m4⟩ := mvN_is bs hb k (by omega)
      have m5 : (mvN bs k).num < 256 ^ 4 := Nat.lt_of_lt_of_le m4 (Nat.pow_le_pow_right (by decide) (by omega))
      have m5 : (mvN bs k).num < 4294967296 := m5
      have hx := getD_lt hb (mvN bs k).pos
      refine ⟨by show (mvN bs k).pos + 1 = (nxN bs k).pos + 1; rw [i1], ?_, i3⟩
      show (mvN bs k).num * 256 % 18446744073709551616 + bs.getD (mvN bs k).pos 0 = min ((nxN bs k).dd * 256 + bs.getD (nxN bs k).pos 0) 1099511627776
      rw [← i1, ← i2]
      omega
  obtain ⟨k1, k2, k3⟩ := key 4 (Nat.le_refl _)
  obtain ⟨m1, m2, m3, m4⟩ := mvN_is bs hb 4 (Nat.le_refl _)
  refine ⟨k1, by show (mvN bs 4).wid = _; rw [m3, k3], fun ho => ?_, fun ho => ?_⟩
  · have ho : decide (4294967295 ≤ (mvN bs 4).num) = true := ho
    rw [decide_eq_true_iff] at ho
    rw [k3, ← k2]
    exact ho
  · have ho : decide (4294967295 ≤ (mvN bs 4).num) = false := ho
    rw [decide_eq_false_iff_not] at ho
    exact ⟨k2, by rw [k3, ← k2]; omega⟩
theorem lk_flat {bs : List Nat} (hb : ∀ x ∈ bs, x < 256) {t : Dc} {x : Xc} (h : lkI t x) (hw : 16777216 ≤ t.wid) (hr : t.wid < 4294967296) : lkI (parD bs t (t.wid / 2)) (parX bs x (x.rr / 2)) ∧ upD t (t.wid / 2) = decide (x.rr / 2 ≤ x.dd) := by
  rw [← h.2.1]
  exact lk_par hb h (by omega) (by omega) hr
theorem lk_code {bs : List Nat} (hb : ∀ x ∈ bs, x < 256) {t : Dc} {x : Xc} (p : Int) (h : lkI t x) (hw : 16777216 ≤ t.wid) (hr : t.wid < 4294967296) : lkI (codD bs t p) (xcD bs x p) ∧ codU t p = xcU x p := by
  unfold codD xcD codU xcU
  by_cases hc : chance p = true
  · obtain ⟨c1, c2⟩ := chance_nat hc
    obtain ⟨a, b⟩ := part_of hw c1 c2
    rw [if_pos hc, if_pos hc, if_pos hc, if_pos hc, ← h.2.1]
    exact lk_par hb h a b hr
  · rw [if_neg hc, if_neg hc, if_neg hc, if_neg hc]
    exact ⟨h, rfl⟩
theorem xcD_ok {bs : List Nat} {N : Nat} {p : Int} {s : Xc} (hk : okX N s) (hw : 16777216 ≤ s.rr) : okX (N + 3) (xcD bs s p) := by
  unfold xcD
  split
  · rename_i hc
    obtain ⟨c1, c2⟩ := chance_nat hc
    exact parX_ok hk (part_of hw c1 c2).2
  · exact hk.mono (by omega)
theorem xor_b (x : Int) : ∃ y : Nat, y < 256 ∧ bits .xor .u8 x 255 = (y : Int) := by
  obtain ⟨z, hz⟩ : ∃ z, bits .xor .u8 x 255 = IntKind.u8.wrap z := ⟨_, rfl⟩
  rw [hz, IntKind.wrap_u8]
  exact ⟨(z % 256).toNat, by omega, by omega⟩
/-- bytes that may be written -/
def CsN (w : World) (B1 B2 : Nat) (a : Option Addr) (n : Nat) : Prop := 0 < n → ∃ g, a = some ⟨g, 0, none⟩ ∧ (B1 ≤ g ∧ g < B2) ∧ ∀ j, j < n → (∃ x : Nat, w.cell? ⟨g, j, none⟩ = some (.int .u8 (x : Int))) ∧ w.frozen? ⟨g, j, none⟩ = false
theorem CsN.of {w : World} {base n cap : Nat} {a : Option Addr} {bs : List Nat} (h : w.ownsRow base 5 1 (.slice a n cap) n (byC bs)) (hl : bs.length = n) : CsN w base w.heap.size a n := fun hn => by
  obtain ⟨-, h' | ⟨g, cap', cur, e', hb', hg, h1, h2, hs, ht⟩⟩ := id h
  · omega
  · simp only [Value.slice.injEq] at e'
    obtain ⟨rfl, -, rfl⟩ := e'
    refine ⟨g, rfl, ⟨hb', (Array.getElem?_eq_some_iff.1 hg).1⟩, fun j hj => ⟨⟨bs.getD j 0, ?_⟩, by simp [World.frozen?, hg]⟩⟩
    have : (byC bs)[j]? = some (.int .u8 ((bs.getD j 0 : Nat) : Int)) := by
      unfold byC
      rw [List.getElem?_map, nget_of_lt (by omega)]
      rfl
    rw [← ht, List.getElem?_take] at this
    split at this
    · simp [World.cell?, hg]
      simpa using this
    · cases this
theorem CsN.ext {w w' : World} {B1 B2 n : Nat} {a : Option Addr} (h : CsN w B1 B2 a n) (k : Ext w w') : CsN w' B1 B2 a n := fun h0 => by
  obtain ⟨g, e, hg, hj⟩ := h h0
  refine ⟨g, e, hg, fun j h1 => ?_⟩
  obtain ⟨⟨x, c⟩, f⟩ := hj j h1
  exact ⟨⟨x, k.cell c⟩, (Below.frozen k (Ext.lt c)).trans f⟩
theorem CsN.set {w : World} {B1 B2 g n i y : Nat} (h : CsN w B1 B2 (some ⟨g, 0, none⟩) n) : CsN (w.setCell ⟨g, i, none⟩ (.int .u8 (y : Int))) B1 B2 (some ⟨g, 0, none⟩) n := fun h0 => by
  obtain ⟨g', e, hg, hj⟩ := h h0
  simp only [Option.some.injEq, Addr.mk.injEq, and_true] at e
  subst e
  refine ⟨g, rfl, hg, fun j h1 => ?_⟩
  obtain ⟨⟨x, c⟩, f⟩ := hj j h1
  refine ⟨?_, by simpa using f⟩
  by_cases hij : i = j
  · subst hij
    exact ⟨y, World.cell?_setCell_same _ _ _ c⟩
  · exact ⟨x, (cell_off_ne _ hij).trans c⟩
end Go.Proofs.YtdpebaheojaihaaDoor
