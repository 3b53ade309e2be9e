/- A document's decoder of bits (kinref12): plain; next: its contract over this seat's translation. -/
import Derived.Test.YtdpebaheojaihaaDoorRf1
import Derived.BigQuiet
import Derived.Deep.QuietTactic
namespace Go.Proofs.YtdpebaheojaihaaDoor
set_option linter.unusedVariables false
set_option linter.unusedSimpArgs false
open Go.RowKit Go.Extern.Stop Go.Stop Go.Extern

structure Xc where
  pos : Nat
  dd : Nat
  rr : Nat
def nexX (bs : List Nat) (s : Xc) : Xc := { s with pos := s.pos + 1, dd := min (s.dd * 256 + bs.getD s.pos 0) 1099511627776 }
def stpX (bs : List Nat) (s : Xc) : Xc := nexX bs { s with rr := s.rr * 256 }
def nrmX (bs : List Nat) : Nat → Xc → Xc
  | 0, s => s
  | f + 1, s => if s.rr < 16777216 then nrmX bs f (stpX bs s) else s
def midX (s : Xc) (w : Nat) : Xc := if w ≤ s.dd then { s with dd := s.dd - w, rr := s.rr - w } else { s with rr := w }
def parX (bs : List Nat) (s : Xc) (w : Nat) : Xc := nrmX bs 3 (midX s w)
def okX (N : Nat) (s : Xc) : Prop := s.pos ≤ N ∧ s.dd ≤ 1099511627776 ∧ s.rr < 4294967296
theorem okX.mono {N M : Nat} {s : Xc} (h : okX N s) (k : N ≤ M) : okX M s := ⟨by have := h.1; omega, h.2⟩
theorem nexX_ok {bs : List Nat} {N : Nat} {s : Xc} (h : okX N s) : okX (N + 1) (nexX bs s) := by
  obtain ⟨h1, h2, h3⟩ := h
  exact ⟨by show s.pos + 1 ≤ _; omega, by show min _ _ ≤ _; omega, h3⟩
theorem stpX_ok {bs : List Nat} {N : Nat} {s : Xc} (h : okX N s) (hw : s.rr < 16777216) : okX (N + 1) (stpX bs s) :=
  nexX_ok (s := { s with rr := s.rr * 256 }) ⟨h.1, h.2.1, by show s.rr * 256 < _; omega⟩
theorem midX_ok {N w : Nat} {s : Xc} (h : okX N s) (hw : w ≤ s.rr) : okX N (midX s w) ∧ (midX s w).rr = if w ≤ s.dd then s.rr - w else w := by
  obtain ⟨h1, h2, h3⟩ := h
  unfold midX
  split
  · exact ⟨⟨h1, by show s.dd - w ≤ _; omega, by show s.rr - w < _; omega⟩, rfl⟩
  · exact ⟨⟨h1, h2, by show w < _; omega⟩, rfl⟩
/-- a document's decoder's cells; the last three may be written -/
def XcBox (w : World) (b : Nat) (v : Value) (s : Xc) : Prop := (w.cell? ⟨b, 0, none⟩ = some v ∧ w.cell? ⟨b, 1, none⟩ = some (.int .i64 (s.pos : Int)) ∧ w.cell? ⟨b, 2, none⟩ = some (.int .i64 (s.dd : Int)) ∧ w.cell? ⟨b, 3, none⟩ = some (.int .i64 (s.rr : Int))) ∧
  w.frozen? ⟨b, 1, none⟩ = false ∧ w.frozen? ⟨b, 2, none⟩ = false ∧ w.frozen? ⟨b, 3, none⟩ = false
section
variable {w w' : World} {b : Nat} {v : Value} {s : Xc}
theorem XcBox.same (x : XcBox w b v s) (k : w'.heap[b]? = w.heap[b]?) : XcBox w' b v s := by
  obtain ⟨⟨c0, c1, c2, c3⟩, f1, f2, f3⟩ := x
  have c : ∀ i, w'.cell? ⟨b, i, none⟩ = w.cell? ⟨b, i, none⟩ := fun i => World.cell?_of_block (a := ⟨b, i, none⟩) k
  have f : ∀ i, w'.frozen? ⟨b, i, none⟩ = w.frozen? ⟨b, i, none⟩ := fun i => World.frozen?_of_block (a := ⟨b, i, none⟩) k
  exact ⟨⟨(c 0).trans c0, (c 1).trans c1, (c 2).trans c2, (c 3).trans c3⟩, (f 1).trans f1, (f 2).trans f2, (f 3).trans f3⟩
theorem XcBox.lt (x : XcBox w b v s) : b < w.heap.size := Ext.lt (p := ⟨b, 0, none⟩) x.1.1
theorem XcBox.ext (x : XcBox w b v s) (k : Ext w w') : XcBox w' b v s := x.same (k.block x.lt)
theorem XcBox.set1 (x : XcBox w b v s) (k : Nat) : XcBox (w.setCell ⟨b, 1, none⟩ (.int .i64 (k : Int))) b v { s with pos := k } := by
  obtain ⟨⟨c0, c1, c2, c3⟩, f1, f2, f3⟩ := x
  exact ⟨⟨(cell_off_ne _ (by decide)).trans c0, World.cell?_setCell_same _ _ _ c1, (cell_off_ne _ (by decide)).trans c2, (cell_off_ne _ (by decide)).trans c3⟩, by simpa using f1, by simpa using f2, by simpa using f3⟩
theorem XcBox.set2 (x : XcBox w b v s) (k : Nat) : XcBox (w.setCell ⟨b, 2, none⟩ (.int .i64 (k : Int))) b v { s with dd := k } := by
  obtain ⟨⟨c0, c1, c2, c3⟩, f1, f2, f3⟩ := x
  exact ⟨⟨(cell_off_ne _ (by decide)).trans c0, (cell_off_ne _ (by decide)).trans c1, World.cell?_setCell_same _ _ _ c2, (cell_off_ne _ (by decide)).trans c3⟩, by simpa using f1, by simpa using f2, by simpa using f3⟩
theorem XcBox.set3 (x : XcBox w b v s) (k : Nat) : XcBox (w.setCell ⟨b, 3, none⟩ (.int .i64 (k : Int))) b v { s with rr := k } := by
  obtain ⟨⟨c0, c1, c2, c3⟩, f1, f2, f3⟩ := x
  exact ⟨⟨(cell_off_ne _ (by decide)).trans c0, (cell_off_ne _ (by decide)).trans c1, (cell_off_ne _ (by decide)).trans c2, World.cell?_setCell_same _ _ _ c3⟩, by simpa using f1, by simpa using f2, by simpa using f3⟩
end
def XcAt (F : Nat → Prop) (w : World) (b : Nat) (bs : List Nat) (s : Xc) : Prop := ∃ a cap, XcBox w b (.slice a bs.length cap) s ∧ Bys w (.slice a bs.length cap) bs ∧ (∀ g off, a = some ⟨g, off, none⟩ → g ≠ b ∧ ¬ F g)
theorem XcAt.ext {F : Nat → Prop} {w w' : World} {b : Nat} {bs : List Nat} {s : Xc} (h : XcAt F w b bs s) (k : Ext w w') : XcAt F w' b bs s := by
  obtain ⟨a, cap, h1, h2, h3⟩ := h
  exact ⟨a, cap, h1.ext k, h2.ext k, h3⟩
theorem XcAt.kp {F : Nat → Prop} {w w' : World} {b d : Nat} {bs : List Nat} {s : Xc} (h : XcAt F w b bs s) (k : Kp d w w') (hd : F d) (hb : b ≠ d) : XcAt F w' b bs s := by
  obtain ⟨a, cap, h1, h3, h4⟩ := h
  exact ⟨a, cap, h1.same (k.block h1.lt hb), ⟨row_kp h3.1 k (fun g off ha e => (h4 g off ha).2 (e ▸ hd)), h3.2⟩, h4⟩
/-- a call without a result -/
def XnPost (F : Nat → Prop) (w : World) (b : Nat) (bs : List Nat) (s : Xc) (e : Ending) (w' : World) : Prop := e = .returned (.tuple #[]) ∧ XcAt F w' b bs s ∧ Kp b w w'
set_option maxRecDepth 20000 in
set_option maxHeartbeats 4000000 in
theorem xnext_any (F : Nat → Prop) (b N : Nat) (bs : List Nat) (s : Xc) (w : World) (h : XcAt F w b bs s) (hk : okX N s) (hN : N ≤ 1000000) : Calls Tryd.prog 42 #[.pointer (some ⟨b, 0, none⟩)] w (XnPost F w b bs (nexX bs s)) := by
  obtain ⟨a, cap, hB, hY, hF⟩ := h
  obtain ⟨p, hp'⟩ : ∃ p, s.pos = p := ⟨_, rfl⟩
  obtain ⟨D, hdd⟩ : ∃ D, s.dd = D := ⟨_, rfl⟩
  have k1 : p ≤ N := by rw [← hp']; exact hk.1
  have k2 : D ≤ 1099511627776 := by rw [← hdd]; exact hk.2.1
  obtain ⟨x, hx⟩ : ∃ x, bs.getD p 0 = x := ⟨_, rfl⟩
  have hxb : x < 256 := by rw [← hx]; exact getD_lt hY.2.1 p
  obtain ⟨M, hM⟩ : ∃ M, min (D * 256 + x) 1099511627776 = M := ⟨_, rfl⟩
  obtain ⟨p1, hp1⟩ : ∃ p1, p + 1 = p1 := ⟨_, rfl⟩
  have HNX : Hid (nexX bs s = { s with pos := p1, dd := M }) := by show _ = _; unfold nexX; rw [hp', hdd, hx, hM, hp1]
  have s1 : IntKind.i64.wrap ((p : Int) + 1) = (p1 : Int) := by rw [IntKind.wrap_i64]; omega
  have s2 : IntKind.i64.wrap ((D : Int) * 256) = (D : Int) * 256 := by rw [IntKind.wrap_i64]; omega
  have s3 : IntKind.i64.wrap ((D : Int) * 256 + (x : Int)) = (D : Int) * 256 + (x : Int) := by rw [IntKind.wrap_i64]; omega
  have s4 : min ((D : Int) * 256 + (x : Int)) 1099511627776 = (M : Int) := by omega
  have s5 : IntKind.i64.wrap (x : Int) = (x : Int) := by rw [IntKind.wrap_i64]; omega
  have r2 := mn2
  have HB := Lib.hid hB
  have HY := Lib.hid hY
  obtain ⟨⟨c0, c1, c2, c3⟩, f1, f2, f3⟩ := hB
  rw [hp'] at c1
  obtain ⟨n, hn⟩ : ∃ n, bs.length = n := ⟨_, rfl⟩
  rw [hn] at c0
  by_cases hlt : p < n
  · have x2 : (p : Int) < (n : Int) := by omega
    have x3 : (0 : Int) ≤ (p : Int) := by omega
    have hb0 : 0 < bs.length := by omega
    obtain ⟨g, off, rfl⟩ := hY.had hb0
    have cx := hY.at (nget_of_lt (bs := bs) (j := p) (by omega))
    rw [hx] at cx
    clear hM c2 c3 hY hp1
    go_enter Tryd.func42, Tryd.ntmps42
    go_wp2_with fail
    go_quiet (fail)
    have c0' := ((Ext.refl w).drewN nq).cell c0
    have c1' := ((Ext.refl w).drewN nq).cell c1
    have cx' := ((Ext.refl w).drewN nq).cell cx
    have D1 := (Ext.refl w).drewN nq
    have HB1 := Lib.hid (HB.out.ext D1)
    have HY1 := Lib.hid (HY.out.ext D1)
    have HK1 := Lib.hid (Kp.of_ext (b := b) D1)
    clear D1 c0 c1 cx HB HY f1 f2 f3
    revert c0' c1' cx' HB1 HY1 HK1
    generalize w.drewN nq = w1
    intro c0' c1' cx' HB1 HY1 HK1
    go_wp2_with fail
    go_quiet (fail)
    have D1 := (Ext.refl w1).drewN nq
    have HBQ := Lib.hid (HB1.out.ext D1)
    have HYQ := Lib.hid (HY1.out.ext D1)
    have HKQ := Lib.hid (HK1.out.ext D1)
    clear D1 c0' c1' cx' HB1 HY1 HK1
    revert HBQ HYQ HKQ
    generalize w1.drewN nq = wq
    intro HBQ HYQ HKQ
    -- in hand: wq (after the quiet regions), HBQ : XcBox wq, HYQ, HKQ : Kp b w wq; x the byte; walk the rest
    have HB2 := (HBQ.out.set1 p1).set2 M
    have HY2 : Bys ((wq.setCell ⟨b, 1, none⟩ (.int .i64 (p1 : Int))).setCell ⟨b, 2, none⟩ (.int .i64 (M : Int))) (.slice _ bs.length cap) bs := ⟨row_kp HYQ.out.1 (((Kp.refl b wq).set 1 _).set 2 _) (fun g off e => (hF g off e).1), HYQ.out.2⟩
    have HAf : Hid (XcAt F ((wq.setCell ⟨b, 1, none⟩ (.int .i64 (p1 : Int))).setCell ⟨b, 2, none⟩ (.int .i64 (M : Int))) b bs (nexX bs s)) := by
      show XcAt _ _ _ _ _
      rw [HNX.out]
      exact ⟨_, cap, HB2, HY2, hF⟩
    have HKf := Lib.hid ((HKQ.out.set 1 (.int .i64 (p1 : Int))).set 2 (.int .i64 (M : Int)))
    obtain ⟨⟨d0, d1, d2, d3⟩, g1, g2, g3⟩ := HBQ.out
    rw [hp'] at d1
    rw [hdd] at d2
    clear HB2 HY2 d3 d0
    go_wp2
    go_end0
    exact ⟨rfl, HAf.out, HKf.out⟩
  · have x2 : ¬ (p : Int) < (n : Int) := by omega
    have hx0 : x = 0 := by
      rw [← hx, List.getD_eq_getElem?_getD, List.getElem?_eq_none (by omega)]
      rfl
    have s6 : min ((D : Int) * 256) 1099511627776 = (M : Int) := by omega
    clear hM c2 c3 hY s3 s4 s5 hp1
    go_enter Tryd.func42, Tryd.ntmps42
    go_wp2_with fail
    go_quiet (fail)
    have D1 := (Ext.refl w).drewN nq
    have HBQ := Lib.hid (HB.out.ext D1)
    have HYQ := Lib.hid (HY.out.ext D1)
    have HKQ := Lib.hid (Kp.of_ext (b := b) D1)
    clear D1 c0 c1 HB HY f1 f2 f3
    revert HBQ HYQ HKQ
    generalize w.drewN nq = wq
    intro HBQ HYQ HKQ
    -- in hand: wq (after the quiet regions), HBQ : XcBox wq, HYQ, HKQ : Kp b w wq; x the byte; walk the rest
    have HB2 := (HBQ.out.set1 p1).set2 M
    have HY2 : Bys ((wq.setCell ⟨b, 1, none⟩ (.int .i64 (p1 : Int))).setCell ⟨b, 2, none⟩ (.int .i64 (M : Int))) (.slice _ bs.length cap) bs := ⟨row_kp HYQ.out.1 (((Kp.refl b wq).set 1 _).set 2 _) (fun g off e => (hF g off e).1), HYQ.out.2⟩
    have HAf : Hid (XcAt F ((wq.setCell ⟨b, 1, none⟩ (.int .i64 (p1 : Int))).setCell ⟨b, 2, none⟩ (.int .i64 (M : Int))) b bs (nexX bs s)) := by
      show XcAt _ _ _ _ _
      rw [HNX.out]
      exact ⟨_, cap, HB2, HY2, hF⟩
    have HKf := Lib.hid ((HKQ.out.set 1 (.int .i64 (p1 : Int))).set 2 (.int .i64 (M : Int)))
    obtain ⟨⟨d0, d1, d2, d3⟩, g1, g2, g3⟩ := HBQ.out
    rw [hp'] at d1
    rw [hdd] at d2
    clear HB2 HY2 d3 d0
    go_wp2
    go_end0
    exact ⟨rfl, HAf.out, HKf.out⟩
end Go.Proofs.YtdpebaheojaihaaDoor
