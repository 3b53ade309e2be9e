/- Contracts of this seat: Px4, Pf1, Pc1, Py1, Py2, Py3, Pw1. -/
import Derived.Test.YtpofabebmeickaaGreatDoorVrZd
import Derived.Test.YtpofabebmeickaaGreatDoorVrPa7
import Derived.Test.YtpofabebmeickaaGreatDoorVrZb
import Derived.BigQuiet
import Derived.Deep.QuietTactic
import Derived.BigRegion
/- kinref12.Encoder's End: its contract over this seat's translation. -/
namespace Go.Proofs.YtpofabebmeickaaGreatDoor
set_option linter.unusedVariables false
set_option linter.unusedSimpArgs false
open Go.RowKit Go.Extern.Stop Go.Stop Go.Extern

end Go.Proofs.YtpofabebmeickaaGreatDoor

/- kinlaw12.first; an encoder and a decoder beside each other. -/
namespace Go.Proofs.YtpofabebmeickaaGreatDoor
set_option linter.unusedVariables false
set_option linter.unusedSimpArgs false
open Go.RowKit Go.Extern.Stop Go.Stop Go.Extern

theorem EcAt.kp {w w' : World} {b d : Nat} {B : Nat → Prop} {s : Ec} (h : EcAt w b B s) (k : Kp d w w') (hd : b ≠ d) (hdB : B d) : EcAt w' b B s := by
  obtain ⟨v, h1, h2, h3, h4, h5⟩ := h
  refine ⟨v, h1.same (k.block h1.lt hd), ?_, h3, h4, fun g hg => Nat.lt_of_lt_of_le (h5 g hg) k.size⟩
  exact h2.kept (row := some d) k (.inr (fun e => h3 _ e hdB))
theorem s12 : trimE (allE (codE (codE newE 1024 false) 1024 true)) = [63, 255, 252] ∧ lenE (codE (codE newE 1024 false) 1024 true) = 4 ∧ chance 1024 = true ∧ chance 2048 = false := by decide +kernel
theorem d12 : upD (newD []) ((newD []).wid / 2) = false ∧ ovrD [] (parD [] (newD []) ((newD []).wid / 2)) = 4 := by decide +kernel
end Go.Proofs.YtpofabebmeickaaGreatDoor

/- The landed encoder and the document's beside each other: contracts. -/
namespace Go.Proofs.YtpofabebmeickaaGreatDoor
set_option linter.unusedVariables false
set_option linter.unusedSimpArgs false
open Go.RowKit Go.Extern.Stop Go.Stop Go.Extern

theorem own_block {w w' : World} {base : Nat} {e : TypeId} {size n : Nat} {v : Value} {xs : List Value} (h : w.ownsRow base e size v n xs) (k : ∀ g, v.ownBlock = some g → w'.heap[g]? = w.heap[g]?) : w'.ownsRow base e size v n xs := by
  obtain ⟨h1, h2⟩ := h
  refine ⟨h1, ?_⟩
  rcases h2 with h2 | ⟨g, cap, cur, rfl, hg, hh, r⟩
  · exact .inl h2
  · exact .inr ⟨g, cap, cur, rfl, hg, (k g rfl).trans hh, r⟩
end Go.Proofs.YtpofabebmeickaaGreatDoor

/- A document's decoder of bits (kinref12): plain; next: its contract over this seat's translation. -/
namespace Go.Proofs.YtpofabebmeickaaGreatDoor
set_option linter.unusedVariables false
set_option linter.unusedSimpArgs false
open Go.RowKit Go.Extern.Stop Go.Stop Go.Extern

structure Xc where
  pos : Nat
  dd : Nat
  rr : Nat
def nexX (bs : List Nat) (s : Xc) : Xc := { s with pos := s.pos + 1, dd := min (s.dd * 256 + bs.getD s.pos 0) 1099511627776 }
def stpX (bs : List Nat) (s : Xc) : Xc := nexX bs { s with rr := s.rr * 256 }
def nrmX (bs : List Nat) : Nat → Xc → Xc
  | 0, s => s
  | f + 1, s => if s.rr < 16777216 then nrmX bs f (stpX bs s) else s
def midX (s : Xc) (w : Nat) : Xc := if w ≤ s.dd then { s with dd := s.dd - w, rr := s.rr - w } else { s with rr := w }
def parX (bs : List Nat) (s : Xc) (w : Nat) : Xc := nrmX bs 3 (midX s w)
def okX (N : Nat) (s : Xc) : Prop := s.pos ≤ N ∧ s.dd ≤ 1099511627776 ∧ s.rr < 4294967296
theorem okX.mono {N M : Nat} {s : Xc} (h : okX N s) (k : N ≤ M) : okX M s := ⟨by have := h.1; omega, h.2⟩
theorem nexX_ok {bs : List Nat} {N : Nat} {s : Xc} (h : okX N s) : okX (N + 1) (nexX bs s) := by
  obtain ⟨h1, h2, h3⟩ := h
  exact ⟨by show s.pos + 1 ≤ _; omega, by show min _ _ ≤ _; omega, h3⟩
theorem stpX_ok {bs : List Nat} {N : Nat} {s : Xc} (h : okX N s) (hw : s.rr < 16777216) : okX (N + 1) (stpX bs s) :=
  nexX_ok (s := { s with rr := s.rr * 256 }) ⟨h.1, h.2.1, by show s.rr * 256 < _; omega⟩
theorem midX_ok {N w : Nat} {s : Xc} (h : okX N s) (hw : w ≤ s.rr) : okX N (midX s w) ∧ (midX s w).rr = if w ≤ s.dd then s.rr - w else w := by
  obtain ⟨h1, h2, h3⟩ := h
  unfold midX
  split
  · exact ⟨⟨h1, by show s.dd - w ≤ _; omega, by show s.rr - w < _; omega⟩, rfl⟩
  · exact ⟨⟨h1, h2, by show w < _; omega⟩, rfl⟩
/-- a document's decoder's cells; the last three may be written -/
def XcBox (w : World) (b : Nat) (v : Value) (s : Xc) : Prop := (w.cell? ⟨b, 0, none⟩ = some v ∧ w.cell? ⟨b, 1, none⟩ = some (.int .i64 (s.pos : Int)) ∧ w.cell? ⟨b, 2, none⟩ = some (.int .i64 (s.dd : Int)) ∧ w.cell? ⟨b, 3, none⟩ = some (.int .i64 (s.rr : Int))) ∧
  w.frozen? ⟨b, 1, none⟩ = false ∧ w.frozen? ⟨b, 2, none⟩ = false ∧ w.frozen? ⟨b, 3, none⟩ = false
section
variable {w w' : World} {b : Nat} {v : Value} {s : Xc}
theorem XcBox.same (x : XcBox w b v s) (k : w'.heap[b]? = w.heap[b]?) : XcBox w' b v s := by
  obtain ⟨⟨c0, c1, c2, c3⟩, f1, f2, f3⟩ := x
  have c : ∀ i, w'.cell? ⟨b, i, none⟩ = w.cell? ⟨b, i, none⟩ := fun i => World.cell?_of_block (a := ⟨b, i, none⟩) k
  have f : ∀ i, w'.frozen? ⟨b, i, none⟩ = w.frozen? ⟨b, i, none⟩ := fun i => World.frozen?_of_block (a := ⟨b, i, none⟩) k
  exact ⟨⟨(c 0).trans c0, (c 1).trans c1, (c 2).trans c2, (c 3).trans c3⟩, (f 1).trans f1, (f 2).trans f2, (f 3).trans f3⟩
theorem XcBox.lt (x : XcBox w b v s) : b < w.heap.size := Ext.lt (p := ⟨b, 0, none⟩) x.1.1
theorem XcBox.ext (x : XcBox w b v s) (k : Ext w w') : XcBox w' b v s := x.same (k.block x.lt)
theorem XcBox.set1 (x : XcBox w b v s) (k : Nat) : XcBox (w.setCell ⟨b, 1, none⟩ (.int .i64 (k : Int))) b v { s with pos := k } := by
  obtain ⟨⟨c0, c1, c2, c3⟩, f1, f2, f3⟩ := x
  exact ⟨⟨(cell_off_ne _ (by decide)).trans c0, World.cell?_setCell_same _ _ _ c1, (cell_off_ne _ (by decide)).trans c2, (cell_off_ne _ (by decide)).trans c3⟩, by simpa using f1, by simpa using f2, by simpa using f3⟩
theorem XcBox.set2 (x : XcBox w b v s) (k : Nat) : XcBox (w.setCell ⟨b, 2, none⟩ (.int .i64 (k : Int))) b v { s with dd := k } := by
  obtain ⟨⟨c0, c1, c2, c3⟩, f1, f2, f3⟩ := x
  exact ⟨⟨(cell_off_ne _ (by decide)).trans c0, (cell_off_ne _ (by decide)).trans c1, World.cell?_setCell_same _ _ _ c2, (cell_off_ne _ (by decide)).trans c3⟩, by simpa using f1, by simpa using f2, by simpa using f3⟩
theorem XcBox.set3 (x : XcBox w b v s) (k : Nat) : XcBox (w.setCell ⟨b, 3, none⟩ (.int .i64 (k : Int))) b v { s with rr := k } := by
  obtain ⟨⟨c0, c1, c2, c3⟩, f1, f2, f3⟩ := x
  exact ⟨⟨(cell_off_ne _ (by decide)).trans c0, (cell_off_ne _ (by decide)).trans c1, (cell_off_ne _ (by decide)).trans c2, World.cell?_setCell_same _ _ _ c3⟩, by simpa using f1, by simpa using f2, by simpa using f3⟩
end
def XcAt (F : Nat → Prop) (w : World) (b : Nat) (bs : List Nat) (s : Xc) : Prop := ∃ a cap, XcBox w b (.slice a bs.length cap) s ∧ Bys w (.slice a bs.length cap) bs ∧ (∀ g off, a = some ⟨g, off, none⟩ → g ≠ b ∧ ¬ F g)
theorem XcAt.ext {F : Nat → Prop} {w w' : World} {b : Nat} {bs : List Nat} {s : Xc} (h : XcAt F w b bs s) (k : Ext w w') : XcAt F w' b bs s := by
  obtain ⟨a, cap, h1, h2, h3⟩ := h
  exact ⟨a, cap, h1.ext k, h2.ext k, h3⟩
theorem XcAt.kp {F : Nat → Prop} {w w' : World} {b d : Nat} {bs : List Nat} {s : Xc} (h : XcAt F w b bs s) (k : Kp d w w') (hd : F d) (hb : b ≠ d) : XcAt F w' b bs s := by
  obtain ⟨a, cap, h1, h3, h4⟩ := h
  exact ⟨a, cap, h1.same (k.block h1.lt hb), ⟨row_kp h3.1 k (fun g off ha e => (h4 g off ha).2 (e ▸ hd)), h3.2⟩, h4⟩
/-- a call without a result -/
def XnPost (F : Nat → Prop) (w : World) (b : Nat) (bs : List Nat) (s : Xc) (e : Ending) (w' : World) : Prop := e = .returned (.tuple #[]) ∧ XcAt F w' b bs s ∧ Kp b w w'
set_option maxRecDepth 20000 in
set_option maxHeartbeats 4000000 in
theorem xnext_any (F : Nat → Prop) (b N : Nat) (bs : List Nat) (s : Xc) (w : World) (h : XcAt F w b bs s) (hk : okX N s) (hN : N ≤ 4500000) : Calls Tryz.prog 82 #[.pointer (some ⟨b, 0, none⟩)] w (XnPost F w b bs (nexX bs s)) := by
  obtain ⟨a, cap, hB, hY, hF⟩ := h
  obtain ⟨p, hp'⟩ : ∃ p, s.pos = p := ⟨_, rfl⟩
  obtain ⟨D, hdd⟩ : ∃ D, s.dd = D := ⟨_, rfl⟩
  have k1 : p ≤ N := by rw [← hp']; exact hk.1
  have k2 : D ≤ 1099511627776 := by rw [← hdd]; exact hk.2.1
  obtain ⟨x, hx⟩ : ∃ x, bs.getD p 0 = x := ⟨_, rfl⟩
  have hxb : x < 256 := by rw [← hx]; exact getD_lt hY.2.1 p
  obtain ⟨M, hM⟩ : ∃ M, min (D * 256 + x) 1099511627776 = M := ⟨_, rfl⟩
  obtain ⟨p1, hp1⟩ : ∃ p1, p + 1 = p1 := ⟨_, rfl⟩
  have HNX : Hid (nexX bs s = { s with pos := p1, dd := M }) := by show _ = _; unfold nexX; rw [hp', hdd, hx, hM, hp1]
  have s1 : IntKind.i64.wrap ((p : Int) + 1) = (p1 : Int) := by rw [IntKind.wrap_i64]; omega
  have s2 : IntKind.i64.wrap ((D : Int) * 256) = (D : Int) * 256 := by rw [IntKind.wrap_i64]; omega
  have s3 : IntKind.i64.wrap ((D : Int) * 256 + (x : Int)) = (D : Int) * 256 + (x : Int) := by rw [IntKind.wrap_i64]; omega
  have s4 : min ((D : Int) * 256 + (x : Int)) 1099511627776 = (M : Int) := by omega
  have s5 : IntKind.i64.wrap (x : Int) = (x : Int) := by rw [IntKind.wrap_i64]; omega
  have r2 := mn2
  have HB := Lib.hid hB
  have HY := Lib.hid hY
  obtain ⟨⟨c0, c1, c2, c3⟩, f1, f2, f3⟩ := hB
  rw [hp'] at c1
  obtain ⟨n, hn⟩ : ∃ n, bs.length = n := ⟨_, rfl⟩
  rw [hn] at c0
  by_cases hlt : p < n
  · have x2 : (p : Int) < (n : Int) := by omega
    have x3 : (0 : Int) ≤ (p : Int) := by omega
    have hb0 : 0 < bs.length := by omega
    obtain ⟨g, off, rfl⟩ := hY.had hb0
    have cx := hY.at (nget_of_lt (bs := bs) (j := p) (by omega))
    rw [hx] at cx
    clear hM c2 c3 hY hp1
    go_enter Tryz.func82, Tryz.ntmps82
    go_wp2_with fail
    go_quiet (fail)
    have c0' := ((Ext.refl w).drewN nq).cell c0
    have c1' := ((Ext.refl w).drewN nq).cell c1
    have cx' := ((Ext.refl w).drewN nq).cell cx
    have D1 := (Ext.refl w).drewN nq
    have HB1 := Lib.hid (HB.out.ext D1)
    have HY1 := Lib.hid (HY.out.ext D1)
    have HK1 := Lib.hid (Kp.of_ext (b := b) D1)
    clear D1 c0 c1 cx HB HY f1 f2 f3
    revert c0' c1' cx' HB1 HY1 HK1
    generalize w.drewN nq = w1
    intro c0' c1' cx' HB1 HY1 HK1
    go_wp2_with fail
    go_quiet (fail)
    have D1 := (Ext.refl w1).drewN nq
    have HBQ := Lib.hid (HB1.out.ext D1)
    have HYQ := Lib.hid (HY1.out.ext D1)
    have HKQ := Lib.hid (HK1.out.ext D1)
    clear D1 c0' c1' cx' HB1 HY1 HK1
    revert HBQ HYQ HKQ
    generalize w1.drewN nq = wq
    intro HBQ HYQ HKQ
    -- in hand: wq (after the quiet regions), HBQ : XcBox wq, HYQ, HKQ : Kp b w wq; x the byte; walk the rest
    have HB2 := (HBQ.out.set1 p1).set2 M
    have HY2 : Bys ((wq.setCell ⟨b, 1, none⟩ (.int .i64 (p1 : Int))).setCell ⟨b, 2, none⟩ (.int .i64 (M : Int))) (.slice _ bs.length cap) bs := ⟨row_kp HYQ.out.1 (((Kp.refl b wq).set 1 _).set 2 _) (fun g off e => (hF g off e).1), HYQ.out.2⟩
    have HAf : Hid (XcAt F ((wq.setCell ⟨b, 1, none⟩ (.int .i64 (p1 : Int))).setCell ⟨b, 2, none⟩ (.int .i64 (M : Int))) b bs (nexX bs s)) := by
      show XcAt _ _ _ _ _
      rw [HNX.out]
      exact ⟨_, cap, HB2, HY2, hF⟩
    have HKf := Lib.hid ((HKQ.out.set 1 (.int .i64 (p1 : Int))).set 2 (.int .i64 (M : Int)))
    obtain ⟨⟨d0, d1, d2, d3⟩, g1, g2, g3⟩ := HBQ.out
    rw [hp'] at d1
    rw [hdd] at d2
    clear HB2 HY2 d3 d0
    go_wp2
    go_end0
    exact ⟨rfl, HAf.out, HKf.out⟩
  · have x2 : ¬ (p : Int) < (n : Int) := by omega
    have hx0 : x = 0 := by
      rw [← hx, List.getD_eq_getElem?_getD, List.getElem?_eq_none (by omega)]
      rfl
    have s6 : min ((D : Int) * 256) 1099511627776 = (M : Int) := by omega
    clear hM c2 c3 hY s3 s4 s5 hp1
    go_enter Tryz.func82, Tryz.ntmps82
    go_wp2_with fail
    go_quiet (fail)
    have D1 := (Ext.refl w).drewN nq
    have HBQ := Lib.hid (HB.out.ext D1)
    have HYQ := Lib.hid (HY.out.ext D1)
    have HKQ := Lib.hid (Kp.of_ext (b := b) D1)
    clear D1 c0 c1 HB HY f1 f2 f3
    revert HBQ HYQ HKQ
    generalize w.drewN nq = wq
    intro HBQ HYQ HKQ
    -- in hand: wq (after the quiet regions), HBQ : XcBox wq, HYQ, HKQ : Kp b w wq; x the byte; walk the rest
    have HB2 := (HBQ.out.set1 p1).set2 M
    have HY2 : Bys ((wq.setCell ⟨b, 1, none⟩ (.int .i64 (p1 : Int))).setCell ⟨b, 2, none⟩ (.int .i64 (M : Int))) (.slice _ bs.length cap) bs := ⟨row_kp HYQ.out.1 (((Kp.refl b wq).set 1 _).set 2 _) (fun g off e => (hF g off e).1), HYQ.out.2⟩
    have HAf : Hid (XcAt F ((wq.setCell ⟨b, 1, none⟩ (.int .i64 (p1 : Int))).setCell ⟨b, 2, none⟩ (.int .i64 (M : Int))) b bs (nexX bs s)) := by
      show XcAt _ _ _ _ _
      rw [HNX.out]
      exact ⟨_, cap, HB2, HY2, hF⟩
    have HKf := Lib.hid ((HKQ.out.set 1 (.int .i64 (p1 : Int))).set 2 (.int .i64 (M : Int)))
    obtain ⟨⟨d0, d1, d2, d3⟩, g1, g2, g3⟩ := HBQ.out
    rw [hp'] at d1
    rw [hdd] at d2
    clear HB2 HY2 d3 d0
    go_wp2
    go_end0
    exact ⟨rfl, HAf.out, HKf.out⟩
end Go.Proofs.YtpofabebmeickaaGreatDoor

/- kinref12's decoder: narrows, Flat, Code, Over: contracts over this seat's translation. -/
namespace Go.Proofs.YtpofabebmeickaaGreatDoor
set_option linter.unusedVariables false
set_option linter.unusedSimpArgs false
open Go.RowKit Go.Extern.Stop Go.Stop Go.Extern

theorem nrmX_ok {bs : List Nat} {N : Nat} {s : Xc} : ∀ (f : Nat), okX N s → okX (N + f) (nrmX bs f s) := by
  intro f
  induction f generalizing s N with
  | zero => intro h; exact h
  | succ f ih =>
    intro h
    show okX _ (if s.rr < 16777216 then nrmX bs f (stpX bs s) else s)
    split
    · rename_i hw
      have := ih (stpX_ok (bs := bs) h hw)
      rw [show N + 1 + f = N + (f + 1) by omega] at this
      exact this
    · exact h.mono (by omega)
theorem parX_ok {bs : List Nat} {N w : Nat} {s : Xc} (h : okX N s) (h2 : w < s.rr) : okX (N + 3) (parX bs s w) := nrmX_ok 3 (midX_ok h (Nat.le_of_lt h2)).1
def XbPost (F : Nat → Prop) (w : World) (b : Nat) (bs : List Nat) (v : Bool) (s : Xc) (e : Ending) (w' : World) : Prop := e = .returned (.bool v) ∧ XcAt F w' b bs s ∧ Kp b w w'
set_option maxRecDepth 20000 in
set_option maxHeartbeats 4000000 in
theorem xnarrows_any (F : Nat → Prop) (b N wd : Nat) (bs : List Nat) (s : Xc) (w : World) (h : XcAt F w b bs s) (hk : okX N s) (hN : N ≤ 4000000) (h1 : 1 ≤ wd) (h2 : wd < s.rr) : Calls Tryz.prog 107 #[.pointer (some ⟨b, 0, none⟩), .int .i64 (wd : Int)] w (XbPost F w b bs (decide (wd ≤ s.dd)) (parX bs s wd)) := by
  obtain ⟨R, hR⟩ : ∃ R, parX bs s wd = R := ⟨_, rfl⟩
  rw [hR]
  have hok := (midX_ok (w := wd) hk (Nat.le_of_lt h2)).1
  have hwd : 16777216 ≤ (midX s wd).rr * 256 ^ 3 := by
    rw [(midX_ok (w := wd) hk (Nat.le_of_lt h2)).2]
    show 16777216 ≤ _ * 16777216
    split <;> omega
  have HMK : Hid (okX N (midX s wd) ∧ nrmX bs 3 (midX s wd) = R ∧ 16777216 ≤ (midX s wd).rr * 256 ^ 3) := ⟨hok, hR, hwd⟩
  have k4 := hk.2.1
  have k5 := hk.2.2
  clear hok hR hwd
  obtain ⟨a, cap, hB, hY, hF⟩ := h
  have hF9 : ∀ g off, a = some ⟨g, off, none⟩ → g ≠ b := fun g off e => (hF g off e).1
  obtain ⟨U, hU⟩ : ∃ U, s.dd = U := ⟨_, rfl⟩
  obtain ⟨d, hd⟩ : ∃ d, s.rr = d := ⟨_, rfl⟩
  rw [hU]
  by_cases hup : wd ≤ U
  · rw [decide_eq_true hup]
    obtain ⟨U2, hU2⟩ : ∃ U2, U - wd = U2 := ⟨_, rfl⟩
    obtain ⟨d1, hd1⟩ : ∃ d1, d - wd = d1 := ⟨_, rfl⟩
    rw [hd] at h2 k5
    rw [hU] at k4
    have hM : midX s wd = { s with dd := U2, rr := d1 } := by unfold midX; rw [if_pos (by rw [hU]; exact hup), hU, hd, hU2, hd1]
    have s1 : IntKind.i64.wrap ((U : Int) - (wd : Int)) = (U2 : Int) := by rw [IntKind.wrap_i64]; omega
    have s2 : IntKind.i64.wrap ((d : Int) - (wd : Int)) = (d1 : Int) := by rw [IntKind.wrap_i64]; omega
    have HA2 : Hid (XcAt F ((w.setCell ⟨b, 2, none⟩ (.int .i64 (U2 : Int))).setCell ⟨b, 3, none⟩ (.int .i64 (d1 : Int))) b bs { s with dd := U2, rr := d1 }) := ⟨a, cap, (hB.set2 U2).set3 d1, ⟨row_kp hY.1 (((Kp.refl b w).set 2 _).set 3 _) hF9, hY.2⟩, hF⟩
    have HK2 : Hid (okX N { s with dd := U2, rr := d1 } ∧ nrmX bs 3 { s with dd := U2, rr := d1 } = R ∧ 16777216 ≤ d1 * 256 ^ 3) := by
      have := HMK.out
      rw [hM] at this
      exact this
    have HW2 := Lib.hid (((Kp.refl b w).set 2 (.int .i64 (U2 : Int))).set 3 (.int .i64 (d1 : Int)))
    have x1 : (wd : Int) ≤ (U : Int) := by omega
    obtain ⟨⟨c0, c1, c2, c3⟩, f1, f2, f3⟩ := hB
    rw [hU] at c2
    rw [hd] at c3
    clear hY hF hF9 hk HMK hM hU hd k4 k5 h1 h2 hup c0 c1 hU2 hd1
    go_enter Tryz.func107, Tryz.ntmps107
    go_wp2_with fail
    go_loopg [] (3) (fun f wr => ∃ t : Xc, Hid (XcAt F wr b bs t) ∧ Hid (f ≤ 3 ∧ okX (N + (3 - f)) t ∧ nrmX bs f t = R ∧ 16777216 ≤ t.rr * 256 ^ f) ∧ Hid (Kp b w wr))
    case atStart => exact ⟨_, HA2.out, ⟨Nat.le_refl _, HK2.out⟩, HW2.out⟩
    case round =>
      clear HA2 HK2 HW2
      obtain ⟨t, HA, HK, HW⟩ := hrel
      obtain ⟨a3, cap3, hB3, hY3, hF3⟩ := HA.out
      have k3 : t.rr < 4294967296 := HK.out.2.1.2.2
      obtain ⟨⟨c0, c1, c2, c3⟩, f1, f2, f3⟩ := id hB3
      obtain ⟨D, hD⟩ : ∃ D, t.rr = D := ⟨_, rfl⟩
      rw [hD] at c3 k3
      have HD := Lib.hid hD
      by_cases hlt : D < 16777216
      · have x1 : (D : Int) < 16777216 := by omega
        have s1 : IntKind.i64.wrap ((D : Int) * 256) = ((D * 256 : Nat) : Int) := by rw [IntKind.wrap_i64]; omega
        obtain ⟨D2, hD2⟩ : ∃ D2, D * 256 = D2 := ⟨_, rfl⟩
        rw [hD2] at s1
        obtain ⟨j1, j2, j3, j4⟩ := HK.out
        have hg : ∃ g, gk = g + 1 := by
          cases gk with
          | zero => exfalso; have := HD.out; simp at j4; omega
          | succ g => exact ⟨g, rfl⟩
        obtain ⟨g, rfl⟩ := hg
        have j5 : nrmX bs g (stpX bs t) = R := by
          rw [← j3]
          show _ = (if t.rr < 16777216 then nrmX bs g (stpX bs t) else t)
          rw [if_pos (by rw [hD]; exact hlt)]
        have j6 : 16777216 ≤ (stpX bs t).rr * 256 ^ g := by
          show 16777216 ≤ t.rr * 256 * 256 ^ g
          rw [Nat.mul_assoc, ← Nat.pow_succ']
          exact j4
        have j7 := stpX_ok (bs := bs) j2 (by rw [hD]; exact hlt)
        have HJ : Hid (g ≤ 3 ∧ okX (N + (3 - g)) (stpX bs t) ∧ nrmX bs g (stpX bs t) = R ∧ 16777216 ≤ (stpX bs t).rr * 256 ^ g) := ⟨by omega, by rw [show N + (3 - g) = N + (3 - (g + 1)) + 1 by omega]; exact j7, j5, j6⟩
        have hN4 : N + (3 - (g + 1)) ≤ 4500000 := by omega
        have hA4 : XcAt F (wr.setCell ⟨b, 3, none⟩ (.int .i64 (D2 : Int))) b bs { t with rr := D2 } := ⟨a3, cap3, hB3.set3 D2, ⟨row_kp hY3.1 ((Kp.refl b wr).set 3 _) (fun g off e => (hF3 g off e).1), hY3.2⟩, hF3⟩
        have HST : Hid (nexX bs { t with rr := D2 } = stpX bs t) := by show _ = _; unfold stpX; rw [hD, hD2]
        have UN := Lib.hid (xnext_any F b _ bs { t with rr := D2 } _ hA4 (by exact ⟨j2.1, j2.2.1, by show D2 < _; omega⟩) hN4)
        rw [HST.out] at UN
        have HK4 := Lib.hid (HW.out.set 3 (.int .i64 (D2 : Int)))
        clear hD2 j1 j2 j3 j4 j5 j6 j7 hB3 hY3 hF3 hD hA4 hN4 c0 c1 c2
        go_wp2_with fail
        refine (UN.out).mono ?_; rintro e w7 ⟨rfl, hA7, hK7⟩
        have HDf := Lib.hid hA7
        have HKf := Lib.hid (HK4.out.trans hK7)
        clear hA7 hK7
        go_wp2
        go_roundg (g)
        all_goals first
          | exact ⟨stpX bs t, HDf.out, HJ.out, HKf.out⟩
          | omega
      · have x1 : ¬ (D : Int) < 16777216 := by omega
        have HR : Hid (t = R) := by
          show _ = _
          rw [← HK.out.2.2.1]
          cases gk with
          | zero => rfl
          | succ g => show _ = (if t.rr < 16777216 then _ else t); rw [if_neg (by rw [HD.out]; exact hlt)]
        clear hB3 hY3 hF3 hD
        go_wp2
        go_ret
        exact ⟨rfl, by rw [← HR.out]; exact HA.out, HW.out⟩
  · rw [decide_eq_false hup]
    have hM : midX s wd = { s with rr := wd } := by unfold midX; rw [if_neg (by rw [hU]; exact hup)]
    have HA2 : Hid (XcAt F (w.setCell ⟨b, 3, none⟩ (.int .i64 (wd : Int))) b bs { s with rr := wd }) := ⟨a, cap, hB.set3 wd, ⟨row_kp hY.1 ((Kp.refl b w).set 3 _) hF9, hY.2⟩, hF⟩
    have HK2 : Hid (okX N { s with rr := wd } ∧ nrmX bs 3 { s with rr := wd } = R ∧ 16777216 ≤ wd * 256 ^ 3) := by
      have := HMK.out
      rw [hM] at this
      exact this
    have HW2 := Lib.hid ((Kp.refl b w).set 3 (.int .i64 (wd : Int)))
    have x1 : ¬ (wd : Int) ≤ (U : Int) := by omega
    obtain ⟨⟨c0, c1, c2, c3⟩, f1, f2, f3⟩ := hB
    rw [hU] at c2
    clear hY hF hF9 hk HMK hM hU hd k4 k5 h1 h2 hup c0 c1
    go_enter Tryz.func107, Tryz.ntmps107
    go_wp2_with fail
    go_loopg [] (3) (fun f wr => ∃ t : Xc, Hid (XcAt F wr b bs t) ∧ Hid (f ≤ 3 ∧ okX (N + (3 - f)) t ∧ nrmX bs f t = R ∧ 16777216 ≤ t.rr * 256 ^ f) ∧ Hid (Kp b w wr))
    case atStart => exact ⟨_, HA2.out, ⟨Nat.le_refl _, HK2.out⟩, HW2.out⟩
    case round =>
      clear HA2 HK2 HW2
      obtain ⟨t, HA, HK, HW⟩ := hrel
      obtain ⟨a3, cap3, hB3, hY3, hF3⟩ := HA.out
      have k3 : t.rr < 4294967296 := HK.out.2.1.2.2
      obtain ⟨⟨c0, c1, c2, c3⟩, f1, f2, f3⟩ := id hB3
      obtain ⟨D, hD⟩ : ∃ D, t.rr = D := ⟨_, rfl⟩
      rw [hD] at c3 k3
      have HD := Lib.hid hD
      by_cases hlt : D < 16777216
      · have x1 : (D : Int) < 16777216 := by omega
        have s1 : IntKind.i64.wrap ((D : Int) * 256) = ((D * 256 : Nat) : Int) := by rw [IntKind.wrap_i64]; omega
        obtain ⟨D2, hD2⟩ : ∃ D2, D * 256 = D2 := ⟨_, rfl⟩
        rw [hD2] at s1
        obtain ⟨j1, j2, j3, j4⟩ := HK.out
        have hg : ∃ g, gk = g + 1 := by
          cases gk with
          | zero => exfalso; have := HD.out; simp at j4; omega
          | succ g => exact ⟨g, rfl⟩
        obtain ⟨g, rfl⟩ := hg
        have j5 : nrmX bs g (stpX bs t) = R := by
          rw [← j3]
          show _ = (if t.rr < 16777216 then nrmX bs g (stpX bs t) else t)
          rw [if_pos (by rw [hD]; exact hlt)]
        have j6 : 16777216 ≤ (stpX bs t).rr * 256 ^ g := by
          show 16777216 ≤ t.rr * 256 * 256 ^ g
          rw [Nat.mul_assoc, ← Nat.pow_succ']
          exact j4
        have j7 := stpX_ok (bs := bs) j2 (by rw [hD]; exact hlt)
        have HJ : Hid (g ≤ 3 ∧ okX (N + (3 - g)) (stpX bs t) ∧ nrmX bs g (stpX bs t) = R ∧ 16777216 ≤ (stpX bs t).rr * 256 ^ g) := ⟨by omega, by rw [show N + (3 - g) = N + (3 - (g + 1)) + 1 by omega]; exact j7, j5, j6⟩
        have hN4 : N + (3 - (g + 1)) ≤ 4500000 := by omega
        have hA4 : XcAt F (wr.setCell ⟨b, 3, none⟩ (.int .i64 (D2 : Int))) b bs { t with rr := D2 } := ⟨a3, cap3, hB3.set3 D2, ⟨row_kp hY3.1 ((Kp.refl b wr).set 3 _) (fun g off e => (hF3 g off e).1), hY3.2⟩, hF3⟩
        have HST : Hid (nexX bs { t with rr := D2 } = stpX bs t) := by show _ = _; unfold stpX; rw [hD, hD2]
        have UN := Lib.hid (xnext_any F b _ bs { t with rr := D2 } _ hA4 (by exact ⟨j2.1, j2.2.1, by show D2 < _; omega⟩) hN4)
        rw [HST.out] at UN
        have HK4 := Lib.hid (HW.out.set 3 (.int .i64 (D2 : Int)))
        clear hD2 j1 j2 j3 j4 j5 j6 j7 hB3 hY3 hF3 hD hA4 hN4 c0 c1 c2
        go_wp2_with fail
        refine (UN.out).mono ?_; rintro e w7 ⟨rfl, hA7, hK7⟩
        have HDf := Lib.hid hA7
        have HKf := Lib.hid (HK4.out.trans hK7)
        clear hA7 hK7
        go_wp2
        go_roundg (g)
        all_goals first
          | exact ⟨stpX bs t, HDf.out, HJ.out, HKf.out⟩
          | omega
      · have x1 : ¬ (D : Int) < 16777216 := by omega
        have HR : Hid (t = R) := by
          show _ = _
          rw [← HK.out.2.2.1]
          cases gk with
          | zero => rfl
          | succ g => show _ = (if t.rr < 16777216 then _ else t); rw [if_neg (by rw [HD.out]; exact hlt)]
        clear hB3 hY3 hF3 hD
        go_wp2
        go_ret
        exact ⟨rfl, by rw [← HR.out]; exact HA.out, HW.out⟩
set_option maxRecDepth 20000 in
set_option maxHeartbeats 4000000 in
theorem xflat_any (F : Nat → Prop) (b N : Nat) (bs : List Nat) (s : Xc) (w : World) (h : XcAt F w b bs s) (hk : okX N s) (hN : N ≤ 4000000) (hw : 16777216 ≤ s.rr) : Calls Tryz.prog 93 #[.pointer (some ⟨b, 0, none⟩)] w (XbPost F w b bs (decide (s.rr / 2 ≤ s.dd)) (parX bs s (s.rr / 2))) := by
  have UP := Lib.hid (xnarrows_any F b N (s.rr / 2) bs s w h hk hN (by omega) (by omega))
  obtain ⟨a, cap, ⟨⟨c0, c1, c2, c3⟩, f1, f2, f3⟩, -, -⟩ := h
  obtain ⟨R, hR⟩ : ∃ R, parX bs s (s.rr / 2) = R := ⟨_, rfl⟩
  obtain ⟨V, hV⟩ : ∃ V, decide (s.rr / 2 ≤ s.dd) = V := ⟨_, rfl⟩
  rw [hR, hV] at UP ⊢
  have hd4 := hk.2.2
  obtain ⟨d, hd⟩ : ∃ d, s.rr = d := ⟨_, rfl⟩
  rw [hd] at c3 UP hd4
  obtain ⟨q, hq⟩ : ∃ q, d / 2 = q := ⟨_, rfl⟩
  have s1 : Int.tdiv (d : Int) 2 = (q : Int) := by rw [← hq, show (2 : Int) = ((2 : Nat) : Int) from rfl, Int.ofNat_tdiv]
  have s2 : IntKind.i64.wrap (q : Int) = (q : Int) := by rw [IntKind.wrap_i64]; omega
  rw [hq] at UP
  clear hR hV hd hq hk hw c0 c1 c2
  go_enter Tryz.func93, Tryz.ntmps93
  go_wp2_with fail
  refine (UP.out).mono ?_; rintro e w7 ⟨rfl, hA7, hW7⟩
  go_wp2
  go_ret
  exact ⟨rfl, hA7, hW7⟩
def ovrX (bs : List Nat) (s : Xc) : Nat := s.pos - bs.length
set_option maxRecDepth 20000 in
set_option maxHeartbeats 4000000 in
theorem xover_any (F : Nat → Prop) (b N : Nat) (bs : List Nat) (s : Xc) (w : World) (h : XcAt F w b bs s) (hk : okX N s) (hN : N ≤ 4000000) (hl : bs.length ≤ 4500000) : Calls Tryz.prog 22 #[.pointer (some ⟨b, 0, none⟩)] w fun e w' => e = .returned (.int .i64 (ovrX bs s : Int)) ∧ Ext w w' := by
  obtain ⟨a, cap, ⟨⟨c0, c1, c2, c3⟩, f1, f2, f3⟩, -, -⟩ := h
  obtain ⟨o, ho⟩ : ∃ o, ovrX bs s = o := ⟨_, rfl⟩
  rw [ho]
  unfold ovrX at ho
  have hp := hk.1
  obtain ⟨p, hp'⟩ : ∃ p, s.pos = p := ⟨_, rfl⟩
  obtain ⟨n, hn⟩ : ∃ n, bs.length = n := ⟨_, rfl⟩
  rw [hp'] at c1 hp ho
  rw [hn] at c0 hl ho
  have s1 : IntKind.i64.wrap ((p : Int) - (n : Int)) = (p : Int) - (n : Int) := by rw [IntKind.wrap_i64]; omega
  have s2 : max ((p : Int) - (n : Int)) 0 = (o : Int) := by omega
  have r2 := mx2
  clear ho hk hp' hn c2 c3
  go_enter Tryz.func22, Tryz.ntmps22
  go_wp2_with fail
  go_region
  go_wp2
  go_ret
  exact ⟨rfl, (Ext.refl w).drew⟩
end Go.Proofs.YtpofabebmeickaaGreatDoor

/- kinref12's decoder: Code, NewDecoder: contracts over this seat's translation; the two decoders side by side. -/
namespace Go.Proofs.YtpofabebmeickaaGreatDoor
set_option linter.unusedVariables false
set_option linter.unusedSimpArgs false
open Go.RowKit Go.Extern.Stop Go.Stop Go.Extern

theorem Kp.setNew {b : Nat} {u v : World} (h : Kp b u v) {p : Addr} (hp : u.heap.size ≤ p.block) (x : Value) : Kp b u (v.setCell p x) :=
  ⟨show v.os = u.os from World.grownBy.os h, show v.tape = u.tape from World.grownBy.tape h, show v.output = u.output from World.grownBy.output h, by simpa using h.size, fun i hi hn => (Below.heap_setCell v p x i (by omega)).trans (World.grownBy.block h i hi hn)⟩
theorem ResAt.kp {w w' : World} {B b : Nat} (h : ResAt w B) (k : Kp b w w') (hb : B ≠ b) : ResAt w' B := by
  obtain ⟨h0, h1, h2, h3⟩ := h
  have e := k.block (Ext.lt (p := ⟨B, 0, none⟩) h0) hb
  exact ⟨(World.cell?_of_block (a := ⟨B, 0, none⟩) e).trans h0, (World.cell?_of_block (a := ⟨B, 1, none⟩) e).trans h1, (World.frozen?_of_block (a := ⟨B, 0, none⟩) e).trans h2, (World.frozen?_of_block (a := ⟨B, 1, none⟩) e).trans h3⟩
def xcU (s : Xc) (p : Int) : Bool := if chance p then decide (s.rr / 2048 * p.toNat ≤ s.dd) else false
def xcD (bs : List Nat) (s : Xc) (p : Int) : Xc := if chance p then parX bs s (s.rr / 2048 * p.toNat) else s
def XkPost (F : Nat → Prop) (w : World) (b : Nat) (bs : List Nat) (p : Int) (v : Bool) (s : Xc) (e : Ending) (w' : World) : Prop := ∃ c x, e = .returned (.tuple #[.bool v, .agg #[.int .i64 c, x]]) ∧ RErrIs w' (if chance p then none else some ([], 3)) c x ∧ XcAt F w' b bs s ∧ Kp b w w'

set_option maxRecDepth 20000 in
set_option maxHeartbeats 4000000 in
theorem xcode_any (F : Nat → Prop) (b N : Nat) (p : Int) (bs : List Nat) (s : Xc) (w : World) (h : XcAt F w b bs s) (hk : okX N s) (hN : N ≤ 4000000) (hw : 16777216 ≤ s.rr) (hFn : ∀ g, w.heap.size ≤ g → F g) : Calls Tryz.prog 95 #[.pointer (some ⟨b, 0, none⟩), .int .i64 p] w (XkPost F w b bs p (xcU s p) (xcD bs s p)) := by
  have A1 : Ext w (w.alloc (.cells #[.int .i64 0, .slice none 0 0] 46)) := (Ext.refl w).alloc _
  have HA1 := Lib.hid (h.ext A1)
  have HR1 := Lib.hid (ResAt.new w)
  have HK1 := Lib.hid (Kp.of_ext (b := b) A1)
  have hbw : b < w.heap.size := by obtain ⟨_, _, h, _⟩ := h; exact h.lt
  have hRb : w.heap.size ≠ b := by omega
  have hbR : b ≠ w.heap.size := by omega
  have HFR := Lib.hid (hFn w.heap.size (Nat.le_refl _))
  clear hFn
  by_cases hc : chance p = true
  · have HF : Hid ((if chance p then none else some ([], 3) : Fall) = none) := if_pos hc
    have HS : Hid (xcD bs s p = parX bs s (s.rr / 2048 * p.toNat)) := if_pos hc
    have HV : Hid (xcU s p = decide (s.rr / 2048 * p.toNat ≤ s.dd)) := if_pos hc
    have hc2 := hc
    unfold chance at hc2
    rw [Bool.and_eq_true, decide_eq_true_iff, decide_eq_true_iff] at hc2
    obtain ⟨n, rfl⟩ : ∃ n : Nat, p = (n : Int) := ⟨p.toNat, by omega⟩
    have hn : ((n : Int)).toNat = n := by omega
    rw [hn] at HS HV
    obtain ⟨d, hd⟩ : ∃ d, s.rr = d := ⟨_, rfl⟩
    obtain ⟨q, hq⟩ : ∃ q, d / 2048 = q := ⟨_, rfl⟩
    obtain ⟨W, hW⟩ : ∃ W, q * n = W := ⟨_, rfl⟩
    have hd4 : d < 4294967296 := by rw [← hd]; exact hk.2.2
    have h1 : q * n ≤ q * 2047 := Nat.mul_le_mul_left q (by omega)
    have h2 : q * 1 ≤ q * n := Nat.mul_le_mul_left q (by omega)
    have UP := Lib.hid (xnarrows_any F b N W bs s _ HA1.out hk hN (by omega) (by omega))
    rw [hd, hq, hW] at HS HV
    rw [← HS.out, ← HV.out] at UP
    have s1 : Int.tdiv (d : Int) 2048 = (q : Int) := by rw [← hq, show (2048 : Int) = ((2048 : Nat) : Int) from rfl, Int.ofNat_tdiv]
    have s2 : IntKind.i64.wrap (q : Int) = (q : Int) := by rw [IntKind.wrap_i64]; omega
    have s4 : IntKind.i64.wrap ((q : Int) * (n : Int)) = (W : Int) := by rw [← Int.natCast_mul, hW, IntKind.wrap_i64]; omega
    have p1 : ¬ (n : Int) < 1 := by omega
    have p2 : ¬ (2047 : Int) < (n : Int) := by omega
    obtain ⟨a, cap, ⟨⟨c0, c1, c2, c3⟩, f1, f2, f3⟩, -, -⟩ := HA1.out
    rw [hd] at c3
    obtain ⟨R, hR⟩ : ∃ R, xcD bs s (n : Int) = R := ⟨_, rfl⟩
    obtain ⟨V, hV⟩ : ∃ V, xcU s (n : Int) = V := ⟨_, rfl⟩
    rw [hR, hV] at UP ⊢
    clear hR hV HS HV hn hc2 hd hq hW hk hw h1 h2 c0 c1 c2 hc h
    go_enter Tryz.func95, Tryz.ntmps95
    go_wp2_with fail
    refine (UP.out).mono ?_; rintro e w7 ⟨rfl, hA7, hW7⟩
    obtain ⟨r0, r1, r2, r3⟩ := HR1.out.kp hW7 hRb
    have HKf := Lib.hid (((HK1.out.trans hW7).setNew (p := ⟨w.heap.size, 0, none⟩) (Nat.le_refl _) (.int .i64 0)).setNew (p := ⟨w.heap.size, 1, none⟩) (Nat.le_refl _) (.slice none 0 0))
    have HXf := Lib.hid (hA7.kp (((Kp.refl w.heap.size w7).set 0 (.int .i64 0)).set 1 (.slice none 0 0)) HFR.out hbR)
    obtain ⟨y0, y1⟩ := res_cells (c := 0) r0 r1 (.slice none 0 0)
    clear hA7 hW7
    go_wp2
    exact bodyPost_ret (v := .tuple #[.bool V, .agg #[.int .i64 0, .slice none 0 0]]) (by simp [results, Tryz.results95, go_sem, y0, y1]) rfl ⟨0, .slice none 0 0, rfl, by rw [HF.out]; exact RErrIs.zero, HXf.out, HKf.out⟩
  · have hpp := chance_of hc
    have hc : chance p = false := by simpa using hc
    have HF : Hid ((if chance p then none else some ([], 3) : Fall) = some ([], 3)) := by show _ = _; rw [hc]; rfl
    have HS : Hid (xcD bs s p = s) := by show (if chance p then _ else _) = _; rw [hc]; rfl
    have HV : Hid (xcU s p = false) := by show (if chance p then _ else _) = _; rw [hc]; rfl
    clear h hk hw hc
    rcases hpp with p1 | ⟨p1, p2⟩
    all_goals (
      go_enter Tryz.func95, Tryz.ntmps95
      go_wp2_with fail
      refine (fail_any 3 _).mono ?_; rintro e w7 ⟨rfl, hx7⟩
      obtain ⟨r0, r1, r2, r3⟩ := HR1.out.ext hx7
      have HKf := Lib.hid (((HK1.out.ext hx7).setNew (p := ⟨w.heap.size, 0, none⟩) (Nat.le_refl _) (.int .i64 3)).setNew (p := ⟨w.heap.size, 1, none⟩) (Nat.le_refl _) (.slice none 0 0))
      have HXf := Lib.hid ((HA1.out.ext hx7).kp (((Kp.refl w.heap.size w7).set 0 (.int .i64 3)).set 1 (.slice none 0 0)) HFR.out hbR)
      obtain ⟨y0, y1⟩ := res_cells (c := 3) r0 r1 (.slice none 0 0)
      clear hx7
      go_wp2
      exact bodyPost_ret (v := .tuple #[.bool false, .agg #[.int .i64 3, .slice none 0 0]]) (by simp [results, Tryz.results95, go_sem, y0, y1]) rfl ⟨3, .slice none 0 0, by rw [HV.out], by rw [HF.out]; exact RErrIs.code (by decide), by rw [HS.out]; exact HXf.out, HKf.out⟩)
def nxN (bs : List Nat) : Nat → Xc
  | 0 => ⟨0, 0, 4294967295⟩
  | k + 1 => nexX bs (nxN bs k)
theorem nxN_ok (bs : List Nat) (k : Nat) : okX k (nxN bs k) := by
  induction k with
  | zero => exact ⟨Nat.le_refl _, Nat.zero_le _, (by show (4294967295 : Nat) < 4294967296; decide)⟩
  | succ k ih => exact nexX_ok ih
def NxcPost (w : World) (bs : List Nat) (e : Ending) (w' : World) : Prop := ∃ b, e = .returned (.pointer (some ⟨b, 0, none⟩)) ∧ w.heap.size ≤ b ∧ XcAt (fun g => g < w.heap.size ∨ w'.heap.size ≤ g) w' b bs (nxN bs 4) ∧ Ext w w'
set_option maxRecDepth 20000 in
set_option maxHeartbeats 4000000 in
theorem newxc_any (bs : List Nat) (v : Value) (w : World) (h : Bys w v bs) : Calls Tryz.prog 54 #[v] w (NxcPost w bs) := by
  have UC := Lib.hid (cpb_any bs v w h)
  have HBB := Lib.hid h.2
  clear h
  go_enter Tryz.func54, Tryz.ntmps54
  go_wp2_with fail
  refine (UC.out).mono ?_; rintro e w1 ⟨u, rfl, ho, hx1⟩
  have hy := Bys.of_owns ho HBB.out.1 HBB.out.2
  obtain ⟨a, cap, rfl⟩ := hy.form
  have hg : ∀ g off, a = some ⟨g, off, none⟩ → w.heap.size ≤ g ∧ g < w1.heap.size := fun g off ha => by
    subst ha
    exact ho.lt g rfl
  obtain ⟨B, hB⟩ : ∃ B, w1.heap.size = B := ⟨_, rfl⟩
  have hBw : w.heap.size ≤ B := by rw [← hB]; exact hx1.size
  have HD0 : Hid (XcAt (fun g => g < w.heap.size ∨ B + 1 ≤ g) (w1.alloc (.cells #[.slice a bs.length cap, .int .i64 0, .int .i64 0, .int .i64 4294967295] 118)) B bs (nxN bs 0)) := by
    subst hB
    exact ⟨a, cap, ⟨⟨by simp, by simp [nxN], by simp [nxN], by simp [nxN]⟩, by simp, by simp, by simp⟩, hy.ext ((Ext.refl _).alloc _), fun g off ha => by have := hg g off ha; omega⟩
  have HX0 := Lib.hid (hx1.alloc (.cells #[.slice a bs.length cap, .int .i64 0, .int .i64 0, .int .i64 4294967295] 118))
  have HS0 : Hid (B + 1 ≤ (w1.alloc (.cells #[.slice a bs.length cap, .int .i64 0, .int .i64 0, .int .i64 4294967295] 118)).heap.size) := by show _ ≤ _; simp [hB]
  have HBw := Lib.hid hBw
  clear ho hy hg hx1
  go_wp2_with fail
  clear hB
  go_loopw [4] (fun iv wr => ∃ k : Nat, k ≤ 4 ∧ iv = .int .i64 (k : Int) ∧ Hid (XcAt (fun g => g < w.heap.size ∨ B + 1 ≤ g) wr B bs (nxN bs k)) ∧ Hid (Ext w wr) ∧ Hid (B + 1 ≤ wr.heap.size)) (fun iv _ => 4 - (intOf iv).toNat)
  case atStart => exact ⟨0, Nat.zero_le _, rfl, HD0.out, HX0.out, HS0.out⟩
  case round =>
    clear HD0 HX0 HS0
    obtain ⟨k, hk, rfl, HD, HX, HS⟩ := hrel
    by_cases hlt : k < 4
    · have UN := Lib.hid (xnext_any _ B k bs _ wr HD.out (nxN_ok bs k) (by omega))
      have x1 : (k : Int) < 4 := by omega
      go_wp2_with fail
      refine (UN.out).mono ?_; rintro e w7 ⟨rfl, hA7, hK7⟩
      have HA7 : Hid (XcAt (fun g => g < w.heap.size ∨ B + 1 ≤ g) w7 B bs (nxN bs (k + 1))) := hA7
      have HX7 := Lib.hid (Kp.out HX.out hK7 HBw.out)
      have HS7 := Lib.hid (Nat.le_trans HS.out hK7.size)
      clear hA7 hK7
      go_wp2
      go_roundw
      case rel => exact ⟨k + 1, by omega, by go_num, HA7.out, HX7.out, HS7.out⟩
      case measure => simp [intOf]; omega
    · have hk4 : k = 4 := by omega
      have x1 : ¬ (k : Int) < 4 := by omega
      subst hk4
      have HF : Hid (XcAt (fun g => g < w.heap.size ∨ wr.heap.size ≤ g) wr B bs (nxN bs 4)) := by
        obtain ⟨a, cap, h1, h2, h3⟩ := HD.out
        exact ⟨a, cap, h1, h2, fun g off e => ⟨(h3 g off e).1, fun h9 => (h3 g off e).2 (by have := HS.out; omega)⟩⟩
      go_wp2
      go_ret
      exact ⟨B, rfl, HBw.out, HF.out, HX.out⟩
end Go.Proofs.YtpofabebmeickaaGreatDoor

/- The landed decoder and the document's, step by step: plain. -/
namespace Go.Proofs.YtpofabebmeickaaGreatDoor
set_option linter.unusedVariables false
set_option linter.unusedSimpArgs false
open Go.RowKit Go.Extern.Stop Go.Stop Go.Extern

def lkI (t : Dc) (x : Xc) : Prop := t.pos = x.pos ∧ t.wid = x.rr ∧ (t.over = true → x.rr ≤ x.dd) ∧ (t.over = false → t.num = x.dd ∧ x.dd < x.rr)
theorem lk_step {bs : List Nat} (hb : ∀ x ∈ bs, x < 256) {t : Dc} {x : Xc} (h : lkI t x) (hw : t.wid < 16777216) : lkI (stpD bs t) (stpX bs x) := by
  obtain ⟨h1, h2, h3, h4⟩ := h
  have hx := getD_lt hb x.pos
  have e1 : (stpX bs x).dd = min (x.dd * 256 + bs.getD x.pos 0) 1099511627776 := rfl
  have e2 : (stpX bs x).rr = x.rr * 256 := rfl
  have e3 : (stpD bs t).num = t.num * 256 % 18446744073709551616 + bs.getD t.pos 0 := rfl
  refine ⟨by show t.pos + 1 = x.pos + 1; rw [h1], by show t.wid * 256 = x.rr * 256; rw [h2], fun ho => ?_, fun ho => ?_⟩
  · have := h3 ho
    rw [e1, e2]
    omega
  · obtain ⟨k1, k2⟩ := h4 ho
    rw [e1, e2, e3, h1]
    omega
theorem lk_mid {t : Dc} {x : Xc} (h : lkI t x) {w : Nat} (h1 : 1 ≤ w) (hw : w < t.wid) (hr : t.wid < 4294967296) : lkI (midD t w) (midX x w) ∧ upD t w = decide (w ≤ x.dd) := by
  obtain ⟨h1', h2, h3, h4⟩ := h
  have hu : upD t w = decide (w ≤ x.dd) := by
    unfold upD
    cases ho : t.over with
    | true =>
      have := h3 ho
      rw [decide_eq_true (by omega : w ≤ x.dd)]
      rfl
    | false =>
      rw [(h4 ho).1]
      rfl
  refine ⟨?_, hu⟩
  unfold midD midX
  rw [hu]
  by_cases hc : w ≤ x.dd
  · rw [decide_eq_true hc, if_pos rfl, if_pos hc]
    refine ⟨h1', by show t.wid - w = x.rr - w; rw [h2], fun ho => ?_, fun ho => ?_⟩
    · have := h3 ho
      show x.rr - w ≤ x.dd - w
      omega
    · obtain ⟨k1, k2⟩ := h4 ho
      refine ⟨?_, by show x.dd - w < x.rr - w; omega⟩
      show (t.num + (18446744073709551616 - w)) % 18446744073709551616 = x.dd - w
      rw [k1]
      omega
  · rw [decide_eq_false hc, if_neg (by simp), if_neg hc]
    refine ⟨h1', rfl, fun ho => ?_, fun ho => ?_⟩
    · have := h3 ho
      omega
    · exact ⟨(h4 ho).1, by show x.dd < w; omega⟩
theorem lk_nrm {bs : List Nat} (hb : ∀ x ∈ bs, x < 256) : ∀ (f : Nat) {t : Dc} {x : Xc}, lkI t x → lkI (nrmD bs f t) (nrmX bs f x)
  | 0, _, _, h => h
  | f + 1, t, x, h => by
    show lkI (if t.wid < 16777216 then nrmD bs f (stpD bs t) else t) (if x.rr < 16777216 then nrmX bs f (stpX bs x) else x)
    have e := h.2.1
    by_cases hw : t.wid < 16777216
    · rw [if_pos hw, if_pos (by rw [← e]; exact hw)]
      exact lk_nrm hb f (lk_step hb h hw)
    · rw [if_neg hw, if_neg (by rw [← e]; exact hw)]
      exact h
theorem lk_par {bs : List Nat} (hb : ∀ x ∈ bs, x < 256) {t : Dc} {x : Xc} (h : lkI t x) {w : Nat} (h1 : 1 ≤ w) (hw : w < t.wid) (hr : t.wid < 4294967296) : lkI (parD bs t w) (parX bs x w) ∧ upD t w = decide (w ≤ x.dd) := by
  obtain ⟨a, b⟩ := lk_mid h h1 hw hr
  exact ⟨lk_nrm hb 3 a, b⟩
theorem lk_new {bs : List Nat} (hb : ∀ x ∈ bs, x < 256) : lkI (newD bs) (nxN bs 4) := by
  have key : ∀ k, k ≤ 4 → (mvN bs k).pos = (nxN bs k).pos ∧ (mvN bs k).num = (nxN bs k).dd ∧ (nxN bs k).rr = 4294967295 := by
    intro k
    induction k with
    | zero => intro _; exact ⟨rfl, rfl, rfl⟩
    | succ k ih =>
      intro hk
      obtain ⟨i1, i2, i3⟩ := ih (by omega)
      obtain ⟨-, -, -, m4⟩ := mvN_is bs hb k (by omega)
      have m5 : (mvN bs k).num < 256 ^ 4 := Nat.lt_of_lt_of_le m4 (Nat.pow_le_pow_right (by decide) (by omega))
      have m5 : (mvN bs k).num < 4294967296 := m5
      have hx := getD_lt hb (mvN bs k).pos
      refine ⟨by show (mvN bs k).pos + 1 = (nxN bs k).pos + 1; rw [i1], ?_, i3⟩
      show (mvN bs k).num * 256 % 18446744073709551616 + bs.getD (mvN bs k).pos 0 = min ((nxN bs k).dd * 256 + bs.getD (nxN bs k).pos 0) 1099511627776
      rw [← i1, ← i2]
      omega
  obtain ⟨k1, k2, k3⟩ := key 4 (Nat.le_refl _)
  obtain ⟨m1, m2, m3, m4⟩ := mvN_is bs hb 4 (Nat.le_refl _)
  refine ⟨k1, by show (mvN bs 4).wid = _; rw [m3, k3], fun ho => ?_, fun ho => ?_⟩
  · have ho : decide (4294967295 ≤ (mvN bs 4).num) = true := ho
    rw [decide_eq_true_iff] at ho
    rw [k3, ← k2]
    exact ho
  · have ho : decide (4294967295 ≤ (mvN bs 4).num) = false := ho
    rw [decide_eq_false_iff_not] at ho
    exact ⟨k2, by rw [k3, ← k2]; omega⟩
theorem lk_flat {bs : List Nat} (hb : ∀ x ∈ bs, x < 256) {t : Dc} {x : Xc} (h : lkI t x) (hw : 16777216 ≤ t.wid) (hr : t.wid < 4294967296) : lkI (parD bs t (t.wid / 2)) (parX bs x (x.rr / 2)) ∧ upD t (t.wid / 2) = decide (x.rr / 2 ≤ x.dd) := by
  rw [← h.2.1]
  exact lk_par hb h (by omega) (by omega) hr
theorem lk_code {bs : List Nat} (hb : ∀ x ∈ bs, x < 256) {t : Dc} {x : Xc} (p : Int) (h : lkI t x) (hw : 16777216 ≤ t.wid) (hr : t.wid < 4294967296) : lkI (codD bs t p) (xcD bs x p) ∧ codU t p = xcU x p := by
  unfold codD xcD codU xcU
  by_cases hc : chance p = true
  · obtain ⟨c1, c2⟩ := chance_nat hc
    obtain ⟨a, b⟩ := part_of hw c1 c2
    rw [if_pos hc, if_pos hc, if_pos hc, if_pos hc, ← h.2.1]
    exact lk_par hb h a b hr
  · rw [if_neg hc, if_neg hc, if_neg hc, if_neg hc]
    exact ⟨h, rfl⟩
theorem xcD_ok {bs : List Nat} {N : Nat} {p : Int} {s : Xc} (hk : okX N s) (hw : 16777216 ≤ s.rr) : okX (N + 3) (xcD bs s p) := by
  unfold xcD
  split
  · rename_i hc
    obtain ⟨c1, c2⟩ := chance_nat hc
    exact parX_ok hk (part_of hw c1 c2).2
  · exact hk.mono (by omega)
end Go.Proofs.YtpofabebmeickaaGreatDoor

