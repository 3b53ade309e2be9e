/- kinref18.asks, Play and Fills: contracts over this seat's translation. -/
import Derived.Test.YtckhilnjkckabaaDoorVAll
import Derived.Test.YtckhilnjkckabaaDoorAppRow
import Derived.Test.YtckhilnjkckabaaDoorRefMayNo
import Derived.Test.YtckhilnjkckabaaDoorRes
import Derived.BigRegion
namespace Go.Proofs.YtckhilnjkckabaaDoor
set_option linter.unusedVariables false
set_option linter.unusedSimpArgs false
open Go.RowKit Go.Extern.Stop Go.Stop Go.Extern

theorem Ints.hadv {w : World} {a : Option Addr} {n cap : Nat} {zs : List Int} (h : Ints w (.slice a n cap) zs) : 0 < n → ∃ g off, a = some ⟨g, off, none⟩ := fun h0 => by
  obtain ⟨⟨a', cap', e, _, _, h3, _⟩, _⟩ := h
  simp only [Value.slice.injEq] at e
  obtain ⟨rfl, rfl, rfl⟩ := e
  exact h3 h0
theorem own_extv {w w' : World} {base : Nat} {e : TypeId} {size n : Nat} {v : Value} {xs : List Value} (h : w.ownsRow base e size v n xs) (k : Ext w w') : w'.ownsRow base e size v n xs := by
  obtain ⟨hl, h⟩ := h
  refine ⟨hl, ?_⟩
  rcases h with h | ⟨g, cap, cur, rfl, hb, hg, h⟩
  · exact Or.inl h
  · have hlt : g < w.heap.size := by
      rcases Nat.lt_or_ge g w.heap.size with h' | h'
      · exact h'
      · rw [Array.getElem?_eq_none h'] at hg; cases hg
    exact Or.inr ⟨g, cap, cur, rfl, hb, (k.block hlt).trans hg, h⟩

set_option maxHeartbeats 2000000 in
set_option maxRecDepth 20000 in
theorem asks_noC (c : Cfg) (v : Value) (w : World) (h : ¬ Good c) :
    Calls Tryd.prog 26 #[.agg #[.int .i64 c.qmin, .int .i64 c.qmax, .int .i64 c.reach, .int .i64 c.cut, .int .i64 c.gop, .int .i64 c.rate, .int .i64 c.room, .int .i64 c.fill], v] w fun e w' => e = .returned (.agg #[.int .i64 11, .slice none 0 0]) ∧ Ext w w' := by
  have E1 : Ext w (w.alloc (.cells #[.int .i64 c.qmin, .int .i64 c.qmax, .int .i64 c.reach, .int .i64 c.cut, .int .i64 c.gop, .int .i64 c.rate, .int .i64 c.room, .int .i64 c.fill] 23)) := (Ext.refl w).alloc _
  have R1 := ResAt.new (w.alloc (.cells #[.int .i64 c.qmin, .int .i64 c.qmax, .int .i64 c.reach, .int .i64 c.cut, .int .i64 c.gop, .int .i64 c.rate, .int .i64 c.room, .int .i64 c.fill] 23))
  have hs1 : (w.alloc (.cells #[.int .i64 c.qmin, .int .i64 c.qmax, .int .i64 c.reach, .int .i64 c.cut, .int .i64 c.gop, .int .i64 c.rate, .int .i64 c.room, .int .i64 c.fill] 23)).heap.size = w.heap.size + 1 := by simp
  rw [hs1] at R1
  have H := Lib.hid h
  clear h
  go_enter Tryd.func26, Tryd.ntmps26
  go_wp2_with fail
  refine (rmay_no c _ H.out).mono ?_; rintro e w1 ⟨rfl, hx1⟩
  have EA : Ext w w1 := (E1.alloc _).trans hx1
  have RA := R1.ext hx1
  clear hx1 E1 R1 hs1
  go_wp2_with fail
  refine (fail_any 11 _).mono ?_; rintro e w9 ⟨rfl, hx9⟩
  have EE : Ext w w9 := EA.trans hx9
  obtain ⟨r0, r1, f0, f1⟩ := RA.ext hx9
  go_wp2
  obtain ⟨e0, e1⟩ := res_cells (c := 11) r0 r1 (.slice none 0 0)
  exact bodyPost_ret (v := .agg #[.int .i64 11, .slice none 0 0]) (by simp [results, Tryd.results26, go_sem, e0, e1]) rfl ⟨rfl, (EE.setCell (by simp) _).setCell (by simp) _⟩

set_option maxHeartbeats 2000000 in
set_option maxRecDepth 20000 in
theorem asks_noL (c : Cfg) (n : Nat) (v : Value) (w : World) (h : Good c) (hv : ∃ a cap, v = .slice a n cap) (hl : 4096 < n) :
    Calls Tryd.prog 26 #[.agg #[.int .i64 c.qmin, .int .i64 c.qmax, .int .i64 c.reach, .int .i64 c.cut, .int .i64 c.gop, .int .i64 c.rate, .int .i64 c.room, .int .i64 c.fill], v] w fun e w' => e = .returned (.agg #[.int .i64 3, .slice none 0 0]) ∧ Ext w w' := by
  have E1 : Ext w (w.alloc (.cells #[.int .i64 c.qmin, .int .i64 c.qmax, .int .i64 c.reach, .int .i64 c.cut, .int .i64 c.gop, .int .i64 c.rate, .int .i64 c.room, .int .i64 c.fill] 23)) := (Ext.refl w).alloc _
  have R1 := ResAt.new (w.alloc (.cells #[.int .i64 c.qmin, .int .i64 c.qmax, .int .i64 c.reach, .int .i64 c.cut, .int .i64 c.gop, .int .i64 c.rate, .int .i64 c.room, .int .i64 c.fill] 23))
  have hs1 : (w.alloc (.cells #[.int .i64 c.qmin, .int .i64 c.qmax, .int .i64 c.reach, .int .i64 c.cut, .int .i64 c.gop, .int .i64 c.rate, .int .i64 c.room, .int .i64 c.fill] 23)).heap.size = w.heap.size + 1 := by simp
  rw [hs1] at R1
  have H := Lib.hid h
  clear h
  obtain ⟨a, cap, rfl⟩ := hv
  go_enter Tryd.func26, Tryd.ntmps26
  go_wp2_with fail
  refine (rmay_yes c _ H.out).mono ?_; rintro e w1 ⟨rfl, hx1⟩
  have EA : Ext w w1 := (E1.alloc _).trans hx1
  have RA := R1.ext hx1
  clear hx1 E1 R1 hs1
  go_wp2_with fail
  refine (fail_any 3 _).mono ?_; rintro e w9 ⟨rfl, hx9⟩
  have EE : Ext w w9 := EA.trans hx9
  obtain ⟨r0, r1, f0, f1⟩ := RA.ext hx9
  go_wp2
  obtain ⟨e0, e1⟩ := res_cells (c := 3) r0 r1 (.slice none 0 0)
  exact bodyPost_ret (v := .agg #[.int .i64 3, .slice none 0 0]) (by simp [results, Tryd.results26, go_sem, e0, e1]) rfl ⟨rfl, (EE.setCell (by simp) _).setCell (by simp) _⟩

set_option maxHeartbeats 2000000 in
set_option maxRecDepth 20000 in
theorem asks_noW (c : Cfg) (zs : List Int) (n : Nat) (v : Value) (w : World) (h : Good c) (ha : Ints w v zs) (hn : n = zs.length) (hl : n ≤ 4096) (hw : ¬ within 0 1073741824 zs) :
    Calls Tryd.prog 26 #[.agg #[.int .i64 c.qmin, .int .i64 c.qmax, .int .i64 c.reach, .int .i64 c.cut, .int .i64 c.gop, .int .i64 c.rate, .int .i64 c.room, .int .i64 c.fill], v] w fun e w' => e = .returned (.agg #[.int .i64 3, .slice none 0 0]) ∧ Ext w w' := by
  have E1 : Ext w (w.alloc (.cells #[.int .i64 c.qmin, .int .i64 c.qmax, .int .i64 c.reach, .int .i64 c.cut, .int .i64 c.gop, .int .i64 c.rate, .int .i64 c.room, .int .i64 c.fill] 23)) := (Ext.refl w).alloc _
  have R1 := ResAt.new (w.alloc (.cells #[.int .i64 c.qmin, .int .i64 c.qmax, .int .i64 c.reach, .int .i64 c.cut, .int .i64 c.gop, .int .i64 c.rate, .int .i64 c.room, .int .i64 c.fill] 23))
  have hs1 : (w.alloc (.cells #[.int .i64 c.qmin, .int .i64 c.qmax, .int .i64 c.reach, .int .i64 c.cut, .int .i64 c.gop, .int .i64 c.rate, .int .i64 c.room, .int .i64 c.fill] 23)).heap.size = w.heap.size + 1 := by simp
  rw [hs1] at R1
  have H := Lib.hid h
  have HW := Lib.hid hw
  clear h hw
  obtain ⟨a, cap, rfl⟩ := ha.form
  rw [← hn] at ha ⊢
  clear hn
  go_enter Tryd.func26, Tryd.ntmps26
  go_wp2_with fail
  refine (rmay_yes c _ H.out).mono ?_; rintro e w1 ⟨rfl, hx1⟩
  have EA : Ext w w1 := (E1.alloc _).trans hx1
  have RA := R1.ext hx1
  clear hx1 E1 R1 hs1
  go_wp2_with fail
  refine (within_any zs _ _ _ _ (ha.ext EA)).mono ?_; rintro e w2 ⟨rfl, hx2⟩
  rw [decide_eq_false HW.out]
  have EA : Ext w w2 := EA.trans hx2
  have RA := RA.ext hx2
  clear hx2
  go_wp2_with fail
  refine (fail_any 3 _).mono ?_; rintro e w9 ⟨rfl, hx9⟩
  have EE : Ext w w9 := EA.trans hx9
  obtain ⟨r0, r1, f0, f1⟩ := RA.ext hx9
  go_wp2
  obtain ⟨e0, e1⟩ := res_cells (c := 3) r0 r1 (.slice none 0 0)
  exact bodyPost_ret (v := .agg #[.int .i64 3, .slice none 0 0]) (by simp [results, Tryd.results26, go_sem, e0, e1]) rfl ⟨rfl, (EE.setCell (by simp) _).setCell (by simp) _⟩

set_option maxHeartbeats 2000000 in
set_option maxRecDepth 20000 in
theorem asks_yes (c : Cfg) (zs : List Int) (n : Nat) (v : Value) (w : World) (h : Good c) (ha : Ints w v zs) (hn : n = zs.length) (hl : n ≤ 4096) (hw : within 0 1073741824 zs) :
    Calls Tryd.prog 26 #[.agg #[.int .i64 c.qmin, .int .i64 c.qmax, .int .i64 c.reach, .int .i64 c.cut, .int .i64 c.gop, .int .i64 c.rate, .int .i64 c.room, .int .i64 c.fill], v] w fun e w' => e = .returned (.agg #[.int .i64 0, .slice none 0 0]) ∧ Ext w w' := by
  have E1 : Ext w (w.alloc (.cells #[.int .i64 c.qmin, .int .i64 c.qmax, .int .i64 c.reach, .int .i64 c.cut, .int .i64 c.gop, .int .i64 c.rate, .int .i64 c.room, .int .i64 c.fill] 23)) := (Ext.refl w).alloc _
  have R1 := ResAt.new (w.alloc (.cells #[.int .i64 c.qmin, .int .i64 c.qmax, .int .i64 c.reach, .int .i64 c.cut, .int .i64 c.gop, .int .i64 c.rate, .int .i64 c.room, .int .i64 c.fill] 23))
  have hs1 : (w.alloc (.cells #[.int .i64 c.qmin, .int .i64 c.qmax, .int .i64 c.reach, .int .i64 c.cut, .int .i64 c.gop, .int .i64 c.rate, .int .i64 c.room, .int .i64 c.fill] 23)).heap.size = w.heap.size + 1 := by simp
  rw [hs1] at R1
  have H := Lib.hid h
  have HW := Lib.hid hw
  clear h hw
  obtain ⟨a, cap, rfl⟩ := ha.form
  rw [← hn] at ha ⊢
  clear hn
  go_enter Tryd.func26, Tryd.ntmps26
  go_wp2_with fail
  refine (rmay_yes c _ H.out).mono ?_; rintro e w1 ⟨rfl, hx1⟩
  have EA : Ext w w1 := (E1.alloc _).trans hx1
  have RA := R1.ext hx1
  clear hx1 E1 R1 hs1
  go_wp2_with fail
  refine (within_any zs _ _ _ _ (ha.ext EA)).mono ?_; rintro e w2 ⟨rfl, hx2⟩
  rw [decide_eq_true HW.out]
  have EA : Ext w w2 := EA.trans hx2
  have RA := RA.ext hx2
  clear hx2
  have EE : Ext w _ := EA
  obtain ⟨r0, r1, f0, f1⟩ := RA
  go_wp2
  obtain ⟨e0, e1⟩ := res_cells (c := 0) r0 r1 (.slice none 0 0)
  exact bodyPost_ret (v := .agg #[.int .i64 0, .slice none 0 0]) (by simp [results, Tryd.results26, go_sem, e0, e1]) rfl ⟨rfl, (EE.setCell (by simp) _).setCell (by simp) _⟩

open Classical in
noncomputable def askK (c : Cfg) (zs : List Int) : Int := if Good c then (if Sizes zs then 0 else 3) else 11
theorem asks_any (c : Cfg) (zs : List Int) (v : Value) (w : World) (ha : Ints w v zs) :
    Calls Tryd.prog 26 #[.agg #[.int .i64 c.qmin, .int .i64 c.qmax, .int .i64 c.reach, .int .i64 c.cut, .int .i64 c.gop, .int .i64 c.rate, .int .i64 c.room, .int .i64 c.fill], v] w fun e w' => e = .returned (.agg #[.int .i64 (askK c zs), .slice none 0 0]) ∧ Ext w w' := by
  unfold askK
  by_cases g : Good c
  · rw [if_pos g]
    by_cases s : Sizes zs
    · rw [if_pos s]
      exact asks_yes c zs _ v w g ha rfl s.1 s.2
    · rw [if_neg s]
      by_cases hl : zs.length ≤ 4096
      · exact asks_noW c zs _ v w g ha rfl hl (fun h => s ⟨hl, h⟩)
      · exact asks_noL c zs.length v w g ha.form (by omega)
  · rw [if_neg g]
    exact asks_noC c v w g

set_option maxHeartbeats 2000000 in
set_option maxRecDepth 20000 in
theorem rPlay_no (c : Cfg) (zs : List Int) (v : Value) (w : World) (k : Int) (hk : k ≠ 0) (ha : Ints w v zs)
    (f : Hid (∀ W, Ints W v zs → Calls Tryd.prog 26 #[.agg #[.int .i64 c.qmin, .int .i64 c.qmax, .int .i64 c.reach, .int .i64 c.cut, .int .i64 c.gop, .int .i64 c.rate, .int .i64 c.room, .int .i64 c.fill], v] W fun e w' => e = .returned (.agg #[.int .i64 k, .slice none 0 0]) ∧ Ext W w')) :
    Calls Tryd.prog 9 #[.agg #[.int .i64 c.qmin, .int .i64 c.qmax, .int .i64 c.reach, .int .i64 c.cut, .int .i64 c.gop, .int .i64 c.rate, .int .i64 c.room, .int .i64 c.fill], v] w fun e w' => e = .returned (.tuple #[.slice none 0 0, .agg #[.int .i64 k, .slice none 0 0]]) ∧ Ext w w' := by
  have E1 : Ext w (w.alloc (.cells #[.int .i64 c.qmin, .int .i64 c.qmax, .int .i64 c.reach, .int .i64 c.cut, .int .i64 c.gop, .int .i64 c.rate, .int .i64 c.room, .int .i64 c.fill] 23)) := (Ext.refl w).alloc _
  have R1 := ResAt.new (w.alloc (.cells #[.int .i64 c.qmin, .int .i64 c.qmax, .int .i64 c.reach, .int .i64 c.cut, .int .i64 c.gop, .int .i64 c.rate, .int .i64 c.room, .int .i64 c.fill] 23))
  have hs1 : (w.alloc (.cells #[.int .i64 c.qmin, .int .i64 c.qmax, .int .i64 c.reach, .int .i64 c.cut, .int .i64 c.gop, .int .i64 c.rate, .int .i64 c.room, .int .i64 c.fill] 23)).heap.size = w.heap.size + 1 := by simp
  rw [hs1] at R1
  have hk' : (k == 0) = false := by simpa using hk
  clear hk
  go_enter Tryd.func9, Tryd.ntmps9
  go_wp2_with fail
  refine (f.out _ (ha.ext (E1.alloc _))).mono ?_; rintro e w1 ⟨rfl, hx1⟩
  have EA : Ext w w1 := (E1.alloc _).trans hx1
  have RA := R1.ext hx1
  have hsz : w.heap.size + 1 < w1.heap.size := Ext.lt RA.1
  clear hx1 E1 R1 hs1
  go_wp2_with fail
  refine (ok_any k _ _).mono ?_; rintro e w2 ⟨rfl, hx2⟩
  rw [hk']
  have EX := ((Ext.refl w1).alloc (.cells #[.int .i64 k, .slice none 0 0] 35)).trans hx2
  have q0 := hx2.cell (p := ⟨w1.heap.size, 0, none⟩) (v := .int .i64 k) (by simp)
  have q1 := hx2.cell (p := ⟨w1.heap.size, 1, none⟩) (v := .slice none 0 0) (by simp)
  obtain ⟨r0, r1, f0, f1⟩ := RA.ext EX
  have EE : Ext w w2 := EA.trans EX
  clear hx2 EX EA RA
  go_wp2
  go_region
  go_wp2
  obtain ⟨e0, e1⟩ := res_cells (c := k) r0 r1 (.slice none 0 0)
  exact bodyPost_ret (v := .tuple #[.slice none 0 0, .agg #[.int .i64 k, .slice none 0 0]]) (by simp [results, Tryd.results9, go_sem, e0, e1]) rfl ⟨rfl, ((EE.setCell (p := ⟨w.heap.size + 1, 0, none⟩) (by simp) _).setCell (p := ⟨w.heap.size + 1, 1, none⟩) (by simp) _).drew⟩

set_option maxHeartbeats 2000000 in
set_option maxRecDepth 20000 in
theorem rFills_no (c : Cfg) (zs : List Int) (v : Value) (w : World) (k : Int) (hk : k ≠ 0) (ha : Ints w v zs)
    (f : Hid (∀ W, Ints W v zs → Calls Tryd.prog 26 #[.agg #[.int .i64 c.qmin, .int .i64 c.qmax, .int .i64 c.reach, .int .i64 c.cut, .int .i64 c.gop, .int .i64 c.rate, .int .i64 c.room, .int .i64 c.fill], v] W fun e w' => e = .returned (.agg #[.int .i64 k, .slice none 0 0]) ∧ Ext W w')) :
    Calls Tryd.prog 11 #[.agg #[.int .i64 c.qmin, .int .i64 c.qmax, .int .i64 c.reach, .int .i64 c.cut, .int .i64 c.gop, .int .i64 c.rate, .int .i64 c.room, .int .i64 c.fill], v] w fun e w' => e = .returned (.tuple #[.slice none 0 0, .agg #[.int .i64 k, .slice none 0 0]]) ∧ Ext w w' := by
  have E1 : Ext w (w.alloc (.cells #[.int .i64 c.qmin, .int .i64 c.qmax, .int .i64 c.reach, .int .i64 c.cut, .int .i64 c.gop, .int .i64 c.rate, .int .i64 c.room, .int .i64 c.fill] 23)) := (Ext.refl w).alloc _
  have R1 := ResAt.new (w.alloc (.cells #[.int .i64 c.qmin, .int .i64 c.qmax, .int .i64 c.reach, .int .i64 c.cut, .int .i64 c.gop, .int .i64 c.rate, .int .i64 c.room, .int .i64 c.fill] 23))
  have hs1 : (w.alloc (.cells #[.int .i64 c.qmin, .int .i64 c.qmax, .int .i64 c.reach, .int .i64 c.cut, .int .i64 c.gop, .int .i64 c.rate, .int .i64 c.room, .int .i64 c.fill] 23)).heap.size = w.heap.size + 1 := by simp
  rw [hs1] at R1
  have hk' : (k == 0) = false := by simpa using hk
  clear hk
  go_enter Tryd.func11, Tryd.ntmps11
  go_wp2_with fail
  refine (f.out _ (ha.ext (E1.alloc _))).mono ?_; rintro e w1 ⟨rfl, hx1⟩
  have EA : Ext w w1 := (E1.alloc _).trans hx1
  have RA := R1.ext hx1
  have hsz : w.heap.size + 1 < w1.heap.size := Ext.lt RA.1
  clear hx1 E1 R1 hs1
  go_wp2_with fail
  refine (ok_any k _ _).mono ?_; rintro e w2 ⟨rfl, hx2⟩
  rw [hk']
  have EX := ((Ext.refl w1).alloc (.cells #[.int .i64 k, .slice none 0 0] 35)).trans hx2
  have q0 := hx2.cell (p := ⟨w1.heap.size, 0, none⟩) (v := .int .i64 k) (by simp)
  have q1 := hx2.cell (p := ⟨w1.heap.size, 1, none⟩) (v := .slice none 0 0) (by simp)
  obtain ⟨r0, r1, f0, f1⟩ := RA.ext EX
  have EE : Ext w w2 := EA.trans EX
  clear hx2 EX EA RA
  go_wp2
  go_region
  go_wp2
  obtain ⟨e0, e1⟩ := res_cells (c := k) r0 r1 (.slice none 0 0)
  exact bodyPost_ret (v := .tuple #[.slice none 0 0, .agg #[.int .i64 k, .slice none 0 0]]) (by simp [results, Tryd.results11, go_sem, e0, e1]) rfl ⟨rfl, ((EE.setCell (p := ⟨w.heap.size + 1, 0, none⟩) (by simp) _).setCell (p := ⟨w.heap.size + 1, 1, none⟩) (by simp) _).drew⟩

/-- what the document's Play and Fills answer -/
def RAns (w : World) (ans : Option (List (ByteArray × Int) × Int)) (out : List Int) (e : Ending) (w' : World) : Prop :=
  ∃ u k r, e = .returned (.tuple #[u, .agg #[.int .i64 k, r]]) ∧ Ext w w' ∧ match ans with
    | none => Ints w' u out ∧ k = 0 ∧ r = .slice none 0 0
    | some (p, k') => u = .slice none 0 0 ∧ k = k' ∧ Row w' r p.length (stepCells p)

set_option maxHeartbeats 2000000 in
set_option maxRecDepth 20000 in
theorem rPlay_ok (c : Cfg) (zs : List Int) (v : Value) (w : World) (h : Good c) (ha : Ints w v zs) (hs : Sizes zs) (an : Option (List (ByteArray × Int) × Int)) (han : Hid (an = (playErr c.rate c.room c.fill zs 0).map fun p => ([(⟨#[118, 98, 118]⟩, (p.1 : Int))], p.2))) :
    Calls Tryd.prog 9 #[.agg #[.int .i64 c.qmin, .int .i64 c.qmax, .int .i64 c.reach, .int .i64 c.cut, .int .i64 c.gop, .int .i64 c.rate, .int .i64 c.room, .int .i64 c.fill], v] w (RAns w an (playOut c.rate c.fill zs)) := by
  have E1 : Ext w (w.alloc (.cells #[.int .i64 c.qmin, .int .i64 c.qmax, .int .i64 c.reach, .int .i64 c.cut, .int .i64 c.gop, .int .i64 c.rate, .int .i64 c.room, .int .i64 c.fill] 23)) := (Ext.refl w).alloc _
  have R1 := ResAt.new (w.alloc (.cells #[.int .i64 c.qmin, .int .i64 c.qmax, .int .i64 c.reach, .int .i64 c.cut, .int .i64 c.gop, .int .i64 c.rate, .int .i64 c.room, .int .i64 c.fill] 23))
  have hs1 : (w.alloc (.cells #[.int .i64 c.qmin, .int .i64 c.qmax, .int .i64 c.reach, .int .i64 c.cut, .int .i64 c.gop, .int .i64 c.rate, .int .i64 c.room, .int .i64 c.fill] 23)).heap.size = w.heap.size + 1 := by simp
  rw [hs1] at R1
  have f : Hid (∀ W, Ints W v zs → Calls Tryd.prog 26 #[.agg #[.int .i64 c.qmin, .int .i64 c.qmax, .int .i64 c.reach, .int .i64 c.cut, .int .i64 c.gop, .int .i64 c.rate, .int .i64 c.room, .int .i64 c.fill], v] W fun e w' => e = .returned (.agg #[.int .i64 0, .slice none 0 0]) ∧ Ext W w') := fun W hW => by
    have := asks_any c zs v W hW
    unfold askK at this
    rw [if_pos h, if_pos hs] at this
    exact this
  obtain ⟨_, _, _, _, _, _, _, _, _, g1, g2, g3, g4, g5⟩ := h
  obtain ⟨hl, hw⟩ := hs
  obtain ⟨a, cap, rfl⟩ := ha.form
  obtain ⟨n, hn⟩ : ∃ n, n = zs.length := ⟨_, rfl⟩
  rw [← hn] at ha hl f ⊢
  have AG := Lib.hid (Ints.hadv ha)
  have HN := Lib.hid hn
  have HW := Lib.hid hw
  clear hn hw
  go_enter Tryd.func9, Tryd.ntmps9
  go_wp2_with fail
  refine (f.out _ (ha.ext (E1.alloc _))).mono ?_; rintro e w1 ⟨rfl, hx1⟩
  have EA : Ext w w1 := (E1.alloc _).trans hx1
  have RA := R1.ext hx1
  have hsz1 : w.heap.size + 1 < w1.heap.size := Ext.lt RA.1
  have C1 := ((Ext.refl _).alloc (.cells #[.int .i64 0, .slice none 0 0] 35)).trans hx1
  have k5 := C1.cell (p := ⟨w.heap.size, 5, none⟩) (v := .int .i64 c.rate) (by simp)
  have k6 := C1.cell (p := ⟨w.heap.size, 6, none⟩) (v := .int .i64 c.room) (by simp)
  have k7 := C1.cell (p := ⟨w.heap.size, 7, none⟩) (v := .int .i64 c.fill) (by simp)
  clear hx1 E1 R1 hs1 C1 f
  go_wp2_with fail
  refine (ok_any 0 _ _).mono ?_; rintro e w2 ⟨rfl, hx2⟩
  rw [show ((0 : Int) == 0) = true from rfl]
  have EX := ((Ext.refl w1).alloc (.cells #[.int .i64 0, .slice none 0 0] 35)).trans hx2
  have q0 := hx2.cell (p := ⟨w1.heap.size, 0, none⟩) (v := .int .i64 0) (by simp)
  have q1 := hx2.cell (p := ⟨w1.heap.size, 1, none⟩) (v := .slice none 0 0) (by simp)
  have RB := RA.ext EX
  have j5 := EX.cell k5
  have j6 := EX.cell k6
  have j7 := EX.cell k7
  have EB : Ext w w2 := EA.trans EX
  have haw := ha.ext EB
  have hlt2 : w.heap.size + 1 < w2.heap.size := Ext.lt RB.1
  clear hx2 EX EA RA k5 k6 k7
  go_wp2
  go_loopw [7, 8, 9] (fun lv fv iv wr => ∃ (k : Nat) (ct : Int), k ≤ n ∧ iv = .int .i64 k ∧ fv = .int .i64 ct ∧ (0 ≤ ct ∧ ct ≤ 16384) ∧ Hid (ct = pc c.rate c.fill (zs.take k)) ∧ Hid (playErr c.rate c.room ct (zs.drop k) k = playErr c.rate c.room c.fill zs 0) ∧
      wr.ownsRow w2.heap.size 3 1 lv k ((playOut c.rate c.fill (zs.take k)).map (Value.int .i64)) ∧ Ext w2 wr) (fun _ _ iv _ => n - (intOf iv).toNat)
  case atStart => exact ⟨0, c.fill, Nat.zero_le _, rfl, rfl, by omega, rfl, by rfl, ⟨rfl, Or.inl ⟨rfl, rfl⟩⟩, Ext.refl _⟩
  case round =>
    obtain ⟨k, ct, hk, rfl, rfl, hct, HC, HF, hown, hE⟩ := hrel
    have hsz := hE.size
    have EE : Ext w wr := EB.trans hE
    have HXE := hE
    by_cases hlt : k < n
    · obtain ⟨s, hs⟩ : ∃ s, zs[k]? = some s := ⟨_, List.getElem?_eq_getElem (by rw [← HN.out]; exact hlt)⟩
      obtain ⟨s0, s1⟩ := HW.out.at hs
      obtain ⟨g, off, rfl⟩ := AG.out (by omega)
      have cs := hE.cell (haw.at hs)
      have m5 := hE.cell j5
      have m6 := hE.cell j6
      have HS := Lib.hid hs
      clear hs
      by_cases hov : ct < s
      · have HERR : Hid (playErr c.rate c.room c.fill zs 0 = some (k, 14)) := by
          have e := HF.out
          rw [drop_of_get HS.out, playErr, if_pos hov] at e
          exact e.symm
        have EE : Ext w w2 := EB
        go_wp2_with fail
        refine (wrap_any _ _ 14 _ (by decide)).mono ?_; rintro e w5 ⟨u5, rfl, hr5, hx5⟩
        obtain ⟨ga, gcap, rfl⟩ := (Row.of_owns hr5).form
        have E5 : Ext w w5 := EE.trans (HXE.trans hx5)
        obtain ⟨r0, r1, f0, f1⟩ := (RB.ext HXE).ext hx5
        have hl5 : w.heap.size + 1 < wr.heap.size := Nat.lt_of_lt_of_le hlt2 hE.size
        clear hown
        go_wp2
        obtain ⟨e0, e1⟩ := res_cells (c := 14) r0 r1 (.slice ga 1 gcap)
        refine bodyPost_ret (v := .tuple #[.slice none 0 0, .agg #[.int .i64 14, .slice ga 1 gcap]]) (by simp [results, Tryd.results9, go_sem, e0, e1]) rfl ⟨_, _, _, rfl, (E5.setCell (p := ⟨w.heap.size + 1, 0, none⟩) (by simp) _).setCell (p := ⟨w.heap.size + 1, 1, none⟩) (by simp) _, ?_⟩
        rw [han.out, HERR.out]
        exact ⟨rfl, rfl, Row.of_owns (ownsRow_setCell_below (ownsRow_setCell_below hr5 (a := ⟨w.heap.size + 1, 0, none⟩) hl5 _) (a := ⟨w.heap.size + 1, 1, none⟩) hl5 _)⟩
      · have u1 : IntKind.i64.wrap (ct - s) = ct - s := by rw [IntKind.wrap_i64]; omega
        have u2 : IntKind.i64.wrap (ct - s + c.rate) = ct - s + c.rate := by rw [IntKind.wrap_i64]; omega
        have HCN : Hid (ct - s + c.rate = pc c.rate c.fill (zs.take (k + 1))) := by show _ = _; rw [take_of_get HS.out, pc_snoc, ← HC.out]; omega
        by_cases hrm : c.room < ct - s + c.rate
        · have HERR : Hid (playErr c.rate c.room c.fill zs 0 = some (k, 5)) := by
            have e := HF.out
            rw [drop_of_get HS.out, playErr, if_neg hov, if_pos (by omega)] at e
            exact e.symm
          have EE : Ext w w2 := EB
          go_wp2
          go_quiet (fail)
          go_wp2_with fail
          refine (wrap_any _ _ 5 _ (by decide)).mono ?_; rintro e w5 ⟨u5, rfl, hr5, hx5⟩
          obtain ⟨ga, gcap, rfl⟩ := (Row.of_owns hr5).form
          have E5 : Ext w w5 := EE.trans ((HXE.drewN _).trans hx5)
          obtain ⟨r0, r1, f0, f1⟩ := (RB.ext (HXE.drewN _)).ext hx5
          have hl5 : w.heap.size + 1 < wr.heap.size := Nat.lt_of_lt_of_le hlt2 hE.size
          clear hown
          go_wp2
          obtain ⟨e0, e1⟩ := res_cells (c := 5) r0 r1 (.slice ga 1 gcap)
          refine bodyPost_ret (v := .tuple #[.slice none 0 0, .agg #[.int .i64 5, .slice ga 1 gcap]]) (by simp [results, Tryd.results9, go_sem, e0, e1]) rfl ⟨_, _, _, rfl, (E5.setCell (p := ⟨w.heap.size + 1, 0, none⟩) (by simp) _).setCell (p := ⟨w.heap.size + 1, 1, none⟩) (by simp) _, ?_⟩
          rw [han.out, HERR.out]
          exact ⟨rfl, rfl, Row.of_owns (ownsRow_setCell_below (ownsRow_setCell_below hr5 (a := ⟨w.heap.size + 1, 0, none⟩) hl5 _) (a := ⟨w.heap.size + 1, 1, none⟩) hl5 _)⟩
        · have HFN : Hid (playErr c.rate c.room (ct - s + c.rate) (zs.drop (k + 1)) (k + 1) = playErr c.rate c.room c.fill zs 0) := by
            have e := HF.out
            rw [drop_of_get HS.out, playErr, if_neg hov, if_neg (by omega), show ct + (c.rate - s) = ct - s + c.rate by omega] at e
            exact e
          have HNX := Lib.hid (show ∀ v' (w3 : World), w3.ownsRow w2.heap.size 3 1 v' (k + 1) ((playOut c.rate c.fill (zs.take k)).map (Value.int .i64) ++ [.int .i64 (ct - s + c.rate)]) →
              w3.ownsRow w2.heap.size 3 1 v' (k + 1) ((playOut c.rate c.fill (zs.take (k + 1))).map (Value.int .i64)) from fun v' w3 h3 => by
            rw [take_of_get HS.out, playOut_snoc, List.map_append, ← HC.out, show ct + (c.rate - s) = ct - s + c.rate by omega]
            exact h3)
          go_wp2
          go_quiet (fail)
          go_wp2_with (at_builtin; refine push_int rfl _ _ 24 rfl Tryd.underlying24 _ k _ _ rfl (own_extv hown ((Ext.refl _).drewN _)) rfl (by simpa using hsz) (by omega) ?_; intro v' w3 h1 h2)
          have h3 := HNX.out _ _ h1
          have hE3 : Ext w2 w3 := (hE.drewN _).of_below h2 (Nat.le_refl _)
          clear h1 h2 hown hE
          go_wp2
          go_roundw
          case rel => exact ⟨k + 1, _, by omega, by go_num, rfl, by omega, HCN, HFN, h3, hE3⟩
          case measure => simp [intOf]; omega
    · have hkn : n = k := by omega
      have hd : zs.drop k = [] := List.drop_eq_nil_of_le (by rw [← hkn, HN.out]; exact Nat.le_refl _)
      have ht : zs.take k = zs := List.take_of_length_le (by rw [← hkn, HN.out]; exact Nat.le_refl _)
      have HEN : Hid (an = none) := by
        show _ = _
        have e := HF.out
        rw [hd] at e
        rw [han.out, ← e]
        rfl
      rw [ht] at hown
      have hlo : (playOut c.rate c.fill zs).length = k := by rw [playOut_length, ← HN.out, hkn]
      obtain ⟨r0, r1, f0, f1⟩ := RB.ext hE
      have p0 := hE.cell q0
      have p1 := hE.cell q1
      have ho2 := own_extv (ownsRow_setCell_below (ownsRow_setCell_below hown (a := ⟨w.heap.size + 1, 0, none⟩) hlt2 (.int .i64 0)) (a := ⟨w.heap.size + 1, 1, none⟩) hlt2 (.slice none 0 0)) ((Ext.refl _).drew)
      have EF := ((EE.setCell (p := ⟨w.heap.size + 1, 0, none⟩) (by simp) (.int .i64 0)).setCell (p := ⟨w.heap.size + 1, 1, none⟩) (by simp) (.slice none 0 0)).drew
      clear hd ht
      go_wp2
      go_region
      go_wp2
      obtain ⟨e0, e1⟩ := res_cells (c := 0) r0 r1 (.slice none 0 0)
      refine bodyPost_ret (v := .tuple #[u7, .agg #[.int .i64 0, .slice none 0 0]]) (by simp [results, Tryd.results9, go_sem, e0, e1]) rfl ⟨_, _, _, rfl, EF, ?_⟩
      rw [HEN.out]
      exact ⟨Ints.of_owns ho2 (by omega), rfl, rfl⟩

set_option maxHeartbeats 2000000 in
set_option maxRecDepth 20000 in
theorem rFills_ok (c : Cfg) (zs : List Int) (v : Value) (w : World) (h : Good c) (ha : Ints w v zs) (hs : Sizes zs) (an : Option (List (ByteArray × Int) × Int)) (han : Hid (an = (fillErr c.rate c.room c.fill zs 0).map fun p => ([(⟨#[118, 98, 118]⟩, (p.1 : Int))], p.2))) :
    Calls Tryd.prog 11 #[.agg #[.int .i64 c.qmin, .int .i64 c.qmax, .int .i64 c.reach, .int .i64 c.cut, .int .i64 c.gop, .int .i64 c.rate, .int .i64 c.room, .int .i64 c.fill], v] w (RAns w an (fillOut c.rate c.room c.fill zs)) := by
  have E1 : Ext w (w.alloc (.cells #[.int .i64 c.qmin, .int .i64 c.qmax, .int .i64 c.reach, .int .i64 c.cut, .int .i64 c.gop, .int .i64 c.rate, .int .i64 c.room, .int .i64 c.fill] 23)) := (Ext.refl w).alloc _
  have R1 := ResAt.new (w.alloc (.cells #[.int .i64 c.qmin, .int .i64 c.qmax, .int .i64 c.reach, .int .i64 c.cut, .int .i64 c.gop, .int .i64 c.rate, .int .i64 c.room, .int .i64 c.fill] 23))
  have hs1 : (w.alloc (.cells #[.int .i64 c.qmin, .int .i64 c.qmax, .int .i64 c.reach, .int .i64 c.cut, .int .i64 c.gop, .int .i64 c.rate, .int .i64 c.room, .int .i64 c.fill] 23)).heap.size = w.heap.size + 1 := by simp
  rw [hs1] at R1
  have f : Hid (∀ W, Ints W v zs → Calls Tryd.prog 26 #[.agg #[.int .i64 c.qmin, .int .i64 c.qmax, .int .i64 c.reach, .int .i64 c.cut, .int .i64 c.gop, .int .i64 c.rate, .int .i64 c.room, .int .i64 c.fill], v] W fun e w' => e = .returned (.agg #[.int .i64 0, .slice none 0 0]) ∧ Ext W w') := fun W hW => by
    have := asks_any c zs v W hW
    unfold askK at this
    rw [if_pos h, if_pos hs] at this
    exact this
  obtain ⟨_, _, _, _, _, _, _, _, _, g1, g2, g3, g4, g5⟩ := h
  obtain ⟨hl, hw⟩ := hs
  obtain ⟨a, cap, rfl⟩ := ha.form
  obtain ⟨n, hn⟩ : ∃ n, n = zs.length := ⟨_, rfl⟩
  rw [← hn] at ha hl f ⊢
  have AG := Lib.hid (Ints.hadv ha)
  have HN := Lib.hid hn
  have HW := Lib.hid hw
  clear hn hw
  go_enter Tryd.func11, Tryd.ntmps11
  go_wp2_with fail
  refine (f.out _ (ha.ext (E1.alloc _))).mono ?_; rintro e w1 ⟨rfl, hx1⟩
  have EA : Ext w w1 := (E1.alloc _).trans hx1
  have RA := R1.ext hx1
  have hsz1 : w.heap.size + 1 < w1.heap.size := Ext.lt RA.1
  have C1 := ((Ext.refl _).alloc (.cells #[.int .i64 0, .slice none 0 0] 35)).trans hx1
  have k5 := C1.cell (p := ⟨w.heap.size, 5, none⟩) (v := .int .i64 c.rate) (by simp)
  have k6 := C1.cell (p := ⟨w.heap.size, 6, none⟩) (v := .int .i64 c.room) (by simp)
  have k7 := C1.cell (p := ⟨w.heap.size, 7, none⟩) (v := .int .i64 c.fill) (by simp)
  clear hx1 E1 R1 hs1 C1 f
  go_wp2_with fail
  refine (ok_any 0 _ _).mono ?_; rintro e w2 ⟨rfl, hx2⟩
  rw [show ((0 : Int) == 0) = true from rfl]
  have EX := ((Ext.refl w1).alloc (.cells #[.int .i64 0, .slice none 0 0] 35)).trans hx2
  have q0 := hx2.cell (p := ⟨w1.heap.size, 0, none⟩) (v := .int .i64 0) (by simp)
  have q1 := hx2.cell (p := ⟨w1.heap.size, 1, none⟩) (v := .slice none 0 0) (by simp)
  have RB := RA.ext EX
  have j5 := EX.cell k5
  have j6 := EX.cell k6
  have j7 := EX.cell k7
  have EB : Ext w w2 := EA.trans EX
  have haw := ha.ext EB
  have hlt2 : w.heap.size + 1 < w2.heap.size := Ext.lt RB.1
  clear hx2 EX EA RA k5 k6 k7
  go_wp2
  go_loopw [7, 8, 9] (fun lv fv iv wr => ∃ (k : Nat) (ct : Int), k ≤ n ∧ iv = .int .i64 k ∧ fv = .int .i64 ct ∧ (0 ≤ ct ∧ ct ≤ 16384) ∧ Hid (ct = fc c.rate c.room c.fill (zs.take k)) ∧ Hid (fillErr c.rate c.room ct (zs.drop k) k = fillErr c.rate c.room c.fill zs 0) ∧
      wr.ownsRow w2.heap.size 3 1 lv k ((fillOut c.rate c.room c.fill (zs.take k)).map (Value.int .i64)) ∧ Ext w2 wr) (fun _ _ iv _ => n - (intOf iv).toNat)
  case atStart => exact ⟨0, c.fill, Nat.zero_le _, rfl, rfl, by omega, rfl, by rfl, ⟨rfl, Or.inl ⟨rfl, rfl⟩⟩, Ext.refl _⟩
  case round =>
    obtain ⟨k, ct, hk, rfl, rfl, hct, HC, HF, hown, hE⟩ := hrel
    have hsz := hE.size
    have EE : Ext w wr := EB.trans hE
    have HXE := hE
    by_cases hlt : k < n
    · obtain ⟨s, hs⟩ : ∃ s, zs[k]? = some s := ⟨_, List.getElem?_eq_getElem (by rw [← HN.out]; exact hlt)⟩
      obtain ⟨s0, s1⟩ := HW.out.at hs
      obtain ⟨g, off, rfl⟩ := AG.out (by omega)
      have cs := hE.cell (haw.at hs)
      have m5 := hE.cell j5
      have m6 := hE.cell j6
      have HS := Lib.hid hs
      clear hs
      by_cases hov : ct < s
      · have HERR : Hid (fillErr c.rate c.room c.fill zs 0 = some (k, 14)) := by
          have e := HF.out
          rw [drop_of_get HS.out, fillErr, if_pos hov] at e
          exact e.symm
        have EE : Ext w w2 := EB
        go_wp2_with fail
        refine (wrap_any _ _ 14 _ (by decide)).mono ?_; rintro e w5 ⟨u5, rfl, hr5, hx5⟩
        obtain ⟨ga, gcap, rfl⟩ := (Row.of_owns hr5).form
        have E5 : Ext w w5 := EE.trans (HXE.trans hx5)
        obtain ⟨r0, r1, f0, f1⟩ := (RB.ext HXE).ext hx5
        have hl5 : w.heap.size + 1 < wr.heap.size := Nat.lt_of_lt_of_le hlt2 hE.size
        clear hown
        go_wp2
        obtain ⟨e0, e1⟩ := res_cells (c := 14) r0 r1 (.slice ga 1 gcap)
        refine bodyPost_ret (v := .tuple #[.slice none 0 0, .agg #[.int .i64 14, .slice ga 1 gcap]]) (by simp [results, Tryd.results11, go_sem, e0, e1]) rfl ⟨_, _, _, rfl, (E5.setCell (p := ⟨w.heap.size + 1, 0, none⟩) (by simp) _).setCell (p := ⟨w.heap.size + 1, 1, none⟩) (by simp) _, ?_⟩
        rw [han.out, HERR.out]
        exact ⟨rfl, rfl, Row.of_owns (ownsRow_setCell_below (ownsRow_setCell_below hr5 (a := ⟨w.heap.size + 1, 0, none⟩) hl5 _) (a := ⟨w.heap.size + 1, 1, none⟩) hl5 _)⟩
      · by_cases hfl : ct - s + c.rate - c.room < 0
        · skip
          have HOV : Hid (max 0 (ct + (c.rate - s) - c.room) = 0) := by show _ = _; omega
          have HCN : Hid (ct - s + c.rate = fc c.rate c.room c.fill (zs.take (k + 1))) := by show _ = _; rw [take_of_get HS.out, fc_snoc, ← HC.out]; unfold nf; omega
          have HFN : Hid (fillErr c.rate c.room (ct - s + c.rate) (zs.drop (k + 1)) (k + 1) = fillErr c.rate c.room c.fill zs 0) := by
            have e := HF.out
            rw [drop_of_get HS.out, fillErr, if_neg hov, show nf c.rate c.room ct s = ct - s + c.rate by unfold nf; omega] at e
            exact e
          have HNX := Lib.hid (show ∀ v' (w3 : World), w3.ownsRow w2.heap.size 3 1 v' (k + 1) ((fillOut c.rate c.room c.fill (zs.take k)).map (Value.int .i64) ++ [.int .i64 (0)]) →
              w3.ownsRow w2.heap.size 3 1 v' (k + 1) ((fillOut c.rate c.room c.fill (zs.take (k + 1))).map (Value.int .i64)) from fun v' w3 h3 => by
            rw [take_of_get HS.out, fillOut_snoc, List.map_append, ← HC.out, HOV.out]
            exact h3)
          have u1 : IntKind.i64.wrap (ct - s) = ct - s := by rw [IntKind.wrap_i64]; omega
          have u2 : IntKind.i64.wrap (ct - s + c.rate) = ct - s + c.rate := by rw [IntKind.wrap_i64]; omega
          have u3 : IntKind.i64.wrap (ct - s + c.rate - c.room) = ct - s + c.rate - c.room := by rw [IntKind.wrap_i64]; omega
          have u4 : IntKind.i64.wrap (ct - s - (0)) = ct - s - (0) := by rw [IntKind.wrap_i64]; omega
          have u5 : IntKind.i64.wrap (ct - s - (0) + c.rate) = ct - s - (0) + c.rate := by rw [IntKind.wrap_i64]; omega
          have hmx : ∀ ts ty W, (Builtin.max_ ts ty #[.int .i64 (ct - s + c.rate - c.room), .int .i64 0]).run Tryd.prog W = .ok (.int .i64 (0)) W := fun ts ty W => by
            have e : (if (0 : Int) > ct - s + c.rate - c.room then (0 : Int) else ct - s + c.rate - c.room) = 0 := by split <;> omega
            simp [Builtin.max_, Builtin.max2] at e ⊢
            exact e
          go_wp2
          go_quiet (fail)
          go_wp2_with (at_builtin; refine push_int rfl _ _ 24 rfl Tryd.underlying24 _ k _ _ rfl (own_extv hown ((Ext.refl _).drewN _)) rfl (by simpa using hsz) (by omega) ?_; intro v' w3 h1 h2)
          have h3 := HNX.out _ _ h1
          have hE3 : Ext w2 w3 := (hE.drewN _).of_below h2 (Nat.le_refl _)
          have n5 := hE3.cell j5
          have ns := hE3.cell (haw.at HS.out)
          clear h1 h2 hown hE
          go_wp2
          go_quiet (fail)
          go_wp2
          go_roundw
          case rel => exact ⟨k + 1, _, by omega, by go_num, rfl, by omega, HCN, HFN, own_extv h3 ((Ext.refl _).drewN _), hE3.drewN _⟩
          case measure => simp [intOf]; omega
        · skip
          have HOV : Hid (max 0 (ct + (c.rate - s) - c.room) = ct - s + c.rate - c.room) := by show _ = _; omega
          have HCN : Hid (ct - s - (ct - s + c.rate - c.room) + c.rate = fc c.rate c.room c.fill (zs.take (k + 1))) := by show _ = _; rw [take_of_get HS.out, fc_snoc, ← HC.out]; unfold nf; omega
          have HFN : Hid (fillErr c.rate c.room (ct - s - (ct - s + c.rate - c.room) + c.rate) (zs.drop (k + 1)) (k + 1) = fillErr c.rate c.room c.fill zs 0) := by
            have e := HF.out
            rw [drop_of_get HS.out, fillErr, if_neg hov, show nf c.rate c.room ct s = ct - s - (ct - s + c.rate - c.room) + c.rate by unfold nf; omega] at e
            exact e
          have HNX := Lib.hid (show ∀ v' (w3 : World), w3.ownsRow w2.heap.size 3 1 v' (k + 1) ((fillOut c.rate c.room c.fill (zs.take k)).map (Value.int .i64) ++ [.int .i64 (ct - s + c.rate - c.room)]) →
              w3.ownsRow w2.heap.size 3 1 v' (k + 1) ((fillOut c.rate c.room c.fill (zs.take (k + 1))).map (Value.int .i64)) from fun v' w3 h3 => by
            rw [take_of_get HS.out, fillOut_snoc, List.map_append, ← HC.out, HOV.out]
            exact h3)
          have u1 : IntKind.i64.wrap (ct - s) = ct - s := by rw [IntKind.wrap_i64]; omega
          have u2 : IntKind.i64.wrap (ct - s + c.rate) = ct - s + c.rate := by rw [IntKind.wrap_i64]; omega
          have u3 : IntKind.i64.wrap (ct - s + c.rate - c.room) = ct - s + c.rate - c.room := by rw [IntKind.wrap_i64]; omega
          have u4 : IntKind.i64.wrap (ct - s - (ct - s + c.rate - c.room)) = ct - s - (ct - s + c.rate - c.room) := by rw [IntKind.wrap_i64]; omega
          have u5 : IntKind.i64.wrap (ct - s - (ct - s + c.rate - c.room) + c.rate) = ct - s - (ct - s + c.rate - c.room) + c.rate := by rw [IntKind.wrap_i64]; omega
          have hmx : ∀ ts ty W, (Builtin.max_ ts ty #[.int .i64 (ct - s + c.rate - c.room), .int .i64 0]).run Tryd.prog W = .ok (.int .i64 (ct - s + c.rate - c.room)) W := fun ts ty W => by
            have e : (if (0 : Int) > ct - s + c.rate - c.room then (0 : Int) else ct - s + c.rate - c.room) = ct - s + c.rate - c.room := by split <;> omega
            simp [Builtin.max_, Builtin.max2] at e ⊢
            exact e
          go_wp2
          go_quiet (fail)
          go_wp2_with (at_builtin; refine push_int rfl _ _ 24 rfl Tryd.underlying24 _ k _ _ rfl (own_extv hown ((Ext.refl _).drewN _)) rfl (by simpa using hsz) (by omega) ?_; intro v' w3 h1 h2)
          have h3 := HNX.out _ _ h1
          have hE3 : Ext w2 w3 := (hE.drewN _).of_below h2 (Nat.le_refl _)
          have n5 := hE3.cell j5
          have ns := hE3.cell (haw.at HS.out)
          clear h1 h2 hown hE
          go_wp2
          go_quiet (fail)
          go_wp2
          go_roundw
          case rel => exact ⟨k + 1, _, by omega, by go_num, rfl, by omega, HCN, HFN, own_extv h3 ((Ext.refl _).drewN _), hE3.drewN _⟩
          case measure => simp [intOf]; omega
    · have hkn : n = k := by omega
      have hd : zs.drop k = [] := List.drop_eq_nil_of_le (by rw [← hkn, HN.out]; exact Nat.le_refl _)
      have ht : zs.take k = zs := List.take_of_length_le (by rw [← hkn, HN.out]; exact Nat.le_refl _)
      have HEN : Hid (an = none) := by
        show _ = _
        have e := HF.out
        rw [hd] at e
        rw [han.out, ← e]
        rfl
      rw [ht] at hown
      have hlo : (fillOut c.rate c.room c.fill zs).length = k := by rw [fillOut_length, ← HN.out, hkn]
      obtain ⟨r0, r1, f0, f1⟩ := RB.ext hE
      have p0 := hE.cell q0
      have p1 := hE.cell q1
      have ho2 := own_extv (ownsRow_setCell_below (ownsRow_setCell_below hown (a := ⟨w.heap.size + 1, 0, none⟩) hlt2 (.int .i64 0)) (a := ⟨w.heap.size + 1, 1, none⟩) hlt2 (.slice none 0 0)) ((Ext.refl _).drew)
      have EF := ((EE.setCell (p := ⟨w.heap.size + 1, 0, none⟩) (by simp) (.int .i64 0)).setCell (p := ⟨w.heap.size + 1, 1, none⟩) (by simp) (.slice none 0 0)).drew
      clear hd ht
      go_wp2
      go_region
      go_wp2
      obtain ⟨e0, e1⟩ := res_cells (c := 0) r0 r1 (.slice none 0 0)
      refine bodyPost_ret (v := .tuple #[u7, .agg #[.int .i64 0, .slice none 0 0]]) (by simp [results, Tryd.results11, go_sem, e0, e1]) rfl ⟨_, _, _, rfl, EF, ?_⟩
      rw [HEN.out]
      exact ⟨Ints.of_owns ho2 (by omega), rfl, rfl⟩
end Go.Proofs.YtckhilnjkckabaaDoor
