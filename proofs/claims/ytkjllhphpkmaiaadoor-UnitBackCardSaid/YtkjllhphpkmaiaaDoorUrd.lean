/- unit.read: its contract over this seat's translation. -/
import Derived.Test.YtkjllhphpkmaiaaDoorUmk
import Derived.Test.YtkjllhphpkmaiaaDoorRes
import Derived.Test.YtkjllhphpkmaiaaDoorAppRow
import Derived.BigQuiet
import Derived.Deep.QuietTactic
namespace Go.Proofs.YtkjllhphpkmaiaaDoor
set_option linter.unusedVariables false
set_option linter.unusedSimpArgs false
open Go.RowKit Go.Extern.Stop Go.Stop Go.Extern

theorem or_u32 {v p t : Nat} (hp : p < 2 ^ t) (hb : v * 2 ^ t + p < 4294967296) : bits .or .u32 ((v * 2 ^ t : Nat) : Int) (p : Int) = ((v * 2 ^ t + p : Nat) : Int) := by
  have e : (BitVec.ofInt 32 ((v * 2 ^ t : Nat) : Int) ||| BitVec.ofInt 32 (p : Int)).toNat = v * 2 ^ t + p := by
    rw [ofInt32_nat, ofInt32_nat, BitVec.toNat_or, BitVec.toNat_ofNat, BitVec.toNat_ofNat, Nat.mod_eq_of_lt (by omega), Nat.mod_eq_of_lt (by omega), Nat.mul_comm, Nat.two_pow_add_eq_or_of_lt hp]
  show IntKind.u32.wrap (((BitVec.ofInt 32 ((v * 2 ^ t : Nat) : Int) ||| BitVec.ofInt 32 (p : Int)).toNat : Nat) : Int) = _
  rw [e, IntKind.wrap_u32]
  omega
/-- the length that a unit tells; what is read as a unit: a code, its kind, its data, its end -/
def lnB (c : List Nat) : Nat := (c.getD 1 0 * 256 + c.getD 2 0) * 256 + c.getD 3 0
def smB (c : List Nat) (e : Nat) : Nat := ((c.getD e 0 * 256 + c.getD (e + 1) 0) * 256 + c.getD (e + 2) 0) * 256 + c.getD (e + 3) 0
def rdU (c : List Nat) : Int × Nat × List Nat × Nat :=
  if c.getD 0 0 = 0 then (0, 0, [], 1)
  else if c.length < 4 then (1, 0, [], 0)
  else if 65536 < lnB c then (5, 0, [], 0)
  else if c.length < lnB c + 8 then (1, 0, [], 0)
  else if smB c (4 + lnB c) ≠ crc (c.take (4 + lnB c)) then (4, 0, [], 0)
  else (0, c.getD 0 0, (c.drop 4).take (lnB c), lnB c + 8)
theorem ucells {w : World} {R : Nat} {x0 x1 x2 x3 : Value} (h0 : w.cell? ⟨R, 0, none⟩ = some x0) (h1 : w.cell? ⟨R, 1, none⟩ = some x1) (h2 : w.cell? ⟨R, 2, none⟩ = some x2) (h3 : w.cell? ⟨R, 3, none⟩ = some x3) (a b c d : Value) :
    ((((w.setCell ⟨R, 0, none⟩ a).setCell ⟨R, 1, none⟩ b).setCell ⟨R, 2, none⟩ c).setCell ⟨R, 3, none⟩ d).cell? ⟨R, 0, none⟩ = some a ∧ ((((w.setCell ⟨R, 0, none⟩ a).setCell ⟨R, 1, none⟩ b).setCell ⟨R, 2, none⟩ c).setCell ⟨R, 3, none⟩ d).cell? ⟨R, 1, none⟩ = some b ∧ ((((w.setCell ⟨R, 0, none⟩ a).setCell ⟨R, 1, none⟩ b).setCell ⟨R, 2, none⟩ c).setCell ⟨R, 3, none⟩ d).cell? ⟨R, 2, none⟩ = some c ∧ ((((w.setCell ⟨R, 0, none⟩ a).setCell ⟨R, 1, none⟩ b).setCell ⟨R, 2, none⟩ c).setCell ⟨R, 3, none⟩ d).cell? ⟨R, 3, none⟩ = some d := by
  have o : ∀ (w : World) (i j : Nat) (u : Value), i ≠ j → (w.setCell ⟨R, i, none⟩ u).cell? ⟨R, j, none⟩ = w.cell? ⟨R, j, none⟩ := fun w i j u h => cell_off_ne u h
  have s : ∀ (w : World) (i : Nat) (u x : Value), w.cell? ⟨R, i, none⟩ = some x → (w.setCell ⟨R, i, none⟩ u).cell? ⟨R, i, none⟩ = some u := fun w i u x h => World.cell?_setCell_same _ _ _ h
  refine ⟨?_, ?_, ?_, ?_⟩
  · rw [o _ 3 0 _ (by decide), o _ 2 0 _ (by decide), o _ 1 0 _ (by decide)]; exact s _ _ _ _ h0
  · rw [o _ 3 1 _ (by decide), o _ 2 1 _ (by decide)]; exact s _ _ _ x1 (by rw [o _ 0 1 _ (by decide)]; exact h1)
  · rw [o _ 3 2 _ (by decide)]; exact s _ _ _ x2 (by rw [o _ 1 2 _ (by decide), o _ 0 2 _ (by decide)]; exact h2)
  · exact s _ _ _ x3 (by rw [o _ 2 3 _ (by decide), o _ 1 3 _ (by decide), o _ 0 3 _ (by decide)]; exact h3)
/-- a unit in four cells that may be written -/
def UBox (w : World) (R : Nat) (k : Int) (u : Value) (a e : Int) : Prop := (w.cell? ⟨R, 0, none⟩ = some (.int .i64 k) ∧ w.cell? ⟨R, 1, none⟩ = some u ∧ w.cell? ⟨R, 2, none⟩ = some (.int .i64 a) ∧ w.cell? ⟨R, 3, none⟩ = some (.int .i64 e)) ∧ w.frozen? ⟨R, 0, none⟩ = false ∧ w.frozen? ⟨R, 1, none⟩ = false ∧ w.frozen? ⟨R, 2, none⟩ = false ∧ w.frozen? ⟨R, 3, none⟩ = false
theorem UBox.ext {w w' : World} {R : Nat} {k a e : Int} {u : Value} (h : UBox w R k u a e) (x : Ext w w') : UBox w' R k u a e :=
  ⟨⟨x.cell h.1.1, x.cell h.1.2.1, x.cell h.1.2.2.1, x.cell h.1.2.2.2⟩, (Below.frozen (p := ⟨R, 0, none⟩) x (Ext.lt h.1.1)).trans h.2.1, (Below.frozen (p := ⟨R, 1, none⟩) x (Ext.lt h.1.2.1)).trans h.2.2.1, (Below.frozen (p := ⟨R, 2, none⟩) x (Ext.lt h.1.2.2.1)).trans h.2.2.2.1, (Below.frozen (p := ⟨R, 3, none⟩) x (Ext.lt h.1.2.2.2)).trans h.2.2.2.2⟩
theorem UBox.new (w : World) (k : Int) (u : Value) (a e : Int) (T : TypeId) : UBox (w.alloc (.cells #[.int .i64 k, u, .int .i64 a, .int .i64 e] T)) w.heap.size k u a e := ⟨⟨by simp, by simp, by simp, by simp⟩, by simp, by simp, by simp, by simp⟩
def RdPost (w : World) (R : Int × Nat × List Nat × Nat) (e : Ending) (w' : World) : Prop := ∃ u, e = .returned (.tuple #[.agg #[.int .i64 (R.2.1 : Int), u, .int .i64 0, .int .i64 (R.2.2.2 : Int)], .int .i64 R.1]) ∧ w'.ownsRow (w.heap.size + 1) 5 1 u R.2.2.1.length (byC R.2.2.1) ∧ Ext w w'
theorem own_cell_lt {w : World} {base : Nat} {e : TypeId} {size : Nat} {v : Value} {n : Nat} {xs : List Value} (h : w.ownsRow base e size v n xs) {p : Addr} (u : Value) (hp : p.block < base) : (w.setCell p u).ownsRow base e size v n xs := ownsRow_setCell_below h hp u
theorem own_slc {w : World} {base n : Nat} {v : Value} {e : TypeId} {s : Nat} {xs : List Value} (h : w.ownsRow base e s v n xs) : ∃ a m c, v = .slice a m c := by
  rcases h.2 with ⟨rfl, -⟩ | ⟨g, cap, cur, rfl, -⟩
  · exact ⟨_, _, _, rfl⟩
  · exact ⟨_, _, _, rfl⟩
theorem fin_own {w : World} {B R : Nat} {v : Value} {e : TypeId} {s n : Nat} {xs : List Value} (h : w.ownsRow B e s v n xs) (hb : R + 1 ≤ B) (a b c d : Value) : ((((w.setCell ⟨R, 0, none⟩ a).setCell ⟨R, 1, none⟩ b).setCell ⟨R, 2, none⟩ c).setCell ⟨R, 3, none⟩ d).ownsRow (R + 1) e s v n xs :=
  own_cell_lt (own_cell_lt (own_cell_lt (own_cell_lt (owns_base h hb) _ (Nat.lt_succ_self R)) _ (Nat.lt_succ_self R)) _ (Nat.lt_succ_self R)) _ (Nat.lt_succ_self R)
set_option maxHeartbeats 8000000 in
set_option maxRecDepth 20000 in
theorem read_any (bs : List Nat) (g off n cap : Nat) (w : World) (hnb : NbIs w) (h : Bys w (.slice (some ⟨g, off, none⟩) n cap) bs) (hn0 : 0 < n) : Calls Tryd.prog 34 #[.slice (some ⟨g, off, none⟩) n cap] w (RdPost w (rdU bs)) := by
  have hn := h.len
  have HN := Lib.hid hn
  have hl := h.2.2
  have hcp := h.caps
  rw [← hn] at hl
  have HNB := Lib.hid hnb
  have hlt := h.lt
  have A1 : Ext w (w.alloc (.cells #[.int .i64 0, .slice none 0 0, .int .i64 0, .int .i64 0] 44)) := (Ext.refl w).alloc _
  have HE1 := Lib.hid A1
  have HU1 := Lib.hid (UBox.new w 0 (.slice none 0 0) 0 0 44)
  obtain ⟨b0, hb0⟩ : ∃ b0, bs.getD 0 0 = b0 := ⟨_, rfl⟩
  have c0 := (h.ext A1).at (nget_of_lt (bs := bs) (j := 0) (by omega))
  rw [Nat.add_zero] at c0
  have l0 := hlt 0
  rw [hb0] at c0 l0
  have m0 : IntKind.i64.wrap (b0 : Int) = (b0 : Int) := by rw [IntKind.wrap_i64]; omega
  have x0 : (0 : Int) < (n : Int) := by omega
  by_cases hz : b0 = 0
  · subst hz
    have HR : Hid (rdU bs = (0, 0, [], 1)) := by show _ = _; unfold rdU; rw [if_pos hb0]
    have HE9 := Lib.hid ((Ext.refl w).alloc (.cells #[.int .i64 0, .slice none 0 0, .int .i64 0, .int .i64 1] 44))
    clear h hn hnb hlt A1 hb0
    go_enter Tryd.func34, Tryd.ntmps34
    go_wp2
    exact bodyPost_ret (v := .tuple #[.agg #[.int .i64 0, .slice none 0 0, .int .i64 0, .int .i64 1], .int .i64 0]) (by simp [results, Tryd.results34, go_sem]) rfl ⟨.slice none 0 0, by rw [HR.out]; rfl, by rw [HR.out]; exact World.ownsRow_nil _ _ _ _, HE9.out⟩
  · have z0 : ((b0 : Int) == 0) = false := by rw [beq_eq_false_iff_ne]; omega
    by_cases h4 : n < 4
    · have HR : Hid (rdU bs = (1, 0, [], 0)) := by show _ = _; unfold rdU; rw [if_neg (by omega), if_pos (by omega)]
      have h4' : (n : Int) < 4 := by omega
      clear h hn hnb hlt A1 hb0
      go_enter Tryd.func34, Tryd.ntmps34
      go_wp2
      exact bodyPost_ret (v := .tuple #[.agg #[.int .i64 0, .slice none 0 0, .int .i64 0, .int .i64 0], .int .i64 1]) (by simp [results, Tryd.results34, go_sem]) rfl ⟨.slice none 0 0, by rw [HR.out]; rfl, by rw [HR.out]; exact World.ownsRow_nil _ _ _ _, HE1.out⟩
    · have h4' : ¬ (n : Int) < 4 := by omega
      have hR0 : rdU bs = if 65536 < lnB bs then (5, 0, [], 0) else if n < lnB bs + 8 then (1, 0, [], 0) else if smB bs (4 + lnB bs) ≠ crc (bs.take (4 + lnB bs)) then (4, 0, [], 0) else (0, b0, (bs.drop 4).take (lnB bs), lnB bs + 8) := by
        unfold rdU
        rw [if_neg (by omega), if_neg (by omega), hb0, ← hn]
      obtain ⟨b1, hb1⟩ : ∃ b1, bs.getD 1 0 = b1 := ⟨_, rfl⟩
      have c1 := (h.ext A1).at (nget_of_lt (bs := bs) (j := 1) (by omega))
      have l1 := hlt 1
      rw [hb1] at c1 l1
      have m1 : IntKind.i64.wrap (b1 : Int) = (b1 : Int) := by rw [IntKind.wrap_i64]; omega
      have x1 : (1 : Int) < (n : Int) := by omega
      obtain ⟨b2, hb2⟩ : ∃ b2, bs.getD 2 0 = b2 := ⟨_, rfl⟩
      have c2 := (h.ext A1).at (nget_of_lt (bs := bs) (j := 2) (by omega))
      have l2 := hlt 2
      rw [hb2] at c2 l2
      have m2 : IntKind.i64.wrap (b2 : Int) = (b2 : Int) := by rw [IntKind.wrap_i64]; omega
      have x2 : (2 : Int) < (n : Int) := by omega
      obtain ⟨b3, hb3⟩ : ∃ b3, bs.getD 3 0 = b3 := ⟨_, rfl⟩
      have c3 := (h.ext A1).at (nget_of_lt (bs := bs) (j := 3) (by omega))
      have l3 := hlt 3
      rw [hb3] at c3 l3
      have m3 : IntKind.i64.wrap (b3 : Int) = (b3 : Int) := by rw [IntKind.wrap_i64]; omega
      have x3 : (3 : Int) < (n : Int) := by omega
      obtain ⟨L, hL⟩ : ∃ L, lnB bs = L := ⟨_, rfl⟩
      have hLv : L = (b1 * 256 + b2) * 256 + b3 := by rw [← hL]; unfold lnB; rw [hb1, hb2, hb3]
      rw [hL] at hR0
      have HR0 := Lib.hid hR0
      have HLv := Lib.hid hLv
      have HB := Lib.hid h
      clear h hn hnb hlt A1 hb0 hb1 hb2 hb3 hL hLv hR0
      have k1 : bits .or .i64 ((b1 : Int) * 65536) ((b2 : Int) * 256) = (((b1 * 256 + b2) * 256 : Nat) : Int) := by
        have := or_low b1 (b2 * 256) 16 (by omega) (by omega)
        rw [show ((b1 : Int) * 65536) = ((b1 * 2 ^ 16 : Nat) : Int) by omega, show ((b2 : Int) * 256) = ((b2 * 256 : Nat) : Int) by omega, this]
        omega
      have k2 : bits .or .i64 (((b1 * 256 + b2) * 256 : Nat) : Int) (b3 : Int) = (L : Int) := by
        have := or_low (b1 * 256 + b2) b3 8 (by omega) (by omega)
        rw [HLv.out, show (b1 * 256 + b2) * 256 = (b1 * 256 + b2) * 2 ^ 8 by omega]
        exact this
      obtain ⟨P, hP⟩ : ∃ P, (b1 * 256 + b2) * 256 = P := ⟨_, rfl⟩
      rw [hP] at k1 k2
      have hL6 : L < 16777216 := by rw [HLv.out]; omega
      clear hP
      go_enter Tryd.func34, Tryd.ntmps34
      go_wp2_with fail
      go_quiet (fail)
      have HEq := Lib.hid (HE1.out.drewN nq)
      have HUq := Lib.hid (HU1.out.ext ((Ext.refl _).drewN nq))
      clear c0 c1 c2 c3 HE1 HU1
      revert HEq HUq
      generalize World.drewN _ nq = wq
      intro HEq HUq
      by_cases h5 : 65536 < L
      · have HR : Hid (rdU bs = (5, 0, [], 0)) := by show _ = _; rw [HR0.out, if_pos h5]
        have h5' : (65536 : Int) < (L : Int) := by omega
        obtain ⟨⟨u0, u1, u2, u3⟩, u4, u5, u6, u7⟩ := HUq.out
        have HE9 := Lib.hid ((((HEq.out.setCell (p := ⟨w.heap.size, 0, none⟩) (Nat.le_refl _) (.int .i64 0)).setCell (p := ⟨w.heap.size, 1, none⟩) (Nat.le_refl _) (.slice none 0 0)).setCell (p := ⟨w.heap.size, 2, none⟩) (Nat.le_refl _) (.int .i64 0)).setCell (p := ⟨w.heap.size, 3, none⟩) (Nat.le_refl _) (.int .i64 0))
        have HY := Lib.hid (ucells u0 u1 u2 u3 (.int .i64 0) (.slice none 0 0) (.int .i64 0) (.int .i64 0))
        go_wp2
        obtain ⟨y0, y1, y2, y3⟩ := HY.out
        exact bodyPost_ret (v := .tuple #[.agg #[.int .i64 0, .slice none 0 0, .int .i64 0, .int .i64 0], .int .i64 5]) (by simp [results, Tryd.results34, go_sem, y0, y1, y2, y3]) rfl ⟨.slice none 0 0, by rw [HR.out]; rfl, by rw [HR.out]; exact World.ownsRow_nil _ _ _ _, HE9.out⟩
      · have h5' : ¬ (65536 : Int) < (L : Int) := by omega
        have j1 : IntKind.i64.wrap ((L : Int) + 4) = (L : Int) + 4 := by rw [IntKind.wrap_i64]; omega
        have j2 : IntKind.i64.wrap ((L : Int) + 4 + 4) = (L : Int) + 8 := by rw [IntKind.wrap_i64]; omega
        by_cases h6 : n < L + 8
        · have HR : Hid (rdU bs = (1, 0, [], 0)) := by show _ = _; rw [HR0.out, if_neg h5, if_pos h6]
          have h6' : (n : Int) < (L : Int) + 8 := by omega
          obtain ⟨⟨u0, u1, u2, u3⟩, u4, u5, u6, u7⟩ := HUq.out
          have HE9 := Lib.hid ((((HEq.out.setCell (p := ⟨w.heap.size, 0, none⟩) (Nat.le_refl _) (.int .i64 0)).setCell (p := ⟨w.heap.size, 1, none⟩) (Nat.le_refl _) (.slice none 0 0)).setCell (p := ⟨w.heap.size, 2, none⟩) (Nat.le_refl _) (.int .i64 0)).setCell (p := ⟨w.heap.size, 3, none⟩) (Nat.le_refl _) (.int .i64 0))
          have HY := Lib.hid (ucells u0 u1 u2 u3 (.int .i64 0) (.slice none 0 0) (.int .i64 0) (.int .i64 0))
          go_wp2
          obtain ⟨y0, y1, y2, y3⟩ := HY.out
          exact bodyPost_ret (v := .tuple #[.agg #[.int .i64 0, .slice none 0 0, .int .i64 0, .int .i64 0], .int .i64 1]) (by simp [results, Tryd.results34, go_sem, y0, y1, y2, y3]) rfl ⟨.slice none 0 0, by rw [HR.out]; rfl, by rw [HR.out]; exact World.ownsRow_nil _ _ _ _, HE9.out⟩
        · have h6' : ¬ (n : Int) < (L : Int) + 8 := by omega
          have h6n : L + 8 ≤ n := by omega
          obtain ⟨E, hE⟩ : ∃ E, 4 + L = E := ⟨_, rfl⟩
          have hEi : IntKind.i64.wrap (4 + (L : Int)) = (E : Int) := by rw [IntKind.wrap_i64]; omega
          obtain ⟨s0, hs0⟩ : ∃ s0, bs.getD (E + 0) 0 = s0 := ⟨_, rfl⟩
          have d0 := (HB.out.ext HEq.out).at (nget_of_lt (bs := bs) (j := E + 0) (by rw [← HN.out]; omega))
          have t0 := HB.out.lt (E + 0)
          rw [hs0] at d0 t0
          have u0 : IntKind.u32.wrap (s0 : Int) = (s0 : Int) := by rw [IntKind.wrap_u32]; omega
          have e0 : IntKind.i64.wrap ((E : Int) + 0) = ((E + 0 : Nat) : Int) := by rw [IntKind.wrap_i64]; omega
          have f0 : ((E + 0 : Nat) : Int) < (n : Int) := by omega
          have g0 : 0 ≤ ((E + 0 : Nat) : Int) := by omega
          obtain ⟨s1, hs1⟩ : ∃ s1, bs.getD (E + 1) 0 = s1 := ⟨_, rfl⟩
          have d1 := (HB.out.ext HEq.out).at (nget_of_lt (bs := bs) (j := E + 1) (by rw [← HN.out]; omega))
          have t1 := HB.out.lt (E + 1)
          rw [hs1] at d1 t1
          have u1 : IntKind.u32.wrap (s1 : Int) = (s1 : Int) := by rw [IntKind.wrap_u32]; omega
          have e1 : IntKind.i64.wrap ((E : Int) + 1) = ((E + 1 : Nat) : Int) := by rw [IntKind.wrap_i64]; omega
          have f1 : ((E + 1 : Nat) : Int) < (n : Int) := by omega
          have g1 : 0 ≤ ((E + 1 : Nat) : Int) := by omega
          obtain ⟨s2, hs2⟩ : ∃ s2, bs.getD (E + 2) 0 = s2 := ⟨_, rfl⟩
          have d2 := (HB.out.ext HEq.out).at (nget_of_lt (bs := bs) (j := E + 2) (by rw [← HN.out]; omega))
          have t2 := HB.out.lt (E + 2)
          rw [hs2] at d2 t2
          have u2 : IntKind.u32.wrap (s2 : Int) = (s2 : Int) := by rw [IntKind.wrap_u32]; omega
          have e2 : IntKind.i64.wrap ((E : Int) + 2) = ((E + 2 : Nat) : Int) := by rw [IntKind.wrap_i64]; omega
          have f2 : ((E + 2 : Nat) : Int) < (n : Int) := by omega
          have g2 : 0 ≤ ((E + 2 : Nat) : Int) := by omega
          obtain ⟨s3, hs3⟩ : ∃ s3, bs.getD (E + 3) 0 = s3 := ⟨_, rfl⟩
          have d3 := (HB.out.ext HEq.out).at (nget_of_lt (bs := bs) (j := E + 3) (by rw [← HN.out]; omega))
          have t3 := HB.out.lt (E + 3)
          rw [hs3] at d3 t3
          have u3 : IntKind.u32.wrap (s3 : Int) = (s3 : Int) := by rw [IntKind.wrap_u32]; omega
          have e3 : IntKind.i64.wrap ((E : Int) + 3) = ((E + 3 : Nat) : Int) := by rw [IntKind.wrap_i64]; omega
          have f3 : ((E + 3 : Nat) : Int) < (n : Int) := by omega
          have g3 : 0 ≤ ((E + 3 : Nat) : Int) := by omega
          rw [Nat.add_zero] at d0 e0 f0 g0
          rw [Int.add_zero] at e0
          have SZ := Lib.hid (fun w => size_any (L : Int) w (by omega))
          -- the sum that is told
          have k3 : bits .or .u32 ((s0 : Int) * 16777216) ((s1 : Int) * 65536) = (((s0 * 256 + s1) * 65536 : Nat) : Int) := by
            have := or_u32 (v := s0) (p := s1 * 65536) (t := 24) (by omega) (by omega)
            rw [show ((s0 : Int) * 16777216) = ((s0 * 2 ^ 24 : Nat) : Int) by omega, show ((s1 : Int) * 65536) = ((s1 * 65536 : Nat) : Int) by omega, this]
            omega
          have k4 : bits .or .u32 (((s0 * 256 + s1) * 65536 : Nat) : Int) ((s2 : Int) * 256) = ((((s0 * 256 + s1) * 256 + s2) * 256 : Nat) : Int) := by
            have := or_u32 (v := s0 * 256 + s1) (p := s2 * 256) (t := 16) (by omega) (by omega)
            rw [show ((s2 : Int) * 256) = ((s2 * 256 : Nat) : Int) by omega]
            rw [show (s0 * 256 + s1) * 65536 = (s0 * 256 + s1) * 2 ^ 16 by omega, this]
            omega
          have hT : smB bs E = (((s0 * 256 + s1) * 256 + s2) * 256 + s3) := by unfold smB; rw [hs1, hs2, hs3]; rw [Nat.add_zero] at hs0; rw [hs0]
          obtain ⟨T, hTT⟩ : ∃ T, smB bs E = T := ⟨_, rfl⟩
          rw [hTT] at hT
          have k5 : bits .or .u32 ((((s0 * 256 + s1) * 256 + s2) * 256 : Nat) : Int) (s3 : Int) = (T : Int) := by
            have := or_u32 (v := (s0 * 256 + s1) * 256 + s2) (p := s3) (t := 8) (by omega) (by omega)
            rw [hT]
            rw [show ((s0 * 256 + s1) * 256 + s2) * 256 = ((s0 * 256 + s1) * 256 + s2) * 2 ^ 8 by omega]
            exact this
          obtain ⟨P1, hP1⟩ : ∃ P1, (s0 * 256 + s1) * 65536 = P1 := ⟨_, rfl⟩
          obtain ⟨P2, hP2⟩ : ∃ P2, ((s0 * 256 + s1) * 256 + s2) * 256 = P2 := ⟨_, rfl⟩
          rw [hP1] at k3 k4
          rw [hP2] at k4 k5
          have v0 : IntKind.u32.wrap ((s0 : Int) * 16777216) = (s0 : Int) * 16777216 := by rw [IntKind.wrap_u32]; omega
          have v1 : IntKind.u32.wrap ((s1 : Int) * 65536) = (s1 : Int) * 65536 := by rw [IntKind.wrap_u32]; omega
          have v2 : IntKind.u32.wrap ((s2 : Int) * 256) = (s2 : Int) * 256 := by rw [IntKind.wrap_u32]; omega
          have hE8 : E + 4 ≤ n := by omega
          have HEL : Hid (4 + L = E) := hE
          rw [hE, hTT] at HR0
          have HBq := Lib.hid (HB.out.ext HEq.out)
          clear hT hTT hP1 hP2 hs0 hs1 hs2 hs3 hE
          go_wp2_with (go_at_call 19; refine (SZ.out _).mono ?_; rintro e w1 ⟨rfl, rfl⟩)
          go_quiet (fail)
          have HEz := Lib.hid (HEq.out.drewN nq)
          have HUz := Lib.hid (HUq.out.ext ((Ext.refl _).drewN nq))
          have HNz := Lib.hid (HNB.out.ext HEz.out)
          have HBz := Lib.hid (HBq.out.ext ((Ext.refl _).drewN nq))
          clear d0 d1 d2 d3 HEq HUq HBq
          revert HEz HUz HNz HBz
          generalize World.drewN _ nq = wz
          intro HEz HUz HNz HBz
          have hcut := HBz.out.cut (lo := 0) (hi := E) (Nat.zero_le _) (by omega)
          rw [Nat.add_zero, Nat.sub_zero, Nat.sub_zero, List.drop_zero] at hcut
          have HCT := Lib.hid hcut
          have HCD := Lib.hid (HBz.out.cut (lo := 4) (hi := E) (by have := HEL.out; omega) (by omega))
          obtain ⟨C, hC⟩ : ∃ C, crc (bs.take E) = C := ⟨_, rfl⟩
          rw [hC] at HR0
          have HC := Lib.hid hC
          have x5 : (0 : Int) ≤ (E : Int) := by omega
          have x6 : (E : Int) ≤ (n : Int) := by omega
          have x7 : (E : Int) ≤ (cap : Int) := by omega
          have x8 : (4 : Int) ≤ (E : Int) := by have := HEL.out; omega
          clear hcut hC
          by_cases hs : T = C
          · subst hs
            have HR : Hid (rdU bs = (0, b0, (bs.drop 4).take L, L + 8)) := by show _ = _; rw [HR0.out, if_neg h5, if_neg h6, if_neg (by simp)]
            have hTT : ((T : Int) != (T : Int)) = false := by simp
            have hdl : ((bs.drop 4).take L).length = L := by rw [List.length_take, List.length_drop, ← HN.out]; omega
            have HDL := Lib.hid hdl
            have hEL4 : E - 4 = L := by have := HEL.out; omega
            have HCD2 : Hid (Bys wz (.slice (some ⟨g, off + 4, none⟩) (E - 4) (cap - 4)) ((bs.drop 4).take L)) := by
              have := HCD.out
              rw [hEL4] at this ⊢
              exact this
            have hsz : w.heap.size + 1 ≤ wz.heap.size := Ext.lt HUz.out.1.1
            clear hdl hEL4
            go_wp2_with (first
              | (go_at_call 17; refine (sum_any (bs.take E) _ _ HNz.out HCT.out).mono ?_; rintro e w9 ⟨rfl, rfl⟩; rw [HC.out])
              | (go_at_call 39; refine (clb_any _ _ _ HCD2.out).mono ?_; rintro e wc ⟨cu, rfl, hown, hxc⟩; obtain ⟨ca, cm, cc, rfl⟩ := own_slc hown; have HO := Lib.hid hown; have HXC := Lib.hid hxc; have HUc := Lib.hid (HUz.out.ext hxc); obtain ⟨⟨u0, u1, u2, u3⟩, u4, u5, u6, u7⟩ := HUc.out; clear hown hxc)
              | (go_at_call 19; refine (SZ.out _).mono ?_; rintro e w1 ⟨rfl, rfl⟩))
            have HE9 := Lib.hid (((((HEz.out.trans HXC.out).setCell (p := ⟨w.heap.size, 0, none⟩) (Nat.le_refl _) (.int .i64 (b0 : Int))).setCell (p := ⟨w.heap.size, 1, none⟩) (Nat.le_refl _) (.slice ca cm cc)).setCell (p := ⟨w.heap.size, 2, none⟩) (Nat.le_refl _) (.int .i64 0)).setCell (p := ⟨w.heap.size, 3, none⟩) (Nat.le_refl _) (.int .i64 ((L : Int) + 8)))
            obtain ⟨y0, y1, y2, y3⟩ := ucells u0 u1 u2 u3 (.int .i64 (b0 : Int)) (.slice ca cm cc) (.int .i64 0) (.int .i64 ((L : Int) + 8))
            refine bodyPost_ret (v := .tuple #[.agg #[.int .i64 (b0 : Int), .slice ca cm cc, .int .i64 0, .int .i64 ((L : Int) + 8)], .int .i64 0]) (by simp [results, Tryd.results34, go_sem, y0, y1, y2, y3]) rfl ⟨.slice ca cm cc, ?_, ?_, HE9.out⟩
            · have e8 : ((L + 8 : Nat) : Int) = (L : Int) + 8 := Int.natCast_add L 8
              simp only [HR.out]
              rw [e8]
            · have hlen : (rdU bs).2.2.1 = (bs.drop 4).take L := by rw [HR.out]
              rw [hlen]
              exact fin_own HO.out hsz _ _ _ _
          · have HR : Hid (rdU bs = (4, 0, [], 0)) := by show _ = _; rw [HR0.out, if_neg h5, if_neg h6, if_pos hs]
            have hTT : ((T : Int) != (C : Int)) = true := by rw [bne_iff_ne]; omega
            have HEq := HEz
            have HUq := HUz
            obtain ⟨⟨u0, u1, u2, u3⟩, u4, u5, u6, u7⟩ := HUq.out
            have HE9 := Lib.hid ((((HEq.out.setCell (p := ⟨w.heap.size, 0, none⟩) (Nat.le_refl _) (.int .i64 0)).setCell (p := ⟨w.heap.size, 1, none⟩) (Nat.le_refl _) (.slice none 0 0)).setCell (p := ⟨w.heap.size, 2, none⟩) (Nat.le_refl _) (.int .i64 0)).setCell (p := ⟨w.heap.size, 3, none⟩) (Nat.le_refl _) (.int .i64 0))
            have HY := Lib.hid (ucells u0 u1 u2 u3 (.int .i64 0) (.slice none 0 0) (.int .i64 0) (.int .i64 0))
            go_wp2_with (go_at_call 17; refine (sum_any (bs.take E) _ _ HNz.out HCT.out).mono ?_; rintro e w9 ⟨rfl, rfl⟩; rw [HC.out])
            obtain ⟨y0, y1, y2, y3⟩ := HY.out
            exact bodyPost_ret (v := .tuple #[.agg #[.int .i64 0, .slice none 0 0, .int .i64 0, .int .i64 0], .int .i64 4]) (by simp [results, Tryd.results34, go_sem, y0, y1, y2, y3]) rfl ⟨.slice none 0 0, by rw [HR.out]; rfl, by rw [HR.out]; exact World.ownsRow_nil _ _ _ _, HE9.out⟩
end Go.Proofs.YtkjllhphpkmaiaaDoor
