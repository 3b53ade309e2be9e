/- Contracts of this seat: Urd, Unx, Usp, Us1, U4f, UtM, Ut1, Ul1. -/
import Derived.Test.YtlaedbglclmheaaGreatDoorZc
import Derived.BigQuiet
import Derived.Deep.QuietTactic
import Derived.Lib.SmallJoins
/- unit.read: its contract over this seat's translation. -/
namespace Go.Proofs.YtlaedbglclmheaaGreatDoor
set_option linter.unusedVariables false
set_option linter.unusedSimpArgs false
open Go.RowKit Go.Extern.Stop Go.Stop Go.Extern

theorem or_u32 {v p t : Nat} (hp : p < 2 ^ t) (hb : v * 2 ^ t + p < 4294967296) : bits .or .u32 ((v * 2 ^ t : Nat) : Int) (p : Int) = ((v * 2 ^ t + p : Nat) : Int) := by
  have e : (BitVec.ofInt 32 ((v * 2 ^ t : Nat) : Int) ||| BitVec.ofInt 32 (p : Int)).toNat = v * 2 ^ t + p := by
    rw [ofInt32_nat, ofInt32_nat, BitVec.toNat_or, BitVec.toNat_ofNat, BitVec.toNat_ofNat, Nat.mod_eq_of_lt (by omega), Nat.mod_eq_of_lt (by omega), Nat.mul_comm, Nat.two_pow_add_eq_or_of_lt hp]
  show IntKind.u32.wrap (((BitVec.ofInt 32 ((v * 2 ^ t : Nat) : Int) ||| BitVec.ofInt 32 (p : Int)).toNat : Nat) : Int) = _
  rw [e, IntKind.wrap_u32]
  omega
/-- the length that a unit tells; what is read as a unit: a code, its kind, its data, its end -/
def lnB (c : List Nat) : Nat := (c.getD 1 0 * 256 + c.getD 2 0) * 256 + c.getD 3 0
def smB (c : List Nat) (e : Nat) : Nat := ((c.getD e 0 * 256 + c.getD (e + 1) 0) * 256 + c.getD (e + 2) 0) * 256 + c.getD (e + 3) 0
def rdU (c : List Nat) : Int × Nat × List Nat × Nat :=
  if c.getD 0 0 = 0 then (0, 0, [], 1)
  else if c.length < 4 then (1, 0, [], 0)
  else if 65536 < lnB c then (5, 0, [], 0)
  else if c.length < lnB c + 8 then (1, 0, [], 0)
  else if smB c (4 + lnB c) ≠ crc (c.take (4 + lnB c)) then (4, 0, [], 0)
  else (0, c.getD 0 0, (c.drop 4).take (lnB c), lnB c + 8)
theorem ucells {w : World} {R : Nat} {x0 x1 x2 x3 : Value} (h0 : w.cell? ⟨R, 0, none⟩ = some x0) (h1 : w.cell? ⟨R, 1, none⟩ = some x1) (h2 : w.cell? ⟨R, 2, none⟩ = some x2) (h3 : w.cell? ⟨R, 3, none⟩ = some x3) (a b c d : Value) :
    ((((w.setCell ⟨R, 0, none⟩ a).setCell ⟨R, 1, none⟩ b).setCell ⟨R, 2, none⟩ c).setCell ⟨R, 3, none⟩ d).cell? ⟨R, 0, none⟩ = some a ∧ ((((w.setCell ⟨R, 0, none⟩ a).setCell ⟨R, 1, none⟩ b).setCell ⟨R, 2, none⟩ c).setCell ⟨R, 3, none⟩ d).cell? ⟨R, 1, none⟩ = some b ∧ ((((w.setCell ⟨R, 0, none⟩ a).setCell ⟨R, 1, none⟩ b).setCell ⟨R, 2, none⟩ c).setCell ⟨R, 3, none⟩ d).cell? ⟨R, 2, none⟩ = some c ∧ ((((w.setCell ⟨R, 0, none⟩ a).setCell ⟨R, 1, none⟩ b).setCell ⟨R, 2, none⟩ c).setCell ⟨R, 3, none⟩ d).cell? ⟨R, 3, none⟩ = some d := by
  have o : ∀ (w : World) (i j : Nat) (u : Value), i ≠ j → (w.setCell ⟨R, i, none⟩ u).cell? ⟨R, j, none⟩ = w.cell? ⟨R, j, none⟩ := fun w i j u h => cell_off_ne u h
  have s : ∀ (w : World) (i : Nat) (u x : Value), w.cell? ⟨R, i, none⟩ = some x → (w.setCell ⟨R, i, none⟩ u).cell? ⟨R, i, none⟩ = some u := fun w i u x h => World.cell?_setCell_same _ _ _ h
  refine ⟨?_, ?_, ?_, ?_⟩
  · rw [o _ 3 0 _ (by decide), o _ 2 0 _ (by decide), o _ 1 0 _ (by decide)]; exact s _ _ _ _ h0
  · rw [o _ 3 1 _ (by decide), o _ 2 1 _ (by decide)]; exact s _ _ _ x1 (by rw [o _ 0 1 _ (by decide)]; exact h1)
  · rw [o _ 3 2 _ (by decide)]; exact s _ _ _ x2 (by rw [o _ 1 2 _ (by decide), o _ 0 2 _ (by decide)]; exact h2)
  · exact s _ _ _ x3 (by rw [o _ 2 3 _ (by decide), o _ 1 3 _ (by decide), o _ 0 3 _ (by decide)]; exact h3)
/-- a unit in four cells that may be written -/
def UBox (w : World) (R : Nat) (k : Int) (u : Value) (a e : Int) : Prop := (w.cell? ⟨R, 0, none⟩ = some (.int .i64 k) ∧ w.cell? ⟨R, 1, none⟩ = some u ∧ w.cell? ⟨R, 2, none⟩ = some (.int .i64 a) ∧ w.cell? ⟨R, 3, none⟩ = some (.int .i64 e)) ∧ w.frozen? ⟨R, 0, none⟩ = false ∧ w.frozen? ⟨R, 1, none⟩ = false ∧ w.frozen? ⟨R, 2, none⟩ = false ∧ w.frozen? ⟨R, 3, none⟩ = false
theorem UBox.ext {w w' : World} {R : Nat} {k a e : Int} {u : Value} (h : UBox w R k u a e) (x : Ext w w') : UBox w' R k u a e :=
  ⟨⟨x.cell h.1.1, x.cell h.1.2.1, x.cell h.1.2.2.1, x.cell h.1.2.2.2⟩, (Below.frozen (p := ⟨R, 0, none⟩) x (Ext.lt h.1.1)).trans h.2.1, (Below.frozen (p := ⟨R, 1, none⟩) x (Ext.lt h.1.2.1)).trans h.2.2.1, (Below.frozen (p := ⟨R, 2, none⟩) x (Ext.lt h.1.2.2.1)).trans h.2.2.2.1, (Below.frozen (p := ⟨R, 3, none⟩) x (Ext.lt h.1.2.2.2)).trans h.2.2.2.2⟩
theorem UBox.new (w : World) (k : Int) (u : Value) (a e : Int) (T : TypeId) : UBox (w.alloc (.cells #[.int .i64 k, u, .int .i64 a, .int .i64 e] T)) w.heap.size k u a e := ⟨⟨by simp, by simp, by simp, by simp⟩, by simp, by simp, by simp, by simp⟩
def UrdPost (w : World) (R : Int × Nat × List Nat × Nat) (e : Ending) (w' : World) : Prop := ∃ u, e = .returned (.tuple #[.agg #[.int .i64 (R.2.1 : Int), u, .int .i64 0, .int .i64 (R.2.2.2 : Int)], .int .i64 R.1]) ∧ w'.ownsRow (w.heap.size + 1) 5 1 u R.2.2.1.length (byC R.2.2.1) ∧ Ext w w'
theorem own_cell_lt {w : World} {base : Nat} {e : TypeId} {size : Nat} {v : Value} {n : Nat} {xs : List Value} (h : w.ownsRow base e size v n xs) {p : Addr} (u : Value) (hp : p.block < base) : (w.setCell p u).ownsRow base e size v n xs := ownsRow_setCell_below h hp u
theorem own_slc {w : World} {base n : Nat} {v : Value} {e : TypeId} {s : Nat} {xs : List Value} (h : w.ownsRow base e s v n xs) : ∃ a m c, v = .slice a m c := by
  rcases h.2 with ⟨rfl, -⟩ | ⟨g, cap, cur, rfl, -⟩
  · exact ⟨_, _, _, rfl⟩
  · exact ⟨_, _, _, rfl⟩
theorem fin_own {w : World} {B R : Nat} {v : Value} {e : TypeId} {s n : Nat} {xs : List Value} (h : w.ownsRow B e s v n xs) (hb : R + 1 ≤ B) (a b c d : Value) : ((((w.setCell ⟨R, 0, none⟩ a).setCell ⟨R, 1, none⟩ b).setCell ⟨R, 2, none⟩ c).setCell ⟨R, 3, none⟩ d).ownsRow (R + 1) e s v n xs :=
  own_cell_lt (own_cell_lt (own_cell_lt (own_cell_lt (owns_base h hb) _ (Nat.lt_succ_self R)) _ (Nat.lt_succ_self R)) _ (Nat.lt_succ_self R)) _ (Nat.lt_succ_self R)
set_option maxHeartbeats 8000000 in
set_option maxRecDepth 20000 in
theorem uread_any (bs : List Nat) (g off n cap : Nat) (w : World) (hnb : NbIs w) (h : Bys w (.slice (some ⟨g, off, none⟩) n cap) bs) (hn0 : 0 < n) : Calls Tryz.prog 132 #[.slice (some ⟨g, off, none⟩) n cap] w (UrdPost w (rdU bs)) := by
  have hn := h.len
  have HN := Lib.hid hn
  have hl := h.2.2
  have hcp := h.caps
  rw [← hn] at hl
  have HNB := Lib.hid hnb
  have hlt := h.lt
  have A1 : Ext w (w.alloc (.cells #[.int .i64 0, .slice none 0 0, .int .i64 0, .int .i64 0] 158)) := (Ext.refl w).alloc _
  have HE1 := Lib.hid A1
  have HU1 := Lib.hid (UBox.new w 0 (.slice none 0 0) 0 0 158)
  obtain ⟨b0, hb0⟩ : ∃ b0, bs.getD 0 0 = b0 := ⟨_, rfl⟩
  have c0 := (h.ext A1).at (nget_of_lt (bs := bs) (j := 0) (by omega))
  rw [Nat.add_zero] at c0
  have l0 := hlt 0
  rw [hb0] at c0 l0
  have m0 : IntKind.i64.wrap (b0 : Int) = (b0 : Int) := by rw [IntKind.wrap_i64]; omega
  have x0 : (0 : Int) < (n : Int) := by omega
  by_cases hz : b0 = 0
  · subst hz
    have HR : Hid (rdU bs = (0, 0, [], 1)) := by show _ = _; unfold rdU; rw [if_pos hb0]
    have HE9 := Lib.hid ((Ext.refl w).alloc (.cells #[.int .i64 0, .slice none 0 0, .int .i64 0, .int .i64 1] 158))
    clear h hn hnb hlt A1 hb0
    go_enter Tryz.func132, Tryz.ntmps132
    go_wp2
    exact bodyPost_ret (v := .tuple #[.agg #[.int .i64 0, .slice none 0 0, .int .i64 0, .int .i64 1], .int .i64 0]) (by simp [results, Tryz.results132, go_sem]) rfl ⟨.slice none 0 0, by rw [HR.out]; rfl, by rw [HR.out]; exact World.ownsRow_nil _ _ _ _, HE9.out⟩
  · have z0 : ((b0 : Int) == 0) = false := by rw [beq_eq_false_iff_ne]; omega
    by_cases h4 : n < 4
    · have HR : Hid (rdU bs = (1, 0, [], 0)) := by show _ = _; unfold rdU; rw [if_neg (by omega), if_pos (by omega)]
      have h4' : (n : Int) < 4 := by omega
      clear h hn hnb hlt A1 hb0
      go_enter Tryz.func132, Tryz.ntmps132
      go_wp2
      exact bodyPost_ret (v := .tuple #[.agg #[.int .i64 0, .slice none 0 0, .int .i64 0, .int .i64 0], .int .i64 1]) (by simp [results, Tryz.results132, go_sem]) rfl ⟨.slice none 0 0, by rw [HR.out]; rfl, by rw [HR.out]; exact World.ownsRow_nil _ _ _ _, HE1.out⟩
    · have h4' : ¬ (n : Int) < 4 := by omega
      have hR0 : rdU bs = if 65536 < lnB bs then (5, 0, [], 0) else if n < lnB bs + 8 then (1, 0, [], 0) else if smB bs (4 + lnB bs) ≠ crc (bs.take (4 + lnB bs)) then (4, 0, [], 0) else (0, b0, (bs.drop 4).take (lnB bs), lnB bs + 8) := by
        unfold rdU
        rw [if_neg (by omega), if_neg (by omega), hb0, ← hn]
      obtain ⟨b1, hb1⟩ : ∃ b1, bs.getD 1 0 = b1 := ⟨_, rfl⟩
      have c1 := (h.ext A1).at (nget_of_lt (bs := bs) (j := 1) (by omega))
      have l1 := hlt 1
      rw [hb1] at c1 l1
      have m1 : IntKind.i64.wrap (b1 : Int) = (b1 : Int) := by rw [IntKind.wrap_i64]; omega
      have x1 : (1 : Int) < (n : Int) := by omega
      obtain ⟨b2, hb2⟩ : ∃ b2, bs.getD 2 0 = b2 := ⟨_, rfl⟩
      have c2 := (h.ext A1).at (nget_of_lt (bs := bs) (j := 2) (by omega))
      have l2 := hlt 2
      rw [hb2] at c2 l2
      have m2 : IntKind.i64.wrap (b2 : Int) = (b2 : Int) := by rw [IntKind.wrap_i64]; omega
      have x2 : (2 : Int) < (n : Int) := by omega
      obtain ⟨b3, hb3⟩ : ∃ b3, bs.getD 3 0 = b3 := ⟨_, rfl⟩
      have c3 := (h.ext A1).at (nget_of_lt (bs := bs) (j := 3) (by omega))
      have l3 := hlt 3
      rw [hb3] at c3 l3
      have m3 : IntKind.i64.wrap (b3 : Int) = (b3 : Int) := by rw [IntKind.wrap_i64]; omega
      have x3 : (3 : Int) < (n : Int) := by omega
      obtain ⟨L, hL⟩ : ∃ L, lnB bs = L := ⟨_, rfl⟩
      have hLv : L = (b1 * 256 + b2) * 256 + b3 := by rw [← hL]; unfold lnB; rw [hb1, hb2, hb3]
      rw [hL] at hR0
      have HR0 := Lib.hid hR0
      have HLv := Lib.hid hLv
      have HB := Lib.hid h
      clear h hn hnb hlt A1 hb0 hb1 hb2 hb3 hL hLv hR0
      have k1 : bits .or .i64 ((b1 : Int) * 65536) ((b2 : Int) * 256) = (((b1 * 256 + b2) * 256 : Nat) : Int) := by
        have := or_low b1 (b2 * 256) 16 (by omega) (by omega)
        rw [show ((b1 : Int) * 65536) = ((b1 * 2 ^ 16 : Nat) : Int) by omega, show ((b2 : Int) * 256) = ((b2 * 256 : Nat) : Int) by omega, this]
        omega
      have k2 : bits .or .i64 (((b1 * 256 + b2) * 256 : Nat) : Int) (b3 : Int) = (L : Int) := by
        have := or_low (b1 * 256 + b2) b3 8 (by omega) (by omega)
        rw [HLv.out, show (b1 * 256 + b2) * 256 = (b1 * 256 + b2) * 2 ^ 8 by omega]
        exact this
      obtain ⟨P, hP⟩ : ∃ P, (b1 * 256 + b2) * 256 = P := ⟨_, rfl⟩
      rw [hP] at k1 k2
      have hL6 : L < 16777216 := by rw [HLv.out]; omega
      clear hP
      go_enter Tryz.func132, Tryz.ntmps132
      go_wp2_with fail
      go_quiet (fail)
      have HEq := Lib.hid (HE1.out.drewN nq)
      have HUq := Lib.hid (HU1.out.ext ((Ext.refl _).drewN nq))
      clear c0 c1 c2 c3 HE1 HU1
      revert HEq HUq
      generalize World.drewN _ nq = wq
      intro HEq HUq
      by_cases h5 : 65536 < L
      · have HR : Hid (rdU bs = (5, 0, [], 0)) := by show _ = _; rw [HR0.out, if_pos h5]
        have h5' : (65536 : Int) < (L : Int) := by omega
        obtain ⟨⟨u0, u1, u2, u3⟩, u4, u5, u6, u7⟩ := HUq.out
        have HE9 := Lib.hid ((((HEq.out.setCell (p := ⟨w.heap.size, 0, none⟩) (Nat.le_refl _) (.int .i64 0)).setCell (p := ⟨w.heap.size, 1, none⟩) (Nat.le_refl _) (.slice none 0 0)).setCell (p := ⟨w.heap.size, 2, none⟩) (Nat.le_refl _) (.int .i64 0)).setCell (p := ⟨w.heap.size, 3, none⟩) (Nat.le_refl _) (.int .i64 0))
        have HY := Lib.hid (ucells u0 u1 u2 u3 (.int .i64 0) (.slice none 0 0) (.int .i64 0) (.int .i64 0))
        go_wp2
        obtain ⟨y0, y1, y2, y3⟩ := HY.out
        exact bodyPost_ret (v := .tuple #[.agg #[.int .i64 0, .slice none 0 0, .int .i64 0, .int .i64 0], .int .i64 5]) (by simp [results, Tryz.results132, go_sem, y0, y1, y2, y3]) rfl ⟨.slice none 0 0, by rw [HR.out]; rfl, by rw [HR.out]; exact World.ownsRow_nil _ _ _ _, HE9.out⟩
      · have h5' : ¬ (65536 : Int) < (L : Int) := by omega
        have j1 : IntKind.i64.wrap ((L : Int) + 4) = (L : Int) + 4 := by rw [IntKind.wrap_i64]; omega
        have j2 : IntKind.i64.wrap ((L : Int) + 4 + 4) = (L : Int) + 8 := by rw [IntKind.wrap_i64]; omega
        by_cases h6 : n < L + 8
        · have HR : Hid (rdU bs = (1, 0, [], 0)) := by show _ = _; rw [HR0.out, if_neg h5, if_pos h6]
          have h6' : (n : Int) < (L : Int) + 8 := by omega
          obtain ⟨⟨u0, u1, u2, u3⟩, u4, u5, u6, u7⟩ := HUq.out
          have HE9 := Lib.hid ((((HEq.out.setCell (p := ⟨w.heap.size, 0, none⟩) (Nat.le_refl _) (.int .i64 0)).setCell (p := ⟨w.heap.size, 1, none⟩) (Nat.le_refl _) (.slice none 0 0)).setCell (p := ⟨w.heap.size, 2, none⟩) (Nat.le_refl _) (.int .i64 0)).setCell (p := ⟨w.heap.size, 3, none⟩) (Nat.le_refl _) (.int .i64 0))
          have HY := Lib.hid (ucells u0 u1 u2 u3 (.int .i64 0) (.slice none 0 0) (.int .i64 0) (.int .i64 0))
          go_wp2
          obtain ⟨y0, y1, y2, y3⟩ := HY.out
          exact bodyPost_ret (v := .tuple #[.agg #[.int .i64 0, .slice none 0 0, .int .i64 0, .int .i64 0], .int .i64 1]) (by simp [results, Tryz.results132, go_sem, y0, y1, y2, y3]) rfl ⟨.slice none 0 0, by rw [HR.out]; rfl, by rw [HR.out]; exact World.ownsRow_nil _ _ _ _, HE9.out⟩
        · have h6' : ¬ (n : Int) < (L : Int) + 8 := by omega
          have h6n : L + 8 ≤ n := by omega
          obtain ⟨E, hE⟩ : ∃ E, 4 + L = E := ⟨_, rfl⟩
          have hEi : IntKind.i64.wrap (4 + (L : Int)) = (E : Int) := by rw [IntKind.wrap_i64]; omega
          obtain ⟨s0, hs0⟩ : ∃ s0, bs.getD (E + 0) 0 = s0 := ⟨_, rfl⟩
          have d0 := (HB.out.ext HEq.out).at (nget_of_lt (bs := bs) (j := E + 0) (by rw [← HN.out]; omega))
          have t0 := HB.out.lt (E + 0)
          rw [hs0] at d0 t0
          have u0 : IntKind.u32.wrap (s0 : Int) = (s0 : Int) := by rw [IntKind.wrap_u32]; omega
          have e0 : IntKind.i64.wrap ((E : Int) + 0) = ((E + 0 : Nat) : Int) := by rw [IntKind.wrap_i64]; omega
          have f0 : ((E + 0 : Nat) : Int) < (n : Int) := by omega
          have g0 : 0 ≤ ((E + 0 : Nat) : Int) := by omega
          obtain ⟨s1, hs1⟩ : ∃ s1, bs.getD (E + 1) 0 = s1 := ⟨_, rfl⟩
          have d1 := (HB.out.ext HEq.out).at (nget_of_lt (bs := bs) (j := E + 1) (by rw [← HN.out]; omega))
          have t1 := HB.out.lt (E + 1)
          rw [hs1] at d1 t1
          have u1 : IntKind.u32.wrap (s1 : Int) = (s1 : Int) := by rw [IntKind.wrap_u32]; omega
          have e1 : IntKind.i64.wrap ((E : Int) + 1) = ((E + 1 : Nat) : Int) := by rw [IntKind.wrap_i64]; omega
          have f1 : ((E + 1 : Nat) : Int) < (n : Int) := by omega
          have g1 : 0 ≤ ((E + 1 : Nat) : Int) := by omega
          obtain ⟨s2, hs2⟩ : ∃ s2, bs.getD (E + 2) 0 = s2 := ⟨_, rfl⟩
          have d2 := (HB.out.ext HEq.out).at (nget_of_lt (bs := bs) (j := E + 2) (by rw [← HN.out]; omega))
          have t2 := HB.out.lt (E + 2)
          rw [hs2] at d2 t2
          have u2 : IntKind.u32.wrap (s2 : Int) = (s2 : Int) := by rw [IntKind.wrap_u32]; omega
          have e2 : IntKind.i64.wrap ((E : Int) + 2) = ((E + 2 : Nat) : Int) := by rw [IntKind.wrap_i64]; omega
          have f2 : ((E + 2 : Nat) : Int) < (n : Int) := by omega
          have g2 : 0 ≤ ((E + 2 : Nat) : Int) := by omega
          obtain ⟨s3, hs3⟩ : ∃ s3, bs.getD (E + 3) 0 = s3 := ⟨_, rfl⟩
          have d3 := (HB.out.ext HEq.out).at (nget_of_lt (bs := bs) (j := E + 3) (by rw [← HN.out]; omega))
          have t3 := HB.out.lt (E + 3)
          rw [hs3] at d3 t3
          have u3 : IntKind.u32.wrap (s3 : Int) = (s3 : Int) := by rw [IntKind.wrap_u32]; omega
          have e3 : IntKind.i64.wrap ((E : Int) + 3) = ((E + 3 : Nat) : Int) := by rw [IntKind.wrap_i64]; omega
          have f3 : ((E + 3 : Nat) : Int) < (n : Int) := by omega
          have g3 : 0 ≤ ((E + 3 : Nat) : Int) := by omega
          rw [Nat.add_zero] at d0 e0 f0 g0
          rw [Int.add_zero] at e0
          have SZ := Lib.hid (fun w => size_any (L : Int) w (by omega))
          -- the sum that is told
          have k3 : bits .or .u32 ((s0 : Int) * 16777216) ((s1 : Int) * 65536) = (((s0 * 256 + s1) * 65536 : Nat) : Int) := by
            have := or_u32 (v := s0) (p := s1 * 65536) (t := 24) (by omega) (by omega)
            rw [show ((s0 : Int) * 16777216) = ((s0 * 2 ^ 24 : Nat) : Int) by omega, show ((s1 : Int) * 65536) = ((s1 * 65536 : Nat) : Int) by omega, this]
            omega
          have k4 : bits .or .u32 (((s0 * 256 + s1) * 65536 : Nat) : Int) ((s2 : Int) * 256) = ((((s0 * 256 + s1) * 256 + s2) * 256 : Nat) : Int) := by
            have := or_u32 (v := s0 * 256 + s1) (p := s2 * 256) (t := 16) (by omega) (by omega)
            rw [show ((s2 : Int) * 256) = ((s2 * 256 : Nat) : Int) by omega]
            rw [show (s0 * 256 + s1) * 65536 = (s0 * 256 + s1) * 2 ^ 16 by omega, this]
            omega
          have hT : smB bs E = (((s0 * 256 + s1) * 256 + s2) * 256 + s3) := by unfold smB; rw [hs1, hs2, hs3]; rw [Nat.add_zero] at hs0; rw [hs0]
          obtain ⟨T, hTT⟩ : ∃ T, smB bs E = T := ⟨_, rfl⟩
          rw [hTT] at hT
          have k5 : bits .or .u32 ((((s0 * 256 + s1) * 256 + s2) * 256 : Nat) : Int) (s3 : Int) = (T : Int) := by
            have := or_u32 (v := (s0 * 256 + s1) * 256 + s2) (p := s3) (t := 8) (by omega) (by omega)
            rw [hT]
            rw [show ((s0 * 256 + s1) * 256 + s2) * 256 = ((s0 * 256 + s1) * 256 + s2) * 2 ^ 8 by omega]
            exact this
          obtain ⟨P1, hP1⟩ : ∃ P1, (s0 * 256 + s1) * 65536 = P1 := ⟨_, rfl⟩
          obtain ⟨P2, hP2⟩ : ∃ P2, ((s0 * 256 + s1) * 256 + s2) * 256 = P2 := ⟨_, rfl⟩
          rw [hP1] at k3 k4
          rw [hP2] at k4 k5
          have v0 : IntKind.u32.wrap ((s0 : Int) * 16777216) = (s0 : Int) * 16777216 := by rw [IntKind.wrap_u32]; omega
          have v1 : IntKind.u32.wrap ((s1 : Int) * 65536) = (s1 : Int) * 65536 := by rw [IntKind.wrap_u32]; omega
          have v2 : IntKind.u32.wrap ((s2 : Int) * 256) = (s2 : Int) * 256 := by rw [IntKind.wrap_u32]; omega
          have hE8 : E + 4 ≤ n := by omega
          have HEL : Hid (4 + L = E) := hE
          rw [hE, hTT] at HR0
          have HBq := Lib.hid (HB.out.ext HEq.out)
          clear hT hTT hP1 hP2 hs0 hs1 hs2 hs3 hE
          go_wp2_with (go_at_call 67; refine (SZ.out _).mono ?_; rintro e w1 ⟨rfl, rfl⟩)
          go_quiet (fail)
          have HEz := Lib.hid (HEq.out.drewN nq)
          have HUz := Lib.hid (HUq.out.ext ((Ext.refl _).drewN nq))
          have HNz := Lib.hid (HNB.out.ext HEz.out)
          have HBz := Lib.hid (HBq.out.ext ((Ext.refl _).drewN nq))
          clear d0 d1 d2 d3 HEq HUq HBq
          revert HEz HUz HNz HBz
          generalize World.drewN _ nq = wz
          intro HEz HUz HNz HBz
          have hcut := HBz.out.cut (lo := 0) (hi := E) (Nat.zero_le _) (by omega)
          rw [Nat.add_zero, Nat.sub_zero, Nat.sub_zero, List.drop_zero] at hcut
          have HCT := Lib.hid hcut
          have HCD := Lib.hid (HBz.out.cut (lo := 4) (hi := E) (by have := HEL.out; omega) (by omega))
          obtain ⟨C, hC⟩ : ∃ C, crc (bs.take E) = C := ⟨_, rfl⟩
          rw [hC] at HR0
          have HC := Lib.hid hC
          have x5 : (0 : Int) ≤ (E : Int) := by omega
          have x6 : (E : Int) ≤ (n : Int) := by omega
          have x7 : (E : Int) ≤ (cap : Int) := by omega
          have x8 : (4 : Int) ≤ (E : Int) := by have := HEL.out; omega
          clear hcut hC
          by_cases hs : T = C
          · subst hs
            have HR : Hid (rdU bs = (0, b0, (bs.drop 4).take L, L + 8)) := by show _ = _; rw [HR0.out, if_neg h5, if_neg h6, if_neg (by simp)]
            have hTT : ((T : Int) != (T : Int)) = false := by simp
            have hdl : ((bs.drop 4).take L).length = L := by rw [List.length_take, List.length_drop, ← HN.out]; omega
            have HDL := Lib.hid hdl
            have hEL4 : E - 4 = L := by have := HEL.out; omega
            have HCD2 : Hid (Bys wz (.slice (some ⟨g, off + 4, none⟩) (E - 4) (cap - 4)) ((bs.drop 4).take L)) := by
              have := HCD.out
              rw [hEL4] at this ⊢
              exact this
            have hsz : w.heap.size + 1 ≤ wz.heap.size := Ext.lt HUz.out.1.1
            clear hdl hEL4
            go_wp2_with (first
              | (go_at_call 96; refine (sum_any (bs.take E) _ _ HNz.out HCT.out).mono ?_; rintro e w9 ⟨rfl, rfl⟩; rw [HC.out])
              | (go_at_call 99; refine (clb_any _ _ _ HCD2.out).mono ?_; rintro e wc ⟨cu, rfl, hown, hxc⟩; obtain ⟨ca, cm, cc, rfl⟩ := own_slc hown; have HO := Lib.hid hown; have HXC := Lib.hid hxc; have HUc := Lib.hid (HUz.out.ext hxc); obtain ⟨⟨u0, u1, u2, u3⟩, u4, u5, u6, u7⟩ := HUc.out; clear hown hxc)
              | (go_at_call 67; refine (SZ.out _).mono ?_; rintro e w1 ⟨rfl, rfl⟩))
            have HE9 := Lib.hid (((((HEz.out.trans HXC.out).setCell (p := ⟨w.heap.size, 0, none⟩) (Nat.le_refl _) (.int .i64 (b0 : Int))).setCell (p := ⟨w.heap.size, 1, none⟩) (Nat.le_refl _) (.slice ca cm cc)).setCell (p := ⟨w.heap.size, 2, none⟩) (Nat.le_refl _) (.int .i64 0)).setCell (p := ⟨w.heap.size, 3, none⟩) (Nat.le_refl _) (.int .i64 ((L : Int) + 8)))
            obtain ⟨y0, y1, y2, y3⟩ := ucells u0 u1 u2 u3 (.int .i64 (b0 : Int)) (.slice ca cm cc) (.int .i64 0) (.int .i64 ((L : Int) + 8))
            refine bodyPost_ret (v := .tuple #[.agg #[.int .i64 (b0 : Int), .slice ca cm cc, .int .i64 0, .int .i64 ((L : Int) + 8)], .int .i64 0]) (by simp [results, Tryz.results132, go_sem, y0, y1, y2, y3]) rfl ⟨.slice ca cm cc, ?_, ?_, HE9.out⟩
            · have e8 : ((L + 8 : Nat) : Int) = (L : Int) + 8 := Int.natCast_add L 8
              simp only [HR.out]
              rw [e8]
            · have hlen : (rdU bs).2.2.1 = (bs.drop 4).take L := by rw [HR.out]
              rw [hlen]
              exact fin_own HO.out hsz _ _ _ _
          · have HR : Hid (rdU bs = (4, 0, [], 0)) := by show _ = _; rw [HR0.out, if_neg h5, if_neg h6, if_pos hs]
            have hTT : ((T : Int) != (C : Int)) = true := by rw [bne_iff_ne]; omega
            have HEq := HEz
            have HUq := HUz
            obtain ⟨⟨u0, u1, u2, u3⟩, u4, u5, u6, u7⟩ := HUq.out
            have HE9 := Lib.hid ((((HEq.out.setCell (p := ⟨w.heap.size, 0, none⟩) (Nat.le_refl _) (.int .i64 0)).setCell (p := ⟨w.heap.size, 1, none⟩) (Nat.le_refl _) (.slice none 0 0)).setCell (p := ⟨w.heap.size, 2, none⟩) (Nat.le_refl _) (.int .i64 0)).setCell (p := ⟨w.heap.size, 3, none⟩) (Nat.le_refl _) (.int .i64 0))
            have HY := Lib.hid (ucells u0 u1 u2 u3 (.int .i64 0) (.slice none 0 0) (.int .i64 0) (.int .i64 0))
            go_wp2_with (go_at_call 96; refine (sum_any (bs.take E) _ _ HNz.out HCT.out).mono ?_; rintro e w9 ⟨rfl, rfl⟩; rw [HC.out])
            obtain ⟨y0, y1, y2, y3⟩ := HY.out
            exact bodyPost_ret (v := .tuple #[.agg #[.int .i64 0, .slice none 0 0, .int .i64 0, .int .i64 0], .int .i64 4]) (by simp [results, Tryz.results132, go_sem, y0, y1, y2, y3]) rfl ⟨.slice none 0 0, by rw [HR.out]; rfl, by rw [HR.out]; exact World.ownsRow_nil _ _ _ _, HE9.out⟩
end Go.Proofs.YtlaedbglclmheaaGreatDoor

/- unit.Next: its contract over this seat's translation. -/
namespace Go.Proofs.YtlaedbglclmheaaGreatDoor
set_option linter.unusedVariables false
set_option linter.unusedSimpArgs false
open Go.RowKit Go.Extern.Stop Go.Stop Go.Extern

def unS : ByteArray := ⟨#[117, 110, 105, 116]⟩
theorem rdU_end (c : List Nat) (h : 0 < c.length) : (rdU c).2.2.2 ≤ c.length := by
  unfold rdU
  split
  · exact h
  · split
    · exact Nat.zero_le _
    · split
      · exact Nat.zero_le _
      · split
        · exact Nat.zero_le _
        · split
          · exact Nat.zero_le _
          · show lnB c + 8 ≤ c.length
            omega
/-- what Next says: why there is none; the kind, the data, the place, the end -/
def nxU (bs : List Nat) (a : Int) : Fall × Nat × List Nat × Int × Int :=
  if a < 0 ∨ (bs.length : Int) ≤ a then (some ([], 7), 0, [], 0, 0)
  else if (rdU (bs.drop a.toNat)).1 = 0 then (none, (rdU (bs.drop a.toNat)).2.1, (rdU (bs.drop a.toNat)).2.2.1, a, ((rdU (bs.drop a.toNat)).2.2.2 : Int) + a)
  else (some ([(unS, a)], (rdU (bs.drop a.toNat)).1), 0, [], 0, 0)
def NxPost (w : World) (R : Fall × Nat × List Nat × Int × Int) (e : Ending) (w' : World) : Prop := ∃ u x, e = .returned (.tuple #[.agg #[.int .i64 (R.2.1 : Int), u, .int .i64 R.2.2.2.1, .int .i64 R.2.2.2.2], x]) ∧ w'.ownsRow w.heap.size 5 1 u R.2.2.1.length (byC R.2.2.1) ∧ ErrIs w' R.1 x ∧ Ext w w'
theorem IsErr.set1 {w : World} {R i : Nat} {x : Int} (hi : i < 4) (u0 : w.cell? ⟨R, 0, none⟩ = some (.int .i64 x)) (q : Value) : ∀ {p : List (ByteArray × Int)} {c : Int} {v : Value}, IsErr w p c v → IsErr (w.setCell ⟨R, i, none⟩ q) p c v
  | [], _, _, h => h
  | (s, n) :: p, c, v, ⟨b, u, h1, h2, h3, h4, h5⟩ => by
    have hb : R ≠ b := by
      rintro rfl
      rw [u0] at h2
      cases h2
    have o : ∀ j, (w.setCell ⟨R, i, none⟩ q).cell? ⟨b, j, none⟩ = w.cell? ⟨b, j, none⟩ := fun j => World.cell?_setCell_other w _ _ q (fun h => hb (congrArg Addr.block h))
    exact ⟨b, u, h1, by rw [o]; exact h2, by rw [o]; exact h3, by rw [o]; exact h4, IsErr.set1 hi u0 q h5⟩
theorem IsErr.unit {w : World} {R : Nat} {x : Int} (u0 : w.cell? ⟨R, 0, none⟩ = some (.int .i64 x)) (y : Int) (a b d : Value) {p : List (ByteArray × Int)} {c : Int} {v : Value} (h : IsErr w p c v) : IsErr ((((w.setCell ⟨R, 0, none⟩ (.int .i64 y)).setCell ⟨R, 1, none⟩ a).setCell ⟨R, 2, none⟩ b).setCell ⟨R, 3, none⟩ d) p c v := by
  have s0 : (w.setCell ⟨R, 0, none⟩ (.int .i64 y)).cell? ⟨R, 0, none⟩ = some (.int .i64 y) := World.cell?_setCell_same _ _ _ u0
  have o : ∀ (w : World) (i : Nat) (u : Value), i ≠ 0 → (w.setCell ⟨R, i, none⟩ u).cell? ⟨R, 0, none⟩ = w.cell? ⟨R, 0, none⟩ := fun w i u h => cell_off_ne u h
  have h1 := IsErr.set1 (i := 0) (by decide) u0 (.int .i64 y) h
  have h2 := IsErr.set1 (i := 1) (by decide) s0 a h1
  have s2 := (o (w.setCell ⟨R, 0, none⟩ (.int .i64 y)) 1 a (by decide)).trans s0
  have h3 := IsErr.set1 (i := 2) (by decide) s2 b h2
  have s3 := (o _ 2 b (by decide)).trans s2
  exact IsErr.set1 (i := 3) (by decide) s3 d h3
set_option maxHeartbeats 4000000 in
set_option maxRecDepth 20000 in
theorem next_any (bs : List Nat) (at' : Int) (v : Value) (w : World) (hnb : NbIs w) (h : Bys w v bs) : Calls Tryz.prog 101 #[v, .int .i64 at'] w (NxPost w (nxU bs at')) := by
  obtain ⟨a, cap, rfl⟩ := h.form
  obtain ⟨n, hn⟩ : ∃ n, bs.length = n := ⟨_, rfl⟩
  rw [hn] at h ⊢
  have hl := h.2.2
  have hcp := h.caps
  have HB := Lib.hid h
  have HN := Lib.hid hn
  have HNB := Lib.hid hnb
  have A1 : Ext w (w.alloc (.cells #[.int .i64 0, .slice none 0 0, .int .i64 0, .int .i64 0] 158)) := (Ext.refl w).alloc _
  have HE1 := Lib.hid A1
  have HU1 := Lib.hid (UBox.new w 0 (.slice none 0 0) 0 0 158)
  by_cases h0 : at' < 0
  · have HR : Hid (nxU bs at' = (some ([], 7), 0, [], 0, 0)) := by show _ = _; unfold nxU; rw [if_pos (.inl h0)]
    clear h hn hnb A1
    have HF := Lib.hid (ErrIs.code (w := (w.alloc (.cells #[.int .i64 0, .slice none 0 0, .int .i64 0, .int .i64 0] 158))) (c := 7) (by decide))
    go_enter Tryz.func101, Tryz.ntmps101
    go_wp2
    exact bodyPost_ret (v := .tuple #[.agg #[.int .i64 0, .slice none 0 0, .int .i64 0, .int .i64 0], .iface 35 (.int .i64 7)]) (by simp [results, Tryz.results101, go_sem]) rfl ⟨.slice none 0 0, _, by rw [HR.out]; rfl, by rw [HR.out]; exact World.ownsRow_nil _ _ _ _, by rw [HR.out]; exact HF.out, HE1.out⟩
  · by_cases h1 : (n : Int) ≤ at'
    · have HR : Hid (nxU bs at' = (some ([], 7), 0, [], 0, 0)) := by show _ = _; unfold nxU; rw [if_pos (.inr (by rw [hn]; exact h1))]
      clear h hn hnb A1
      have HF := Lib.hid (ErrIs.code (w := (w.alloc (.cells #[.int .i64 0, .slice none 0 0, .int .i64 0, .int .i64 0] 158))) (c := 7) (by decide))
      go_enter Tryz.func101, Tryz.ntmps101
      go_wp2
      exact bodyPost_ret (v := .tuple #[.agg #[.int .i64 0, .slice none 0 0, .int .i64 0, .int .i64 0], .iface 35 (.int .i64 7)]) (by simp [results, Tryz.results101, go_sem]) rfl ⟨.slice none 0 0, _, by rw [HR.out]; rfl, by rw [HR.out]; exact World.ownsRow_nil _ _ _ _, by rw [HR.out]; exact HF.out, HE1.out⟩
    · obtain ⟨k, rfl⟩ : ∃ k : Nat, at' = (k : Int) := ⟨at'.toNat, by omega⟩
      obtain ⟨g, off, rfl⟩ := h.had (by omega)
      have hdl : (bs.drop k).length = n - k := by rw [List.length_drop, hn]
      have hcut := h.cut (lo := k) (hi := n) (by omega) (Nat.le_refl _)
      rw [List.take_of_length_le (by rw [hdl]; exact Nat.le_refl _)] at hcut
      have HCT := Lib.hid (hcut.ext A1)
      have HN1 := Lib.hid (hnb.ext A1)
      have hend := rdU_end (bs.drop k) (by rw [hdl]; omega)
      rw [hdl] at hend
      have hR0 : nxU bs (k : Int) = if (rdU (bs.drop k)).1 = 0 then (none, (rdU (bs.drop k)).2.1, (rdU (bs.drop k)).2.2.1, (k : Int), ((rdU (bs.drop k)).2.2.2 : Int) + (k : Int)) else (some ([(unS, (k : Int))], (rdU (bs.drop k)).1), 0, [], 0, 0) := by
        unfold nxU
        rw [if_neg (by rw [hn]; omega)]
        rfl
      obtain ⟨⟨C, K, D, E⟩, hCKDE⟩ : ∃ R, rdU (bs.drop k) = R := ⟨_, rfl⟩
      rw [hCKDE] at hR0 hend
      have hend' : E ≤ n - k := hend
      have HCK := Lib.hid hCKDE
      have m1 : IntKind.i64.wrap (k : Int) = (k : Int) := by rw [IntKind.wrap_i64]; omega
      have m2 : IntKind.i64.wrap ((E : Int) + (k : Int)) = (E : Int) + (k : Int) := by rw [IntKind.wrap_i64]; omega
      have x1 : (0 : Int) ≤ (k : Int) := by omega
      have x2 : (k : Int) < (n : Int) := by omega
      have x3 : (k : Int) ≤ (n : Int) := by omega
      have x4 : (k : Int) ≤ (cap : Int) := by omega
      have nk0 : 0 < n - k := by omega
      clear hcut hend hCKDE h hn hnb A1 hdl
      by_cases hC : C = 0
      · subst hC
        have HR : Hid (nxU bs (k : Int) = (none, K, D, (k : Int), (E : Int) + (k : Int))) := hR0
        clear hR0
        go_enter Tryz.func101, Tryz.ntmps101
        go_wp2_with (go_at_call 132; refine (uread_any (bs.drop k) _ _ _ _ _ HN1.out HCT.out nk0).mono ?_; rw [HCK.out]; rintro e w2 ⟨u, rfl, hown, hx⟩; obtain ⟨ca, cm, cc, rfl⟩ := own_slc hown; have HO := Lib.hid hown; have HX := Lib.hid hx; have HUc := Lib.hid ((HU1.out.ext hx).ext ((Ext.refl w2).alloc (.cells #[.int .i64 (K : Int), .slice ca cm cc, .int .i64 (k : Int), .int .i64 ((E : Int) + (k : Int))] 158))); obtain ⟨⟨u0, u1, u2, u3⟩, u4, u5, u6, u7⟩ := HUc.out; clear hown hx)
        have HE9 := Lib.hid ((((((HE1.out.trans HX.out).alloc (.cells #[.int .i64 (K : Int), .slice ca cm cc, .int .i64 (k : Int), .int .i64 ((E : Int) + (k : Int))] 158)).setCell (p := ⟨w.heap.size, 0, none⟩) (Nat.le_refl _) (.int .i64 (K : Int))).setCell (p := ⟨w.heap.size, 1, none⟩) (Nat.le_refl _) (.slice ca cm cc)).setCell (p := ⟨w.heap.size, 2, none⟩) (Nat.le_refl _) (.int .i64 (k : Int))).setCell (p := ⟨w.heap.size, 3, none⟩) (Nat.le_refl _) (.int .i64 ((E : Int) + (k : Int))))
        obtain ⟨y0, y1, y2, y3⟩ := ucells u0 u1 u2 u3 (.int .i64 (K : Int)) (.slice ca cm cc) (.int .i64 (k : Int)) (.int .i64 ((E : Int) + (k : Int)))
        refine bodyPost_ret (v := .tuple #[.agg #[.int .i64 (K : Int), .slice ca cm cc, .int .i64 (k : Int), .int .i64 ((E : Int) + (k : Int))], .nilIface]) (by simp [results, Tryz.results101, go_sem, y0, y1, y2, y3]) rfl ⟨.slice ca cm cc, .nilIface, ?_, ?_, by rw [HR.out]; rfl, HE9.out⟩
        · simp only [HR.out]
        · have hlen : (nxU bs (k : Int)).2.2.1 = D := by rw [HR.out]
          rw [hlen]
          have h9 := HO.out
          exact owns_base (fin_own (R := w.heap.size) (h9.alloc _) (by simp) _ _ _ _) (Nat.le_succ _)
      · have HR : Hid (nxU bs (k : Int) = (some ([(unS, (k : Int))], C), 0, [], 0, 0)) := by show _ = _; rw [hR0, if_neg hC]
        have hCi : ((C : Int) != 0) = true := by rw [bne_iff_ne]; omega
        have hC1 : (C : Int) ≠ 0 := by omega
        clear hR0
        go_enter Tryz.func101, Tryz.ntmps101
        go_wp2_with (first
          | (go_at_call 132; refine (uread_any (bs.drop k) _ _ _ _ _ HN1.out HCT.out nk0).mono ?_; rw [HCK.out]; rintro e w2 ⟨u, rfl, hown, hx⟩; obtain ⟨ca, cm, cc, rfl⟩ := own_slc hown; have HX := Lib.hid hx; clear hown hx)
          | (go_at_call 93; refine (in_err _ _ [] (C : Int) _ _ (ErrIs.code hC1).1).mono ?_; rintro e w3 ⟨z, rfl, hx3, hz⟩; have HX3 := Lib.hid hx3; have HZ := Lib.hid hz; have HUc := Lib.hid (((HU1.out.ext HX.out).ext ((Ext.refl w2).alloc (.cells #[.int .i64 (K : Int), .slice ca cm cc, .int .i64 0, .int .i64 (E : Int)] 158))).ext hx3); obtain ⟨⟨u0, u1, u2, u3⟩, u4, u5, u6, u7⟩ := HUc.out; clear hx3 hz))
        have HE9 := Lib.hid (((((((HE1.out.trans HX.out).alloc (.cells #[.int .i64 (K : Int), .slice ca cm cc, .int .i64 0, .int .i64 (E : Int)] 158)).trans HX3.out).setCell (p := ⟨w.heap.size, 0, none⟩) (Nat.le_refl _) (.int .i64 0)).setCell (p := ⟨w.heap.size, 1, none⟩) (Nat.le_refl _) (.slice none 0 0)).setCell (p := ⟨w.heap.size, 2, none⟩) (Nat.le_refl _) (.int .i64 0)).setCell (p := ⟨w.heap.size, 3, none⟩) (Nat.le_refl _) (.int .i64 0))
        obtain ⟨y0, y1, y2, y3⟩ := ucells u0 u1 u2 u3 (.int .i64 0) (.slice none 0 0) (.int .i64 0) (.int .i64 0)
        refine bodyPost_ret (v := .tuple #[.agg #[.int .i64 0, .slice none 0 0, .int .i64 0, .int .i64 0], z]) (by simp [results, Tryz.results101, go_sem, y0, y1, y2, y3]) rfl ⟨.slice none 0 0, z, ?_, ?_, ?_, HE9.out⟩
        · simp only [HR.out]; rfl
        · have hlen : (nxU bs (k : Int)).2.2.1 = [] := by rw [HR.out]
          rw [hlen]
          exact World.ownsRow_nil _ _ _ _
        · have h1 : (nxU bs (k : Int)).1 = some ([(unS, (k : Int))], C) := by rw [HR.out]
          rw [h1]
          exact ⟨IsErr.unit u0 0 _ _ _ HZ.out, hC1, by simp⟩
end Go.Proofs.YtlaedbglclmheaaGreatDoor

/- Plain: the units of bytes; lists of units, of the call's own and read. -/
namespace Go.Proofs.YtlaedbglclmheaaGreatDoor
set_option linter.unusedVariables false
set_option linter.unusedSimpArgs false
open Go.RowKit Go.Extern.Stop Go.Stop Go.Extern

abbrev Un := Nat × List Nat × Int × Int
/-- the units from a place on, and why there are no more -/
def spF : Nat → List Nat → Nat → Fall × List Un
  | 0, _, _ => (none, [])
  | f + 1, bs, a =>
    if bs.length ≤ a then (none, [])
    else if (rdU (bs.drop a)).1 = 0 then
      ((spF f bs (a + (rdU (bs.drop a)).2.2.2)).1, ((rdU (bs.drop a)).2.1, (rdU (bs.drop a)).2.2.1, (a : Int), ((rdU (bs.drop a)).2.2.2 : Int) + (a : Int)) :: (spF f bs (a + (rdU (bs.drop a)).2.2.2)).2)
    else (some ([(unS, (a : Int))], (rdU (bs.drop a)).1), [])
def spU (bs : List Nat) (a : Nat) : Fall × List Un := spF (bs.length + 1) bs a
theorem rdU_fine (c : List Nat) (h : (rdU c).1 = 0) : 0 < (rdU c).2.2.2 ∧ (rdU c).2.2.1.length ≤ 65536 ∧ ∀ x ∈ (rdU c).2.2.1, x ∈ c := by
  unfold rdU at h ⊢
  split at h
  · rename_i h0
    rw [if_pos h0]
    exact ⟨Nat.one_pos, by decide, fun x hx => by cases hx⟩
  · rename_i h0
    rw [if_neg h0]
    split at h
    · cases h
    · rename_i h1
      rw [if_neg h1]
      split at h
      · cases h
      · rename_i h2
        rw [if_neg h2]
        split at h
        · cases h
        · rename_i h3
          rw [if_neg h3]
          split at h
          · cases h
          · rename_i h4
            rw [if_neg h4]
            refine ⟨by show 0 < lnB c + 8; omega, ?_, fun x hx => List.mem_of_mem_drop (List.mem_of_mem_take hx)⟩
            show ((c.drop 4).take (lnB c)).length ≤ 65536
            rw [List.length_take]
            omega
theorem spF_fuel (bs : List Nat) : ∀ (f g a : Nat), bs.length - a < f → bs.length - a < g → spF f bs a = spF g bs a
  | 0, _, _, h, _ => absurd h (Nat.not_lt_zero _)
  | _, 0, _, _, h => absurd h (Nat.not_lt_zero _)
  | f + 1, g + 1, a, h, k => by
    unfold spF
    by_cases h0 : bs.length ≤ a
    · rw [if_pos h0, if_pos h0]
    · rw [if_neg h0, if_neg h0]
      by_cases h1 : (rdU (bs.drop a)).1 = 0
      · have := (rdU_fine _ h1).1
        rw [if_pos h1, if_pos h1, spF_fuel bs f g (a + (rdU (bs.drop a)).2.2.2) (by omega) (by omega)]
      · rw [if_neg h1, if_neg h1]
theorem sp_done {bs : List Nat} {a : Nat} (h : bs.length ≤ a) : spU bs a = (none, []) := by
  unfold spU spF
  exact if_pos h
theorem sp_none {bs : List Nat} {a : Nat} (h : a < bs.length) (hc : (rdU (bs.drop a)).1 ≠ 0) : spU bs a = (some ([(unS, (a : Int))], (rdU (bs.drop a)).1), []) := by
  unfold spU spF
  rw [if_neg (by omega), if_neg hc]
theorem sp_next {bs : List Nat} {a : Nat} (h : a < bs.length) {K : Nat} {D : List Nat} {E : Nat} (hr : rdU (bs.drop a) = (0, K, D, E)) : spU bs a = ((spU bs (a + E)).1, (K, D, (a : Int), (E : Int) + (a : Int)) :: (spU bs (a + E)).2) := by
  have hp := (rdU_fine (bs.drop a) (by rw [hr])).1
  rw [hr] at hp
  have hp' : 0 < E := hp
  unfold spU
  rw [spF, if_neg (by omega), hr, if_pos rfl, spF_fuel bs bs.length (bs.length + 1) (a + E) (by omega) (by omega)]
/-- one step, as the loop sees it -/
theorem sp_step (bs : List Nat) (k : Nat) (h : k < bs.length) : (∃ (K : Nat) (D : List Nat) (E : Nat), nxU bs (k : Int) = (none, K, D, (k : Int), (E : Int) + (k : Int)) ∧ (0 < E ∧ k + E ≤ bs.length ∧ D.length ≤ 65536) ∧ (∀ x ∈ D, x ∈ bs) ∧ spU bs k = ((spU bs (k + E)).1, (K, D, (k : Int), (E : Int) + (k : Int)) :: (spU bs (k + E)).2)) ∨
    (∃ C : Int, C ≠ 0 ∧ nxU bs (k : Int) = (some ([(unS, (k : Int))], C), 0, [], 0, 0) ∧ spU bs k = (some ([(unS, (k : Int))], C), [])) := by
  have hN : nxU bs (k : Int) = if (rdU (bs.drop k)).1 = 0 then (none, (rdU (bs.drop k)).2.1, (rdU (bs.drop k)).2.2.1, (k : Int), ((rdU (bs.drop k)).2.2.2 : Int) + (k : Int)) else (some ([(unS, (k : Int))], (rdU (bs.drop k)).1), 0, [], 0, 0) := by
    unfold nxU
    rw [if_neg (by omega)]
    rfl
  by_cases hc : (rdU (bs.drop k)).1 = 0
  · left
    obtain ⟨f1, f2, f3⟩ := rdU_fine _ hc
    have f4 := rdU_end (bs.drop k) (by rw [List.length_drop]; omega)
    rw [List.length_drop] at f4
    rw [if_pos hc] at hN
    obtain ⟨⟨C, K, D, E⟩, hR⟩ : ∃ R, rdU (bs.drop k) = R := ⟨_, rfl⟩
    rw [hR] at hN f1 f2 f3 f4 hc
    have hc' : C = 0 := hc
    subst hc'
    have f4' : E ≤ bs.length - k := f4
    exact ⟨K, D, E, hN, ⟨f1, by omega, f2⟩, fun x hx => List.mem_of_mem_drop (f3 x hx), sp_next h hR⟩
  · right
    rw [if_neg hc] at hN
    exact ⟨_, hc, hN, sp_none h hc⟩
/-- two slices of the call's own that share no block -/
def Apart (u v : Value) : Prop := ∀ b, u.ownBlock = some b → v.ownBlock ≠ some b
theorem own_kept {w w' : World} {base : Nat} {e : TypeId} {size n : Nat} {v : Value} {xs : List Value} {row : Option Nat} (h : w.ownsRow base e size v n xs) (k : w.grownBy w' row) (hne : v.ownBlock = none ∨ v.ownBlock ≠ row) : w'.ownsRow base e size v n xs := by
  obtain ⟨hl, h⟩ := h
  refine ⟨hl, ?_⟩
  rcases h with h | ⟨g, cap, cur, rfl, hb, hg, h⟩
  · exact Or.inl h
  · have hlt : g < w.heap.size := (Array.getElem?_eq_some_iff.1 hg).1
    have e1 : Value.ownBlock (.slice (some ⟨g, 0, none⟩) n cap) = some g := rfl
    rw [e1] at hne
    refine Or.inr ⟨g, cap, cur, rfl, hb, (k.block g hlt ?_).trans hg, h⟩
    rcases hne with hne | hne
    · cases hne
    · exact hne
theorem push_bys {W W' : World} {base n : Nat} {tv lv v' : Value} {xs : List Value} (hl : W.ownsRow base 5 1 lv n xs) (ap : Apart tv lv) (g : W.grownBy W' tv.ownBlock) (hv : v'.ownBlock = tv.ownBlock ∨ v'.ownBlock = some (W.heap.size + 1)) :
    W'.ownsRow base 5 1 lv n xs ∧ Apart v' lv := by
  refine ⟨own_kept hl g ?_, fun b h1 h2 => ?_⟩
  · cases hb : lv.ownBlock with
    | none => exact Or.inl rfl
    | some b => exact Or.inr (fun e => ap b e.symm hb)
  · rcases hv with hv | hv
    · exact ap b (hv.symm.trans h1) h2
    · have e : b = W.heap.size + 1 := Option.some.inj (h1.symm.trans hv)
      have := (hl.lt b h2).2
      omega
theorem infoUn : (Tryz.prog.info? 158).map (fun i => (i.zero, i.size, i.bytes)) = some (some (.agg #[.int .i64 0, .slice none 0 0, .int .i64 0, .int .i64 0]), 4, 48) := by kernel_rfl
theorem push_un {ops : Array Oper} {rest : List Oper} {o : Oper} {a : Act} {Q : Exit → Act → World → Prop} {Wd : World} {base : Nat} (hgd : o.guard = none) (s y : Operand) (t : TypeId)
    (ho : o.op = .call { callee := .builtin .append, args := #[s, y], argTypes := #[t, t] }) (ht : Tryz.prog.underlying t = some (.slice 158))
    (v : Value) (n : Nat) (xs : List Value) (K A E : Int) (su : Value) (hsu : su.oneCell' = true) (hs : a.eval s = v) (hown : Wd.ownsRow base 158 4 v n xs) (hx : a.eval y = .slice (some ⟨Wd.heap.size, 0, none⟩) 1 1) (hb : base ≤ Wd.heap.size) (hn : n ≤ 1000000)
    (h : ∀ v' w', w'.ownsRow base 158 4 v' (n + 1) (xs ++ [.int .i64 K, su, .int .i64 A, .int .i64 E]) → Wd.grownBy w' v.ownBlock → (v'.ownBlock = v.ownBlock ∨ v'.ownBlock = some (Wd.heap.size + 1)) → wpList Tryz.prog ops Q rest (a.put o.dst v') w') :
    wpList Tryz.prog ops Q (o :: rest) a (Wd.alloc (.cells #[.int .i64 K, su, .int .i64 A, .int .i64 E] 158)) := by
  obtain ⟨i0, hi, hz0, hz1, hz2⟩ := info_parts infoUn
  refine wpList_append_own_at _ hgd s y t ho base 158 i0 _ 4 48 ht hi hz0 hz1 hz2 rfl (by decide) v n xs hs (hown.alloc _) ⟨Wd.heap.size, 0, none⟩ 1 1 [.int .i64 K, su, .int .i64 A, .int .i64 E] hx rfl (World.news_of_block (cs := #[.int .i64 K, su, .int .i64 A, .int .i64 E]) (t := 158) (fr := (0, 0)) (heap_alloc_new Wd _)) ?_ (by unfold maxLen; omega) (by omega) (by simp; omega) ?_
  · intro x hx
    simp only [List.mem_cons, List.not_mem_nil, or_false] at hx
    rcases hx with rfl | rfl | rfl | rfl
    · rfl
    · exact hsu
    · rfl
    · rfl
  intro v' w' h1 h2 h3 h4
  refine h v' w' h1 ⟨h2.os, h2.tape, h2.output, Nat.le_trans (by simp) h2.size, fun k hk hne => ?_⟩ (by simpa using h4)
  exact (h2.block k (by simp; omega) hne).trans (Below.heap_alloc Wd _ k hk)
def unD (L : List Un) (q : Nat) : Un := L.getD q (0, [], 0, 0)
def ucs (L : List Un) (S : Nat → Value) (k : Nat) : List Value := (List.range k).flatMap fun q => [.int .i64 ((unD L q).1 : Int), S q, .int .i64 (unD L q).2.2.1, .int .i64 (unD L q).2.2.2]
theorem ucs_len (L : List Un) (S : Nat → Value) (k : Nat) : (ucs L S k).length = k * 4 := by
  induction k with
  | zero => rfl
  | succ k ih => unfold ucs at ih ⊢; rw [List.range_succ, List.flatMap_append, List.length_append, ih]; simp; omega
theorem ucs_succ (L : List Un) (S : Nat → Value) (k : Nat) : ucs L S (k + 1) = ucs L S k ++ [.int .i64 ((unD L k).1 : Int), S k, .int .i64 (unD L k).2.2.1, .int .i64 (unD L k).2.2.2] := by
  unfold ucs
  rw [List.range_succ, List.flatMap_append]
  simp
theorem ucs_congr {L M : List Un} {S T : Nat → Value} {k : Nat} (h : ∀ q, q < k → S q = T q) (hu : ∀ q, q < k → unD L q = unD M q) : ucs L S k = ucs M T k := by
  induction k with
  | zero => rfl
  | succ k ih => rw [ucs_succ, ucs_succ, ih (fun q hq => h q (by omega)) (fun q hq => hu q (by omega)), h k (by omega), hu k (by omega)]
theorem ucs_get (L : List Un) (S : Nat → Value) (k q : Nat) (hq : q < k) : (ucs L S k)[q * 4]? = some (.int .i64 ((unD L q).1 : Int)) ∧ (ucs L S k)[q * 4 + 1]? = some (S q) ∧ (ucs L S k)[q * 4 + 2]? = some (.int .i64 (unD L q).2.2.1) ∧ (ucs L S k)[q * 4 + 3]? = some (.int .i64 (unD L q).2.2.2) := by
  induction k with
  | zero => omega
  | succ k ih =>
    have hl := ucs_len L S k
    rw [ucs_succ]
    by_cases h : q < k
    · obtain ⟨h1, h2, h3, h4⟩ := ih h
      refine ⟨?_, ?_, ?_, ?_⟩
      · rw [List.getElem?_append_left (by omega)]; exact h1
      · rw [List.getElem?_append_left (by omega)]; exact h2
      · rw [List.getElem?_append_left (by omega)]; exact h3
      · rw [List.getElem?_append_left (by omega)]; exact h4
    · obtain rfl : q = k := by omega
      refine ⟨?_, ?_, ?_, ?_⟩
      · rw [List.getElem?_append_right (by omega), hl, Nat.sub_self]; rfl
      · rw [List.getElem?_append_right (by omega), hl, show q * 4 + 1 - q * 4 = 1 by omega]; rfl
      · rw [List.getElem?_append_right (by omega), hl, show q * 4 + 2 - q * 4 = 2 by omega]; rfl
      · rw [List.getElem?_append_right (by omega), hl, show q * 4 + 3 - q * 4 = 3 by omega]; rfl
/-- the units' data: each of the call's own, none the list itself -/
def UnOwn (w : World) (base : Nat) (L : List Un) (S : Nat → Value) (k : Nat) (ov : Value) : Prop := ∀ q, q < k → w.ownsRow base 5 1 (S q) (unD L q).2.1.length (byC (unD L q).2.1) ∧ (∀ x ∈ (unD L q).2.1, x < 256) ∧ (unD L q).2.1.length ≤ 100000 ∧ Apart ov (S q)
theorem ucell {w : World} {base n cap g j : Nat} {e : TypeId} {s : Nat} {xs : List Value} {v : Value} (h : w.ownsRow base e s (.slice (some ⟨g, 0, none⟩) n cap) n xs) (hj : xs[j]? = some v) : w.cell? ⟨g, j, none⟩ = some v := by
  obtain ⟨hl, h | ⟨g', cap', cur, e', hb, hg, h1, h2, hs, ht⟩⟩ := h
  · cases h.1
  · simp only [Value.slice.injEq, Option.some.injEq, Addr.mk.injEq, and_true, true_and] at e'
    obtain ⟨rfl, rfl⟩ := e'
    rw [← ht, List.getElem?_take] at hj
    split at hj
    · unfold World.cell?
      simp only [hg]
      simpa using hj
    · cases hj
theorem uaddr {w : World} {base n : Nat} {e : TypeId} {s : Nat} {v : Value} {xs : List Value} (h : w.ownsRow base e s v n xs) (hn : 0 < n) : ∃ g cap, v = .slice (some ⟨g, 0, none⟩) n cap ∧ base ≤ g ∧ g < w.heap.size := by
  obtain ⟨hl, h'⟩ := id h
  rcases h' with ⟨h1, h2⟩ | ⟨g, cap, cur, e, hb, hg, -⟩
  · omega
  · exact ⟨g, cap, e, hb, (Array.getElem?_eq_some_iff.1 hg).1⟩
theorem uform {w : World} {base n : Nat} {e : TypeId} {s : Nat} {v : Value} {xs : List Value} (h : w.ownsRow base e s v n xs) : ∃ a cap, v = .slice a n cap := by
  obtain ⟨hl, h⟩ := h
  rcases h with ⟨h1, h2⟩ | ⟨g, cap, cur, e, -⟩
  · exact ⟨none, 0, by rw [h1, h2]⟩
  · exact ⟨some ⟨g, 0, none⟩, cap, e⟩
/-- a unit's cells in a list -/
def UnIn (w : World) (g i : Nat) (u : Un) : Prop := ∃ ra rc, w.cell? ⟨g, i, none⟩ = some (.int .i64 (u.1 : Int)) ∧ w.cell? ⟨g, i + 1, none⟩ = some (.slice ra u.2.1.length rc) ∧ w.cell? ⟨g, i + 2, none⟩ = some (.int .i64 u.2.2.1) ∧ w.cell? ⟨g, i + 3, none⟩ = some (.int .i64 u.2.2.2) ∧ Bys w (.slice ra u.2.1.length rc) u.2.1
/-- a slice value that reads as these units -/
def Uns (w : World) (v : Value) (L : List Un) : Prop := ∃ (a : Option Addr) (cap : Nat), v = .slice a L.length cap ∧ (L.length ≤ cap ∧ L.length ≤ 1000000) ∧ (0 < L.length → ∃ g off, a = some ⟨g, off, none⟩ ∧ ∀ q u, L[q]? = some u → UnIn w g (off + q * 4) u)
theorem UnIn.ext {w w' : World} {g i : Nat} {u : Un} (h : UnIn w g i u) (k : Ext w w') : UnIn w' g i u := by
  obtain ⟨ra, rc, h0, h1, h2, h3, h4⟩ := h
  exact ⟨ra, rc, k.cell h0, k.cell h1, k.cell h2, k.cell h3, h4.ext k⟩
theorem Uns.ext {w w' : World} {v : Value} {L : List Un} (h : Uns w v L) (k : Ext w w') : Uns w' v L := by
  obtain ⟨a, cap, h0, hc, h1⟩ := h
  refine ⟨a, cap, h0, hc, fun hl => ?_⟩
  obtain ⟨g, off, e, h2⟩ := h1 hl
  exact ⟨g, off, e, fun q u hq => (h2 q u hq).ext k⟩
theorem Uns.form {w : World} {v : Value} {L : List Un} (h : Uns w v L) : ∃ a cap, v = .slice a L.length cap ∧ L.length ≤ cap ∧ L.length ≤ 1000000 := by
  obtain ⟨a, cap, h0, hc, _⟩ := h
  exact ⟨a, cap, h0, hc⟩
theorem Uns.len {w : World} {a : Option Addr} {n cap : Nat} {L : List Un} (h : Uns w (.slice a n cap) L) : n = L.length := by
  obtain ⟨a', cap', e, _⟩ := h
  simp only [Value.slice.injEq] at e
  exact e.2.1
theorem Uns.had {w : World} {a : Option Addr} {n cap : Nat} {L : List Un} (h : Uns w (.slice a n cap) L) (hn : 0 < n) : ∃ g off, a = some ⟨g, off, none⟩ := by
  have hl := h.len
  obtain ⟨a', cap', e, -, h3⟩ := h
  simp only [Value.slice.injEq] at e
  obtain ⟨rfl, -, rfl⟩ := e
  obtain ⟨g, off, e, _⟩ := h3 (by omega)
  exact ⟨g, off, e⟩
theorem Uns.at {w : World} {g off n cap : Nat} {L : List Un} (h : Uns w (.slice (some ⟨g, off, none⟩) n cap) L) {q : Nat} {u : Un} (hq : L[q]? = some u) : UnIn w g (off + q * 4) u := by
  have hl := h.len
  obtain ⟨a', cap', e, -, h3⟩ := h
  simp only [Value.slice.injEq] at e
  obtain ⟨rfl, -, rfl⟩ := e
  obtain ⟨hj, -⟩ := List.getElem?_eq_some_iff.1 hq
  obtain ⟨g', off', e, h4⟩ := h3 (by omega)
  obtain ⟨rfl, rfl⟩ : g = g' ∧ off = off' := by simpa using e
  exact h4 q u hq
/-- a list of the call's own whose data read as they should -/
theorem Uns.of_cells {w : World} {base : Nat} {v : Value} {L : List Un} {S : Nat → Value} (h : w.ownsRow base 158 4 v L.length (ucs L S L.length)) (hl : L.length ≤ 1000000) (hS : ∀ q, q < L.length → Bys w (S q) (unD L q).2.1) : Uns w v L := by
  by_cases h0 : 0 < L.length
  · obtain ⟨g, cap, rfl, -, -⟩ := uaddr h h0
    have hcap : L.length ≤ cap := by
      obtain ⟨-, h | ⟨g', cap', cur, e', -, -, h1, -⟩⟩ := h
      · cases h.1
      · simp only [Value.slice.injEq] at e'
        rw [e'.2.2]; exact h1
    refine ⟨_, cap, rfl, ⟨hcap, hl⟩, fun _ => ⟨g, 0, rfl, fun q u hq => ?_⟩⟩
    obtain ⟨hj, -⟩ := List.getElem?_eq_some_iff.1 hq
    have hu : unD L q = u := by unfold unD; rw [List.getD, hq]; rfl
    obtain ⟨c0, c1, c2, c3⟩ := ucs_get L S L.length q hj
    have hb := hS q hj
    rw [hu] at c0 c2 c3 hb
    obtain ⟨ra, rc, e⟩ := hb.form
    rw [e] at c1 hb
    rw [Nat.zero_add]
    exact ⟨ra, rc, ucell h c0, ucell h c1, ucell h c2, ucell h c3, hb⟩
  · have : L = [] := List.eq_nil_of_length_eq_zero (by omega)
    subst this
    obtain ⟨a, cap, rfl⟩ := uform h
    exact ⟨a, cap, rfl, ⟨Nat.zero_le _, hl⟩, fun h => absurd h (by simp)⟩
theorem UnOwn.bys {w : World} {base k : Nat} {L : List Un} {S : Nat → Value} {ov : Value} (h : UnOwn w base L S k ov) {q : Nat} (hq : q < k) : Bys w (S q) (unD L q).2.1 := by
  obtain ⟨h1, h2, h3, -⟩ := h q hq
  exact Bys.of_owns h1 h2 (by omega)
theorem UnOwn.ext {w w' : World} {base k : Nat} {L : List Un} {S : Nat → Value} {ov : Value} (h : UnOwn w base L S k ov) (x : Ext w w') : UnOwn w' base L S k ov := fun q hq => by
  obtain ⟨h1, h2⟩ := h q hq
  exact ⟨ownsRow_ext h1 x, h2⟩
theorem Uns.of_own {w : World} {base : Nat} {v : Value} {L : List Un} {S : Nat → Value} (h : w.ownsRow base 158 4 v L.length (ucs L S L.length)) (hl : L.length ≤ 1000000) (hS : UnOwn w base L S L.length v) : Uns w v L :=
  Uns.of_cells h hl fun _ hq => hS.bys hq
/-- as many units as bytes, at most -/
theorem sp_count (bs : List Nat) : ∀ (f a : Nat), bs.length - a < f → (spU bs a).2.length ≤ bs.length - a
  | 0, _, h => absurd h (Nat.not_lt_zero _)
  | f + 1, a, h => by
    by_cases h0 : a < bs.length
    · rcases sp_step bs a h0 with ⟨K, D, E, -, ⟨h1, -⟩, -, h2⟩ | ⟨C, -, -, h2⟩
      · rw [h2, List.length_cons]
        have := sp_count bs f (a + E) (by omega)
        omega
      · rw [h2]; simp
    · rw [sp_done (by omega)]; simp
theorem drop_cons {α : Type} {L : List α} {k : Nat} {u : α} {T : List α} (h : L.drop k = u :: T) : L[k]? = some u ∧ L.drop (k + 1) = T ∧ k < L.length := by
  have h1 : L[k]? = some u := by rw [← List.head?_drop, h]; rfl
  refine ⟨h1, ?_, (List.getElem?_eq_some_iff.1 h1).1⟩
  rw [← List.tail_drop, h]
  rfl
end Go.Proofs.YtlaedbglclmheaaGreatDoor

/- unit.Split: its contract over this seat's translation. -/
namespace Go.Proofs.YtlaedbglclmheaaGreatDoor
set_option linter.unusedVariables false
set_option linter.unusedSimpArgs false
open Go.RowKit Go.Extern.Stop Go.Stop Go.Extern

def SpPost (w : World) (R : Fall × List Un) (e : Ending) (w' : World) : Prop := ∃ v x S, e = .returned (.tuple #[v, x]) ∧ w'.ownsRow w.heap.size 158 4 v R.2.length (ucs R.2 S R.2.length) ∧ UnOwn w' w.heap.size R.2 S R.2.length v ∧ ErrIs w' R.1 x ∧ Ext w w'
theorem drop_nil {α : Type} {L : List α} {k : Nat} (h : L.drop k = []) (hk : k ≤ L.length) : k = L.length := by
  have := congrArg List.length h
  rw [List.length_drop, List.length_nil] at this
  omega
end Go.Proofs.YtlaedbglclmheaaGreatDoor

/- kinlaw4.first: its contract over this seat's translation. -/
namespace Go.Proofs.YtlaedbglclmheaaGreatDoor
set_option linter.unusedVariables false
set_option linter.unusedSimpArgs false
open Go.RowKit Go.Extern.Stop Go.Stop Go.Extern

theorem Bys.lit (w : World) (fr : Nat × Nat) (bs : List Nat) (h : ∀ x ∈ bs, x < 256) (hl : bs.length ≤ 1000) : Bys (w.alloc (.cells (byC bs).toArray 5 fr)) (.slice (some ⟨w.heap.size, 0, none⟩) bs.length bs.length) bs := by
  refine ⟨⟨some ⟨w.heap.size, 0, none⟩, bs.length, rfl, Nat.le_refl _, by unfold maxLen; omega, fun _ => ⟨_, _, rfl⟩, fun g off ha j u hu => ?_⟩, h, by omega⟩
  simp only [Option.some.injEq, Addr.mk.injEq, and_true] at ha
  obtain ⟨rfl, rfl⟩ := ha
  have e : (w.alloc (.cells (byC bs).toArray 5 fr)).heap[w.heap.size]? = some (.cells (byC bs).toArray 5 fr) := heap_alloc_new w _
  simp only [World.cell?, e]
  simpa [byC] using hu
theorem Bys.litAt (w : World) (fr : Nat × Nat) (m : Nat) (hm : w.heap.size = m) (bs : List Nat) (h : ∀ x ∈ bs, x < 256) (hl : bs.length ≤ 1000) : Bys (w.alloc (.cells (byC bs).toArray 5 fr)) (.slice (some ⟨m, 0, none⟩) bs.length bs.length) bs := by
  subst hm
  exact Bys.lit w fr bs h hl
theorem nx_a : nxU [0, 1, 0] 0 = (none, 0, [], 0, 1) := by decide
theorem nx_b : nxU [0, 1, 0] 1 = (some ([(unS, 1)], 1), 0, [], 0, 0) := by decide
theorem uk_a : ukF 0 [120].length = some ([], 13) ∧ ukV 0 [120] = [] := by decide
theorem crc_a : crc [49, 50, 51, 52, 53, 54, 55, 56, 57] = 3421780262 := by decide +kernel
end Go.Proofs.YtlaedbglclmheaaGreatDoor

/- What is read of a unit's bytes of which one is another: plain. -/
namespace Go.Proofs.YtlaedbglclmheaaGreatDoor
set_option linter.unusedVariables false
set_option linter.unusedSimpArgs false
open Go.RowKit

def v4 (a b c e : Nat) : Nat := ((a * 256 + b) * 256 + c) * 256 + e
theorem smB4 (l : List Nat) (a b c e : Nat) : smB (l ++ [a, b, c, e]) l.length = v4 a b c e := by
  have h : ∀ j, (l ++ [a, b, c, e]).getD (l.length + j) 0 = [a, b, c, e].getD j 0 := fun j => by
    simp only [List.getD_eq_getElem?_getD]
    rw [List.getElem?_append_right (by omega)]
    congr 2
    omega
  have h0 := h 0
  unfold smB v4
  rw [Nat.add_zero] at h0
  rw [h0, h 1, h 2, h 3]
  rfl
/-- a head, its data, four bytes behind: what is read of them -/
theorem rd_enc (k : Nat) (d : List Nat) (a b c e : Nat) (hk : k ≠ 0) (hd : d.length ≤ 65536) : rdU (hdB k d ++ [a, b, c, e]) = if v4 a b c e ≠ crc (hdB k d) then (4, 0, [], 0) else (0, k, d, d.length + 8) := by
  have hl := hdB_len k d
  have hln : lnB (hdB k d ++ [a, b, c, e]) = d.length := by
    show (d.length / 65536 * 256 + d.length / 256 % 256) * 256 + d.length % 256 = d.length
    omega
  have hlen : (hdB k d ++ [a, b, c, e]).length = d.length + 8 := by rw [List.length_append, hl]; rfl
  have h4 : 4 + d.length = (hdB k d).length := by omega
  have h0 : (hdB k d ++ [a, b, c, e]).getD 0 0 = k := rfl
  unfold rdU
  rw [hln, hlen, h0, if_neg hk, if_neg (by omega), if_neg (by omega), if_neg (by omega), h4, smB4, List.take_left]
  by_cases hv : v4 a b c e = crc (hdB k d)
  · rw [if_neg (by simp [hv]), if_neg (by simp [hv])]
    have : ((hdB k d ++ [a, b, c, e]).drop 4).take d.length = d := by
      show ((d ++ [a, b, c, e])).take d.length = d
      exact List.take_left
    rw [this]
  · rw [if_pos hv, if_pos hv]
theorem enc_form (k : Nat) (d : List Nat) (hk : k ≠ 0) : encB k d = hdB k d ++ be4 (crc (hdB k d)) := by unfold encB; rw [if_neg hk]
theorem rd_turned (k : Nat) (d : List Nat) (A y : Nat) (hk : k ≠ 0) (hk2 : k < 256) (hd : d.length ≤ 65536) (hb : ∀ z ∈ d, z < 256) (hA : A < d.length + 8) (hA2 : A = 0 ∨ 4 ≤ A) (hy : y < 256) (hne : y ≠ (encB k d).getD A 0) (h0 : ((encB k d).set A y).getD 0 0 ≠ 0) :
    rdU ((encB k d).set A y) = (4, 0, [], 0) := by
  have hl := hdB_len k d
  have hlt := hdB_lt (kind := k) hk2 hb hd
  have hs := crc_lt hlt
  rw [enc_form k d hk] at hne h0 ⊢
  obtain ⟨s, hss⟩ : ∃ s, crc (hdB k d) = s := ⟨_, rfl⟩
  rw [hss] at hne h0 hs ⊢
  rw [List.set_append] at h0 ⊢
  by_cases hin : A < (hdB k d).length
  · rw [if_pos hin] at h0 ⊢
    have hne2 : y ≠ (hdB k d).getD A 0 := by
      have : (hdB k d ++ be4 s).getD A 0 = (hdB k d).getD A 0 := by
        simp only [List.getD_eq_getElem?_getD]
        rw [List.getElem?_append_left hin]
      rw [← this]; exact hne
    have key : ∀ k' d', (hdB k d).set A y = hdB k' d' → k' ≠ 0 → d'.length ≤ 65536 → s ≠ crc (hdB k' d') → rdU ((hdB k d).set A y ++ be4 s) = (4, 0, [], 0) := by
      intro k' d' e1 e2 e3 e4
      rw [e1]
      have := rd_enc k' d' (s / 16777216) (s / 65536 % 256) (s / 256 % 256) (s % 256) e2 e3
      have hv : v4 (s / 16777216) (s / 65536 % 256) (s / 256 % 256) (s % 256) = s := by unfold v4; omega
      rw [hv, if_pos e4] at this
      exact this
    rcases hA2 with rfl | hA4
    · refine key y d rfl (fun e => h0 (by subst e; rfl)) hd ?_
      rw [← hss]
      exact crc_turned (p := []) (q := be3 d.length ++ d) (x := k) (y := y) (by simp) (fun z hz => hlt z (List.mem_cons_of_mem _ hz)) hk2 hy (fun e => hne2 e.symm)
    · obtain ⟨i, rfl⟩ : ∃ i, A = i + 4 := ⟨A - 4, by omega⟩
      have hi : i < d.length := by omega
      have e1 : (hdB k d).set (i + 4) y = hdB k (d.set i y) := by
        unfold hdB be3
        rw [List.length_set]
        rfl
      refine key k (d.set i y) e1 hk (by rw [List.length_set]; exact hd) ?_
      rw [← hss, ← e1]
      have f1 : hdB k d = (hdB k d).take (i + 4) ++ (hdB k d).getD (i + 4) 0 :: (hdB k d).drop (i + 4 + 1) := by
        have : (hdB k d).getD (i + 4) 0 = (hdB k d)[i + 4] := by simp [List.getD_eq_getElem?_getD, hin]
        rw [this, List.getElem_cons_drop, List.take_append_drop]
      have f2 : (hdB k d).set (i + 4) y = (hdB k d).take (i + 4) ++ y :: (hdB k d).drop (i + 4 + 1) := List.set_eq_take_append_cons_drop.trans (by rw [if_pos hin])
      rw [f2]
      intro h
      refine crc_turned (p := (hdB k d).take (i + 4)) (q := (hdB k d).drop (i + 4 + 1)) (x := (hdB k d).getD (i + 4) 0) (y := y) (fun z hz => hlt z (List.mem_of_mem_take hz)) (fun z hz => hlt z (List.mem_of_mem_drop hz)) ?_ hy (fun e => hne2 e.symm) ?_
      · rw [List.getD_eq_getElem?_getD]
        rw [List.getElem?_eq_getElem hin]
        exact hlt _ (List.getElem_mem hin)
      · rw [← f1]; exact h
  · rw [if_neg hin]
    obtain ⟨j, hj⟩ : ∃ j, A - (hdB k d).length = j := ⟨_, rfl⟩
    have hj4 : j < 4 := by omega
    have hne2 : y ≠ (be4 s).getD j 0 := by
      have : (hdB k d ++ be4 s).getD A 0 = (be4 s).getD j 0 := by
        simp only [List.getD_eq_getElem?_getD]
        rw [List.getElem?_append_right (by omega), hj]
      rw [← this]; exact hne
    rw [hj]
    have key : ∀ a b c e, v4 a b c e ≠ s → rdU (hdB k d ++ [a, b, c, e]) = (4, 0, [], 0) := by
      intro a b c e hv
      rw [rd_enc k d a b c e hk hd, hss, if_pos hv]
    have q0 : (be4 s).getD 0 0 = s / 16777216 := rfl
    have q1 : (be4 s).getD 1 0 = s / 65536 % 256 := rfl
    have q2 : (be4 s).getD 2 0 = s / 256 % 256 := rfl
    have q3 : (be4 s).getD 3 0 = s % 256 := rfl
    have hjj : j = 0 ∨ j = 1 ∨ j = 2 ∨ j = 3 := by omega
    rcases hjj with h | h | h | h <;> rw [h] at hne2 ⊢
    · refine key y (s / 65536 % 256) (s / 256 % 256) (s % 256) ?_
      rw [q0] at hne2; unfold v4; omega
    · refine key (s / 16777216) y (s / 256 % 256) (s % 256) ?_
      rw [q1] at hne2; unfold v4; omega
    · refine key (s / 16777216) (s / 65536 % 256) y (s % 256) ?_
      rw [q2] at hne2; unfold v4; omega
    · refine key (s / 16777216) (s / 65536 % 256) (s / 256 % 256) y ?_
      rw [q3] at hne2; unfold v4; omega
/-- .. so Next says -/
theorem nx_turned (c : List Nat) (h : rdU c = (4, 0, [], 0)) (hl : 0 < c.length) : nxU c 0 = (some ([(unS, 0)], 4), 0, [], 0, 0) := by
  unfold nxU
  rw [if_neg (by omega)]
  have e : List.drop (Int.toNat 0) c = c := rfl
  rw [e, h]
  exact if_neg (by decide)
end Go.Proofs.YtlaedbglclmheaaGreatDoor

/- kinlaw4.UnitTurned: the walk. -/
namespace Go.Proofs.YtlaedbglclmheaaGreatDoor
set_option linter.unusedVariables false
set_option linter.unusedSimpArgs false
open Go.RowKit Go.Extern.Stop Go.Stop Go.Extern

theorem xor_u8 {a b : Nat} (ha : a < 256) (hb : b < 256) : bits .xor .u8 (a : Int) (b : Int) = ((a ^^^ b : Nat) : Int) := by
  have h := Nat.xor_lt_two_pow (n := 8) ha hb
  have e : (BitVec.ofInt 8 (a : Int) ^^^ BitVec.ofInt 8 (b : Int)).toNat = a ^^^ b := by
    rw [ofInt8_nat, ofInt8_nat, BitVec.toNat_xor, BitVec.toNat_ofNat, BitVec.toNat_ofNat, Nat.mod_eq_of_lt ha, Nat.mod_eq_of_lt hb]
  show IntKind.u8.wrap (((BitVec.ofInt 8 (a : Int) ^^^ BitVec.ofInt 8 (b : Int)).toNat : Nat) : Int) = _
  rw [e, IntKind.wrap_u8]
  omega
theorem xor_ne {a b : Nat} (hb : b ≠ 0) : a ^^^ b ≠ a := fun h => by
  have := congrArg (a ^^^ ·) h
  simp only [← Nat.xor_assoc, Nat.xor_self, Nat.zero_xor] at this
  exact hb this
theorem Bys.setAt {w : World} {g off n cap i y : Nat} {bs : List Nat} (h : Bys w (.slice (some ⟨g, off, none⟩) n cap) bs) (hi : i < n) (hy : y < 256) : Bys (w.setCell ⟨g, off + i, none⟩ (.int .u8 (y : Int))) (.slice (some ⟨g, off, none⟩) n cap) (bs.set i y) := by
  have hl := h.len
  have hc := h.caps
  refine ⟨⟨some ⟨g, off, none⟩, cap, by rw [List.length_set, ← hl], by rw [List.length_set, ← hl]; exact hc.1, hc.2, fun _ => ⟨_, _, rfl⟩, fun g' off' ha j u hu => ?_⟩, fun x hx => ?_, by rw [List.length_set]; exact h.2.2⟩
  · simp only [Option.some.injEq, Addr.mk.injEq, and_true] at ha
    obtain ⟨rfl, rfl⟩ := ha
    rw [List.getElem?_map, List.getElem?_set] at hu
    by_cases e : i = j
    · subst e
      rw [if_pos rfl, if_pos (by omega)] at hu
      cases hu
      exact World.cell?_setCell_same _ _ _ (h.at (nget_of_lt (by omega)))
    · rw [if_neg e] at hu
      obtain ⟨x, hx, rfl⟩ := Option.map_eq_some_iff.1 hu
      rw [cell_off_ne _ (by omega)]
      exact h.at hx
  · rcases List.mem_or_eq_of_mem_set hx with hx | rfl
    · exact h.2.1 x hx
    · exact hy
theorem own_parts {w : World} {base n : Nat} {v : Value} {xs : List Value} (h : w.ownsRow base 5 1 v n xs) (hn : 0 < n) : ∃ g cap, v = .slice (some ⟨g, 0, none⟩) n cap ∧ base ≤ g ∧ ∀ j, w.frozen? ⟨g, j, none⟩ = false := by
  rcases h.2 with ⟨-, h0⟩ | ⟨g, cap, cur, rfl, hb, hg, -⟩
  · omega
  · exact ⟨g, cap, rfl, hb, fun j => by simp [World.frozen?, hg]⟩
end Go.Proofs.YtlaedbglclmheaaGreatDoor

/- kinlaw4.UnitLong: the walk. -/
namespace Go.Proofs.YtlaedbglclmheaaGreatDoor
set_option linter.unusedVariables false
set_option linter.unusedSimpArgs false
open Go.RowKit Go.Extern.Stop Go.Stop Go.Extern

theorem rep_set (x N i : Nat) (h : i < N) : (List.replicate i x ++ List.replicate (N - i) 0).set i x = List.replicate (i + 1) x ++ List.replicate (N - (i + 1)) 0 := by
  rw [List.set_append, if_neg (by rw [List.length_replicate]; omega), List.length_replicate, Nat.sub_self]
  obtain ⟨m, hm⟩ : ∃ m, N - i = m + 1 := ⟨N - i - 1, by omega⟩
  rw [hm, show N - (i + 1) = m by omega, List.replicate_succ, List.set_cons_zero, List.replicate_succ', List.append_assoc]
  rfl
/-- bytes that may be written -/
def Wr (w : World) (g n c : Nat) (bs : List Nat) : Prop := Bys w (.slice (some ⟨g, 0, none⟩) n c) bs ∧ ∀ j, w.frozen? ⟨g, j, none⟩ = false
theorem Wr.set {w : World} {g n c i y : Nat} {bs : List Nat} (h : Wr w g n c bs) (hi : i < n) (hy : y < 256) : Wr (w.setCell ⟨g, i, none⟩ (.int .u8 (y : Int))) g n c (bs.set i y) := by
  have := h.1.setAt hi hy
  rw [Nat.zero_add] at this
  exact ⟨this, fun j => by have := h.2 j; simpa using this⟩
/-- what Next says of a unit that was made -/
theorem nx_made (k : Nat) (d : List Nat) (hk : k ≠ 0) (hd : d.length ≤ 65536) (hs : crc (hdB k d) < 4294967296) : nxU (encB k d) 0 = (none, k, d, 0, ((d.length + 8 : Nat) : Int) + 0) := by
  have h : rdU (encB k d) = (0, k, d, d.length + 8) := by
    rw [enc_form k d hk]
    have hv : v4 (crc (hdB k d) / 16777216) (crc (hdB k d) / 65536 % 256) (crc (hdB k d) / 256 % 256) (crc (hdB k d) % 256) = crc (hdB k d) := by unfold v4; omega
    have := rd_enc k d (crc (hdB k d) / 16777216) (crc (hdB k d) / 65536 % 256) (crc (hdB k d) / 256 % 256) (crc (hdB k d) % 256) hk hd
    rw [hv, if_neg (by simp)] at this
    exact this
  have hl : 0 < (encB k d).length := by rw [encB_len, if_neg hk]; omega
  unfold nxU
  rw [if_neg (by omega)]
  have e : List.drop (Int.toNat 0) (encB k d) = encB k d := rfl
  rw [e, h]
  exact if_pos rfl
theorem own_frm {w : World} {base n : Nat} {v : Value} {e : TypeId} {s : Nat} {xs : List Value} (h : w.ownsRow base e s v n xs) : ∃ a c, v = .slice a n c := by
  rcases h.2 with ⟨rfl, h0⟩ | ⟨g, cap, cur, rfl, -⟩
  · exact ⟨none, 0, by rw [h0]⟩
  · exact ⟨_, _, rfl⟩
end Go.Proofs.YtlaedbglclmheaaGreatDoor
