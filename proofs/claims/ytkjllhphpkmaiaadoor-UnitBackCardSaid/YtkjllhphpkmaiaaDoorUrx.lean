/- kinref4.Next: its contract over this seat's translation. -/
import Derived.Test.YtkjllhphpkmaiaaDoorUrn
import Derived.Deep.RegionLaw
namespace Go.Proofs.YtkjllhphpkmaiaaDoor
set_option linter.unusedVariables false
set_option linter.unusedSimpArgs false
open Go.RowKit Go.Extern.Stop Go.Stop Go.Extern

/-- a unit in its variable, a result behind it -/
theorem cells6 {w : World} {R : Nat} {x0 x1 x2 x3 y0 y1 : Value} (h0 : w.cell? ⟨R, 0, none⟩ = some x0) (h1 : w.cell? ⟨R, 1, none⟩ = some x1) (h2 : w.cell? ⟨R, 2, none⟩ = some x2) (h3 : w.cell? ⟨R, 3, none⟩ = some x3) (g0 : w.cell? ⟨R + 1, 0, none⟩ = some y0) (g1 : w.cell? ⟨R + 1, 1, none⟩ = some y1) (a b c d e f : Value) (W : World) (hW : W = (((((w.setCell ⟨R, 0, none⟩ a).setCell ⟨R, 1, none⟩ b).setCell ⟨R, 2, none⟩ c).setCell ⟨R, 3, none⟩ d).setCell ⟨R + 1, 0, none⟩ e).setCell ⟨R + 1, 1, none⟩ f) :
    (W.cell? ⟨R, 0, none⟩ = some a ∧ W.cell? ⟨R, 1, none⟩ = some b ∧ W.cell? ⟨R, 2, none⟩ = some c ∧ W.cell? ⟨R, 3, none⟩ = some d) ∧ W.cell? ⟨R + 1, 0, none⟩ = some e ∧ W.cell? ⟨R + 1, 1, none⟩ = some f := by
  subst hW
  have o : ∀ (w : World) (i j : Nat) (u : Value), (w.setCell ⟨R + 1, i, none⟩ u).cell? ⟨R, j, none⟩ = w.cell? ⟨R, j, none⟩ := fun w i j u => World.cell?_setCell_other w _ _ u (fun h => by have := congrArg Addr.block h; simp at this)
  have o2 : ∀ (w : World) (i j : Nat) (u : Value), (w.setCell ⟨R, i, none⟩ u).cell? ⟨R + 1, j, none⟩ = w.cell? ⟨R + 1, j, none⟩ := fun w i j u => World.cell?_setCell_other w _ _ u (fun h => by have := congrArg Addr.block h; simp at this)
  have s : ∀ (w : World) (p : Addr) (u x : Value), w.cell? p = some x → (w.setCell p u).cell? p = some u := fun w p u x h => World.cell?_setCell_same _ _ _ h
  obtain ⟨q0, q1, q2, q3⟩ := ucells h0 h1 h2 h3 a b c d
  refine ⟨⟨?_, ?_, ?_, ?_⟩, ?_, ?_⟩
  · rw [o, o]; exact q0
  · rw [o, o]; exact q1
  · rw [o, o]; exact q2
  · rw [o, o]; exact q3
  · rw [cell_off_ne _ (by decide)]
    exact s _ _ _ y0 (by rw [o2, o2, o2, o2]; exact g0)
  · exact s _ _ _ y1 (by rw [cell_off_ne _ (by decide), o2, o2, o2, o2]; exact g1)
theorem ext6 {w0 w : World} (h : Ext w0 w) (a b c d e f : Value) : Ext w0 ((((((w.setCell ⟨w0.heap.size, 0, none⟩ a).setCell ⟨w0.heap.size, 1, none⟩ b).setCell ⟨w0.heap.size, 2, none⟩ c).setCell ⟨w0.heap.size, 3, none⟩ d).setCell ⟨w0.heap.size + 1, 0, none⟩ e).setCell ⟨w0.heap.size + 1, 1, none⟩ f) :=
  (((((h.setCell (p := ⟨w0.heap.size, 0, none⟩) (Nat.le_refl _) a).setCell (p := ⟨w0.heap.size, 1, none⟩) (Nat.le_refl _) b).setCell (p := ⟨w0.heap.size, 2, none⟩) (Nat.le_refl _) c).setCell (p := ⟨w0.heap.size, 3, none⟩) (Nat.le_refl _) d).setCell (p := ⟨w0.heap.size + 1, 0, none⟩) (Nat.le_succ _) e).setCell (p := ⟨w0.heap.size + 1, 1, none⟩) (Nat.le_succ _) f
theorem own6 {w : World} {B R : Nat} {v : Value} {t : TypeId} {s n : Nat} {xs : List Value} (h : w.ownsRow B t s v n xs) (hb : R + 2 ≤ B) (a b c d e f : Value) : ((((((w.setCell ⟨R, 0, none⟩ a).setCell ⟨R, 1, none⟩ b).setCell ⟨R, 2, none⟩ c).setCell ⟨R, 3, none⟩ d).setCell ⟨R + 1, 0, none⟩ e).setCell ⟨R + 1, 1, none⟩ f).ownsRow (R + 2) t s v n xs :=
  have p0 : R < R + 2 := by omega
  have p1 : R + 1 < R + 2 := by omega
  own_cell_lt (own_cell_lt (own_cell_lt (own_cell_lt (own_cell_lt (own_cell_lt (owns_base h hb) _ p0) _ p0) _ p0) _ p0) _ p1) _ p1
/-- bytes of the call's own, known whole -/
def Byo (w : World) (base : Nat) (u : Value) (D : List Nat) : Prop := w.ownsRow base 5 1 u D.length (byC D) ∧ (∀ x ∈ D, x < 256) ∧ D.length ≤ 100000
theorem Byo.nil (w : World) (base : Nat) : Byo w base (.slice none 0 0) [] := ⟨World.ownsRow_nil _ _ _ _, by simp, by simp⟩
theorem Byo.bys {w : World} {base : Nat} {u : Value} {D : List Nat} (h : Byo w base u D) : Bys w u D := Bys.of_owns h.1 h.2.1 (by have := h.2.2; omega)
def RNOwn (w : World) (R : Fall × Nat × List Nat × Int × Int) (e : Ending) (w' : World) : Prop := ∃ u c x, e = .returned (.tuple #[.agg #[.int .i64 (R.2.1 : Int), u, .int .i64 R.2.2.2.1, .int .i64 R.2.2.2.2], .agg #[.int .i64 c, x]]) ∧ Byo w' w.heap.size u R.2.2.1 ∧ RErrIs w' R.1 c x ∧ Ext w w'
def RNPost (w : World) (R : Fall × Nat × List Nat × Int × Int) (e : Ending) (w' : World) : Prop := ∃ u c x, e = .returned (.tuple #[.agg #[.int .i64 (R.2.1 : Int), u, .int .i64 R.2.2.2.1, .int .i64 R.2.2.2.2], .agg #[.int .i64 c, x]]) ∧ Bys w' u R.2.2.1 ∧ RErrIs w' R.1 c x ∧ Ext w w'
theorem val_ln {c : List Nat} (h : 4 ≤ c.length) : val ((c.drop 1).take (4 - 1)) = lnB c := by
  match c, h with
  | x0 :: x1 :: x2 :: x3 :: t, _ =>
    show ((0 * 256 + x1) * 256 + x2) * 256 + x3 = (x1 * 256 + x2) * 256 + x3
    omega
theorem val_sm {c : List Nat} {e : Nat} (h : e + 4 ≤ c.length) : val ((c.drop e).take 4) = smB c e := by
  have hd : ∀ j, (c.drop e).getD j 0 = c.getD (e + j) 0 := fun j => by simp only [List.getD_eq_getElem?_getD, List.getElem?_drop]
  have hl : 4 ≤ (c.drop e).length := by rw [List.length_drop]; omega
  have h0 := hd 0
  have h1 := hd 1
  have h2 := hd 2
  have h3 := hd 3
  unfold smB
  rw [Nat.add_zero] at h0
  rw [← h0, ← h1, ← h2, ← h3]
  match c.drop e, hl with
  | x0 :: x1 :: x2 :: x3 :: t, _ =>
    show (((0 * 256 + x0) * 256 + x1) * 256 + x2) * 256 + x3 = ((x0 * 256 + x1) * 256 + x2) * 256 + x3
    omega
set_option maxHeartbeats 8000000 in
set_option maxRecDepth 20000 in
theorem rnext_own (bs : List Nat) (at' : Int) (v : Value) (w : World) (h : Bys w v bs) : Calls Tryd.prog 22 #[v, .int .i64 at'] w (RNOwn w (nxU bs at')) := by
  obtain ⟨a, cap, rfl⟩ := h.form
  obtain ⟨n, hn⟩ : ∃ n, bs.length = n := ⟨_, rfl⟩
  rw [hn] at h ⊢
  have hl := h.2.2
  have hcp := h.caps
  have HB := Lib.hid h
  have HN := Lib.hid hn
  have A1 : Ext w (w.alloc (.cells #[.int .i64 0, .slice none 0 0, .int .i64 0, .int .i64 0] 44)) := (Ext.refl w).alloc _
  have A2 := A1.alloc (.cells #[.int .i64 0, .slice none 0 0] 32)
  have HE2 := Lib.hid A2
  have HU2 := Lib.hid ((UBox.new w 0 (.slice none 0 0) 0 0 44).ext ((Ext.refl _).alloc (.cells #[.int .i64 0, .slice none 0 0] 32)))
  have HRS : Hid (ResAt ((w.alloc (.cells #[.int .i64 0, .slice none 0 0, .int .i64 0, .int .i64 0] 44)).alloc (.cells #[.int .i64 0, .slice none 0 0] 32)) (w.heap.size + 1)) := by
    have := ResAt.new (w.alloc (.cells #[.int .i64 0, .slice none 0 0, .int .i64 0, .int .i64 0] 44))
    rw [show (w.alloc (.cells #[.int .i64 0, .slice none 0 0, .int .i64 0, .int .i64 0] 44)).heap.size = w.heap.size + 1 by simp] at this
    exact this
  by_cases h0 : at' < 0
  · have HR : Hid (nxU bs at' = (some ([], 7), 0, [], 0, 0)) := by show _ = _; unfold nxU; rw [if_pos (.inl h0)]
    clear h hn A1 A2
    go_enter Tryd.func22, Tryd.ntmps22
    go_wp2_with fail
    refine (fail_any 7 _).mono ?_; rintro e w1 ⟨rfl, hx1⟩
    have HU := Lib.hid (HU2.out.ext hx1)
    have HR2 := Lib.hid (HRS.out.ext hx1)
    have HE1 := Lib.hid (HE2.out.trans hx1)
    clear hx1
    obtain ⟨⟨u0, u1, u2, u3⟩, u4, u5, u6, u7⟩ := HU.out
    obtain ⟨g0, g1, g2, g3⟩ := HR2.out
    go_wp2
    obtain ⟨⟨y0, y1, y2, y3⟩, z0, z1⟩ := cells6 u0 u1 u2 u3 g0 g1 (.int .i64 0) (.slice none 0 0) (.int .i64 0) (.int .i64 0) (.int .i64 7) (.slice none 0 0) _ rfl
    refine bodyPost_ret (v := .tuple #[.agg #[.int .i64 0, .slice none 0 0, .int .i64 0, .int .i64 0], .agg #[.int .i64 7, .slice none 0 0]]) (by simp [results, Tryd.results22, go_sem, y0, y1, y2, y3, z0, z1]) rfl ⟨.slice none 0 0, 7, .slice none 0 0, by rw [HR.out]; rfl, by rw [HR.out]; exact Byo.nil _ _, by rw [HR.out]; exact RErrIs.code (by decide), ext6 HE1.out _ _ _ _ _ _⟩
  · by_cases h1 : (n : Int) ≤ at'
    · have HR : Hid (nxU bs at' = (some ([], 7), 0, [], 0, 0)) := by show _ = _; unfold nxU; rw [if_pos (.inr (by rw [hn]; exact h1))]
      clear h hn A1 A2
      go_enter Tryd.func22, Tryd.ntmps22
      go_wp2_with fail
      refine (fail_any 7 _).mono ?_; rintro e w1 ⟨rfl, hx1⟩
      have HU := Lib.hid (HU2.out.ext hx1)
      have HR2 := Lib.hid (HRS.out.ext hx1)
      have HE1 := Lib.hid (HE2.out.trans hx1)
      clear hx1
      obtain ⟨⟨u0, u1, u2, u3⟩, u4, u5, u6, u7⟩ := HU.out
      obtain ⟨g0, g1, g2, g3⟩ := HR2.out
      go_wp2
      obtain ⟨⟨y0, y1, y2, y3⟩, z0, z1⟩ := cells6 u0 u1 u2 u3 g0 g1 (.int .i64 0) (.slice none 0 0) (.int .i64 0) (.int .i64 0) (.int .i64 7) (.slice none 0 0) _ rfl
      refine bodyPost_ret (v := .tuple #[.agg #[.int .i64 0, .slice none 0 0, .int .i64 0, .int .i64 0], .agg #[.int .i64 7, .slice none 0 0]]) (by simp [results, Tryd.results22, go_sem, y0, y1, y2, y3, z0, z1]) rfl ⟨.slice none 0 0, 7, .slice none 0 0, by rw [HR.out]; rfl, by rw [HR.out]; exact Byo.nil _ _, by rw [HR.out]; exact RErrIs.code (by decide), ext6 HE1.out _ _ _ _ _ _⟩
    · obtain ⟨k, rfl⟩ : ∃ k : Nat, at' = (k : Int) := ⟨at'.toNat, by omega⟩
      obtain ⟨g, off, rfl⟩ := h.had (by omega)
      have hdl : (bs.drop k).length = n - k := by rw [List.length_drop, hn]
      have hcut := h.cut (lo := k) (hi := n) (by omega) (Nat.le_refl _)
      rw [List.take_of_length_le (by rw [hdl]; exact Nat.le_refl _)] at hcut
      have c0 := (h.ext A2).at (nget_of_lt (bs := bs) (j := k) (by rw [hn]; omega))
      have hc0 : bs.getD k 0 = (bs.drop k).getD 0 0 := by simp only [List.getD_eq_getElem?_getD, List.getElem?_drop, Nat.add_zero]
      rw [hc0] at c0
      have hR0 : nxU bs (k : Int) = if (rdU (bs.drop k)).1 = 0 then (none, (rdU (bs.drop k)).2.1, (rdU (bs.drop k)).2.2.1, (k : Int), ((rdU (bs.drop k)).2.2.2 : Int) + (k : Int)) else (some ([(unS, (k : Int))], (rdU (bs.drop k)).1), 0, [], 0, 0) := by
        unfold nxU
        rw [if_neg (by rw [hn]; omega)]
        rfl
      obtain ⟨c, hc⟩ : ∃ c, bs.drop k = c := ⟨_, rfl⟩
      rw [hc] at hdl hcut c0 hR0
      obtain ⟨m, hm⟩ : ∃ m, n - k = m := ⟨_, rfl⟩
      rw [hm] at hdl hcut
      have hm0 : 0 < m := by omega
      have HCL := Lib.hid hdl
      have HCT := Lib.hid (hcut.ext A2)
      have HR0 := Lib.hid hR0
      have hclt := hcut.lt
      have hcapm := hcut.caps
      obtain ⟨b0, hb0⟩ : ∃ b0, c.getD 0 0 = b0 := ⟨_, rfl⟩
      have l0 := hclt 0
      rw [hb0] at c0 l0
      have m1 : IntKind.i64.wrap (k : Int) = (k : Int) := by rw [IntKind.wrap_i64]; omega
      have m2 : IntKind.i64.wrap ((k : Int) + 1) = (k : Int) + 1 := by rw [IntKind.wrap_i64]; omega
      have x1 : (0 : Int) ≤ (k : Int) := by omega
      have x2 : (k : Int) < (n : Int) := by omega
      have x3 : (k : Int) ≤ (n : Int) := by omega
      have x4 : (k : Int) ≤ (cap : Int) := by omega
      have HUq := HU2
      have HRq := HRS
      have HEq := HE2
      have HSq : Hid (w.heap.size + 2 ≤ ((w.alloc (.cells #[.int .i64 0, .slice none 0 0, .int .i64 0, .int .i64 0] 44)).alloc (.cells #[.int .i64 0, .slice none 0 0] 32)).heap.size) := by show _ ≤ _; simp
      clear hcut h hn A1 A2 hc hc0 hdl hR0
      by_cases hz : b0 = 0
      · subst hz
        have hRd : rdU c = (0, 0, [], 1) := by unfold rdU; rw [if_pos hb0]
        have HR : Hid (nxU bs (k : Int) = (none, 0, [], (k : Int), (k : Int) + 1)) := by
          show _ = _
          rw [HR0.out, hRd]
          show (none, 0, [], (k : Int), ((1 : Nat) : Int) + (k : Int)) = _
          rw [show ((1 : Nat) : Int) + (k : Int) = (k : Int) + 1 by omega]
        clear hRd
        go_enter Tryd.func22, Tryd.ntmps22
        have HE9 := Lib.hid (((Ext.refl w).alloc (.cells #[.int .i64 0, .slice none 0 0, .int .i64 (k : Int), .int .i64 ((k : Int) + 1)] 44)).alloc (.cells #[.int .i64 0, .slice none 0 0] 32))
        go_wp2
        exact bodyPost_ret (v := .tuple #[.agg #[.int .i64 0, .slice none 0 0, .int .i64 (k : Int), .int .i64 ((k : Int) + 1)], .agg #[.int .i64 0, .slice none 0 0]]) (by simp [results, Tryd.results22, go_sem]) rfl ⟨.slice none 0 0, 0, .slice none 0 0, by rw [HR.out]; rfl, by rw [HR.out]; exact Byo.nil _ _, by rw [HR.out]; exact RErrIs.zero, HE9.out⟩
      · have z0 : ((b0 : Int) == 0) = false := by rw [beq_eq_false_iff_ne]; omega
        by_cases h4 : m < 4
        · have h4' : (m : Int) < 4 := by omega
          have hRd : rdU c = (1, 0, [], 0) := by unfold rdU; rw [if_neg (by rw [hb0]; exact hz), if_pos (by rw [HCL.out]; exact h4)]
          have HR : Hid (nxU bs (k : Int) = (some ([(unS, (k : Int))], 1), 0, [], 0, 0)) := by show _ = _; rw [HR0.out, hRd]; exact if_neg (by decide)
          clear hRd
          go_enter Tryd.func22, Tryd.ntmps22
          go_wp2_with fail
          refine (wrap_any unS (k : Int) 1 _ (by decide)).mono ?_; rintro e wc ⟨v2, rfl, hoC, hxC⟩
          obtain ⟨va, vm, vc, rfl⟩ := own_slc hoC
          have HU := Lib.hid (HUq.out.ext hxC)
          have HR2 := Lib.hid (HRq.out.ext hxC)
          have HE1 := Lib.hid (HEq.out.trans hxC)
          have HOC := Lib.hid hoC
          clear hoC hxC
          obtain ⟨⟨u0, u1, u2, u3⟩, u4, u5, u6, u7⟩ := HU.out
          obtain ⟨g0, g1, g2, g3⟩ := HR2.out
          go_wp2
          obtain ⟨⟨y0, y1, y2, y3⟩, z0, z1⟩ := cells6 u0 u1 u2 u3 g0 g1 (.int .i64 0) (.slice none 0 0) (.int .i64 0) (.int .i64 0) (.int .i64 1) (.slice va vm vc) _ rfl
          refine bodyPost_ret (v := .tuple #[.agg #[.int .i64 0, .slice none 0 0, .int .i64 0, .int .i64 0], .agg #[.int .i64 1, .slice va vm vc]]) (by simp [results, Tryd.results22, go_sem, y0, y1, y2, y3, z0, z1]) rfl ⟨.slice none 0 0, 1, .slice va vm vc, by rw [HR.out]; rfl, by rw [HR.out]; exact Byo.nil _ _, by rw [HR.out]; exact ⟨rfl, by decide, Row.of_owns (own6 HOC.out HSq.out _ _ _ _ _ _)⟩, ext6 HE1.out _ _ _ _ _ _⟩
        · have h4' : ¬ (m : Int) < 4 := by omega
          obtain ⟨L, hL⟩ : ∃ L, lnB c = L := ⟨_, rfl⟩
          have hL6 : L < 16777216 := by
            have a1 := hclt 1
            have a2 := hclt 2
            have a3 := hclt 3
            rw [← hL]
            unfold lnB
            omega
          have HC1 := Lib.hid (HCT.out.cut (lo := 1) (hi := 4) (by decide) (by omega))
          have HVL : Hid (val ((c.drop 1).take (4 - 1)) = L) := by show _ = _; rw [val_ln (by rw [HCL.out]; omega)]; exact hL
          have UV1 : Hid (((c.drop 1).take (4 - 1)).length ≤ 4) := by show _ ≤ _; rw [List.length_take]; omega
          have y1 : (4 : Int) ≤ (m : Int) := by omega
          have y2 : (4 : Int) ≤ ((cap - k : Nat) : Int) := by omega
          have hRd0 : rdU c = if 65536 < L then (5, 0, [], 0) else if m < L + 8 then (1, 0, [], 0) else if smB c (4 + L) ≠ crc (c.take (4 + L)) then (4, 0, [], 0) else (0, b0, (c.drop 4).take L, L + 8) := by
            unfold rdU
            rw [if_neg (by rw [hb0]; exact hz), if_neg (by rw [HCL.out]; exact h4), hL, hb0, HCL.out]
          clear hL
          by_cases h5 : 65536 < L
          · have h5' : (65536 : Int) < (L : Int) := by omega
            have HR : Hid (nxU bs (k : Int) = (some ([(unS, (k : Int))], 5), 0, [], 0, 0)) := by show _ = _; rw [HR0.out, hRd0, if_pos h5]; exact if_neg (by decide)
            clear hRd0
            go_enter Tryd.func22, Tryd.ntmps22
            go_wp2_with fail
            refine (value_any _ _ _ HC1.out UV1.out).mono ?_; rintro e w9 ⟨rfl, rfl⟩; rw [HVL.out]
            go_wp2_with fail
            refine (wrap_any unS (k : Int) 5 _ (by decide)).mono ?_; rintro e wc ⟨v2, rfl, hoC, hxC⟩
            obtain ⟨va, vm, vc, rfl⟩ := own_slc hoC
            have HU := Lib.hid (HUq.out.ext hxC)
            have HR2 := Lib.hid (HRq.out.ext hxC)
            have HE1 := Lib.hid (HEq.out.trans hxC)
            have HOC := Lib.hid hoC
            clear hoC hxC
            obtain ⟨⟨u0, u1, u2, u3⟩, u4, u5, u6, u7⟩ := HU.out
            obtain ⟨g0, g1, g2, g3⟩ := HR2.out
            go_wp2
            obtain ⟨⟨y0, y1, y2, y3⟩, z0, z1⟩ := cells6 u0 u1 u2 u3 g0 g1 (.int .i64 0) (.slice none 0 0) (.int .i64 0) (.int .i64 0) (.int .i64 5) (.slice va vm vc) _ rfl
            refine bodyPost_ret (v := .tuple #[.agg #[.int .i64 0, .slice none 0 0, .int .i64 0, .int .i64 0], .agg #[.int .i64 5, .slice va vm vc]]) (by simp [results, Tryd.results22, go_sem, y0, y1, y2, y3, z0, z1]) rfl ⟨.slice none 0 0, 5, .slice va vm vc, by rw [HR.out]; rfl, by rw [HR.out]; exact Byo.nil _ _, by rw [HR.out]; exact ⟨rfl, by decide, Row.of_owns (own6 HOC.out HSq.out _ _ _ _ _ _)⟩, ext6 HE1.out _ _ _ _ _ _⟩
          · have h5' : ¬ (65536 : Int) < (L : Int) := by omega
            have j8 : IntKind.i64.wrap ((L : Int) + 8) = (L : Int) + 8 := by rw [IntKind.wrap_i64]; omega
            by_cases h6 : m < L + 8
            · have h6' : (m : Int) < (L : Int) + 8 := by omega
              have HR : Hid (nxU bs (k : Int) = (some ([(unS, (k : Int))], 1), 0, [], 0, 0)) := by show _ = _; rw [HR0.out, hRd0, if_neg h5, if_pos h6]; exact if_neg (by decide)
              clear hRd0
              go_enter Tryd.func22, Tryd.ntmps22
              go_wp2_with fail
              refine (value_any _ _ _ HC1.out UV1.out).mono ?_; rintro e w9 ⟨rfl, rfl⟩; rw [HVL.out]
              go_wp2_with fail
              refine (wrap_any unS (k : Int) 1 _ (by decide)).mono ?_; rintro e wc ⟨v2, rfl, hoC, hxC⟩
              obtain ⟨va, vm, vc, rfl⟩ := own_slc hoC
              have HU := Lib.hid (HUq.out.ext hxC)
              have HR2 := Lib.hid (HRq.out.ext hxC)
              have HE1 := Lib.hid (HEq.out.trans hxC)
              have HOC := Lib.hid hoC
              clear hoC hxC
              obtain ⟨⟨u0, u1, u2, u3⟩, u4, u5, u6, u7⟩ := HU.out
              obtain ⟨g0, g1, g2, g3⟩ := HR2.out
              go_wp2
              obtain ⟨⟨y0, y1, y2, y3⟩, z0, z1⟩ := cells6 u0 u1 u2 u3 g0 g1 (.int .i64 0) (.slice none 0 0) (.int .i64 0) (.int .i64 0) (.int .i64 1) (.slice va vm vc) _ rfl
              refine bodyPost_ret (v := .tuple #[.agg #[.int .i64 0, .slice none 0 0, .int .i64 0, .int .i64 0], .agg #[.int .i64 1, .slice va vm vc]]) (by simp [results, Tryd.results22, go_sem, y0, y1, y2, y3, z0, z1]) rfl ⟨.slice none 0 0, 1, .slice va vm vc, by rw [HR.out]; rfl, by rw [HR.out]; exact Byo.nil _ _, by rw [HR.out]; exact ⟨rfl, by decide, Row.of_owns (own6 HOC.out HSq.out _ _ _ _ _ _)⟩, ext6 HE1.out _ _ _ _ _ _⟩
            · have h6' : ¬ (m : Int) < (L : Int) + 8 := by omega
              rw [if_neg h5, if_neg h6] at hRd0
              obtain ⟨E, hE⟩ : ∃ E, 4 + L = E := ⟨_, rfl⟩
              obtain ⟨G, hG⟩ : ∃ G, 8 + L = G := ⟨_, rfl⟩
              have hEi : IntKind.i64.wrap (4 + (L : Int)) = (E : Int) := by rw [IntKind.wrap_i64]; omega
              have hGi : IntKind.i64.wrap (8 + (L : Int)) = (G : Int) := by rw [IntKind.wrap_i64]; omega
              have HC2 := Lib.hid (HCT.out.cut (lo := E) (hi := G) (by omega) (by omega))
              have hGE : G - E = 4 := by omega
              have HVS : Hid (val ((c.drop E).take (G - E)) = smB c E) := by show _ = _; rw [hGE]; exact val_sm (by rw [HCL.out]; omega)
              have UV2 : Hid (((c.drop E).take (G - E)).length ≤ 4) := by show _ ≤ _; rw [List.length_take, hGE]; omega
              have hcut := HCT.out.cut (lo := 0) (hi := E) (Nat.zero_le _) (by omega)
              rw [Nat.add_zero, Nat.sub_zero, Nat.sub_zero, List.drop_zero] at hcut
              have HC3 := Lib.hid hcut
              rw [hE] at hRd0
              obtain ⟨T, hT⟩ : ∃ T, smB c E = T := ⟨_, rfl⟩
              obtain ⟨S, hS⟩ : ∃ S, crc (c.take E) = S := ⟨_, rfl⟩
              have hS32 : S < 4294967296 := by rw [← hS]; exact crc_lt (fun y hy => HCT.out.2.1 y (List.mem_of_mem_take hy))
              rw [hT, hS] at hRd0
              rw [hT] at HVS
              have HSS := Lib.hid hS
              have HELE : Hid (4 + L = E) := hE
              have w1 : IntKind.i64.wrap (S : Int) = (S : Int) := by rw [IntKind.wrap_i64]; omega
              have y3 : (E : Int) ≤ (G : Int) := by omega
              have y4 : (G : Int) ≤ ((cap - k : Nat) : Int) := by omega
              have y5 : (E : Int) ≤ ((cap - k : Nat) : Int) := by omega
              have y6 : (0 : Int) ≤ (E : Int) := by omega
              have y7 : (4 : Int) ≤ (E : Int) := by omega
              have y9 : ¬ (cap - k = E) := by omega
              clear hcut hT hS hE hG hGE
              by_cases hTS : T = S
              · subst hTS
                have hne : ((T : Int) != (T : Int)) = false := by simp
                have hRd1 : rdU c = (0, b0, (c.drop 4).take L, L + 8) := by rw [hRd0]; exact if_neg (by simp)
                have HR : Hid (nxU bs (k : Int) = (none, b0, (c.drop 4).take L, (k : Int), ((L + 8 : Nat) : Int) + (k : Int))) := by show _ = _; rw [HR0.out, hRd1]; exact if_pos rfl
                clear hRd1
                have HC4 : Hid (Bys ((w.alloc (.cells #[.int .i64 0, .slice none 0 0, .int .i64 0, .int .i64 0] 44)).alloc (.cells #[.int .i64 0, .slice none 0 0] 32)) (.slice (some ⟨g, off + k + 4, none⟩) (E - 4) (cap - k - 4)) ((c.drop 4).take L)) := by
                  have hEL := HELE.out
                  have := HCT.out.cut (lo := 4) (hi := E) (by omega) (by omega)
                  have e4 : E - 4 = L := by have := HELE.out; omega
                  rw [e4] at this ⊢
                  exact this
                have HDB : Hid (∀ y ∈ (c.drop 4).take L, y < 256) := fun y hy => HCT.out.2.1 y (List.mem_of_mem_drop (List.mem_of_mem_take hy))
                have HDL : Hid (((c.drop 4).take L).length ≤ 70000) := by show _ ≤ _; rw [List.length_take]; omega
                obtain ⟨D, hD⟩ : ∃ D, (c.drop 4).take L = D := ⟨_, rfl⟩
                rw [hD] at HR HC4 HDB HDL
                have y10 : ¬ (cap - k = 4) := by omega
                have e8 : ((L + 8 : Nat) : Int) + (k : Int) = (k : Int) + (L : Int) + 8 := by omega
                rw [e8] at HR
                have hn47 : n ≤ 140737488355328 := by rw [← HN.out]; exact hl
                have b1 : IntKind.i64.wrap (b0 : Int) = (b0 : Int) := by rw [IntKind.wrap_i64]; omega
                have b2 : IntKind.i64.wrap ((k : Int) + (L : Int)) = (k : Int) + (L : Int) := by rw [IntKind.wrap_i64]; omega
                have b3 : IntKind.i64.wrap ((k : Int) + (L : Int) + 8) = (k : Int) + (L : Int) + 8 := by rw [IntKind.wrap_i64]; omega
                clear hRd0 hD e8
                go_enter Tryd.func22, Tryd.ntmps22
                go_wp2_with fail
                refine (value_any _ _ _ HC1.out UV1.out).mono ?_; rintro e w9 ⟨rfl, rfl⟩; rw [HVL.out]
                go_wp2_with fail
                clear HU2 HRS HE2 HCT HC1
                have HC0 := Lib.hid c0
                clear c0
                revert HUq HRq HEq HSq HC2 HC3 HC4 HC0
                generalize World.alloc (World.alloc w _) _ = wq
                intro HUq HRq HEq HSq HC2 HC3 HC4 HC0
                have UQ2 : Hid (∀ i, Calls Tryd.prog 36 #[.slice (some ⟨g, off + k + E, none⟩) (G - E) (cap - k - E)] (wq.drewN i) fun e w' => e = .returned (.int .i64 (T : Int)) ∧ w' = wq.drewN i) := fun i => (value_any _ _ _ (HC2.out.ext ((Ext.refl _).drewN i)) UV2.out).mono fun e w' ⟨he, hw⟩ => ⟨by rw [he, HVS.out], hw.symm⟩
                have UQ3 : Hid (∀ i, Calls Tryd.prog 18 #[.slice (some ⟨g, off + k, none⟩) E (cap - k)] (wq.drewN i) fun e w' => e = .returned (.int .u32 (T : Int)) ∧ w' = wq.drewN i) := fun i => (rsum_any (c.take E) _ _ (HC3.out.ext ((Ext.refl _).drewN i))).mono fun e w' ⟨he, hw⟩ => ⟨by rw [he, HSS.out], hw.symm⟩
                go_quiet (first | (go_at_call 36; exact Calls.quiet_of_same (UQ2.out _)) | (go_at_call 18; exact Calls.quiet_of_same (UQ3.out _)))
                clear UQ2 UQ3 HC2 HC3
                have D1 := ((Ext.refl wq).drewN nq).drew
                have HUz := Lib.hid (HUq.out.ext D1)
                have HRz := Lib.hid (HRq.out.ext D1)
                have HEz := Lib.hid (HEq.out.trans D1)
                have HSz := Lib.hid (Nat.le_trans HSq.out D1.size)
                have HCz := Lib.hid (HC4.out.ext D1)
                have HC0z := Lib.hid (D1.cell HC0.out)
                have c0 := HC0z.out
                have c00 := HC0.out
                have c01 := ((Ext.refl wq).drewN nq).cell HC0.out
                clear D1 HUq HRq HEq HSq HC4 HC0
                go_wp2_with fail
                go_region_law (go_simp; go_at_call 11; refine (cpb_any _ _ _ HCz.out).mono ?_; rintro e wc ⟨cu, rfl, hown, hxc⟩; have HO := Lib.hid hown; have HY0 := Lib.hid (Bys.of_owns hown HDB.out (by have := HDL.out; omega)); obtain ⟨ca, cc, rfl⟩ := own_frm hown; have HUc := Lib.hid (HUz.out.ext hxc); have HRc := Lib.hid (HRz.out.ext hxc); have HEc := Lib.hid (HEz.out.trans hxc); have c1 := hxc.cell HC0z.out; obtain ⟨⟨u0, u1, u2, u3⟩, u4, u5, u6, u7⟩ := HUc.out; obtain ⟨g0, g1, g2, g3⟩ := HRc.out; clear hown hxc)
                all_goals go_wp2
                all_goals (obtain ⟨⟨y0, y1, y2, y3⟩, z0, z1⟩ := cells6 u0 u1 u2 u3 g0 g1 (.int .i64 (b0 : Int)) (.slice ca D.length cc) (.int .i64 (k : Int)) (.int .i64 ((k : Int) + (L : Int) + 8)) (.int .i64 0) (.slice none 0 0) _ rfl)
                all_goals (refine bodyPost_ret (v := .tuple #[.agg #[.int .i64 (b0 : Int), .slice ca D.length cc, .int .i64 (k : Int), .int .i64 ((k : Int) + (L : Int) + 8)], .agg #[.int .i64 0, .slice none 0 0]]) (by simp [results, Tryd.results22, go_sem, y0, y1, y2, y3, z0, z1]) rfl ⟨.slice ca D.length cc, 0, .slice none 0 0, by simp only [HR.out], ?_, by rw [HR.out]; exact RErrIs.zero, ext6 HEc.out _ _ _ _ _ _⟩)
                all_goals (have hDD : (nxU bs (k : Int)).2.2.1 = D := by rw [HR.out])
                all_goals (rw [hDD]; exact ⟨owns_base (own6 HO.out HSz.out _ _ _ _ _ _) (by omega), HDB.out, by have := HDL.out; omega⟩)
              · have hne : ((T : Int) != (S : Int)) = true := by rw [bne_iff_ne]; omega
                have HR : Hid (nxU bs (k : Int) = (some ([(unS, (k : Int))], 4), 0, [], 0, 0)) := by show _ = _; rw [HR0.out, hRd0, if_pos hTS]; exact if_neg (by decide)
                clear hRd0
                go_enter Tryd.func22, Tryd.ntmps22
                go_wp2_with fail
                refine (value_any _ _ _ HC1.out UV1.out).mono ?_; rintro e w9 ⟨rfl, rfl⟩; rw [HVL.out]
                go_wp2_with fail
                clear HU2 HRS HE2 c0 HCT HC1
                revert HUq HRq HEq HSq HC2 HC3
                generalize World.alloc (World.alloc w _) _ = wq
                intro HUq HRq HEq HSq HC2 HC3
                have UQ2 : Hid (∀ i, Calls Tryd.prog 36 #[.slice (some ⟨g, off + k + E, none⟩) (G - E) (cap - k - E)] (wq.drewN i) fun e w' => e = .returned (.int .i64 (T : Int)) ∧ w' = wq.drewN i) := fun i => (value_any _ _ _ (HC2.out.ext ((Ext.refl _).drewN i)) UV2.out).mono fun e w' ⟨he, hw⟩ => ⟨by rw [he, HVS.out], hw.symm⟩
                have UQ3 : Hid (∀ i, Calls Tryd.prog 18 #[.slice (some ⟨g, off + k, none⟩) E (cap - k)] (wq.drewN i) fun e w' => e = .returned (.int .u32 (S : Int)) ∧ w' = wq.drewN i) := fun i => (rsum_any (c.take E) _ _ (HC3.out.ext ((Ext.refl _).drewN i))).mono fun e w' ⟨he, hw⟩ => ⟨by rw [he, HSS.out], hw.symm⟩
                go_quiet (first | (go_at_call 36; exact Calls.quiet_of_same (UQ2.out _)) | (go_at_call 18; exact Calls.quiet_of_same (UQ3.out _)))
                revert HUq HRq HEq HSq HC2
                have D1 := (Ext.refl wq).drewN nq
                intro HUq HRq HEq HSq HC2
                have HUq := Lib.hid (HUq.out.ext D1)
                have HRq := Lib.hid (HRq.out.ext D1)
                have HEq := Lib.hid (HEq.out.trans D1)
                have HSq := Lib.hid (Nat.le_trans HSq.out D1.size)
                clear D1
                revert HUq HRq HEq HSq
                generalize wq.drewN nq = wz
                intro HUq HRq HEq HSq
                go_wp2_with fail
                refine (wrap_any unS (k : Int) 4 _ (by decide)).mono ?_; rintro e wc ⟨v2, rfl, hoC, hxC⟩
                obtain ⟨va, vm, vc, rfl⟩ := own_slc hoC
                have HU := Lib.hid (HUq.out.ext hxC)
                have HR2 := Lib.hid (HRq.out.ext hxC)
                have HE1 := Lib.hid (HEq.out.trans hxC)
                have HOC := Lib.hid hoC
                clear hoC hxC
                obtain ⟨⟨u0, u1, u2, u3⟩, u4, u5, u6, u7⟩ := HU.out
                obtain ⟨g0, g1, g2, g3⟩ := HR2.out
                go_wp2
                obtain ⟨⟨y0, y1, y2, y3⟩, z0, z1⟩ := cells6 u0 u1 u2 u3 g0 g1 (.int .i64 0) (.slice none 0 0) (.int .i64 0) (.int .i64 0) (.int .i64 4) (.slice va vm vc) _ rfl
                refine bodyPost_ret (v := .tuple #[.agg #[.int .i64 0, .slice none 0 0, .int .i64 0, .int .i64 0], .agg #[.int .i64 4, .slice va vm vc]]) (by simp [results, Tryd.results22, go_sem, y0, y1, y2, y3, z0, z1]) rfl ⟨.slice none 0 0, 4, .slice va vm vc, by rw [HR.out]; rfl, by rw [HR.out]; exact Byo.nil _ _, by rw [HR.out]; exact ⟨rfl, by decide, Row.of_owns (own6 HOC.out HSq.out _ _ _ _ _ _)⟩, ext6 HE1.out _ _ _ _ _ _⟩
theorem rnext_any (bs : List Nat) (at' : Int) (v : Value) (w : World) (h : Bys w v bs) : Calls Tryd.prog 22 #[v, .int .i64 at'] w (RNPost w (nxU bs at')) :=
  (rnext_own bs at' v w h).mono fun _ _ ⟨u, c, x, e, h1, h2, h3⟩ => ⟨u, c, x, e, h1.bys, h2, h3⟩
end Go.Proofs.YtkjllhphpkmaiaaDoor
