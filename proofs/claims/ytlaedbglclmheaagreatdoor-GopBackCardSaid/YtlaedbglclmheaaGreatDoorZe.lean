/- Contracts of this seat: Urn, Urx, Us2, Unm, Urm, Uk1, Un1, Us3, Uj1, Ub1. -/
import Derived.Test.YtlaedbglclmheaaGreatDoorZd
import Derived.Deep.RegionLaw
import Derived.BigRegion
import Derived.Deep.RegionHeld3
/- kinref4.Value, kinref4.Next: contracts over this seat's translation. -/
namespace Go.Proofs.YtlaedbglclmheaaGreatDoor
set_option linter.unusedVariables false
set_option linter.unusedSimpArgs false
open Go.RowKit Go.Extern.Stop Go.Stop Go.Extern

theorem val_take {bs : List Nat} {i x : Nat} (h : bs[i]? = some x) : val (bs.take (i + 1)) = val (bs.take i) * 256 + x := by
  unfold val
  rw [List.take_add_one, h, List.foldl_append]
  rfl
theorem val_lt : ∀ (n : Nat) {bs : List Nat}, bs.length ≤ n → (∀ x ∈ bs, x < 256) → val bs < 256 ^ n
  | 0, bs, h, _ => by
    obtain rfl : bs = [] := List.eq_nil_of_length_eq_zero (by omega)
    decide
  | n + 1, bs, h, hb => by
    by_cases he : bs.length ≤ n
    · have := val_lt n he hb
      have h2 : 256 ^ n ≤ 256 ^ (n + 1) := Nat.pow_le_pow_right (by decide) (by omega)
      omega
    · obtain ⟨x, hx⟩ : ∃ x, bs[n]? = some x := ⟨bs[n], List.getElem?_eq_getElem (by omega)⟩
      have ht := val_take hx
      rw [List.take_of_length_le (by omega)] at ht
      have h1 := val_lt n (bs := bs.take n) (by rw [List.length_take]; omega) (fun y hy => hb y (List.mem_of_mem_take hy))
      have hxb := hb x (List.mem_of_getElem? hx)
      rw [ht, Nat.pow_succ]
      omega
set_option maxHeartbeats 4000000 in
set_option maxRecDepth 20000 in
theorem value_any (bs : List Nat) (v : Value) (w : World) (h : Bys w v bs) (hl : bs.length ≤ 4) : Calls Tryz.prog 143 #[v] w fun e w' => e = .returned (.int .i64 (val bs : Int)) ∧ w = w' := by
  obtain ⟨a, cap, rfl⟩ := h.form
  obtain ⟨n, hn'⟩ : ∃ n, n = bs.length := ⟨_, rfl⟩
  rw [← hn'] at h hl ⊢
  have HN := Lib.hid hn'
  have HB := Lib.hid h
  clear hn' h
  go_enter Tryz.func143, Tryz.ntmps143
  go_wp2_with fail
  go_loop [3, 4] (fun sv iv => ∃ i : Nat, i ≤ n ∧ sv = .int .i64 (val (bs.take i) : Int) ∧ iv = .int .i64 (i : Int)) (fun _ iv => n - (intOf iv).toNat)
  case atStart => exact ⟨0, Nat.zero_le _, rfl, rfl⟩
  case round =>
    obtain ⟨i, hi, rfl, rfl⟩ := hrel
    by_cases hlt : i < n
    · obtain ⟨g, off, rfl⟩ := HB.out.had (by omega)
      have hx := nget_of_lt (bs := bs) (j := i) (by rw [← HN.out]; exact hlt)
      have cx := HB.out.at hx
      have hxb := HB.out.lt i
      have HS := Lib.hid (val_take hx)
      have hv3 := val_lt 3 (bs := bs.take i) (by rw [List.length_take]; omega) (fun y hy => HB.out.2.1 y (List.mem_of_mem_take hy))
      obtain ⟨x, hxx⟩ : ∃ x, bs.getD i 0 = x := ⟨_, rfl⟩
      obtain ⟨q, hq⟩ : ∃ q, val (bs.take i) = q := ⟨_, rfl⟩
      rw [hxx] at cx hxb HS
      rw [hq] at HS hv3 ⊢
      have hq3 : q < 16777216 := hv3
      obtain ⟨y, hy⟩ : ∃ y, q * 256 + x = y := ⟨_, rfl⟩
      rw [hy] at HS
      have m1 : IntKind.i64.wrap (x : Int) = (x : Int) := by rw [IntKind.wrap_i64]; omega
      have m2 : IntKind.i64.wrap ((q : Int) * 256 + (x : Int)) = (y : Int) := by rw [IntKind.wrap_i64]; omega
      have m3 : IntKind.i64.wrap ((q : Int) * 256) = (q : Int) * 256 := by rw [IntKind.wrap_i64]; omega
      have x1 : (0 : Int) ≤ (i : Int) := by omega
      have x2 : (i : Int) < (n : Int) := by omega
      clear hx hxx hq hv3 hy
      go_wp2
      go_roundw
      case rel => exact ⟨i + 1, by omega, by rw [HS.out], by go_num⟩
      case measure => simp [intOf]; omega
    · obtain rfl : i = n := by omega
      have ht : bs.take i = bs := List.take_of_length_le (by rw [← HN.out]; exact Nat.le_refl _)
      rw [ht]
      clear ht
      go_wp2
      go_ret
      exact ⟨rfl, rfl⟩
end Go.Proofs.YtlaedbglclmheaaGreatDoor

/- kinref4.Next: its contract over this seat's translation. -/
namespace Go.Proofs.YtlaedbglclmheaaGreatDoor
set_option linter.unusedVariables false
set_option linter.unusedSimpArgs false
open Go.RowKit Go.Extern.Stop Go.Stop Go.Extern

/-- a unit in its variable, a result behind it -/
theorem cells6 {w : World} {R : Nat} {x0 x1 x2 x3 y0 y1 : Value} (h0 : w.cell? ⟨R, 0, none⟩ = some x0) (h1 : w.cell? ⟨R, 1, none⟩ = some x1) (h2 : w.cell? ⟨R, 2, none⟩ = some x2) (h3 : w.cell? ⟨R, 3, none⟩ = some x3) (g0 : w.cell? ⟨R + 1, 0, none⟩ = some y0) (g1 : w.cell? ⟨R + 1, 1, none⟩ = some y1) (a b c d e f : Value) (W : World) (hW : W = (((((w.setCell ⟨R, 0, none⟩ a).setCell ⟨R, 1, none⟩ b).setCell ⟨R, 2, none⟩ c).setCell ⟨R, 3, none⟩ d).setCell ⟨R + 1, 0, none⟩ e).setCell ⟨R + 1, 1, none⟩ f) :
    (W.cell? ⟨R, 0, none⟩ = some a ∧ W.cell? ⟨R, 1, none⟩ = some b ∧ W.cell? ⟨R, 2, none⟩ = some c ∧ W.cell? ⟨R, 3, none⟩ = some d) ∧ W.cell? ⟨R + 1, 0, none⟩ = some e ∧ W.cell? ⟨R + 1, 1, none⟩ = some f := by
  subst hW
  have o : ∀ (w : World) (i j : Nat) (u : Value), (w.setCell ⟨R + 1, i, none⟩ u).cell? ⟨R, j, none⟩ = w.cell? ⟨R, j, none⟩ := fun w i j u => World.cell?_setCell_other w _ _ u (fun h => by have := congrArg Addr.block h; simp at this)
  have o2 : ∀ (w : World) (i j : Nat) (u : Value), (w.setCell ⟨R, i, none⟩ u).cell? ⟨R + 1, j, none⟩ = w.cell? ⟨R + 1, j, none⟩ := fun w i j u => World.cell?_setCell_other w _ _ u (fun h => by have := congrArg Addr.block h; simp at this)
  have s : ∀ (w : World) (p : Addr) (u x : Value), w.cell? p = some x → (w.setCell p u).cell? p = some u := fun w p u x h => World.cell?_setCell_same _ _ _ h
  obtain ⟨q0, q1, q2, q3⟩ := ucells h0 h1 h2 h3 a b c d
  refine ⟨⟨?_, ?_, ?_, ?_⟩, ?_, ?_⟩
  · rw [o, o]; exact q0
  · rw [o, o]; exact q1
  · rw [o, o]; exact q2
  · rw [o, o]; exact q3
  · rw [cell_off_ne _ (by decide)]
    exact s _ _ _ y0 (by rw [o2, o2, o2, o2]; exact g0)
  · exact s _ _ _ y1 (by rw [cell_off_ne _ (by decide), o2, o2, o2, o2]; exact g1)
theorem ext6 {w0 w : World} (h : Ext w0 w) (a b c d e f : Value) : Ext w0 ((((((w.setCell ⟨w0.heap.size, 0, none⟩ a).setCell ⟨w0.heap.size, 1, none⟩ b).setCell ⟨w0.heap.size, 2, none⟩ c).setCell ⟨w0.heap.size, 3, none⟩ d).setCell ⟨w0.heap.size + 1, 0, none⟩ e).setCell ⟨w0.heap.size + 1, 1, none⟩ f) :=
  (((((h.setCell (p := ⟨w0.heap.size, 0, none⟩) (Nat.le_refl _) a).setCell (p := ⟨w0.heap.size, 1, none⟩) (Nat.le_refl _) b).setCell (p := ⟨w0.heap.size, 2, none⟩) (Nat.le_refl _) c).setCell (p := ⟨w0.heap.size, 3, none⟩) (Nat.le_refl _) d).setCell (p := ⟨w0.heap.size + 1, 0, none⟩) (Nat.le_succ _) e).setCell (p := ⟨w0.heap.size + 1, 1, none⟩) (Nat.le_succ _) f
theorem own6 {w : World} {B R : Nat} {v : Value} {t : TypeId} {s n : Nat} {xs : List Value} (h : w.ownsRow B t s v n xs) (hb : R + 2 ≤ B) (a b c d e f : Value) : ((((((w.setCell ⟨R, 0, none⟩ a).setCell ⟨R, 1, none⟩ b).setCell ⟨R, 2, none⟩ c).setCell ⟨R, 3, none⟩ d).setCell ⟨R + 1, 0, none⟩ e).setCell ⟨R + 1, 1, none⟩ f).ownsRow (R + 2) t s v n xs :=
  have p0 : R < R + 2 := by omega
  have p1 : R + 1 < R + 2 := by omega
  own_cell_lt (own_cell_lt (own_cell_lt (own_cell_lt (own_cell_lt (own_cell_lt (owns_base h hb) _ p0) _ p0) _ p0) _ p0) _ p1) _ p1
/-- bytes of the call's own, known whole -/
def Byo (w : World) (base : Nat) (u : Value) (D : List Nat) : Prop := w.ownsRow base 5 1 u D.length (byC D) ∧ (∀ x ∈ D, x < 256) ∧ D.length ≤ 100000
theorem Byo.nil (w : World) (base : Nat) : Byo w base (.slice none 0 0) [] := ⟨World.ownsRow_nil _ _ _ _, by simp, by simp⟩
theorem Byo.bys {w : World} {base : Nat} {u : Value} {D : List Nat} (h : Byo w base u D) : Bys w u D := Bys.of_owns h.1 h.2.1 (by have := h.2.2; omega)
def RNOwn (w : World) (R : Fall × Nat × List Nat × Int × Int) (e : Ending) (w' : World) : Prop := ∃ u c x, e = .returned (.tuple #[.agg #[.int .i64 (R.2.1 : Int), u, .int .i64 R.2.2.2.1, .int .i64 R.2.2.2.2], .agg #[.int .i64 c, x]]) ∧ Byo w' w.heap.size u R.2.2.1 ∧ RErrIs w' R.1 c x ∧ Ext w w'
def RNPost (w : World) (R : Fall × Nat × List Nat × Int × Int) (e : Ending) (w' : World) : Prop := ∃ u c x, e = .returned (.tuple #[.agg #[.int .i64 (R.2.1 : Int), u, .int .i64 R.2.2.2.1, .int .i64 R.2.2.2.2], .agg #[.int .i64 c, x]]) ∧ Bys w' u R.2.2.1 ∧ RErrIs w' R.1 c x ∧ Ext w w'
theorem val_ln {c : List Nat} (h : 4 ≤ c.length) : val ((c.drop 1).take (4 - 1)) = lnB c := by
  match c, h with
  | x0 :: x1 :: x2 :: x3 :: t, _ =>
    show ((0 * 256 + x1) * 256 + x2) * 256 + x3 = (x1 * 256 + x2) * 256 + x3
    omega
theorem val_sm {c : List Nat} {e : Nat} (h : e + 4 ≤ c.length) : val ((c.drop e).take 4) = smB c e := by
  have hd : ∀ j, (c.drop e).getD j 0 = c.getD (e + j) 0 := fun j => by simp only [List.getD_eq_getElem?_getD, List.getElem?_drop]
  have hl : 4 ≤ (c.drop e).length := by rw [List.length_drop]; omega
  have h0 := hd 0
  have h1 := hd 1
  have h2 := hd 2
  have h3 := hd 3
  unfold smB
  rw [Nat.add_zero] at h0
  rw [← h0, ← h1, ← h2, ← h3]
  match c.drop e, hl with
  | x0 :: x1 :: x2 :: x3 :: t, _ =>
    show (((0 * 256 + x0) * 256 + x1) * 256 + x2) * 256 + x3 = ((x0 * 256 + x1) * 256 + x2) * 256 + x3
    omega
set_option maxHeartbeats 8000000 in
set_option maxRecDepth 20000 in
theorem rnext_own (bs : List Nat) (at' : Int) (v : Value) (w : World) (h : Bys w v bs) : Calls Tryz.prog 133 #[v, .int .i64 at'] w (RNOwn w (nxU bs at')) := by
  obtain ⟨a, cap, rfl⟩ := h.form
  obtain ⟨n, hn⟩ : ∃ n, bs.length = n := ⟨_, rfl⟩
  rw [hn] at h ⊢
  have hl := h.2.2
  have hcp := h.caps
  have HB := Lib.hid h
  have HN := Lib.hid hn
  have A1 : Ext w (w.alloc (.cells #[.int .i64 0, .slice none 0 0, .int .i64 0, .int .i64 0] 158)) := (Ext.refl w).alloc _
  have A2 := A1.alloc (.cells #[.int .i64 0, .slice none 0 0] 38)
  have HE2 := Lib.hid A2
  have HU2 := Lib.hid ((UBox.new w 0 (.slice none 0 0) 0 0 158).ext ((Ext.refl _).alloc (.cells #[.int .i64 0, .slice none 0 0] 38)))
  have HRS : Hid (ResAt ((w.alloc (.cells #[.int .i64 0, .slice none 0 0, .int .i64 0, .int .i64 0] 158)).alloc (.cells #[.int .i64 0, .slice none 0 0] 38)) (w.heap.size + 1)) := by
    have := ResAt.new (w.alloc (.cells #[.int .i64 0, .slice none 0 0, .int .i64 0, .int .i64 0] 158))
    rw [show (w.alloc (.cells #[.int .i64 0, .slice none 0 0, .int .i64 0, .int .i64 0] 158)).heap.size = w.heap.size + 1 by simp] at this
    exact this
  by_cases h0 : at' < 0
  · have HR : Hid (nxU bs at' = (some ([], 7), 0, [], 0, 0)) := by show _ = _; unfold nxU; rw [if_pos (.inl h0)]
    clear h hn A1 A2
    go_enter Tryz.func133, Tryz.ntmps133
    go_wp2_with fail
    refine (fail_any 7 _).mono ?_; rintro e w1 ⟨rfl, hx1⟩
    have HU := Lib.hid (HU2.out.ext hx1)
    have HR2 := Lib.hid (HRS.out.ext hx1)
    have HE1 := Lib.hid (HE2.out.trans hx1)
    clear hx1
    obtain ⟨⟨u0, u1, u2, u3⟩, u4, u5, u6, u7⟩ := HU.out
    obtain ⟨g0, g1, g2, g3⟩ := HR2.out
    go_wp2
    obtain ⟨⟨y0, y1, y2, y3⟩, z0, z1⟩ := cells6 u0 u1 u2 u3 g0 g1 (.int .i64 0) (.slice none 0 0) (.int .i64 0) (.int .i64 0) (.int .i64 7) (.slice none 0 0) _ rfl
    refine bodyPost_ret (v := .tuple #[.agg #[.int .i64 0, .slice none 0 0, .int .i64 0, .int .i64 0], .agg #[.int .i64 7, .slice none 0 0]]) (by simp [results, Tryz.results133, go_sem, y0, y1, y2, y3, z0, z1]) rfl ⟨.slice none 0 0, 7, .slice none 0 0, by rw [HR.out]; rfl, by rw [HR.out]; exact Byo.nil _ _, by rw [HR.out]; exact RErrIs.code (by decide), ext6 HE1.out _ _ _ _ _ _⟩
  · by_cases h1 : (n : Int) ≤ at'
    · have HR : Hid (nxU bs at' = (some ([], 7), 0, [], 0, 0)) := by show _ = _; unfold nxU; rw [if_pos (.inr (by rw [hn]; exact h1))]
      clear h hn A1 A2
      go_enter Tryz.func133, Tryz.ntmps133
      go_wp2_with fail
      refine (fail_any 7 _).mono ?_; rintro e w1 ⟨rfl, hx1⟩
      have HU := Lib.hid (HU2.out.ext hx1)
      have HR2 := Lib.hid (HRS.out.ext hx1)
      have HE1 := Lib.hid (HE2.out.trans hx1)
      clear hx1
      obtain ⟨⟨u0, u1, u2, u3⟩, u4, u5, u6, u7⟩ := HU.out
      obtain ⟨g0, g1, g2, g3⟩ := HR2.out
      go_wp2
      obtain ⟨⟨y0, y1, y2, y3⟩, z0, z1⟩ := cells6 u0 u1 u2 u3 g0 g1 (.int .i64 0) (.slice none 0 0) (.int .i64 0) (.int .i64 0) (.int .i64 7) (.slice none 0 0) _ rfl
      refine bodyPost_ret (v := .tuple #[.agg #[.int .i64 0, .slice none 0 0, .int .i64 0, .int .i64 0], .agg #[.int .i64 7, .slice none 0 0]]) (by simp [results, Tryz.results133, go_sem, y0, y1, y2, y3, z0, z1]) rfl ⟨.slice none 0 0, 7, .slice none 0 0, by rw [HR.out]; rfl, by rw [HR.out]; exact Byo.nil _ _, by rw [HR.out]; exact RErrIs.code (by decide), ext6 HE1.out _ _ _ _ _ _⟩
    · obtain ⟨k, rfl⟩ : ∃ k : Nat, at' = (k : Int) := ⟨at'.toNat, by omega⟩
      obtain ⟨g, off, rfl⟩ := h.had (by omega)
      have hdl : (bs.drop k).length = n - k := by rw [List.length_drop, hn]
      have hcut := h.cut (lo := k) (hi := n) (by omega) (Nat.le_refl _)
      rw [List.take_of_length_le (by rw [hdl]; exact Nat.le_refl _)] at hcut
      have c0 := (h.ext A2).at (nget_of_lt (bs := bs) (j := k) (by rw [hn]; omega))
      have hc0 : bs.getD k 0 = (bs.drop k).getD 0 0 := by simp only [List.getD_eq_getElem?_getD, List.getElem?_drop, Nat.add_zero]
      rw [hc0] at c0
      have hR0 : nxU bs (k : Int) = if (rdU (bs.drop k)).1 = 0 then (none, (rdU (bs.drop k)).2.1, (rdU (bs.drop k)).2.2.1, (k : Int), ((rdU (bs.drop k)).2.2.2 : Int) + (k : Int)) else (some ([(unS, (k : Int))], (rdU (bs.drop k)).1), 0, [], 0, 0) := by
        unfold nxU
        rw [if_neg (by rw [hn]; omega)]
        rfl
      obtain ⟨c, hc⟩ : ∃ c, bs.drop k = c := ⟨_, rfl⟩
      rw [hc] at hdl hcut c0 hR0
      obtain ⟨m, hm⟩ : ∃ m, n - k = m := ⟨_, rfl⟩
      rw [hm] at hdl hcut
      have hm0 : 0 < m := by omega
      have HCL := Lib.hid hdl
      have HCT := Lib.hid (hcut.ext A2)
      have HR0 := Lib.hid hR0
      have hclt := hcut.lt
      have hcapm := hcut.caps
      obtain ⟨b0, hb0⟩ : ∃ b0, c.getD 0 0 = b0 := ⟨_, rfl⟩
      have l0 := hclt 0
      rw [hb0] at c0 l0
      have m1 : IntKind.i64.wrap (k : Int) = (k : Int) := by rw [IntKind.wrap_i64]; omega
      have m2 : IntKind.i64.wrap ((k : Int) + 1) = (k : Int) + 1 := by rw [IntKind.wrap_i64]; omega
      have x1 : (0 : Int) ≤ (k : Int) := by omega
      have x2 : (k : Int) < (n : Int) := by omega
      have x3 : (k : Int) ≤ (n : Int) := by omega
      have x4 : (k : Int) ≤ (cap : Int) := by omega
      have HUq := HU2
      have HRq := HRS
      have HEq := HE2
      have HSq : Hid (w.heap.size + 2 ≤ ((w.alloc (.cells #[.int .i64 0, .slice none 0 0, .int .i64 0, .int .i64 0] 158)).alloc (.cells #[.int .i64 0, .slice none 0 0] 38)).heap.size) := by show _ ≤ _; simp
      clear hcut h hn A1 A2 hc hc0 hdl hR0
      by_cases hz : b0 = 0
      · subst hz
        have hRd : rdU c = (0, 0, [], 1) := by unfold rdU; rw [if_pos hb0]
        have HR : Hid (nxU bs (k : Int) = (none, 0, [], (k : Int), (k : Int) + 1)) := by
          show _ = _
          rw [HR0.out, hRd]
          show (none, 0, [], (k : Int), ((1 : Nat) : Int) + (k : Int)) = _
          rw [show ((1 : Nat) : Int) + (k : Int) = (k : Int) + 1 by omega]
        clear hRd
        go_enter Tryz.func133, Tryz.ntmps133
        have HE9 := Lib.hid (((Ext.refl w).alloc (.cells #[.int .i64 0, .slice none 0 0, .int .i64 (k : Int), .int .i64 ((k : Int) + 1)] 158)).alloc (.cells #[.int .i64 0, .slice none 0 0] 38))
        go_wp2
        exact bodyPost_ret (v := .tuple #[.agg #[.int .i64 0, .slice none 0 0, .int .i64 (k : Int), .int .i64 ((k : Int) + 1)], .agg #[.int .i64 0, .slice none 0 0]]) (by simp [results, Tryz.results133, go_sem]) rfl ⟨.slice none 0 0, 0, .slice none 0 0, by rw [HR.out]; rfl, by rw [HR.out]; exact Byo.nil _ _, by rw [HR.out]; exact RErrIs.zero, HE9.out⟩
      · have z0 : ((b0 : Int) == 0) = false := by rw [beq_eq_false_iff_ne]; omega
        by_cases h4 : m < 4
        · have h4' : (m : Int) < 4 := by omega
          have hRd : rdU c = (1, 0, [], 0) := by unfold rdU; rw [if_neg (by rw [hb0]; exact hz), if_pos (by rw [HCL.out]; exact h4)]
          have HR : Hid (nxU bs (k : Int) = (some ([(unS, (k : Int))], 1), 0, [], 0, 0)) := by show _ = _; rw [HR0.out, hRd]; exact if_neg (by decide)
          clear hRd
          go_enter Tryz.func133, Tryz.ntmps133
          go_wp2_with fail
          refine (wrap_any unS (k : Int) 1 _ (by decide)).mono ?_; rintro e wc ⟨v2, rfl, hoC, hxC⟩
          obtain ⟨va, vm, vc, rfl⟩ := own_slc hoC
          have HU := Lib.hid (HUq.out.ext hxC)
          have HR2 := Lib.hid (HRq.out.ext hxC)
          have HE1 := Lib.hid (HEq.out.trans hxC)
          have HOC := Lib.hid hoC
          clear hoC hxC
          obtain ⟨⟨u0, u1, u2, u3⟩, u4, u5, u6, u7⟩ := HU.out
          obtain ⟨g0, g1, g2, g3⟩ := HR2.out
          go_wp2
          obtain ⟨⟨y0, y1, y2, y3⟩, z0, z1⟩ := cells6 u0 u1 u2 u3 g0 g1 (.int .i64 0) (.slice none 0 0) (.int .i64 0) (.int .i64 0) (.int .i64 1) (.slice va vm vc) _ rfl
          refine bodyPost_ret (v := .tuple #[.agg #[.int .i64 0, .slice none 0 0, .int .i64 0, .int .i64 0], .agg #[.int .i64 1, .slice va vm vc]]) (by simp [results, Tryz.results133, go_sem, y0, y1, y2, y3, z0, z1]) rfl ⟨.slice none 0 0, 1, .slice va vm vc, by rw [HR.out]; rfl, by rw [HR.out]; exact Byo.nil _ _, by rw [HR.out]; exact ⟨rfl, by decide, Row.of_owns (own6 HOC.out HSq.out _ _ _ _ _ _)⟩, ext6 HE1.out _ _ _ _ _ _⟩
        · have h4' : ¬ (m : Int) < 4 := by omega
          obtain ⟨L, hL⟩ : ∃ L, lnB c = L := ⟨_, rfl⟩
          have hL6 : L < 16777216 := by
            have a1 := hclt 1
            have a2 := hclt 2
            have a3 := hclt 3
            rw [← hL]
            unfold lnB
            omega
          have HC1 := Lib.hid (HCT.out.cut (lo := 1) (hi := 4) (by decide) (by omega))
          have HVL : Hid (val ((c.drop 1).take (4 - 1)) = L) := by show _ = _; rw [val_ln (by rw [HCL.out]; omega)]; exact hL
          have UV1 : Hid (((c.drop 1).take (4 - 1)).length ≤ 4) := by show _ ≤ _; rw [List.length_take]; omega
          have y1 : (4 : Int) ≤ (m : Int) := by omega
          have y2 : (4 : Int) ≤ ((cap - k : Nat) : Int) := by omega
          have hRd0 : rdU c = if 65536 < L then (5, 0, [], 0) else if m < L + 8 then (1, 0, [], 0) else if smB c (4 + L) ≠ crc (c.take (4 + L)) then (4, 0, [], 0) else (0, b0, (c.drop 4).take L, L + 8) := by
            unfold rdU
            rw [if_neg (by rw [hb0]; exact hz), if_neg (by rw [HCL.out]; exact h4), hL, hb0, HCL.out]
          clear hL
          by_cases h5 : 65536 < L
          · have h5' : (65536 : Int) < (L : Int) := by omega
            have HR : Hid (nxU bs (k : Int) = (some ([(unS, (k : Int))], 5), 0, [], 0, 0)) := by show _ = _; rw [HR0.out, hRd0, if_pos h5]; exact if_neg (by decide)
            clear hRd0
            go_enter Tryz.func133, Tryz.ntmps133
            go_wp2_with fail
            refine (value_any _ _ _ HC1.out UV1.out).mono ?_; rintro e w9 ⟨rfl, rfl⟩; rw [HVL.out]
            go_wp2_with fail
            refine (wrap_any unS (k : Int) 5 _ (by decide)).mono ?_; rintro e wc ⟨v2, rfl, hoC, hxC⟩
            obtain ⟨va, vm, vc, rfl⟩ := own_slc hoC
            have HU := Lib.hid (HUq.out.ext hxC)
            have HR2 := Lib.hid (HRq.out.ext hxC)
            have HE1 := Lib.hid (HEq.out.trans hxC)
            have HOC := Lib.hid hoC
            clear hoC hxC
            obtain ⟨⟨u0, u1, u2, u3⟩, u4, u5, u6, u7⟩ := HU.out
            obtain ⟨g0, g1, g2, g3⟩ := HR2.out
            go_wp2
            obtain ⟨⟨y0, y1, y2, y3⟩, z0, z1⟩ := cells6 u0 u1 u2 u3 g0 g1 (.int .i64 0) (.slice none 0 0) (.int .i64 0) (.int .i64 0) (.int .i64 5) (.slice va vm vc) _ rfl
            refine bodyPost_ret (v := .tuple #[.agg #[.int .i64 0, .slice none 0 0, .int .i64 0, .int .i64 0], .agg #[.int .i64 5, .slice va vm vc]]) (by simp [results, Tryz.results133, go_sem, y0, y1, y2, y3, z0, z1]) rfl ⟨.slice none 0 0, 5, .slice va vm vc, by rw [HR.out]; rfl, by rw [HR.out]; exact Byo.nil _ _, by rw [HR.out]; exact ⟨rfl, by decide, Row.of_owns (own6 HOC.out HSq.out _ _ _ _ _ _)⟩, ext6 HE1.out _ _ _ _ _ _⟩
          · have h5' : ¬ (65536 : Int) < (L : Int) := by omega
            have j8 : IntKind.i64.wrap ((L : Int) + 8) = (L : Int) + 8 := by rw [IntKind.wrap_i64]; omega
            by_cases h6 : m < L + 8
            · have h6' : (m : Int) < (L : Int) + 8 := by omega
              have HR : Hid (nxU bs (k : Int) = (some ([(unS, (k : Int))], 1), 0, [], 0, 0)) := by show _ = _; rw [HR0.out, hRd0, if_neg h5, if_pos h6]; exact if_neg (by decide)
              clear hRd0
              go_enter Tryz.func133, Tryz.ntmps133
              go_wp2_with fail
              refine (value_any _ _ _ HC1.out UV1.out).mono ?_; rintro e w9 ⟨rfl, rfl⟩; rw [HVL.out]
              go_wp2_with fail
              refine (wrap_any unS (k : Int) 1 _ (by decide)).mono ?_; rintro e wc ⟨v2, rfl, hoC, hxC⟩
              obtain ⟨va, vm, vc, rfl⟩ := own_slc hoC
              have HU := Lib.hid (HUq.out.ext hxC)
              have HR2 := Lib.hid (HRq.out.ext hxC)
              have HE1 := Lib.hid (HEq.out.trans hxC)
              have HOC := Lib.hid hoC
              clear hoC hxC
              obtain ⟨⟨u0, u1, u2, u3⟩, u4, u5, u6, u7⟩ := HU.out
              obtain ⟨g0, g1, g2, g3⟩ := HR2.out
              go_wp2
              obtain ⟨⟨y0, y1, y2, y3⟩, z0, z1⟩ := cells6 u0 u1 u2 u3 g0 g1 (.int .i64 0) (.slice none 0 0) (.int .i64 0) (.int .i64 0) (.int .i64 1) (.slice va vm vc) _ rfl
              refine bodyPost_ret (v := .tuple #[.agg #[.int .i64 0, .slice none 0 0, .int .i64 0, .int .i64 0], .agg #[.int .i64 1, .slice va vm vc]]) (by simp [results, Tryz.results133, go_sem, y0, y1, y2, y3, z0, z1]) rfl ⟨.slice none 0 0, 1, .slice va vm vc, by rw [HR.out]; rfl, by rw [HR.out]; exact Byo.nil _ _, by rw [HR.out]; exact ⟨rfl, by decide, Row.of_owns (own6 HOC.out HSq.out _ _ _ _ _ _)⟩, ext6 HE1.out _ _ _ _ _ _⟩
            · have h6' : ¬ (m : Int) < (L : Int) + 8 := by omega
              rw [if_neg h5, if_neg h6] at hRd0
              obtain ⟨E, hE⟩ : ∃ E, 4 + L = E := ⟨_, rfl⟩
              obtain ⟨G, hG⟩ : ∃ G, 8 + L = G := ⟨_, rfl⟩
              have hEi : IntKind.i64.wrap (4 + (L : Int)) = (E : Int) := by rw [IntKind.wrap_i64]; omega
              have hGi : IntKind.i64.wrap (8 + (L : Int)) = (G : Int) := by rw [IntKind.wrap_i64]; omega
              have HC2 := Lib.hid (HCT.out.cut (lo := E) (hi := G) (by omega) (by omega))
              have hGE : G - E = 4 := by omega
              have HVS : Hid (val ((c.drop E).take (G - E)) = smB c E) := by show _ = _; rw [hGE]; exact val_sm (by rw [HCL.out]; omega)
              have UV2 : Hid (((c.drop E).take (G - E)).length ≤ 4) := by show _ ≤ _; rw [List.length_take, hGE]; omega
              have hcut := HCT.out.cut (lo := 0) (hi := E) (Nat.zero_le _) (by omega)
              rw [Nat.add_zero, Nat.sub_zero, Nat.sub_zero, List.drop_zero] at hcut
              have HC3 := Lib.hid hcut
              rw [hE] at hRd0
              obtain ⟨T, hT⟩ : ∃ T, smB c E = T := ⟨_, rfl⟩
              obtain ⟨S, hS⟩ : ∃ S, crc (c.take E) = S := ⟨_, rfl⟩
              have hS32 : S < 4294967296 := by rw [← hS]; exact crc_lt (fun y hy => HCT.out.2.1 y (List.mem_of_mem_take hy))
              rw [hT, hS] at hRd0
              rw [hT] at HVS
              have HSS := Lib.hid hS
              have HELE : Hid (4 + L = E) := hE
              have w1 : IntKind.i64.wrap (S : Int) = (S : Int) := by rw [IntKind.wrap_i64]; omega
              have y3 : (E : Int) ≤ (G : Int) := by omega
              have y4 : (G : Int) ≤ ((cap - k : Nat) : Int) := by omega
              have y5 : (E : Int) ≤ ((cap - k : Nat) : Int) := by omega
              have y6 : (0 : Int) ≤ (E : Int) := by omega
              have y7 : (4 : Int) ≤ (E : Int) := by omega
              have y9 : ¬ (cap - k = E) := by omega
              clear hcut hT hS hE hG hGE
              by_cases hTS : T = S
              · subst hTS
                have hne : ((T : Int) != (T : Int)) = false := by simp
                have hRd1 : rdU c = (0, b0, (c.drop 4).take L, L + 8) := by rw [hRd0]; exact if_neg (by simp)
                have HR : Hid (nxU bs (k : Int) = (none, b0, (c.drop 4).take L, (k : Int), ((L + 8 : Nat) : Int) + (k : Int))) := by show _ = _; rw [HR0.out, hRd1]; exact if_pos rfl
                clear hRd1
                have HC4 : Hid (Bys ((w.alloc (.cells #[.int .i64 0, .slice none 0 0, .int .i64 0, .int .i64 0] 158)).alloc (.cells #[.int .i64 0, .slice none 0 0] 38)) (.slice (some ⟨g, off + k + 4, none⟩) (E - 4) (cap - k - 4)) ((c.drop 4).take L)) := by
                  have hEL := HELE.out
                  have := HCT.out.cut (lo := 4) (hi := E) (by omega) (by omega)
                  have e4 : E - 4 = L := by have := HELE.out; omega
                  rw [e4] at this ⊢
                  exact this
                have HDB : Hid (∀ y ∈ (c.drop 4).take L, y < 256) := fun y hy => HCT.out.2.1 y (List.mem_of_mem_drop (List.mem_of_mem_take hy))
                have HDL : Hid (((c.drop 4).take L).length ≤ 70000) := by show _ ≤ _; rw [List.length_take]; omega
                obtain ⟨D, hD⟩ : ∃ D, (c.drop 4).take L = D := ⟨_, rfl⟩
                rw [hD] at HR HC4 HDB HDL
                have y10 : ¬ (cap - k = 4) := by omega
                have e8 : ((L + 8 : Nat) : Int) + (k : Int) = (k : Int) + (L : Int) + 8 := by omega
                rw [e8] at HR
                have hn47 : n ≤ 140737488355328 := by rw [← HN.out]; exact hl
                have b1 : IntKind.i64.wrap (b0 : Int) = (b0 : Int) := by rw [IntKind.wrap_i64]; omega
                have b2 : IntKind.i64.wrap ((k : Int) + (L : Int)) = (k : Int) + (L : Int) := by rw [IntKind.wrap_i64]; omega
                have b3 : IntKind.i64.wrap ((k : Int) + (L : Int) + 8) = (k : Int) + (L : Int) + 8 := by rw [IntKind.wrap_i64]; omega
                clear hRd0 hD e8
                go_enter Tryz.func133, Tryz.ntmps133
                go_wp2_with fail
                refine (value_any _ _ _ HC1.out UV1.out).mono ?_; rintro e w9 ⟨rfl, rfl⟩; rw [HVL.out]
                go_wp2_with fail
                clear HU2 HRS HE2 HCT HC1
                have HC0 := Lib.hid c0
                clear c0
                revert HUq HRq HEq HSq HC2 HC3 HC4 HC0
                generalize World.alloc (World.alloc w _) _ = wq
                intro HUq HRq HEq HSq HC2 HC3 HC4 HC0
                have UQ2 : Hid (∀ i, Calls Tryz.prog 143 #[.slice (some ⟨g, off + k + E, none⟩) (G - E) (cap - k - E)] (wq.drewN i) fun e w' => e = .returned (.int .i64 (T : Int)) ∧ w' = wq.drewN i) := fun i => (value_any _ _ _ (HC2.out.ext ((Ext.refl _).drewN i)) UV2.out).mono fun e w' ⟨he, hw⟩ => ⟨by rw [he, HVS.out], hw.symm⟩
                have UQ3 : Hid (∀ i, Calls Tryz.prog 112 #[.slice (some ⟨g, off + k, none⟩) E (cap - k)] (wq.drewN i) fun e w' => e = .returned (.int .u32 (T : Int)) ∧ w' = wq.drewN i) := fun i => (rsum_any (c.take E) _ _ (HC3.out.ext ((Ext.refl _).drewN i))).mono fun e w' ⟨he, hw⟩ => ⟨by rw [he, HSS.out], hw.symm⟩
                go_quiet (first | (go_at_call 143; exact Calls.quiet_of_same (UQ2.out _)) | (go_at_call 112; exact Calls.quiet_of_same (UQ3.out _)))
                clear UQ2 UQ3 HC2 HC3
                have D1 := ((Ext.refl wq).drewN nq).drew
                have HUz := Lib.hid (HUq.out.ext D1)
                have HRz := Lib.hid (HRq.out.ext D1)
                have HEz := Lib.hid (HEq.out.trans D1)
                have HSz := Lib.hid (Nat.le_trans HSq.out D1.size)
                have HCz := Lib.hid (HC4.out.ext D1)
                have HC0z := Lib.hid (D1.cell HC0.out)
                have c0 := HC0z.out
                have c00 := HC0.out
                have c01 := ((Ext.refl wq).drewN nq).cell HC0.out
                clear D1 HUq HRq HEq HSq HC4 HC0
                go_wp2_with fail
                go_region_law (go_simp; go_at_call 27; refine (cpb_any _ _ _ HCz.out).mono ?_; rintro e wc ⟨cu, rfl, hown, hxc⟩; have HO := Lib.hid hown; have HY0 := Lib.hid (Bys.of_owns hown HDB.out (by have := HDL.out; omega)); obtain ⟨ca, cc, rfl⟩ := own_frm hown; have HUc := Lib.hid (HUz.out.ext hxc); have HRc := Lib.hid (HRz.out.ext hxc); have HEc := Lib.hid (HEz.out.trans hxc); have c1 := hxc.cell HC0z.out; obtain ⟨⟨u0, u1, u2, u3⟩, u4, u5, u6, u7⟩ := HUc.out; obtain ⟨g0, g1, g2, g3⟩ := HRc.out; clear hown hxc)
                all_goals go_wp2
                all_goals (obtain ⟨⟨y0, y1, y2, y3⟩, z0, z1⟩ := cells6 u0 u1 u2 u3 g0 g1 (.int .i64 (b0 : Int)) (.slice ca D.length cc) (.int .i64 (k : Int)) (.int .i64 ((k : Int) + (L : Int) + 8)) (.int .i64 0) (.slice none 0 0) _ rfl)
                all_goals (refine bodyPost_ret (v := .tuple #[.agg #[.int .i64 (b0 : Int), .slice ca D.length cc, .int .i64 (k : Int), .int .i64 ((k : Int) + (L : Int) + 8)], .agg #[.int .i64 0, .slice none 0 0]]) (by simp [results, Tryz.results133, go_sem, y0, y1, y2, y3, z0, z1]) rfl ⟨.slice ca D.length cc, 0, .slice none 0 0, by simp only [HR.out], ?_, by rw [HR.out]; exact RErrIs.zero, ext6 HEc.out _ _ _ _ _ _⟩)
                all_goals (have hDD : (nxU bs (k : Int)).2.2.1 = D := by rw [HR.out])
                all_goals (rw [hDD]; exact ⟨owns_base (own6 HO.out HSz.out _ _ _ _ _ _) (by omega), HDB.out, by have := HDL.out; omega⟩)
              · have hne : ((T : Int) != (S : Int)) = true := by rw [bne_iff_ne]; omega
                have HR : Hid (nxU bs (k : Int) = (some ([(unS, (k : Int))], 4), 0, [], 0, 0)) := by show _ = _; rw [HR0.out, hRd0, if_pos hTS]; exact if_neg (by decide)
                clear hRd0
                go_enter Tryz.func133, Tryz.ntmps133
                go_wp2_with fail
                refine (value_any _ _ _ HC1.out UV1.out).mono ?_; rintro e w9 ⟨rfl, rfl⟩; rw [HVL.out]
                go_wp2_with fail
                clear HU2 HRS HE2 c0 HCT HC1
                revert HUq HRq HEq HSq HC2 HC3
                generalize World.alloc (World.alloc w _) _ = wq
                intro HUq HRq HEq HSq HC2 HC3
                have UQ2 : Hid (∀ i, Calls Tryz.prog 143 #[.slice (some ⟨g, off + k + E, none⟩) (G - E) (cap - k - E)] (wq.drewN i) fun e w' => e = .returned (.int .i64 (T : Int)) ∧ w' = wq.drewN i) := fun i => (value_any _ _ _ (HC2.out.ext ((Ext.refl _).drewN i)) UV2.out).mono fun e w' ⟨he, hw⟩ => ⟨by rw [he, HVS.out], hw.symm⟩
                have UQ3 : Hid (∀ i, Calls Tryz.prog 112 #[.slice (some ⟨g, off + k, none⟩) E (cap - k)] (wq.drewN i) fun e w' => e = .returned (.int .u32 (S : Int)) ∧ w' = wq.drewN i) := fun i => (rsum_any (c.take E) _ _ (HC3.out.ext ((Ext.refl _).drewN i))).mono fun e w' ⟨he, hw⟩ => ⟨by rw [he, HSS.out], hw.symm⟩
                go_quiet (first | (go_at_call 143; exact Calls.quiet_of_same (UQ2.out _)) | (go_at_call 112; exact Calls.quiet_of_same (UQ3.out _)))
                revert HUq HRq HEq HSq HC2
                have D1 := (Ext.refl wq).drewN nq
                intro HUq HRq HEq HSq HC2
                have HUq := Lib.hid (HUq.out.ext D1)
                have HRq := Lib.hid (HRq.out.ext D1)
                have HEq := Lib.hid (HEq.out.trans D1)
                have HSq := Lib.hid (Nat.le_trans HSq.out D1.size)
                clear D1
                revert HUq HRq HEq HSq
                generalize wq.drewN nq = wz
                intro HUq HRq HEq HSq
                go_wp2_with fail
                refine (wrap_any unS (k : Int) 4 _ (by decide)).mono ?_; rintro e wc ⟨v2, rfl, hoC, hxC⟩
                obtain ⟨va, vm, vc, rfl⟩ := own_slc hoC
                have HU := Lib.hid (HUq.out.ext hxC)
                have HR2 := Lib.hid (HRq.out.ext hxC)
                have HE1 := Lib.hid (HEq.out.trans hxC)
                have HOC := Lib.hid hoC
                clear hoC hxC
                obtain ⟨⟨u0, u1, u2, u3⟩, u4, u5, u6, u7⟩ := HU.out
                obtain ⟨g0, g1, g2, g3⟩ := HR2.out
                go_wp2
                obtain ⟨⟨y0, y1, y2, y3⟩, z0, z1⟩ := cells6 u0 u1 u2 u3 g0 g1 (.int .i64 0) (.slice none 0 0) (.int .i64 0) (.int .i64 0) (.int .i64 4) (.slice va vm vc) _ rfl
                refine bodyPost_ret (v := .tuple #[.agg #[.int .i64 0, .slice none 0 0, .int .i64 0, .int .i64 0], .agg #[.int .i64 4, .slice va vm vc]]) (by simp [results, Tryz.results133, go_sem, y0, y1, y2, y3, z0, z1]) rfl ⟨.slice none 0 0, 4, .slice va vm vc, by rw [HR.out]; rfl, by rw [HR.out]; exact Byo.nil _ _, by rw [HR.out]; exact ⟨rfl, by decide, Row.of_owns (own6 HOC.out HSq.out _ _ _ _ _ _)⟩, ext6 HE1.out _ _ _ _ _ _⟩
theorem rnext_any (bs : List Nat) (at' : Int) (v : Value) (w : World) (h : Bys w v bs) : Calls Tryz.prog 133 #[v, .int .i64 at'] w (RNPost w (nxU bs at')) :=
  (rnext_own bs at' v w h).mono fun _ _ ⟨u, c, x, e, h1, h2, h3⟩ => ⟨u, c, x, e, h1.bys, h2, h3⟩
end Go.Proofs.YtlaedbglclmheaaGreatDoor

/- kinref4.Split: its contract over this seat's translation. -/
namespace Go.Proofs.YtlaedbglclmheaaGreatDoor
set_option linter.unusedVariables false
set_option linter.unusedSimpArgs false
open Go.RowKit Go.Extern.Stop Go.Stop Go.Extern

def RSpPost (w : World) (R : Fall × List Un) (e : Ending) (w' : World) : Prop := ∃ v c x S, e = .returned (.tuple #[v, .agg #[.int .i64 c, x]]) ∧ w'.ownsRow (w.heap.size + 1) 158 4 v R.2.length (ucs R.2 S R.2.length) ∧ UnOwn w' (w.heap.size + 1) R.2 S R.2.length v ∧ RErrIs w' R.1 c x ∧ Ext w w'
theorem UnOwn.set {w : World} {base k : Nat} {L : List Un} {S : Nat → Value} {ov : Value} (h : UnOwn w base L S k ov) {p : Addr} (hp : p.block < base) (u : Value) : UnOwn (w.setCell p u) base L S k ov := fun q hq => by
  obtain ⟨h1, h2⟩ := h q hq
  exact ⟨own_cell_lt h1 u hp, h2⟩
/-- a result of type kinref.Err that nothing was stored into -/
def RBx (w : World) (R : Nat) : Prop := w.heap[R]? = some (.cells #[.int .i64 0, .slice none 0 0] 38 (0, 0))
theorem RBx.lt {w : World} {R : Nat} (h : RBx w R) : R < w.heap.size := (Array.getElem?_eq_some_iff.1 h).1
theorem RBx.new (w : World) : RBx (w.alloc (.cells #[.int .i64 0, .slice none 0 0] 38)) w.heap.size := heap_alloc_new w _
theorem RBx.ext {w w' : World} {R : Nat} (h : RBx w R) (k : Ext w w') : RBx w' R := (k.block h.lt).trans h
theorem RBx.cells {w : World} {R : Nat} (h : RBx w R) : (w.cell? ⟨R, 0, none⟩ = some (.int .i64 0) ∧ w.cell? ⟨R, 1, none⟩ = some (.slice none 0 0)) ∧ w.frozen? ⟨R, 0, none⟩ = false ∧ w.frozen? ⟨R, 1, none⟩ = false := by
  unfold RBx at h
  refine ⟨⟨?_, ?_⟩, ?_, ?_⟩ <;> simp [World.cell?, World.frozen?, h]
theorem RErrIs.rbx {w : World} {f : Fall} {c : Int} {u : Value} {R : Nat} (h : RErrIs w f c u) (hb : RBx w R) (x v : Value) : RErrIs ((w.setCell ⟨R, 0, none⟩ x).setCell ⟨R, 1, none⟩ v) f c u := by
  cases f with
  | none => exact h
  | some a =>
    obtain ⟨p, k⟩ := a
    obtain ⟨h1, h2, a, cap, e, h3, h4, h5, h6⟩ := h
    refine ⟨h1, h2, a, cap, e, h3, h4, h5, fun g off ha j u hu => ?_⟩
    have hg : g ≠ R := by
      intro hg
      subst hg
      cases p with
      | nil => simp [stepCells] at hu
      | cons s p =>
        have := h6 g off ha 0 (.string s.1) rfl
        rw [Nat.add_zero] at this
        unfold RBx at hb
        simp [World.cell?, hb] at this
        rcases off with _ | _ | off
        · simp at this
        · simp at this
        · simp at this
    rw [World.cell?_setCell_other _ _ _ _ (by intro e; exact hg (congrArg Addr.block e).symm), World.cell?_setCell_other _ _ _ _ (by intro e; exact hg (congrArg Addr.block e).symm)]
    exact h6 g off ha j u hu
theorem rcells2 {w : World} {R : Nat} {x0 x1 : Value} (h0 : w.cell? ⟨R, 0, none⟩ = some x0) (h1 : w.cell? ⟨R, 1, none⟩ = some x1) (a b : Value) :
    ((w.setCell ⟨R, 0, none⟩ a).setCell ⟨R, 1, none⟩ b).cell? ⟨R, 0, none⟩ = some a ∧ ((w.setCell ⟨R, 0, none⟩ a).setCell ⟨R, 1, none⟩ b).cell? ⟨R, 1, none⟩ = some b :=
  ⟨by rw [cell_off_ne _ (by decide)]; exact World.cell?_setCell_same _ _ _ h0, World.cell?_setCell_same _ _ _ ((cell_off_ne _ (by decide)).trans h1)⟩
theorem rs_end {w w7 : World} {L : List Un} {S : Nat → Value} {ov x : Value} {F : Fall} {c : Int} (ho : w7.ownsRow (w.heap.size + 1) 158 4 ov L.length (ucs L S L.length)) (hs : UnOwn w7 (w.heap.size + 1) L S L.length ov) (hx : RErrIs w7 F c x) (hr : RBx w7 w.heap.size) (he : Ext w w7) :
    ((w7.setCell ⟨w.heap.size, 0, none⟩ (.int .i64 c)).setCell ⟨w.heap.size, 1, none⟩ x).ownsRow (w.heap.size + 1) 158 4 ov L.length (ucs L S L.length) ∧ UnOwn ((w7.setCell ⟨w.heap.size, 0, none⟩ (.int .i64 c)).setCell ⟨w.heap.size, 1, none⟩ x) (w.heap.size + 1) L S L.length ov ∧ RErrIs ((w7.setCell ⟨w.heap.size, 0, none⟩ (.int .i64 c)).setCell ⟨w.heap.size, 1, none⟩ x) F c x ∧ Ext w ((w7.setCell ⟨w.heap.size, 0, none⟩ (.int .i64 c)).setCell ⟨w.heap.size, 1, none⟩ x) := by
  have h0 : (⟨w.heap.size, 0, none⟩ : Addr).block < w.heap.size + 1 := Nat.lt_succ_self _
  have h1 : (⟨w.heap.size, 1, none⟩ : Addr).block < w.heap.size + 1 := Nat.lt_succ_self _
  exact ⟨own_cell_lt (own_cell_lt ho _ h0) _ h1, (hs.set h0 _).set h1 _, hx.rbx hr _ _, (he.setCell (p := ⟨w.heap.size, 0, none⟩) (Nat.le_refl _) _).setCell (p := ⟨w.heap.size, 1, none⟩) (Nat.le_refl _) _⟩
set_option maxHeartbeats 4000000 in
set_option maxRecDepth 20000 in
theorem rsplit_any (bs : List Nat) (v : Value) (w : World) (h : Bys w v bs) (hl : bs.length ≤ 100000) : Calls Tryz.prog 103 #[v] w (RSpPost w (spU bs 0)) := by
  obtain ⟨a, cap, rfl⟩ := h.form
  obtain ⟨n, hn⟩ : ∃ n, bs.length = n := ⟨_, rfl⟩
  rw [hn] at h hl ⊢
  obtain ⟨⟨F, L⟩, hR⟩ : ∃ R, spU bs 0 = R := ⟨_, rfl⟩
  have hLc : L.length ≤ n := by
    have := sp_count bs (n + 1) 0 (by omega)
    rw [hR, hn] at this
    exact this
  rw [hR]
  have A1 : Ext w (w.alloc (.cells #[.int .i64 0, .slice none 0 0] 38)) := (Ext.refl w).alloc _
  have HB := Lib.hid (h.ext A1)
  have HE1 := Lib.hid A1
  have HR1 := Lib.hid (RBx.new w)
  have HN := Lib.hid hn
  have HDB := Lib.hid h.2.1
  have H0 : Hid (spU bs 0 = (F, L.drop 0)) := hR
  have hw1 : (w.alloc (.cells #[.int .i64 0, .slice none 0 0] 38)).heap.size = w.heap.size + 1 := by simp
  have HW1 := Lib.hid hw1
  clear h hn hR A1 hw1
  go_enter Tryz.func103, Tryz.ntmps103
  go_wp2_with fail
  revert HE1 HR1 HB HW1
  generalize World.alloc w _ = w1
  intro HB HE1 HR1 HW1
  go_wp2
  go_loopw [4, 5] (fun ov iv wr => ∃ (k p : Nat) (S : Nat → Value), (k ≤ L.length ∧ p ≤ n) ∧ iv = .int .i64 (p : Int) ∧ Hid (spU bs p = (F, L.drop k)) ∧ Hid (wr.ownsRow w1.heap.size 158 4 ov k (ucs L S k)) ∧ Hid (UnOwn wr w1.heap.size L S k ov) ∧ Hid (Ext w1 wr)) (fun _ iv _ => n - (intOf iv).toNat)
  case atStart => exact ⟨0, 0, fun _ => .slice none 0 0, ⟨Nat.zero_le _, Nat.zero_le _⟩, rfl, H0, World.ownsRow_nil _ _ _ _, fun q hq => absurd hq (Nat.not_lt_zero _), Ext.refl w1⟩
  case round =>
    obtain ⟨k, p, S, ⟨hk, hp⟩, rfl, HP, HO, HS, HE⟩ := hrel
    by_cases hlt : p < n
    · have UP := rnext_own bs (p : Int) (.slice a n cap) wr (HB.out.ext HE.out)
      rcases sp_step bs p (by rw [HN.out]; exact hlt) with ⟨K, D, E, e1, ⟨e2, e3, e4⟩, e5, e6⟩ | ⟨C, e1, e2, e3⟩
      · rw [HP.out] at e6
        obtain ⟨f1, f2⟩ := Prod.mk.inj e6
        obtain ⟨g1, g2, g3⟩ := drop_cons f2
        have HP2 : Hid (spU bs (p + E) = (F, L.drop (k + 1))) := by show _ = _; rw [f1, g2]
        have HU : Hid (unD L k = (K, D, (p : Int), (E : Int) + (p : Int))) := by show _ = _; unfold unD; rw [List.getD, g1]; rfl
        have HD : Hid (∀ x ∈ D, x < 256) := fun x hx => HDB.out x (e5 x hx)
        rw [e1] at UP
        rw [HN.out] at e3
        have UQ := Lib.hid UP
        clear e1 e5 e6 f1 f2 g1 g2 H0 HP UP
        go_wp2_with fail
        refine (UQ.out).mono ?_; rintro e w5 ⟨u, c, x, rfl, ⟨ho, -, -⟩, hx, hx5⟩
        obtain ⟨rfl, rfl⟩ : c = 0 ∧ x = .slice none 0 0 := hx
        obtain ⟨ua, uc, rfl⟩ := uform ho
        have E6 : Ext w5 ((w5.alloc (.cells #[.int .i64 (K : Int), .slice ua D.length uc, .int .i64 (p : Int), .int .i64 ((E : Int) + (p : Int))] 158)).alloc (.cells #[.int .i64 0, .slice none 0 0] 38)) := ((Ext.refl w5).alloc _).alloc _
        have HE6 := Lib.hid ((HE.out.trans hx5).trans E6)
        have HO6 := Lib.hid (ownsRow_ext (ownsRow_ext HO.out hx5) E6)
        have HS6 := Lib.hid ((HS.out.ext hx5).ext E6)
        have HU6 := Lib.hid (ownsRow_ext (owns_base ho HE.out.size) E6)
        have hap : Apart u4 (.slice ua D.length uc) := fun b h1 h2 => absurd (HO.out.lt b h1).2 (by have := (ho.lt b h2).1; omega)
        have HAP := Lib.hid hap
        have hne : Hid (some w5.heap.size ≠ u4.ownBlock) := fun e => by have := (HO.out.lt _ e.symm).2; have := hx5.size; omega
        have HUB := Lib.hid ((UBox.new w5 (K : Int) (.slice ua D.length uc) (p : Int) ((E : Int) + (p : Int)) 158).ext ((Ext.refl _).alloc (.cells #[.int .i64 0, .slice none 0 0] 38)))
        have HQ0 : Hid (((w5.alloc (.cells #[.int .i64 (K : Int), .slice ua D.length uc, .int .i64 (p : Int), .int .i64 ((E : Int) + (p : Int))] 158)).alloc (.cells #[.int .i64 0, .slice none 0 0] 38)).cell? ⟨w5.heap.size + 1, 0, none⟩ = some (.int .i64 0)) := by show _ = _; simp
        have HQ1 : Hid (((w5.alloc (.cells #[.int .i64 (K : Int), .slice ua D.length uc, .int .i64 (p : Int), .int .i64 ((E : Int) + (p : Int))] 158)).alloc (.cells #[.int .i64 0, .slice none 0 0] 38)).cell? ⟨w5.heap.size + 1, 1, none⟩ = some (.slice none 0 0)) := by show _ = _; simp
        clear HO HS HE ho hx5 hap E6 UQ
        go_wp2_with fail
        revert HE6 HO6 HS6 HU6 HUB HQ0 HQ1
        generalize World.alloc (World.alloc w5 _) _ = w6
        intro HE6 HO6 HS6 HU6 HUB HQ0 HQ1
        obtain ⟨⟨y0, y1, y2, y3⟩, -⟩ := HUB.out
        have q0 := HQ0.out
        have q1 := HQ1.out
        go_wp2_with fail
        refine (ok_any 0 _ _).mono ?_; rintro e w7 ⟨rfl, hx7⟩
        have HE7 := Lib.hid (HE6.out.trans hx7)
        have HO7 := Lib.hid (ownsRow_ext HO6.out hx7)
        have HS7 := Lib.hid (HS6.out.ext hx7)
        have HU7 := Lib.hid (ownsRow_ext HU6.out hx7)
        have hB7 : w1.heap.size ≤ (w7.heap.size) := HE7.out.size
        have z0 := hx7.cell y0
        have z1 := hx7.cell y1
        have z2 := hx7.cell y2
        have z3 := hx7.cell y3
        have hlt7 : w5.heap.size < w7.heap.size := Ext.lt z0
        have HC7 := Lib.hid z3
        clear HE6 HO6 HS6 HU6 HUB HQ0 HQ1 y0 y1 y2 y3 q0 q1 hx7
        rw [show ((0 : Int) == 0) = true from rfl]
        go_wp2_with (at_builtin; refine push_un rfl _ _ 128 rfl Tryz.underlying128 _ k _ (K : Int) (p : Int) ((E : Int) + (p : Int)) (.slice ua D.length uc) rfl rfl HO7.out (by show Value.slice (some ⟨_, 0, none⟩) 1 1 = _; simp) hB7 (by omega) ?_; intro v8 w8 h1 h2 h3; have HU8 := Lib.hid (push_bys HU7.out HAP.out h2 h3); have HS8 : Hid (UnOwn w8 w1.heap.size L S k v8) := fun q hq => ⟨(push_bys (HS7.out q hq).1 (HS7.out q hq).2.2.2 h2 h3).1, (HS7.out q hq).2.1, (HS7.out q hq).2.2.1, (push_bys (HS7.out q hq).1 (HS7.out q hq).2.2.2 h2 h3).2⟩; have HE8 : Hid (Ext w1 w8) := HE7.out.of_below (Below.grown (Below.refl _ _) h2 hB7 (fun k hk => (HO7.out.lt k hk).1)) (Nat.le_refl _); have HO8 := Lib.hid h1; have c8 : w8.cell? ⟨w5.heap.size, 3, none⟩ = some (.int .i64 ((E : Int) + (p : Int))) := (World.cell?_of_block (h2.block w5.heap.size hlt7 hne.out)).trans HC7.out; clear h1 h2 h3)
        go_roundw
        case rel =>
          refine ⟨k + 1, p + E, fun q => if q = k then .slice ua D.length uc else S q, ⟨by omega, e3⟩, ?_, HP2, ?_, ?_, HE8⟩
          · rw [Int.add_comm, Int.natCast_add]
          · show World.ownsRow _ _ _ _ _ _ _
            rw [ucs_succ, ucs_congr (M := L) (T := S) (fun q hq => if_neg (by omega)) (fun _ _ => rfl), if_pos rfl, HU.out]
            exact HO8.out
          · intro q hq
            by_cases hqk : q = k
            · subst hqk
              simp only [if_true]
              rw [HU.out]
              exact ⟨HU8.out.1, HD.out, by show D.length ≤ 100000; omega, HU8.out.2⟩
            · simp only [if_neg hqk]
              exact HS8.out q (by omega)
        case measure => simp [intOf]; omega
      · rw [HP.out] at e3
        obtain ⟨f1, f2⟩ := Prod.mk.inj e3
        obtain rfl := drop_nil f2 hk
        subst f1
        rw [e2] at UP
        have UQ := Lib.hid UP
        clear e2 e3 f2 H0 HP UP
        go_wp2_with fail
        refine (UQ.out).mono ?_; rintro e w5 ⟨u, c, x, rfl, ⟨ho, -, -⟩, hx, hx5⟩
        have hx : RErrIs w5 (some ([(unS, (p : Int))], C)) c x := hx
        obtain ⟨xa, xn, xc, rfl⟩ : ∃ a n cap, x = Value.slice a n cap := by obtain ⟨_, _, a, cap, e, -⟩ := hx; exact ⟨_, _, _, e⟩
        obtain ⟨ua, uc, rfl⟩ := uform ho
        obtain rfl : c = C := hx.1
        have E6 : Ext w5 ((w5.alloc (.cells #[.int .i64 0, .slice ua 0 uc, .int .i64 0, .int .i64 0] 158)).alloc (.cells #[.int .i64 c, .slice xa xn xc] 38)) := ((Ext.refl w5).alloc _).alloc _
        have HE6 := Lib.hid ((HE.out.trans hx5).trans E6)
        have HO6 := Lib.hid (ownsRow_ext (ownsRow_ext HO.out hx5) E6)
        have HS6 := Lib.hid ((HS.out.ext hx5).ext E6)
        have HX6 := Lib.hid (RErrIs.ext hx E6)
        have HQ0 : Hid (((w5.alloc (.cells #[.int .i64 0, .slice ua 0 uc, .int .i64 0, .int .i64 0] 158)).alloc (.cells #[.int .i64 c, .slice xa xn xc] 38)).cell? ⟨w5.heap.size + 1, 0, none⟩ = some (.int .i64 c)) := by show _ = _; simp
        have HQ1 : Hid (((w5.alloc (.cells #[.int .i64 0, .slice ua 0 uc, .int .i64 0, .int .i64 0] 158)).alloc (.cells #[.int .i64 c, .slice xa xn xc] 38)).cell? ⟨w5.heap.size + 1, 1, none⟩ = some (.slice xa xn xc)) := by show _ = _; simp
        clear HO HS HE ho hx hx5 E6 UQ
        go_wp2_with fail
        revert HE6 HO6 HS6 HX6 HQ0 HQ1
        generalize World.alloc (World.alloc w5 _) _ = w6
        intro HE6 HO6 HS6 HX6 HQ0 HQ1
        have q0 := HQ0.out
        have q1 := HQ1.out
        go_wp2_with fail
        refine (ok_any c _ _).mono ?_; rintro e w7 ⟨rfl, hx7⟩
        have HE7 := Lib.hid (HE6.out.trans hx7)
        have HO7 := Lib.hid (ownsRow_ext HO6.out hx7)
        have HS7 := Lib.hid (HS6.out.ext hx7)
        have HX7 := Lib.hid (RErrIs.ext HX6.out hx7)
        have HR7 := Lib.hid (HR1.out.ext HE7.out)
        have z0 := hx7.cell q0
        have z1 := hx7.cell q1
        clear HE6 HO6 HS6 HX6 HQ0 HQ1 q0 q1 hx7
        obtain ⟨⟨r0, r1⟩, r2, r3⟩ := HR7.out.cells
        rw [show (c == 0) = false by rw [beq_eq_false_iff_ne]; exact e1]
        go_wp2
        go_region
        go_wp2
        obtain ⟨y0, y1⟩ := rcells2 r0 r1 (.int .i64 c) (.slice xa xn xc)
        have D1 := (Ext.refl ((w7.setCell ⟨w.heap.size, 0, none⟩ (.int .i64 c)).setCell ⟨w.heap.size, 1, none⟩ (.slice xa xn xc))).drew
        obtain ⟨t1, t2, t3, t4⟩ := rs_end (w := w) (by rw [← HW1.out]; exact HO7.out) (by rw [← HW1.out]; exact HS7.out) HX7.out HR7.out (HE1.out.trans HE7.out)
        exact bodyPost_ret (v := .tuple #[u4, .agg #[.int .i64 c, .slice xa xn xc]]) (by simp [results, Tryz.results103, go_sem, y0, y1]) rfl ⟨u4, c, .slice xa xn xc, S, rfl, ownsRow_ext t1 D1, t2.ext D1, RErrIs.ext t3 D1, t4.trans D1⟩
    · have hpn : p = n := by omega
      subst hpn
      have e3 := sp_done (bs := bs) (a := p) (by rw [HN.out]; exact Nat.le_refl _)
      rw [HP.out] at e3
      obtain ⟨f1, f2⟩ := Prod.mk.inj e3
      obtain rfl := drop_nil f2 hk
      subst f1
      clear e3 f2 hlt
      have hlt : ¬ (p : Int) < (p : Int) := by omega
      have HR7 := Lib.hid (HR1.out.ext HE.out)
      obtain ⟨⟨r0, r1⟩, r2, r3⟩ := HR7.out.cells
      go_wp2
      obtain ⟨y0, y1⟩ := rcells2 r0 r1 (.int .i64 0) (.slice none 0 0)
      obtain ⟨t1, t2, t3, t4⟩ := rs_end (w := w) (by rw [← HW1.out]; exact HO.out) (by rw [← HW1.out]; exact HS.out) (RErrIs.zero (w := wr)) HR7.out (HE1.out.trans HE.out)
      exact bodyPost_ret (v := .tuple #[u4, .agg #[.int .i64 0, .slice none 0 0]]) (by simp [results, Tryz.results103, go_sem, y0, y1]) rfl ⟨u4, 0, .slice none 0 0, S, rfl, t1, t2, t3, t4⟩
end Go.Proofs.YtlaedbglclmheaaGreatDoor

/- kinref4.Number: its contract over this seat's translation. -/
namespace Go.Proofs.YtlaedbglclmheaaGreatDoor
set_option linter.unusedVariables false
set_option linter.unusedSimpArgs false
open Go.RowKit Go.Extern.Stop Go.Stop Go.Extern

def dg : Nat → Nat → List Nat
  | _, 0 => []
  | v, m + 1 => dg (v / 256) m ++ [v % 256]
theorem dg_len (v m : Nat) : (dg v m).length = m := by
  induction m generalizing v with
  | zero => rfl
  | succ m ih => simp [dg, ih]
theorem dg_lt (v m : Nat) : ∀ x ∈ dg v m, x < 256 := by
  induction m generalizing v with
  | zero => intro x hx; cases hx
  | succ m ih =>
    intro x hx
    simp only [dg, List.mem_append, List.mem_singleton] at hx
    rcases hx with hx | rfl
    · exact ih _ x hx
    · omega
theorem dg3 {n : Nat} (h : n < 16777216) : dg n 3 = be3 n := by
  show [n / 256 / 256 % 256, n / 256 % 256, n % 256] = [n / 65536, n / 256 % 256, n % 256]
  congr 1
  omega
theorem dg4 {s : Nat} (h : s < 4294967296) : dg s 4 = be4 s := by
  show [s / 256 / 256 / 256 % 256, s / 256 / 256 % 256, s / 256 % 256, s % 256] = [s / 16777216, s / 65536 % 256, s / 256 % 256, s % 256]
  congr 1
  · omega
  · congr 1
    omega
theorem rep_set2 (r : Nat) (T : List Nat) (y : Nat) : (List.replicate (r + 1) 0 ++ T).set r y = List.replicate r 0 ++ y :: T := by
  rw [List.replicate_succ', List.append_assoc, List.set_append, if_neg (by simp), List.length_replicate, Nat.sub_self]
  rfl
set_option maxHeartbeats 4000000 in
set_option maxRecDepth 20000 in
theorem number_any (v n : Nat) (w : World) (hv : v ≤ 4294967296) (hn : 0 < n ∧ n ≤ 8) : Calls Tryz.prog 82 #[.int .i64 (v : Int), .int .i64 (n : Int)] w fun e w' => ∃ u, e = .returned u ∧ Bys w' u (dg v n) ∧ Plain u ∧ Ext w w' := by
  obtain ⟨i0, hi, hz0, hz1, hz2⟩ := info_parts infoU8
  have m1 : IntKind.i64.wrap ((n : Int) - 1) = (n : Int) - 1 := by rw [IntKind.wrap_i64]; omega
  go_enter Tryz.func82, Tryz.ntmps82
  go_wp2_with (at_make; refine wpList_make_full _ rfl _ _ 30 rfl w.heap.size 5 i0 (.int .u8 0) 1 Tryz.underlying30 hi hz0 hz1 .i64 .i64 _ _ n rfl rfl rfl rfl (by rw [hz2]; omega) (by unfold maxLen; omega) (Nat.le_refl _) ?_; intro w2 hown hgrow)
  have HW0 : Hid (Wr w2 w.heap.size n n (List.replicate n 0 ++ [])) := by
    have h0 : w2.ownsRow w.heap.size 5 1 (.slice (some ⟨w.heap.size, 0, none⟩) n n) n (byC (zeroB n)) := by rw [← made_zero]; exact hown
    obtain ⟨g, c, e, hgb, hfr⟩ := own_parts h0 hn.1
    simp only [Value.slice.injEq, Option.some.injEq, Addr.mk.injEq, and_true, true_and] at e
    obtain ⟨e1, e2⟩ := e
    refine ⟨?_, fun j => by rw [e1]; exact hfr j⟩
    have := Bys.of_owns h0 (fun z hz => by rw [List.eq_of_mem_replicate hz]; decide) (by unfold zeroB; rw [List.length_replicate]; omega)
    rw [List.append_nil]
    exact this
  have HX2 := Lib.hid (Below.grown (Ext.refl w) hgrow (Nat.le_refl _) (fun k hk => by cases hk))
  clear hown hgrow
  go_loopw [0, 6] (fun vv iv wi => ∃ (r vm : Nat) (T : List Nat), r ≤ n ∧ vm ≤ 4294967296 ∧ vv = .int .i64 (vm : Int) ∧ iv = .int .i64 ((r : Int) - 1) ∧ Hid (dg vm r ++ T = dg v n) ∧ Hid (Wr wi w.heap.size n n (List.replicate r 0 ++ T)) ∧ Hid (Ext w wi)) (fun _ iv _ => (intOf iv + 1).toNat)
  case atStart => exact ⟨n, v, [], Nat.le_refl _, hv, rfl, rfl, by show _ = _; rw [List.append_nil], HW0, HX2⟩
  case round =>
    obtain ⟨r, vm, T, hr, hvm, rfl, rfl, HD, HWi, HXi⟩ := hrel
    cases r with
    | succ r =>
      have hlen : (List.replicate (r + 1) 0 ++ T).length = n := by rw [← HWi.out.1.len]
      have cI := HWi.out.1.at (nget_of_lt (j := r) (by rw [hlen]; omega))
      rw [Nat.zero_add] at cI
      obtain ⟨old, hold⟩ : ∃ o, (List.replicate (r + 1) 0 ++ T).getD r 0 = o := ⟨_, rfl⟩
      rw [hold] at cI
      have fI := HWi.out.2 r
      have HW9 := HWi.out.set (i := r) (y := vm % 256) (by omega) (by omega)
      rw [rep_set2] at HW9
      have HD9 : Hid (dg (vm / 256) r ++ (vm % 256 :: T) = dg v n) := by
        show _ = _
        rw [← HD.out]
        show _ = (dg (vm / 256) r ++ [vm % 256]) ++ T
        rw [List.append_assoc]
        rfl
      obtain ⟨y, hy⟩ : ∃ y, vm % 256 = y := ⟨_, rfl⟩
      obtain ⟨q, hq⟩ : ∃ q, vm / 256 = q := ⟨_, rfl⟩
      rw [hy] at HW9 HD9
      rw [hq] at HD9
      have HW9 := Lib.hid HW9
      have HX9 := Lib.hid (HXi.out.setCell (p := ⟨w.heap.size, r, none⟩) (Nat.le_refl _) (.int .u8 (y : Int)))
      have k1 : IntKind.u8.wrap (vm : Int) = (y : Int) := by rw [IntKind.wrap_u8]; omega
      have k2 : (vm : Int) / 256 = (q : Int) := by omega
      have k4 : IntKind.i64.wrap (q : Int) = (q : Int) := by rw [IntKind.wrap_i64]; omega
      have e1 : ((r + 1 : Nat) : Int) - 1 = (r : Int) := by omega
      have k3 : IntKind.i64.wrap ((r : Int) - 1) = (r : Int) - 1 := by rw [IntKind.wrap_i64]; omega
      have x1 : (0 : Int) ≤ (r : Int) := by omega
      have x2 : (r : Int) < (n : Int) := by omega
      have x3 : ((0 : Int) ≤ (r : Int)) = True := eq_true x1
      rw [e1]
      clear hlen hold hy hq
      go_wp2
      go_roundw
      case rel => exact ⟨r, q, y :: T, by omega, by omega, rfl, rfl, HD9, HW9, HX9⟩
      case measure => (first | (simp [intOf]; done) | (simp [intOf]; omega))
    | zero =>
      have HDT : Hid (T = dg v n) := HD.out
      have HW9 := HWi.out.1
      rw [List.replicate_zero, List.nil_append, HDT.out] at HW9
      have HW9 := Lib.hid HW9
      have e1 : (((0 : Nat) : Int) - 1) = -1 := rfl
      rw [e1]
      go_wp2
      go_ret
      exact ⟨_, rfl, HW9.out, .inr ⟨_, _, _, rfl⟩, HXi.out⟩
end Go.Proofs.YtlaedbglclmheaaGreatDoor

/- kinref4.Make: its contract over this seat's translation. -/
namespace Go.Proofs.YtlaedbglclmheaaGreatDoor
set_option linter.unusedVariables false
set_option linter.unusedSimpArgs false
open Go.RowKit Go.Extern.Stop Go.Stop Go.Extern

theorem own_one (W : World) (m : Nat) (hm : W.heap.size = m) (k : Int) : (W.alloc (.cells #[.int .u8 k] 5)).ownsRow m 5 1 (.slice (some ⟨m, 0, none⟩) 1 1) 1 [.int .u8 k] := by
  subst hm
  exact ⟨rfl, .inr ⟨W.heap.size, 1, #[.int .u8 k], rfl, Nat.le_refl _, heap_alloc_new W _, Nat.le_refl _, by decide, rfl, rfl⟩⟩
def RMPost (w : World) (bs : List Nat) (f : Fall) (e : Ending) (w' : World) : Prop := ∃ u c x, e = .returned (.tuple #[u, .agg #[.int .i64 c, x]]) ∧ Bys w' u bs ∧ RErrIs w' f c x ∧ Ext w w'
set_option maxHeartbeats 8000000 in
set_option maxRecDepth 20000 in
theorem rmake_any (kind : Int) (data : List Nat) (v : Value) (w : World) (h : Bys w v data) (hp : Plain v) (hlen : data.length ≤ 1000000) : Calls Tryz.prog 97 #[.int .i64 kind, v] w (RMPost w (ukV kind data) (ukF kind data.length)) := by
  obtain ⟨a, cap, rfl⟩ := h.form
  have HB := Lib.hid h
  have HD := Lib.hid h.2.1
  obtain ⟨n, hn'⟩ : ∃ n, data.length = n := ⟨_, rfl⟩
  have HN := Lib.hid hn'
  have HB2 : Hid (Bys w (.slice a n cap) data) := by show Bys _ _ _; rw [← hn']; exact h
  have HP : Hid (Plain (.slice a n cap)) := by show Plain _; rw [← hn']; exact hp
  rw [hn'] at hlen ⊢
  clear h hn' hp
  by_cases h1 : kind < 0
  · have HF : Hid (ukF kind n = some ([], 13)) := by show _ = _; unfold ukF; rw [if_pos (.inl h1)]
    have HV : Hid (ukV kind data = []) := by show _ = _; unfold ukV; rw [HN.out, HF.out]
    go_enter Tryz.func97, Tryz.ntmps97
    go_wp2_with fail
    refine (fail_any 13 _).mono ?_; rintro e w1 ⟨rfl, hx1⟩
    have R1 := (ResAt.new w).ext hx1
    obtain ⟨g0, g1, g2, g3⟩ := R1
    have E1 := ((Ext.refl w).alloc (.cells #[.int .i64 0, .slice none 0 0] 38)).trans hx1
    have HE2 := Lib.hid ((E1.setCell (p := ⟨w.heap.size, 0, none⟩) (Nat.le_refl _) (.int .i64 13)).setCell (p := ⟨w.heap.size, 1, none⟩) (Nat.le_refl _) (.slice none 0 0))
    clear E1
    go_wp2
    obtain ⟨e0, e1⟩ := res_cells g0 g1 (c := 13) (.slice none 0 0)
    exact bodyPost_ret (v := .tuple #[.slice none 0 0, .agg #[.int .i64 13, .slice none 0 0]]) (by simp [results, Tryz.results97, go_sem, e0, e1]) rfl ⟨.slice none 0 0, 13, .slice none 0 0, rfl, by rw [HV.out]; exact Bys.nil _, by rw [HF.out]; exact RErrIs.code (by decide), HE2.out⟩
  · by_cases h2 : 255 < kind
    · have HF : Hid (ukF kind n = some ([], 13)) := by show _ = _; unfold ukF; rw [if_pos (.inr (.inl h2))]
      have HV : Hid (ukV kind data = []) := by show _ = _; unfold ukV; rw [HN.out, HF.out]
      go_enter Tryz.func97, Tryz.ntmps97
      go_wp2_with fail
      refine (fail_any 13 _).mono ?_; rintro e w1 ⟨rfl, hx1⟩
      have R1 := (ResAt.new w).ext hx1
      obtain ⟨g0, g1, g2, g3⟩ := R1
      have E1 := ((Ext.refl w).alloc (.cells #[.int .i64 0, .slice none 0 0] 38)).trans hx1
      have HE2 := Lib.hid ((E1.setCell (p := ⟨w.heap.size, 0, none⟩) (Nat.le_refl _) (.int .i64 13)).setCell (p := ⟨w.heap.size, 1, none⟩) (Nat.le_refl _) (.slice none 0 0))
      clear E1
      go_wp2
      obtain ⟨e0, e1⟩ := res_cells g0 g1 (c := 13) (.slice none 0 0)
      exact bodyPost_ret (v := .tuple #[.slice none 0 0, .agg #[.int .i64 13, .slice none 0 0]]) (by simp [results, Tryz.results97, go_sem, e0, e1]) rfl ⟨.slice none 0 0, 13, .slice none 0 0, rfl, by rw [HV.out]; exact Bys.nil _, by rw [HF.out]; exact RErrIs.code (by decide), HE2.out⟩
    · by_cases h0 : kind = 0
      · subst h0
        by_cases h3 : 0 < n
        · have HF : Hid (ukF 0 n = some ([], 13)) := by show _ = _; unfold ukF; rw [if_pos (.inr (.inr ⟨rfl, h3⟩))]
          have h3' : (0 : Int) < (n : Int) := by omega
          obtain ⟨kind, hkk⟩ : ∃ kind : Int, kind = 0 := ⟨0, rfl⟩
          rw [← hkk] at HF ⊢
          have k00 : (kind == 0) = true := by rw [hkk]; rfl
          clear hkk
          have h1 : ¬ kind < 0 := by rw [beq_iff_eq] at k00; omega
          have h2 : ¬ 255 < kind := by rw [beq_iff_eq] at k00; omega
          have HV : Hid (ukV kind data = []) := by show _ = _; unfold ukV; rw [HN.out, HF.out]
          go_enter Tryz.func97, Tryz.ntmps97
          go_wp2_with fail
          refine (fail_any 13 _).mono ?_; rintro e w1 ⟨rfl, hx1⟩
          have R1 := (ResAt.new w).ext hx1
          obtain ⟨g0, g1, g2, g3⟩ := R1
          have E1 := ((Ext.refl w).alloc (.cells #[.int .i64 0, .slice none 0 0] 38)).trans hx1
          have HE2 := Lib.hid ((E1.setCell (p := ⟨w.heap.size, 0, none⟩) (Nat.le_refl _) (.int .i64 13)).setCell (p := ⟨w.heap.size, 1, none⟩) (Nat.le_refl _) (.slice none 0 0))
          clear E1
          go_wp2
          obtain ⟨e0, e1⟩ := res_cells g0 g1 (c := 13) (.slice none 0 0)
          exact bodyPost_ret (v := .tuple #[.slice none 0 0, .agg #[.int .i64 13, .slice none 0 0]]) (by simp [results, Tryz.results97, go_sem, e0, e1]) rfl ⟨.slice none 0 0, 13, .slice none 0 0, rfl, by rw [HV.out]; exact Bys.nil _, by rw [HF.out]; exact RErrIs.code (by decide), HE2.out⟩
        · obtain rfl : n = 0 := by omega
          have HF : Hid (ukF 0 0 = none) := by show _ = _; decide
          have HV : Hid (ukV 0 data = [0]) := by show _ = _; unfold ukV; rw [HN.out, HF.out]; rfl
          have A1 : Ext w (w.alloc (.cells #[.int .i64 0, .slice none 0 0] 38)) := (Ext.refl w).alloc _
          have HE2 := Lib.hid (A1.alloc (.cells #[.int .u8 0] 5))
          have HR := Lib.hid (((ResAt.new w).ext ((Ext.refl _).alloc (.cells #[.int .u8 0] 5))))
          have HY := Lib.hid (Bys.of_owns (bs := [0]) (own_one (w.alloc (.cells #[.int .i64 0, .slice none 0 0] 38)) (w.heap.size + 1) (by simp) 0) (by decide) (by decide))
          clear A1
          go_enter Tryz.func97, Tryz.ntmps97
          go_wp2
          obtain ⟨q0, q1, q2, q3⟩ := HR.out
          exact bodyPost_ret (v := .tuple #[.slice (some ⟨w.heap.size + 1, 0, none⟩) 1 1, .agg #[.int .i64 0, .slice none 0 0]]) (by simp [results, Tryz.results97, go_sem, q0, q1]) rfl ⟨_, 0, .slice none 0 0, rfl, by rw [HV.out]; exact HY.out, by rw [HF.out]; exact RErrIs.zero, HE2.out⟩
      · obtain ⟨k, rfl⟩ : ∃ k : Nat, kind = (k : Int) := ⟨kind.toNat, by omega⟩
        have k0 : ((k : Int) == 0) = false := by rw [beq_eq_false_iff_ne]; omega
        by_cases h4 : 65536 < n
        · have HF : Hid (ukF (k : Int) n = some ([], 5)) := by show _ = _; unfold ukF; rw [if_neg (by omega), if_pos h4]
          have h4' : (65536 : Int) < (n : Int) := by omega
          obtain ⟨kind, hkk⟩ : ∃ kind : Int, kind = (k : Int) := ⟨_, rfl⟩
          rw [← hkk] at HF k0 h1 h2 ⊢
          clear hkk h0
          have HV : Hid (ukV kind data = []) := by show _ = _; unfold ukV; rw [HN.out, HF.out]
          go_enter Tryz.func97, Tryz.ntmps97
          go_wp2_with fail
          refine (fail_any 5 _).mono ?_; rintro e w1 ⟨rfl, hx1⟩
          have R1 := (ResAt.new w).ext hx1
          obtain ⟨g0, g1, g2, g3⟩ := R1
          have E1 := ((Ext.refl w).alloc (.cells #[.int .i64 0, .slice none 0 0] 38)).trans hx1
          have HE2 := Lib.hid ((E1.setCell (p := ⟨w.heap.size, 0, none⟩) (Nat.le_refl _) (.int .i64 5)).setCell (p := ⟨w.heap.size, 1, none⟩) (Nat.le_refl _) (.slice none 0 0))
          clear E1
          go_wp2
          obtain ⟨e0, e1⟩ := res_cells g0 g1 (c := 5) (.slice none 0 0)
          exact bodyPost_ret (v := .tuple #[.slice none 0 0, .agg #[.int .i64 5, .slice none 0 0]]) (by simp [results, Tryz.results97, go_sem, e0, e1]) rfl ⟨.slice none 0 0, 5, .slice none 0 0, rfl, by rw [HV.out]; exact Bys.nil _, by rw [HF.out]; exact RErrIs.code (by decide), HE2.out⟩
        · have HF : Hid (ukF (k : Int) n = none) := by show _ = _; unfold ukF; rw [if_neg (by omega), if_neg h4]
          have HV : Hid (ukV (k : Int) data = hdB k data ++ be4 (crc (hdB k data))) := by show _ = _; unfold ukV; rw [HN.out, HF.out]; show encB _ _ = _; unfold encB; rw [if_neg (by omega)]; rfl
          have hhl := hdB_lt (kind := k) (data := data) (by omega) HD.out (by rw [HN.out]; omega)
          have hs := crc_lt hhl
          have HHL := Lib.hid hhl
          have HH : Hid (hdB k data = ([k] ++ dg n 3) ++ data) := by show _ = _; rw [dg3 (by omega)]; unfold hdB; rw [HN.out]; rfl
          have HLN : Hid ((hdB k data).length = n + 4) := by show _ = _; rw [hdB_len, HN.out]
          rw [← dg4 hs] at HV
          obtain ⟨hd, hhd⟩ : ∃ hd, hdB k data = hd := ⟨_, rfl⟩
          rw [hhd] at HV HH HHL HLN hs
          obtain ⟨s, hss⟩ : ∃ s, crc hd = s := ⟨_, rfl⟩
          have HSS := Lib.hid hss
          rw [hss] at hs HV
          have m6 : IntKind.u8.wrap (k : Int) = (k : Int) := by rw [IntKind.wrap_u8]; omega
          have o7 : IntKind.i64.wrap (s : Int) = (s : Int) := by rw [IntKind.wrap_i64]; omega
          have n4 : ¬ (65536 : Int) < (n : Int) := by omega
          have UN3 := Lib.hid (fun w => number_any n 3 w (by omega) (by decide))
          have UN4 := Lib.hid (fun w => number_any s 4 w (by omega) (by decide))
          have HE0 := Lib.hid ((Ext.refl w).alloc (.cells #[.int .i64 0, .slice none 0 0] 38))
          have HR0 := Lib.hid (ResAt.new w)
          have HO1 := Lib.hid (own_one (w.alloc (.cells #[.int .i64 0, .slice none 0 0] 38)) (w.heap.size + 1) (by simp) (k : Int))
          have HW1 := Lib.hid ((Ext.refl (w.alloc (.cells #[.int .i64 0, .slice none 0 0] 38))).alloc (.cells #[.int .u8 (k : Int)] 5))
          have hsz : (w.alloc (.cells #[.int .i64 0, .slice none 0 0] 38)).heap.size = w.heap.size + 1 := by simp
          have HSZ := Lib.hid (Nat.le_of_eq hsz)
          clear hhl hhd hss hsz
          go_enter Tryz.func97, Tryz.ntmps97
          go_wp2_with fail
          refine (UN3.out _).mono ?_; rintro e w2 ⟨u2, rfl, hy2, hp2, hx2⟩
          have HY2 := Lib.hid hy2
          have HP2 := Lib.hid hp2
          have HO2 := Lib.hid (ownsRow_ext HO1.out hx2)
          have HW2 := Lib.hid (HW1.out.trans hx2)
          have hs2 := Nat.le_trans (Nat.le_succ (w.heap.size + 1)) (by have := hx2.size; simpa using this)
          clear hy2 hp2 hx2
          go_wp2_with (first
            | (go_at_call 112; refine (rsum_any hd _ _ HY4.out).mono ?_; rintro e w9 ⟨rfl, rfl⟩; rw [HSS.out])
            | (go_at_call 82; refine (UN4.out _).mono ?_; rintro e w5 ⟨u5, rfl, hy5, hp5, hx5⟩; have HY5 := Lib.hid hy5; have HP5 := Lib.hid hp5; have HO5 := Lib.hid (ownsRow_ext HO4.out hx5); have HW5 := Lib.hid (HW4.out.trans hx5); have hs5 := Nat.le_trans hs4 hx5.size; clear hy5 hp5 hx5)
            | (at_builtin; refine app_bys rfl _ _ 30 rfl Tryz.underlying30 _ 1 [k] (dg n 3) _ rfl HO2.out rfl HY2.out HP2.out hs2 (by decide) (by rw [dg_len]; decide) ?_; rw [dg_len]; intro g3 cap3 w3 h1 h2; have HO3 := Lib.hid h1; have HW3 := Lib.hid (own_grow HO2.out h2 HW2.out HSZ.out); have hs3 := Nat.le_trans hs2 h2.size; clear h1 h2)
            | (at_builtin; refine app_bys rfl _ _ 30 rfl Tryz.underlying30 _ 4 ([k] ++ dg n 3) data _ rfl HO3.out rfl (HB2.out.ext (HE0.out.trans HW3.out)) HP.out hs3 (by decide) (by rw [HN.out]; omega) ?_; rw [HN.out]; intro g4 cap4 w4 h1 h2; have HO4 : Hid (w4.ownsRow (w.heap.size + 1) 5 1 (.slice (some ⟨g4, 0, none⟩) (4 + n) cap4) (4 + n) (byC hd)) := (by show World.ownsRow _ _ _ _ _ _ _; rw [HH.out]; exact h1); have HW4 := Lib.hid (own_grow HO3.out h2 HW3.out HSZ.out); have hs4 := Nat.le_trans hs3 h2.size; have HY4 : Hid (Bys w4 (.slice (some ⟨g4, 0, none⟩) (4 + n) cap4) hd) := Bys.of_owns HO4.out HHL.out (by rw [HLN.out]; omega); clear h1 h2)
            | (at_builtin; refine app_bys rfl _ _ 30 rfl Tryz.underlying30 _ (4 + n) hd (dg s 4) _ rfl HO5.out rfl HY5.out HP5.out hs5 (by omega) (by rw [dg_len]; omega) ?_; rw [dg_len]; intro g6 cap6 w6 h1 h2; have HO6 := Lib.hid h1; have HW6 := Lib.hid (own_grow HO5.out h2 HW5.out HSZ.out); have HR6 := Lib.hid (HR0.out.ext HW6.out); obtain ⟨q0, q1, q2, q3⟩ := HR6.out; clear h1 h2))
          have HE9 := Lib.hid (((HE0.out.trans HW6.out).setCell (p := ⟨w.heap.size, 0, none⟩) (Nat.le_refl _) (.int .i64 0)).setCell (p := ⟨w.heap.size, 1, none⟩) (Nat.le_refl _) (.slice none 0 0))
          obtain ⟨e0, e1⟩ := res_cells q0 q1 (c := 0) (.slice none 0 0)
          refine bodyPost_ret (v := .tuple #[.slice (some ⟨g6, 0, none⟩) (4 + n + 4) cap6, .agg #[.int .i64 0, .slice none 0 0]]) (by simp [results, Tryz.results97, go_sem, e0, e1]) rfl ⟨_, 0, .slice none 0 0, rfl, ?_, by rw [HF.out]; exact RErrIs.zero, HE9.out⟩
          have h6 := own_cell_lt (own_cell_lt HO6.out (p := ⟨w.heap.size, 0, none⟩) (.int .i64 0) (Nat.lt_succ_self _)) (p := ⟨w.heap.size, 1, none⟩) (.slice none 0 0) (Nat.lt_succ_self _)
          rw [HV.out]
          refine Bys.of_owns h6 (fun z hz => ?_) (by rw [List.length_append, HLN.out, dg_len]; omega)
          rcases List.mem_append.1 hz with hz | hz
          · exact HHL.out z hz
          · exact dg_lt s 4 z hz
end Go.Proofs.YtlaedbglclmheaaGreatDoor

/- kinlaw4.UnitMakes: the walk. -/
namespace Go.Proofs.YtlaedbglclmheaaGreatDoor
set_option linter.unusedVariables false
set_option linter.unusedSimpArgs false
open Go.RowKit Go.Extern.Stop Go.Stop Go.Extern

theorem RErrIs.frm {w : World} {f : Fall} {c : Int} {u : Value} (h : RErrIs w f c u) : ∃ a n cap, u = .slice a n cap := by
  cases f with
  | none => exact ⟨none, 0, 0, h.2⟩
  | some p =>
    obtain ⟨a, cap, e⟩ := h.2.2.form
    exact ⟨a, _, cap, e⟩
theorem size_any2 (n : Int) (w : World) (h : -9223372036854775808 ≤ n ∧ n ≤ 4611686018427387904) : Calls Tryz.prog 67 #[.int .i64 n] w fun e w' => e = .returned (.int .i64 (n + 8)) ∧ w = w' := by
  have j1 : IntKind.i64.wrap (n + 4) = n + 4 := by rw [IntKind.wrap_i64]; omega
  have j2 : IntKind.i64.wrap (n + 4 + 4) = n + 8 := by rw [IntKind.wrap_i64]; omega
  go_enter Tryz.func67, Tryz.ntmps67
  go_wp2
  go_ret
  exact ⟨rfl, rfl⟩
end Go.Proofs.YtlaedbglclmheaaGreatDoor

/- kinref.Unit; kinlaw4.UnitNexts: the walk. -/
namespace Go.Proofs.YtlaedbglclmheaaGreatDoor
set_option linter.unusedVariables false
set_option linter.unusedSimpArgs false
open Go.RowKit Go.Extern.Stop Go.Stop Go.Extern

end Go.Proofs.YtlaedbglclmheaaGreatDoor

/- kinref.Units: its contract over this seat's translation. -/
namespace Go.Proofs.YtlaedbglclmheaaGreatDoor
set_option linter.unusedVariables false
set_option linter.unusedSimpArgs false
open Go.RowKit Go.Extern.Stop Go.Stop Go.Extern

end Go.Proofs.YtlaedbglclmheaaGreatDoor

/- Units behind units: plain; bytes put behind any bytes; the code of a result. -/
namespace Go.Proofs.YtlaedbglclmheaaGreatDoor
set_option linter.unusedVariables false
set_option linter.unusedSimpArgs false
open Go.RowKit Go.Extern.Stop Go.Stop Go.Extern

theorem getD_app {α : Type} (c d : List α) (x : α) {j : Nat} (h : j < c.length) : (c ++ d).getD j x = c.getD j x := by
  simp only [List.getD_eq_getElem?_getD]
  rw [List.getElem?_append_left h]
/-- what reads as a unit reads so with anything behind it -/
theorem rd_more {c d : List Nat} (hc : 0 < c.length) (h : (rdU c).1 = 0) : rdU (c ++ d) = rdU c := by
  have g0 := getD_app c d 0 hc
  unfold rdU at h ⊢
  rw [g0]
  split at h
  · rename_i h0
    rw [if_pos h0, if_pos h0]
  · rename_i h0
    rw [if_neg h0, if_neg h0]
    split at h
    · cases h
    · rename_i h1
      have hl : lnB (c ++ d) = lnB c := by
        unfold lnB
        rw [getD_app c d 0 (by omega), getD_app c d 0 (by omega), getD_app c d 0 (by omega)]
      rw [if_neg (by rw [List.length_append]; omega), if_neg h1, hl]
      split at h
      · cases h
      · rename_i h2
        rw [if_neg h2, if_neg h2]
        split at h
        · cases h
        · rename_i h3
          have hs : smB (c ++ d) (4 + lnB c) = smB c (4 + lnB c) := by
            unfold smB
            rw [getD_app c d 0 (by omega), getD_app c d 0 (by omega), getD_app c d 0 (by omega), getD_app c d 0 (by omega)]
          rw [if_neg (by rw [List.length_append]; omega), if_neg h3, hs]
          rw [List.take_append_of_le_length (by omega), List.drop_append_of_le_length (by omega), List.take_append_of_le_length (by rw [List.length_drop]; omega)]
theorem sp_first (a b : List Nat) : ∀ (f p : Nat), a.length - p < f → p ≤ a.length → (spU a p).1 = none → spU (a ++ b) p = ((spU (a ++ b) a.length).1, (spU a p).2 ++ (spU (a ++ b) a.length).2)
  | 0, _, h, _, _ => absurd h (Nat.not_lt_zero _)
  | f + 1, p, h, hp, hn => by
    by_cases h0 : p < a.length
    · by_cases hc : (rdU (a.drop p)).1 = 0
      · have hd : (a ++ b).drop p = a.drop p ++ b := List.drop_append_of_le_length hp
        have hm := rd_more (d := b) (by rw [List.length_drop]; omega) hc
        have hpos := (rdU_fine _ hc).1
        have hend := rdU_end (a.drop p) (by rw [List.length_drop]; omega)
        rw [List.length_drop] at hend
        obtain ⟨⟨C, K, D, E⟩, hR⟩ : ∃ R, rdU (a.drop p) = R := ⟨_, rfl⟩
        rw [hR] at hc hm hpos hend
        have hc' : C = 0 := hc
        subst hc'
        have hend' : E ≤ a.length - p := hend
        have hpos' : 0 < E := hpos
        have e1 := sp_next h0 hR
        have e2 := sp_next (bs := a ++ b) (a := p) (by rw [List.length_append]; omega) (by rw [hd]; exact hm)
        rw [e1] at hn
        have ih := sp_first a b f (p + E) (by omega) (by omega) hn
        rw [e2, ih, e1]
        rfl
      · rw [sp_none h0 hc] at hn
        cases hn
    · have : p = a.length := by omega
      subst this
      rw [sp_done (bs := a) (Nat.le_refl _)]
      simp
/-- a unit, moved; what ended, moved -/
def shU (n : Nat) (u : Un) : Un := (u.1, u.2.1, u.2.2.1 + (n : Int), u.2.2.2 + (n : Int))
def shF (n : Nat) : Fall → Fall
  | none => none
  | some (l, c) => some (l.map fun s => (s.1, s.2 + (n : Int)), c)
theorem sp_shift (a b : List Nat) : ∀ (f i : Nat), b.length - i < f → spU (a ++ b) (a.length + i) = (shF a.length (spU b i).1, (spU b i).2.map (shU a.length))
  | 0, _, h => absurd h (Nat.not_lt_zero _)
  | f + 1, i, h => by
    have hd : (a ++ b).drop (a.length + i) = b.drop i := by rw [List.drop_append, List.drop_eq_nil_of_le (by omega), List.nil_append]; congr 1; omega
    by_cases h0 : i < b.length
    · by_cases hc : (rdU (b.drop i)).1 = 0
      · have hpos := (rdU_fine _ hc).1
        obtain ⟨⟨C, K, D, E⟩, hR⟩ : ∃ R, rdU (b.drop i) = R := ⟨_, rfl⟩
        rw [hR] at hc hpos
        have hc' : C = 0 := hc
        subst hc'
        have hpos' : 0 < E := hpos
        rw [sp_next (bs := a ++ b) (a := a.length + i) (by rw [List.length_append]; omega) (by rw [hd]; exact hR), sp_next h0 hR, Nat.add_assoc, sp_shift a b f (i + E) (by omega)]
        show (_, (K, D, ((a.length + i : Nat) : Int), (E : Int) + ((a.length + i : Nat) : Int)) :: _) = (_, (K, D, (i : Int) + (a.length : Int), (E : Int) + (i : Int) + (a.length : Int)) :: _)
        rw [show ((a.length + i : Nat) : Int) = (i : Int) + (a.length : Int) by omega, show (E : Int) + ((i : Int) + (a.length : Int)) = (E : Int) + (i : Int) + (a.length : Int) by omega]
      · rw [sp_none (bs := a ++ b) (a := a.length + i) (by rw [List.length_append]; omega) (by rw [hd]; exact hc), sp_none h0 hc, hd]
        show (some ([(unS, ((a.length + i : Nat) : Int))], _), _) = (some ([(unS, (i : Int) + (a.length : Int))], _), _)
        rw [show ((a.length + i : Nat) : Int) = (i : Int) + (a.length : Int) by omega]
        rfl
    · rw [sp_done (by rw [List.length_append]; omega), sp_done (by omega)]
      rfl
theorem sp_join {a b : List Nat} {L M : List Un} {F : Fall} (ha : spU a 0 = (none, L)) (hb : spU b 0 = (F, M)) : spU (a ++ b) 0 = (shF a.length F, L ++ M.map (shU a.length)) := by
  rw [sp_first a b (a.length + 1) 0 (by omega) (Nat.zero_le _) (by rw [ha]), ha]
  have := sp_shift a b (b.length + 1) 0 (by omega)
  rw [Nat.add_zero, hb] at this
  rw [this]
theorem sp_bound (bs : List Nat) : ∀ (f i : Nat), bs.length - i < f → ∀ u ∈ (spU bs i).2, (0 ≤ u.2.2.1 ∧ u.2.2.1 ≤ (bs.length : Int)) ∧ (0 ≤ u.2.2.2 ∧ u.2.2.2 ≤ (bs.length : Int))
  | 0, _, h => absurd h (Nat.not_lt_zero _)
  | f + 1, i, h => by
    by_cases h0 : i < bs.length
    · rcases sp_step bs i h0 with ⟨K, D, E, -, ⟨h1, h2, -⟩, -, h3⟩ | ⟨C, -, -, h3⟩
      · rw [h3]
        intro u hu
        rcases List.mem_cons.1 hu with rfl | hu
        · show (0 ≤ (i : Int) ∧ (i : Int) ≤ _) ∧ (0 ≤ (E : Int) + (i : Int) ∧ (E : Int) + (i : Int) ≤ _)
          omega
        · exact sp_bound bs f (i + E) (by omega) u hu
      · rw [h3]
        intro u hu
        cases hu
    · rw [sp_done (by omega)]
      intro u hu
      cases hu
theorem Uns.take {w : World} {g off n cap : Nat} {L : List Un} (h : Uns w (.slice (some ⟨g, off, none⟩) n cap) L) {k : Nat} (hk : k ≤ n) : Uns w (.slice (some ⟨g, off, none⟩) k cap) (L.take k) := by
  have hl := h.len
  obtain ⟨a', cap', e, hc, -⟩ := id h
  simp only [Value.slice.injEq] at e
  obtain ⟨rfl, -, rfl⟩ := e
  have ht : (L.take k).length = k := by rw [List.length_take]; omega
  refine ⟨_, _, by rw [ht], by rw [ht]; omega, fun _ => ⟨g, off, rfl, fun q u hq => h.at ?_⟩⟩
  rw [List.getElem?_take] at hq
  split at hq
  · exact hq
  · cases hq
/-- bytes put behind bytes of the call's own, of any length -/
theorem app_any {ops : Array Oper} {rest : List Oper} {o : Oper} {a : Act} {Q : Exit → Act → World → Prop} {W : World} {base : Nat} (hgd : o.guard = none) (s y : Operand) (t : TypeId)
    (ho : o.op = .call { callee := .builtin .append, args := #[s, y], argTypes := #[t, t] }) (ht : Tryz.prog.underlying t = some (.slice 5))
    (v : Value) (n : Nat) (xs ys : List Nat) (u : Value) (hs : a.eval s = v) (hown : W.ownsRow base 5 1 v n (byC xs)) (hy : a.eval y = u) (hu : Bys W u ys) (hp : Plain u) (hb : base ≤ W.heap.size) (hm : n + ys.length ≤ 1000000000)
    (h : ∀ v' w', w'.ownsRow base 5 1 v' (n + ys.length) (byC (xs ++ ys)) → W.grownBy w' v.ownBlock → wpList Tryz.prog ops Q rest (a.put o.dst v') w') :
    wpList Tryz.prog ops Q (o :: rest) a W := by
  obtain ⟨i0, hi, hz0, hz1, hz2⟩ := info_parts infoU8
  have hbc : byC (xs ++ ys) = byC xs ++ byC ys := by simp [byC]
  rcases hp with rfl | ⟨ad, m, c, rfl⟩
  · have hl := hu.len
    have hnil : ys = [] := List.eq_nil_of_length_eq_zero hl.symm
    subst hnil
    refine wpList_append_own_none hgd s y t ho base 5 i0 1 ht hi _ n (byC xs) hs hown hy ?_
    have := h v W (by simpa using hown) (World.grownBy.refl _ _)
    simpa using this
  · have hl := hu.len
    subst hl
    have hnews : ∀ j u, (byC ys)[j]? = some u → W.cell? (ad.add j) = some u := by
      intro j u hj
      obtain ⟨a', cap', e, h1, h2, h3, h4⟩ := hu.1
      simp only [Value.slice.injEq] at e
      obtain ⟨e1, -, -⟩ := e
      have hj0 : 0 < ys.length := by
        unfold byC at hj
        rw [List.getElem?_map] at hj
        obtain ⟨x, hx, -⟩ := Option.map_eq_some_iff.1 hj
        have := (List.getElem?_eq_some_iff.1 hx).1
        omega
      obtain ⟨g, off, e2⟩ := h3 hj0
      rw [← e1] at e2
      obtain rfl := Option.some.inj e2
      have hadd : (⟨g, off, none⟩ : Addr).add j = ⟨g, off + j, none⟩ := by unfold Addr.add; split <;> simp_all
      rw [hadd]
      exact h4 g off e1.symm j u hj
    refine wpList_append_own _ hgd s y t ho base 5 i0 (.int .u8 0) 1 1 ht hi hz0 hz1 hz2 rfl (by decide) v n (byC xs) hs hown ad ys.length c (byC ys) hy (by rw [byC_length, Nat.mul_one]) hnews (byC_one ys) (by unfold maxLen; omega) (by omega) hb ?_
    intro v' w' h1 h2 _
    exact h v' w' (by rw [hbc]; exact h1) h2
end Go.Proofs.YtlaedbglclmheaaGreatDoor

/- Units that were made, one behind the other, cut anywhere: plain. -/
namespace Go.Proofs.YtlaedbglclmheaaGreatDoor
set_option linter.unusedVariables false
set_option linter.unusedSimpArgs false
open Go.RowKit Go.Extern.Stop Go.Stop Go.Extern

abbrev Um := Nat × List Nat
/-- a unit that can be made -/
def okM (u : Um) : Prop := u.1 < 256 ∧ (u.1 = 0 → u.2 = []) ∧ u.2.length ≤ 65536 ∧ ∀ x ∈ u.2, x < 256
def outM : List Um → List Nat
  | [] => []
  | u :: t => encB u.1 u.2 ++ outM t
/-- as units, from a place on -/
def lay : Nat → List Um → List Un
  | _, [] => []
  | p, u :: t => (u.1, u.2, (p : Int), ((p + (encB u.1 u.2).length : Nat) : Int)) :: lay (p + (encB u.1 u.2).length) t
theorem outM_app (l m : List Um) : outM (l ++ m) = outM l ++ outM m := by
  induction l with
  | nil => rfl
  | cons u t ih => show encB u.1 u.2 ++ outM (t ++ m) = _; rw [ih, ← List.append_assoc]; rfl
theorem lay_app (p : Nat) (l m : List Um) : lay p (l ++ m) = lay p l ++ lay (p + (outM l).length) m := by
  induction l generalizing p with
  | nil => rfl
  | cons u t ih =>
    show _ :: lay (p + (encB u.1 u.2).length) (t ++ m) = _
    rw [ih]
    show _ = (_ :: lay (p + (encB u.1 u.2).length) t) ++ lay (p + (encB u.1 u.2 ++ outM t).length) m
    rw [List.length_append, Nat.add_assoc, List.cons_append]
theorem lay_len (p : Nat) (l : List Um) : (lay p l).length = l.length := by
  induction l generalizing p with
  | nil => rfl
  | cons u t ih => show (lay _ t).length + 1 = t.length + 1; rw [ih]
theorem lay_take (p : Nat) (l : List Um) (n : Nat) : lay p (l.take n) = (lay p l).take n := by
  induction l generalizing p n with
  | nil => cases n <;> rfl
  | cons u t ih =>
    cases n with
    | zero => rfl
    | succ n => show _ :: lay _ (t.take n) = _ :: (lay _ t).take n; rw [ih]
/-- where the first so many end -/
def eN (l : List Um) (n : Nat) : Nat := (outM (l.take n)).length
theorem eN_app (l m : List Um) {n : Nat} (h : n ≤ l.length) : eN (l ++ m) n = eN l n := by unfold eN; rw [List.take_append_of_le_length h]
def endsM (l : List Um) : List Int := (List.range l.length).map fun q => ((eN l (q + 1) : Nat) : Int)
theorem ends_len (l : List Um) : (endsM l).length = l.length := by unfold endsM; rw [List.length_map, List.length_range]
theorem ends_get (l : List Um) {q : Nat} (h : q < l.length) : (endsM l)[q]? = some ((eN l (q + 1) : Nat) : Int) := by
  unfold endsM
  rw [List.getElem?_map, List.getElem?_range h]
  rfl
theorem ends_snoc (l : List Um) (u : Um) : endsM (l ++ [u]) = endsM l ++ [((outM l ++ encB u.1 u.2).length : Int)] := by
  unfold endsM
  rw [List.length_append, List.length_singleton, List.range_succ, List.map_append]
  congr 1
  · apply List.map_congr_left
    intro q hq
    rw [eN_app l [u] (by have := List.mem_range.1 hq; omega)]
  · show [((eN (l ++ [u]) (l.length + 1) : Nat) : Int)] = _
    unfold eN
    rw [List.take_of_length_le (by rw [List.length_append]; exact Nat.le_refl _), outM_app]
    show [(((outM l ++ (encB u.1 u.2 ++ [])).length : Nat) : Int)] = _
    rw [List.append_nil]
theorem out_snoc (l : List Um) (u : Um) : outM (l ++ [u]) = outM l ++ encB u.1 u.2 := by
  rw [outM_app]
  show outM l ++ (encB u.1 u.2 ++ []) = _
  rw [List.append_nil]
theorem lay_snoc (l : List Um) (u : Um) : lay 0 (l ++ [u]) = lay 0 l ++ [(u.1, u.2, ((outM l).length : Int), (((outM l).length + (encB u.1 u.2).length : Nat) : Int))] := by
  rw [lay_app, Nat.zero_add]
  rfl
theorem out_lt {l : List Um} (h : ∀ u ∈ l, okM u) : ∀ x ∈ outM l, x < 256 := by
  induction l with
  | nil => intro x hx; cases hx
  | cons u t ih =>
    intro x hx
    rcases List.mem_append.1 hx with hx | hx
    · obtain ⟨h1, h2, h3, h4⟩ := h u (List.mem_cons_self)
      exact encB_lt h1 h4 h3 x hx
    · exact ih (fun u hu => h u (List.mem_cons_of_mem _ hu)) x hx
theorem rd_one {u : Um} (h : okM u) (r : List Nat) : rdU (encB u.1 u.2 ++ r) = (0, u.1, u.2, (encB u.1 u.2).length) := by
  obtain ⟨k, d⟩ := u
  obtain ⟨h1, h2, h3, h4⟩ := h
  have h1 : k < 256 := h1
  have h2 : k = 0 → d = [] := h2
  have h3 : d.length ≤ 65536 := h3
  have h4 : ∀ x ∈ d, x < 256 := h4
  show rdU (encB k d ++ r) = (0, k, d, (encB k d).length)
  by_cases hk : k = 0
  · subst hk
    rw [h2 rfl]
    rfl
  · have hs := crc_lt (hdB_lt h1 h4 h3)
    have hv : v4 (crc (hdB k d) / 16777216) (crc (hdB k d) / 65536 % 256) (crc (hdB k d) / 256 % 256) (crc (hdB k d) % 256) = crc (hdB k d) := by unfold v4; omega
    have := rd_enc k d (crc (hdB k d) / 16777216) (crc (hdB k d) / 65536 % 256) (crc (hdB k d) / 256 % 256) (crc (hdB k d) % 256) hk h3
    rw [hv, if_neg (by simp)] at this
    have hb : rdU (encB k d) = (0, k, d, d.length + 8) := by rw [enc_form k d hk]; exact this
    rw [rd_more (by rw [encB_len, if_neg hk]; omega) (by rw [hb]), hb, encB_len, if_neg hk]
theorem rd_part {u : Um} (h : okM u) {j : Nat} (h0 : 0 < j) (hj : j < (encB u.1 u.2).length) : (rdU ((encB u.1 u.2).take j)).1 = 1 := by
  obtain ⟨k, d⟩ := u
  have h3 : d.length ≤ 65536 := h.2.2.1
  show (rdU ((encB k d).take j)).1 = 1
  have hj : j < (encB k d).length := hj
  have hl := @encB_len k d
  have hk : k ≠ 0 := by
    intro hk
    rw [if_pos hk] at hl
    omega
  rw [if_neg hk] at hl
  have hlen : ((encB k d).take j).length = j := by rw [List.length_take]; omega
  have hg : ∀ i, i < j → ((encB k d).take j).getD i 0 = (encB k d).getD i 0 := fun i hi => by
    simp only [List.getD_eq_getElem?_getD]
    rw [List.getElem?_take_of_lt hi]
  have hk0 : (encB k d).getD 0 0 = k := by rw [enc_form k d hk]; rfl
  unfold rdU
  rw [hg 0 h0, hk0, if_neg hk, hlen]
  by_cases h4 : j < 4
  · rw [if_pos h4]
  · have hln : lnB ((encB k d).take j) = d.length := by
      have e : lnB (encB k d) = d.length := by
        rw [enc_form k d hk]
        show (d.length / 65536 * 256 + d.length / 256 % 256) * 256 + d.length % 256 = d.length
        omega
      rw [← e]
      unfold lnB
      rw [hg 1 (by omega), hg 2 (by omega), hg 3 (by omega)]
    rw [if_neg h4, hln, if_neg (by omega), if_pos (by omega)]
theorem enc_pos (u : Um) : 0 < (encB u.1 u.2).length := by rw [encB_len]; split <;> omega
/-- units that were made are told, whatever comes behind -/
theorem sp_made : ∀ (l : List Um) (pre r : List Nat), (∀ u ∈ l, okM u) → spU (pre ++ outM l ++ r) pre.length = ((spU (pre ++ outM l ++ r) (pre.length + (outM l).length)).1, lay pre.length l ++ (spU (pre ++ outM l ++ r) (pre.length + (outM l).length)).2)
  | [], pre, r, _ => by
    show spU (pre ++ [] ++ r) pre.length = ((spU (pre ++ [] ++ r) (pre.length + 0)).1, [] ++ (spU (pre ++ [] ++ r) (pre.length + 0)).2)
    rw [Nat.add_zero, List.nil_append]
  | u :: t, pre, r, h => by
    have e : pre ++ outM (u :: t) ++ r = (pre ++ encB u.1 u.2) ++ outM t ++ r := by
      show pre ++ (encB u.1 u.2 ++ outM t) ++ r = _
      simp only [List.append_assoc]
    have hd : (pre ++ outM (u :: t) ++ r).drop pre.length = encB u.1 u.2 ++ (outM t ++ r) := by
      rw [e]
      simp only [List.append_assoc]
      exact List.drop_left
    have hlen : (pre ++ encB u.1 u.2).length = pre.length + (encB u.1 u.2).length := List.length_append
    have ih := sp_made t (pre ++ encB u.1 u.2) r (fun v hv => h v (List.mem_cons_of_mem _ hv))
    have hp := enc_pos u
    rw [sp_next (by rw [e]; simp only [List.length_append]; omega) (by rw [hd]; exact rd_one (h u List.mem_cons_self) _)]
    rw [← e, hlen] at ih
    rw [ih]
    have e2 : pre.length + (outM (u :: t)).length = pre.length + (encB u.1 u.2).length + (outM t).length := by
      show pre.length + (encB u.1 u.2 ++ outM t).length = _
      rw [List.length_append]
      omega
    rw [e2]
    show (_, (u.1, u.2, (pre.length : Int), ((encB u.1 u.2).length : Int) + (pre.length : Int)) :: _) = (_, ((u.1, u.2, (pre.length : Int), ((pre.length + (encB u.1 u.2).length : Nat) : Int)) :: lay (pre.length + (encB u.1 u.2).length) t) ++ _)
    rw [show ((encB u.1 u.2).length : Int) + (pre.length : Int) = ((pre.length + (encB u.1 u.2).length : Nat) : Int) by omega]
    rfl
theorem sp_whole {l : List Um} (h : ∀ u ∈ l, okM u) : spU (outM l) 0 = (none, lay 0 l) := by
  have := sp_made l [] [] h
  rw [List.append_nil, List.nil_append] at this
  rw [show ([] : List Nat).length = 0 from rfl, Nat.zero_add] at this
  rw [this, sp_done (Nat.le_refl _), List.append_nil]
/-- .. cut anywhere -/
theorem sp_cut {l : List Um} (h : ∀ u ∈ l, okM u) {n c : Nat} (hn : n ≤ l.length) (h1 : eN l n ≤ c) (h2 : n = l.length ∨ c < eN l (n + 1)) (h3 : c ≤ (outM l).length) : ∃ G, spU ((outM l).take c) 0 = (G, (lay 0 l).take n) ∧ (G = none ↔ c = eN l n) := by
  have hsp : outM l = outM (l.take n) ++ outM (l.drop n) := by rw [← outM_app, List.take_append_drop]
  have hok : ∀ u ∈ l.take n, okM u := fun u hu => h u (List.mem_of_mem_take hu)
  have hcut : (outM l).take c = outM (l.take n) ++ (outM (l.drop n)).take (c - eN l n) := by
    rw [hsp, List.take_append]
    congr 1
    exact List.take_of_length_le h1
  obtain ⟨r, hr⟩ : ∃ r, (outM (l.drop n)).take (c - eN l n) = r := ⟨_, rfl⟩
  have hm := sp_made (l.take n) [] r hok
  rw [List.nil_append, show ([] : List Nat).length = 0 from rfl, Nat.zero_add] at hm
  rw [hcut, hr, hm, lay_take]
  by_cases hc : c = eN l n
  · have hr0 : r = [] := by rw [← hr, hc, Nat.sub_self]; rfl
    refine ⟨none, ?_, by simp [hc]⟩
    rw [hr0, List.append_nil, sp_done (Nat.le_refl _), List.append_nil]
  · have hcn : n < l.length := by
      rcases h2 with h2 | h2
      · exfalso
        have : eN l n = (outM l).length := by unfold eN; rw [h2, List.take_of_length_le (Nat.le_refl _)]
        omega
      · refine Nat.lt_of_not_le fun hle => ?_
        have : eN l (n + 1) = eN l n := by unfold eN; rw [List.take_of_length_le hle, List.take_of_length_le (by omega)]
        omega
    obtain ⟨u, hu⟩ : ∃ u, l[n]? = some u := ⟨_, List.getElem?_eq_getElem hcn⟩
    have hd : l.drop n = u :: l.drop (n + 1) := by
      rw [List.drop_eq_getElem_cons hcn]
      congr 1
      exact (List.getElem?_eq_some_iff.1 hu).2
    have hue := h u (List.mem_of_getElem? hu)
    have he1 : eN l (n + 1) = eN l n + (encB u.1 u.2).length := by
      unfold eN
      rw [List.take_add_one, hu, outM_app]
      show (outM (l.take n) ++ (encB u.1 u.2 ++ [])).length = _
      rw [List.append_nil, List.length_append]
    have hc2 : c < eN l (n + 1) := by
      rcases h2 with h2 | h2
      · omega
      · exact h2
    have hr1 : r = (encB u.1 u.2).take (c - eN l n) := by
      rw [← hr, hd]
      show (encB u.1 u.2 ++ outM (l.drop (n + 1))).take _ = _
      exact List.take_append_of_le_length (by omega)
    have hdr : (outM (l.take n) ++ r).drop (outM (l.take n)).length = r := List.drop_left
    have hrl : 0 < r.length := by rw [hr1, List.length_take]; omega
    have hp1 : (rdU r).1 = 1 := by rw [hr1]; exact rd_part hue (by omega) (by omega)
    refine ⟨some ([(unS, ((outM (l.take n)).length : Int))], 1), ?_, ?_⟩
    · rw [sp_none (by rw [List.length_append]; omega) (by rw [hdr, hp1]; decide), hdr, hp1, List.append_nil]
    · simp [hc]
end Go.Proofs.YtlaedbglclmheaaGreatDoor
