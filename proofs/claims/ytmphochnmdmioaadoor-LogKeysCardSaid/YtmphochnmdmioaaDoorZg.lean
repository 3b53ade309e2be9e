/- Contracts of this seat: Lg3b. -/
import Derived.Test.YtmphochnmdmioaaDoorZf
/- log.Parse: its contract over this seat's translation (made by tools/mklg3.py). -/
namespace Go.Proofs.YtmphochnmdmioaaDoor
set_option linter.unusedVariables false
set_option linter.unusedSimpArgs false
open Go.RowKit Go.Extern.Stop Go.Stop Go.Extern

def PaPost (w : World) (R : Fall × Rc) (e : Ending) (w' : World) : Prop := ∃ x, e = .returned (.tuple #[rcA R.2, x]) ∧ ErrIs w' R.1 x ∧ Ext w w'
theorem val_4 (a b c e : Nat) : val [a, b, c, e] = v4 a b c e := by simp [val, v4]
theorem val_1 (a : Nat) : val [a] = a := by simp [val]
theorem zero_cells {w : World} {b : Nat} {t : TypeId} (h : BoxIs w b #[.int .i64 0, .int .i64 0, .int .i64 0, .int .i64 0, .int .i64 0] t) : RcAt w b 0 zR := ⟨h.cell rfl, h.cell rfl, h.cell rfl, h.cell rfl, h.cell rfl⟩
theorem BoxIs.rc {w : World} {b : Nat} {t : TypeId} {k s n l c : Value} (h : BoxIs w b #[k, s, n, l, c] t) : (w.cell? ⟨b, 0, none⟩ = some k ∧ w.cell? ⟨b, 1, none⟩ = some s ∧ w.cell? ⟨b, 2, none⟩ = some n ∧ w.cell? ⟨b, 3, none⟩ = some l ∧ w.cell? ⟨b, 4, none⟩ = some c) ∧ w.frozen? ⟨b, 0, none⟩ = false ∧ w.frozen? ⟨b, 1, none⟩ = false ∧ w.frozen? ⟨b, 2, none⟩ = false ∧ w.frozen? ⟨b, 3, none⟩ = false ∧ w.frozen? ⟨b, 4, none⟩ = false :=
  ⟨⟨h.cell rfl, h.cell rfl, h.cell rfl, h.cell rfl, h.cell rfl⟩, h.free, h.free, h.free, h.free, h.free⟩
/-- five cells of a block, stored one behind the other -/
theorem BoxIs.set5 {w : World} {b : Nat} {t : TypeId} {k s n l c : Value} (h : BoxIs w b #[k, s, n, l, c] t) (v0 v1 v2 v3 v4 : Value) : BoxIs (((((w.setCell ⟨b, 0, none⟩ v0).setCell ⟨b, 1, none⟩ v1).setCell ⟨b, 2, none⟩ v2).setCell ⟨b, 3, none⟩ v3).setCell ⟨b, 4, none⟩ v4) b #[v0, v1, v2, v3, v4] t :=
  ((((h.set 0 v0).set 1 v1).set 2 v2).set 3 v3).set 4 v4
theorem ext_set5 {w0 w : World} {b : Nat} (h : Ext w0 w) (hb : w0.heap.size ≤ b) (v0 v1 v2 v3 v4 : Value) : Ext w0 (((((w.setCell ⟨b, 0, none⟩ v0).setCell ⟨b, 1, none⟩ v1).setCell ⟨b, 2, none⟩ v2).setCell ⟨b, 3, none⟩ v3).setCell ⟨b, 4, none⟩ v4) :=
  ((((h.setCell (p := ⟨b, 0, none⟩) hb _).setCell (p := ⟨b, 1, none⟩) hb _).setCell (p := ⟨b, 2, none⟩) hb _).setCell (p := ⟨b, 3, none⟩) hb _).setCell (p := ⟨b, 4, none⟩) hb _
set_option maxHeartbeats 4000000 in
set_option maxRecDepth 20000 in
theorem parse_kind (k at' en : Int) (v : Value) (w : World) (hk : ¬ kndR k) : Calls Tryd.prog 13 #[.agg #[.int .i64 k, v, .int .i64 at', .int .i64 en]] w (PaPost w (some ([], 13), zR)) := by
  have HE := Lib.hid (((Ext.refl w).alloc (.cells #[.int .i64 k, v, .int .i64 at', .int .i64 en] 27)).alloc (.cells #[.int .i64 0, .int .i64 0, .int .i64 0, .int .i64 0, .int .i64 0] 24))
  unfold kndR at hk
  by_cases h1 : k < 48
  · have h1' : ¬ 48 ≤ k := by omega
    go_enter Tryd.func13, Tryd.ntmps13
    go_wp2
    exact bodyPost_ret (v := .tuple #[rcA zR, .iface 22 (.int .i64 13)]) (by simp [results, Tryd.results13, go_sem, zR]) rfl ⟨_, rfl, ErrIs.code (by decide), HE.out⟩
  · have h1' : 48 ≤ k := by omega
    have h2 : ¬ k ≤ 51 := by omega
    go_enter Tryd.func13, Tryd.ntmps13
    go_wp2
    exact bodyPost_ret (v := .tuple #[rcA zR, .iface 22 (.int .i64 13)]) (by simp [results, Tryd.results13, go_sem, zR]) rfl ⟨_, rfl, ErrIs.code (by decide), HE.out⟩

theorem fields_len48 (w : World) : Calls Tryd.prog 29 #[.agg #[.int .i64 48, .int .i64 0, .int .i64 0, .int .i64 0, .int .i64 0]] w fun e w' => ∃ a c, e = .returned (.slice a 5 c) ∧ Ext w w' :=
  (fields_any ⟨48, 0, 0, 0, 0⟩ w (okF_zero ⟨by decide, by decide⟩)).mono fun e w' ⟨u, h1, h2, h3⟩ => by
    obtain ⟨a, c, rfl⟩ := uform h2
    exact ⟨a, c, h1, h3⟩
set_option maxHeartbeats 4000000 in
set_option maxRecDepth 20000 in
theorem parse_len48 (at' en : Int) (a : Option Addr) (n cap : Nat) (w : World) (hn : n ≠ 5) : Calls Tryd.prog 13 #[.agg #[.int .i64 48, .slice a n cap, .int .i64 at', .int .i64 en]] w (PaPost w (some ([], 2), zR)) := by
  have h : True := trivial
  have UF := Lib.hid fields_len48
  have hne : ((n : Int) != 5) = true := by rw [bne_iff_ne]; omega
  have HB := Lib.hid h
  have A3 := (((Ext.refl w).alloc (.cells #[.int .i64 48, .slice a n cap, .int .i64 at', .int .i64 en] 27)).alloc (.cells #[.int .i64 0, .int .i64 0, .int .i64 0, .int .i64 0, .int .i64 0] 24)).alloc (.cells #[.int .i64 48, .int .i64 0, .int .i64 0, .int .i64 0, .int .i64 0] 24)
  have B1 : BoxIs (((w.alloc (.cells #[.int .i64 48, .slice a n cap, .int .i64 at', .int .i64 en] 27)).alloc (.cells #[.int .i64 0, .int .i64 0, .int .i64 0, .int .i64 0, .int .i64 0] 24)).alloc (.cells #[.int .i64 48, .int .i64 0, .int .i64 0, .int .i64 0, .int .i64 0] 24)) (w.heap.size + 1) #[.int .i64 0, .int .i64 0, .int .i64 0, .int .i64 0, .int .i64 0] 24 := by
    have := BoxIs.new (w.alloc (.cells #[.int .i64 48, .slice a n cap, .int .i64 at', .int .i64 en] 27)) #[.int .i64 0, .int .i64 0, .int .i64 0, .int .i64 0, .int .i64 0] 24
    rw [show (w.alloc (.cells #[.int .i64 48, .slice a n cap, .int .i64 at', .int .i64 en] 27)).heap.size = w.heap.size + 1 by simp] at this
    exact this.ext ((Ext.refl _).alloc _)
  have B2 : BoxIs (((w.alloc (.cells #[.int .i64 48, .slice a n cap, .int .i64 at', .int .i64 en] 27)).alloc (.cells #[.int .i64 0, .int .i64 0, .int .i64 0, .int .i64 0, .int .i64 0] 24)).alloc (.cells #[.int .i64 48, .int .i64 0, .int .i64 0, .int .i64 0, .int .i64 0] 24)) (w.heap.size + 2) #[.int .i64 48, .int .i64 0, .int .i64 0, .int .i64 0, .int .i64 0] 24 := by
    have := BoxIs.new ((w.alloc (.cells #[.int .i64 48, .slice a n cap, .int .i64 at', .int .i64 en] 27)).alloc (.cells #[.int .i64 0, .int .i64 0, .int .i64 0, .int .i64 0, .int .i64 0] 24)) #[.int .i64 48, .int .i64 0, .int .i64 0, .int .i64 0, .int .i64 0] 24
    rw [show ((w.alloc (.cells #[.int .i64 48, .slice a n cap, .int .i64 at', .int .i64 en] 27)).alloc (.cells #[.int .i64 0, .int .i64 0, .int .i64 0, .int .i64 0, .int .i64 0] 24)).heap.size = w.heap.size + 2 by simp] at this
    exact this
  have B0 : BoxIs (((w.alloc (.cells #[.int .i64 48, .slice a n cap, .int .i64 at', .int .i64 en] 27)).alloc (.cells #[.int .i64 0, .int .i64 0, .int .i64 0, .int .i64 0, .int .i64 0] 24)).alloc (.cells #[.int .i64 48, .int .i64 0, .int .i64 0, .int .i64 0, .int .i64 0] 24)) w.heap.size #[.int .i64 48, .slice a n cap, .int .i64 at', .int .i64 en] 27 := (BoxIs.new w _ _).ext (((Ext.refl _).alloc _).alloc _)
  have HA3 := Lib.hid A3
  have HB0 := Lib.hid B0
  have HB1 := Lib.hid B1
  have HB2 := Lib.hid B2
  clear A3 B0 B1 B2
  go_enter Tryd.func13, Tryd.ntmps13
  go_wp2
  revert HA3 HB0 HB1 HB2
  generalize World.alloc (World.alloc (World.alloc w _) _) _ = w1
  intro HA3 HB0 HB1 HB2
  have u0 := HB0.out.cell (i := 0) rfl
  have u1 := HB0.out.cell (i := 1) rfl
  obtain ⟨⟨c0, c1, c2, c3, c4⟩, -⟩ := HB2.out.rc
  have KS : Hid (∀ w', Ext w1 w' → w'.cell? ⟨w.heap.size, 1, none⟩ = some (.slice a n cap) ∧ (w'.cell? ⟨w.heap.size + 2, 0, none⟩ = some (.int .i64 48) ∧ w'.cell? ⟨w.heap.size + 2, 1, none⟩ = some (.int .i64 0) ∧ w'.cell? ⟨w.heap.size + 2, 2, none⟩ = some (.int .i64 0) ∧ w'.cell? ⟨w.heap.size + 2, 3, none⟩ = some (.int .i64 0) ∧ w'.cell? ⟨w.heap.size + 2, 4, none⟩ = some (.int .i64 0)) ∧ Ext w1 w') := fun w' x => ⟨x.cell u1, ⟨x.cell c0, x.cell c1, x.cell c2, x.cell c3, x.cell c4⟩, x⟩
  go_region_held3 (fun w' => w'.cell? ⟨w.heap.size, 1, none⟩ = some (.slice a n cap) ∧ (w'.cell? ⟨w.heap.size + 2, 0, none⟩ = some (.int .i64 48) ∧ w'.cell? ⟨w.heap.size + 2, 1, none⟩ = some (.int .i64 0) ∧ w'.cell? ⟨w.heap.size + 2, 2, none⟩ = some (.int .i64 0) ∧ w'.cell? ⟨w.heap.size + 2, 3, none⟩ = some (.int .i64 0) ∧ w'.cell? ⟨w.heap.size + 2, 4, none⟩ = some (.int .i64 0)) ∧ Ext w1 w')
    (first | assumption | (exact KS.out _ (by repeat (first | exact Ext.refl _ | assumption | refine Ext.drew ?_ | refine Ext.trans ?_ (by assumption)))) | (go_split_ands; exact KS.out _ (by repeat (first | exact Ext.refl _ | assumption | refine Ext.drew ?_ | refine Ext.trans ?_ (by assumption)))))
    ((go_at_call 29; refine (UF.out _).mono ?_; rintro e w2 ⟨ua, uc, rfl, hx2⟩))
  obtain ⟨-, -, hE2⟩ : _ ∧ _ ∧ Ext w1 _ := by assumption
  have HE2 := Lib.hid hE2
  have HX2 := Lib.hid (HA3.out.trans hE2)
  have HC0 := Lib.hid (HB0.out.ext hE2)
  have HC1 := Lib.hid (HB1.out.ext hE2)
  have HC2 := Lib.hid (HB2.out.ext hE2)
  have HS2 : Hid (w.heap.size + 2 < w2.heap.size) := HC2.out.lt
  clear u0 u1 c0 c1 c2 c3 c4 hE2 KS HA3 HB0 HB1 HB2
  obtain ⟨⟨r0, r1, r2, r3, r4⟩, s0, s1, s2, s3, s4⟩ := HC1.out.rc
  go_wp2_with fail
  have HF1 := Lib.hid (HC1.out.set5 (.int .i64 0) (.int .i64 0) (.int .i64 0) (.int .i64 0) (.int .i64 0))
  have HF2 := Lib.hid (ext_set5 HX2.out (b := w.heap.size + 1) (Nat.le_succ _) (.int .i64 0) (.int .i64 0) (.int .i64 0) (.int .i64 0) (.int .i64 0))
  obtain ⟨⟨y0, y1, y2, y3, y4⟩, -⟩ := HF1.out.rc
  exact bodyPost_ret (v := .tuple #[rcA zR, .iface 22 (.int .i64 2)]) (by simp [results, Tryd.results13, go_sem, zR, y0, y1, y2, y3, y4]) rfl ⟨_, rfl, ErrIs.code (by decide), HF2.out⟩
set_option maxHeartbeats 8000000 in
set_option maxRecDepth 20000 in
theorem parse_is48 (at' en : Int) (b0 b1 b2 b3 b4 : Nat) (g off n cap : Nat) (w : World) (h : Bys w (.slice (some ⟨g, off, none⟩) n cap) [b0, b1, b2, b3, b4]) : Calls Tryd.prog 13 #[.agg #[.int .i64 48, .slice (some ⟨g, off, none⟩) n cap, .int .i64 at', .int .i64 en]] w (PaPost w (prR 48 [b0, b1, b2, b3, b4])) := by
  obtain rfl : n = 5 := h.len
  have UF := Lib.hid fields_len48
  have hne : ((5 : Int) != 5) = false := rfl
  have HB := Lib.hid h
  have A3 := (((Ext.refl w).alloc (.cells #[.int .i64 48, .slice (some ⟨g, off, none⟩) 5 cap, .int .i64 at', .int .i64 en] 27)).alloc (.cells #[.int .i64 0, .int .i64 0, .int .i64 0, .int .i64 0, .int .i64 0] 24)).alloc (.cells #[.int .i64 48, .int .i64 0, .int .i64 0, .int .i64 0, .int .i64 0] 24)
  have B1 : BoxIs (((w.alloc (.cells #[.int .i64 48, .slice (some ⟨g, off, none⟩) 5 cap, .int .i64 at', .int .i64 en] 27)).alloc (.cells #[.int .i64 0, .int .i64 0, .int .i64 0, .int .i64 0, .int .i64 0] 24)).alloc (.cells #[.int .i64 48, .int .i64 0, .int .i64 0, .int .i64 0, .int .i64 0] 24)) (w.heap.size + 1) #[.int .i64 0, .int .i64 0, .int .i64 0, .int .i64 0, .int .i64 0] 24 := by
    have := BoxIs.new (w.alloc (.cells #[.int .i64 48, .slice (some ⟨g, off, none⟩) 5 cap, .int .i64 at', .int .i64 en] 27)) #[.int .i64 0, .int .i64 0, .int .i64 0, .int .i64 0, .int .i64 0] 24
    rw [show (w.alloc (.cells #[.int .i64 48, .slice (some ⟨g, off, none⟩) 5 cap, .int .i64 at', .int .i64 en] 27)).heap.size = w.heap.size + 1 by simp] at this
    exact this.ext ((Ext.refl _).alloc _)
  have B2 : BoxIs (((w.alloc (.cells #[.int .i64 48, .slice (some ⟨g, off, none⟩) 5 cap, .int .i64 at', .int .i64 en] 27)).alloc (.cells #[.int .i64 0, .int .i64 0, .int .i64 0, .int .i64 0, .int .i64 0] 24)).alloc (.cells #[.int .i64 48, .int .i64 0, .int .i64 0, .int .i64 0, .int .i64 0] 24)) (w.heap.size + 2) #[.int .i64 48, .int .i64 0, .int .i64 0, .int .i64 0, .int .i64 0] 24 := by
    have := BoxIs.new ((w.alloc (.cells #[.int .i64 48, .slice (some ⟨g, off, none⟩) 5 cap, .int .i64 at', .int .i64 en] 27)).alloc (.cells #[.int .i64 0, .int .i64 0, .int .i64 0, .int .i64 0, .int .i64 0] 24)) #[.int .i64 48, .int .i64 0, .int .i64 0, .int .i64 0, .int .i64 0] 24
    rw [show ((w.alloc (.cells #[.int .i64 48, .slice (some ⟨g, off, none⟩) 5 cap, .int .i64 at', .int .i64 en] 27)).alloc (.cells #[.int .i64 0, .int .i64 0, .int .i64 0, .int .i64 0, .int .i64 0] 24)).heap.size = w.heap.size + 2 by simp] at this
    exact this
  have B0 : BoxIs (((w.alloc (.cells #[.int .i64 48, .slice (some ⟨g, off, none⟩) 5 cap, .int .i64 at', .int .i64 en] 27)).alloc (.cells #[.int .i64 0, .int .i64 0, .int .i64 0, .int .i64 0, .int .i64 0] 24)).alloc (.cells #[.int .i64 48, .int .i64 0, .int .i64 0, .int .i64 0, .int .i64 0] 24)) w.heap.size #[.int .i64 48, .slice (some ⟨g, off, none⟩) 5 cap, .int .i64 at', .int .i64 en] 27 := (BoxIs.new w _ _).ext (((Ext.refl _).alloc _).alloc _)
  have HA3 := Lib.hid A3
  have HB0 := Lib.hid B0
  have HB1 := Lib.hid B1
  have HB2 := Lib.hid B2
  clear A3 B0 B1 B2
  go_enter Tryd.func13, Tryd.ntmps13
  go_wp2
  revert HA3 HB0 HB1 HB2
  generalize World.alloc (World.alloc (World.alloc w _) _) _ = w1
  intro HA3 HB0 HB1 HB2
  have u0 := HB0.out.cell (i := 0) rfl
  have u1 := HB0.out.cell (i := 1) rfl
  obtain ⟨⟨c0, c1, c2, c3, c4⟩, -⟩ := HB2.out.rc
  have KS : Hid (∀ w', Ext w1 w' → w'.cell? ⟨w.heap.size, 1, none⟩ = some (.slice (some ⟨g, off, none⟩) 5 cap) ∧ (w'.cell? ⟨w.heap.size + 2, 0, none⟩ = some (.int .i64 48) ∧ w'.cell? ⟨w.heap.size + 2, 1, none⟩ = some (.int .i64 0) ∧ w'.cell? ⟨w.heap.size + 2, 2, none⟩ = some (.int .i64 0) ∧ w'.cell? ⟨w.heap.size + 2, 3, none⟩ = some (.int .i64 0) ∧ w'.cell? ⟨w.heap.size + 2, 4, none⟩ = some (.int .i64 0)) ∧ Ext w1 w') := fun w' x => ⟨x.cell u1, ⟨x.cell c0, x.cell c1, x.cell c2, x.cell c3, x.cell c4⟩, x⟩
  go_region_held3 (fun w' => w'.cell? ⟨w.heap.size, 1, none⟩ = some (.slice (some ⟨g, off, none⟩) 5 cap) ∧ (w'.cell? ⟨w.heap.size + 2, 0, none⟩ = some (.int .i64 48) ∧ w'.cell? ⟨w.heap.size + 2, 1, none⟩ = some (.int .i64 0) ∧ w'.cell? ⟨w.heap.size + 2, 2, none⟩ = some (.int .i64 0) ∧ w'.cell? ⟨w.heap.size + 2, 3, none⟩ = some (.int .i64 0) ∧ w'.cell? ⟨w.heap.size + 2, 4, none⟩ = some (.int .i64 0)) ∧ Ext w1 w')
    (first | assumption | (exact KS.out _ (by repeat (first | exact Ext.refl _ | assumption | refine Ext.drew ?_ | refine Ext.trans ?_ (by assumption)))) | (go_split_ands; exact KS.out _ (by repeat (first | exact Ext.refl _ | assumption | refine Ext.drew ?_ | refine Ext.trans ?_ (by assumption)))))
    ((go_at_call 29; refine (UF.out _).mono ?_; rintro e w2 ⟨ua, uc, rfl, hx2⟩))
  obtain ⟨-, -, hE2⟩ : _ ∧ _ ∧ Ext w1 _ := by assumption
  have HE2 := Lib.hid hE2
  have HX2 := Lib.hid (HA3.out.trans hE2)
  have HC0 := Lib.hid (HB0.out.ext hE2)
  have HC1 := Lib.hid (HB1.out.ext hE2)
  have HC2 := Lib.hid (HB2.out.ext hE2)
  have HS2 : Hid (w.heap.size + 2 < w2.heap.size) := HC2.out.lt
  clear u0 u1 c0 c1 c2 c3 c4 hE2 KS HA3 HB0 HB1 HB2
  obtain ⟨⟨r0, r1, r2, r3, r4⟩, s0, s1, s2, s3, s4⟩ := HC1.out.rc
  have HG0 : Hid (BoxIs (w2.alloc (.cells #[.slice (some ⟨g, off, none⟩) 5 cap] 25)) w2.heap.size #[.slice (some ⟨g, off, none⟩) 5 cap] 25) := BoxIs.new w2 _ _
  have HGE := Lib.hid ((Ext.refl w2).alloc (.cells #[.slice (some ⟨g, off, none⟩) 5 cap] 25))
  clear r0 r1 r2 r3 r4 s0 s1 s2 s3 s4
  have u0 := HC0.out.cell (i := 0) rfl
  have u1 := HC0.out.cell (i := 1) rfl
  have u0' := HGE.out.cell u0
  go_wp2_with fail
  revert HG0 HGE
  generalize hR : w2.heap.size = R at *
  generalize World.alloc w2 _ = w3
  intro HG0 HGE
  have HX3 := Lib.hid (HX2.out.trans HGE.out)
  have HD1 := Lib.hid (HC1.out.ext HGE.out)
  have HD2 := Lib.hid (HC2.out.ext HGE.out)
  have HYw := HB
  have hR1 : w.heap.size + 1 ≠ R := by have := HS2.out; omega
  have hR2 : w.heap.size + 2 ≠ R := by have := HS2.out; omega
  have hR3 : w.heap.size ≤ R := by have := HS2.out; omega
  clear u0 u1 u0' HX2 HC0 HC1 HC2 HGE HE2 hR
  -- step 0
  have HY_0 : Hid (Bys w3 (.slice (some ⟨g, off, none⟩) 5 (cap)) [b0, b1, b2, b3, b4]) := HYw.out.ext HX3.out
  have NX := Lib.hid (nextc_any R g (off) 5 (cap) 4 [b0, b1, b2, b3, b4] w3 (HG0.out.cell (i := 0) rfl) HG0.out.free HY_0.out (by decide) (by decide))
  have e9 : val ([b0, b1, b2, b3, b4].take 4) = v4 b0 b1 b2 b3 := val_4 b0 b1 b2 b3
  rw [e9] at NX
  clear e9
  go_wp2_with fail
  refine NX.out.mono ?_; rintro e wq ⟨u, rfl, hwq, hu⟩
  subst hwq
  obtain rfl : u = .slice (some ⟨g, off + 4, none⟩) 1 (cap - 4) := hu (by decide)
  clear NX hu
  have HG1 : Hid (BoxIs ((w3.setCell ⟨R, 0, none⟩ (.slice (some ⟨g, off + 4, none⟩) 1 (cap - 4))).setCell ⟨w.heap.size + 2, 1, none⟩ (.int .i64 (v4 b0 b1 b2 b3 : Nat))) R #[(.slice (some ⟨g, off + 4, none⟩) 1 (cap - 4))] 25) := (HG0.out.set 0 _).put hR2.symm _
  have HD3 : Hid (BoxIs ((w3.setCell ⟨R, 0, none⟩ (.slice (some ⟨g, off + 4, none⟩) 1 (cap - 4))).setCell ⟨w.heap.size + 2, 1, none⟩ (.int .i64 (v4 b0 b1 b2 b3 : Nat))) (w.heap.size + 2) #[.int .i64 48, .int .i64 (v4 b0 b1 b2 b3 : Nat), .int .i64 0, .int .i64 0, .int .i64 0] 24) := (HD2.out.put hR2 _).set 1 _
  have HD4 : Hid (BoxIs ((w3.setCell ⟨R, 0, none⟩ (.slice (some ⟨g, off + 4, none⟩) 1 (cap - 4))).setCell ⟨w.heap.size + 2, 1, none⟩ (.int .i64 (v4 b0 b1 b2 b3 : Nat))) (w.heap.size + 1) #[.int .i64 0, .int .i64 0, .int .i64 0, .int .i64 0, .int .i64 0] 24) := (HD1.out.put hR1 _).put (by simp) _
  have HX4 := Lib.hid ((HX3.out.setCell (p := ⟨R, 0, none⟩) hR3 (.slice (some ⟨g, off + 4, none⟩) 1 (cap - 4))).setCell (p := ⟨w.heap.size + 2, 1, none⟩) (by simp) (.int .i64 (v4 b0 b1 b2 b3 : Nat)))
  obtain ⟨⟨z0, z1, z2, z3, z4⟩, f0, f1, f2, f3, f4⟩ := (HD2.out.put hR2 (.slice (some ⟨g, off + 4, none⟩) 1 (cap - 4)) : BoxIs (w3.setCell ⟨R, 0, none⟩ (.slice (some ⟨g, off + 4, none⟩) 1 (cap - 4))) _ _ _).rc
  have HY5 : Hid (Bys w (.slice (some ⟨g, off + 4, none⟩) 1 (cap - 4)) [b4]) := HYw.out.cut (lo := 4) (hi := 5) (by decide) (by decide)
  have HYw := HY5
  clear HY5
  clear HG0 HD1 HD2 HX3
  go_wp2_with fail
  clear z0 z1 z2 z3 z4 f0 f1 f2 f3 f4
  revert HG1 HD3 HD4 HX4
  generalize World.setCell (World.setCell w3 _ _) _ _ = w4
  intro HG1 HD3 HD4 HX4
  have HG0 := HG1
  have HD2 := HD3
  have HD1 := HD4
  have HX3 := HX4
  clear HG1 HD3 HD4 HX4
  -- step 1
  have HY_1 : Hid (Bys w4 (.slice (some ⟨g, off + 4, none⟩) 1 (cap - 4)) [b4]) := HYw.out.ext HX3.out
  have NX := Lib.hid (nextc_any R g (off + 4) 1 (cap - 4) 1 [b4] w4 (HG0.out.cell (i := 0) rfl) HG0.out.free HY_1.out (by decide) (by decide))
  have e9 : val ([b4].take 1) = b4 := val_1 b4
  rw [e9] at NX
  clear e9
  go_wp2_with fail
  refine NX.out.mono ?_; rintro e wq ⟨u, rfl, hwq, hu⟩
  subst hwq
  clear NX hu
  have HG1 : Hid (BoxIs ((w4.setCell ⟨R, 0, none⟩ u).setCell ⟨w.heap.size + 2, 2, none⟩ (.int .i64 (b4 : Nat))) R #[u] 25) := (HG0.out.set 0 _).put hR2.symm _
  have HD3 : Hid (BoxIs ((w4.setCell ⟨R, 0, none⟩ u).setCell ⟨w.heap.size + 2, 2, none⟩ (.int .i64 (b4 : Nat))) (w.heap.size + 2) #[.int .i64 48, .int .i64 (v4 b0 b1 b2 b3 : Nat), .int .i64 (b4 : Nat), .int .i64 0, .int .i64 0] 24) := (HD2.out.put hR2 _).set 2 _
  have HD4 : Hid (BoxIs ((w4.setCell ⟨R, 0, none⟩ u).setCell ⟨w.heap.size + 2, 2, none⟩ (.int .i64 (b4 : Nat))) (w.heap.size + 1) #[.int .i64 0, .int .i64 0, .int .i64 0, .int .i64 0, .int .i64 0] 24) := (HD1.out.put hR1 _).put (by simp) _
  have HX4 := Lib.hid ((HX3.out.setCell (p := ⟨R, 0, none⟩) hR3 u).setCell (p := ⟨w.heap.size + 2, 2, none⟩) (by simp) (.int .i64 (b4 : Nat)))
  obtain ⟨⟨z0, z1, z2, z3, z4⟩, f0, f1, f2, f3, f4⟩ := (HD2.out.put hR2 u : BoxIs (w4.setCell ⟨R, 0, none⟩ u) _ _ _).rc
  clear HG0 HD1 HD2 HX3
  go_wp2_with fail
  clear z0 z1 z2 z3 z4 f0 f1 f2 f3 f4
  revert HG1 HD3 HD4 HX4
  generalize World.setCell (World.setCell w4 _ _) _ _ = w5
  intro HG1 HD3 HD4 HX4
  have HG0 := HG1
  have HD2 := HD3
  have HD1 := HD4
  have HX3 := HX4
  clear HG1 HD3 HD4 HX4
  -- the end
  have HRR : Hid (recR 48 [b0, b1, b2, b3, b4] = ⟨48, (v4 b0 b1 b2 b3 : Nat), (b4 : Nat), 0, 0⟩) := rfl
  have MY := Lib.hid (lmay_any ⟨48, (v4 b0 b1 b2 b3 : Nat), (b4 : Nat), 0, 0⟩ w5)
  obtain ⟨⟨z0, z1, z2, z3, z4⟩, -⟩ := HD2.out.rc
  go_wp2_with fail
  refine MY.out.mono ?_; rintro e wm ⟨rfl, hxm⟩
  have HX5 := Lib.hid (HX3.out.trans hxm)
  have HD1m := Lib.hid (HD1.out.ext hxm)
  have HD2m := Lib.hid (HD2.out.ext hxm)
  clear HX3 HD1 HD2 HG0 hxm z0 z1 z2 z3 z4
  obtain ⟨⟨r0, r1, r2, r3, r4⟩, s0, s1, s2, s3, s4⟩ := HD1m.out.rc
  obtain ⟨⟨z0, z1, z2, z3, z4⟩, -⟩ := HD2m.out.rc
  by_cases hmay : MayR (⟨48, (v4 b0 b1 b2 b3 : Nat), (b4 : Nat), 0, 0⟩ : Rc)
  · rw [decide_eq_true hmay]
    have HPR : Hid (prR 48 [b0, b1, b2, b3, b4] = (none, ⟨48, (v4 b0 b1 b2 b3 : Nat), (b4 : Nat), 0, 0⟩)) := by
      show _ = _
      unfold prR
      rw [if_neg (by decide), if_neg (by simp [lenR]), HRR.out, if_neg (Decidable.not_not.2 hmay)]
    clear hmay
    have HF1 := Lib.hid (HD1m.out.set5 (.int .i64 48) (.int .i64 (v4 b0 b1 b2 b3 : Nat)) (.int .i64 (b4 : Nat)) (.int .i64 0) (.int .i64 0))
    have HF2 := Lib.hid (ext_set5 HX5.out (b := w.heap.size + 1) (Nat.le_succ _) (.int .i64 48) (.int .i64 (v4 b0 b1 b2 b3 : Nat)) (.int .i64 (b4 : Nat)) (.int .i64 0) (.int .i64 0))
    go_wp2_with fail
    obtain ⟨⟨y0, y1, y2, y3, y4⟩, -⟩ := HF1.out.rc
    exact bodyPost_ret (v := .tuple #[.agg #[.int .i64 48, .int .i64 (v4 b0 b1 b2 b3 : Nat), .int .i64 (b4 : Nat), .int .i64 0, .int .i64 0], .nilIface]) (by simp [results, Tryd.results13, go_sem, y0, y1, y2, y3, y4]) rfl ⟨.nilIface, by rw [HPR.out], by rw [HPR.out]; exact rfl, HF2.out⟩
  · rw [decide_eq_false hmay]
    have HPR : Hid (prR 48 [b0, b1, b2, b3, b4] = (some ([], 2), zR)) := by
      show _ = _
      unfold prR
      rw [if_neg (by decide), if_neg (by simp [lenR]), HRR.out, if_pos hmay]
    clear hmay
    have HF1 := Lib.hid (HD1m.out.set5 (.int .i64 0) (.int .i64 0) (.int .i64 0) (.int .i64 0) (.int .i64 0))
    have HF2 := Lib.hid (ext_set5 HX5.out (b := w.heap.size + 1) (Nat.le_succ _) (.int .i64 0) (.int .i64 0) (.int .i64 0) (.int .i64 0) (.int .i64 0))
    go_wp2_with fail
    obtain ⟨⟨y0, y1, y2, y3, y4⟩, -⟩ := HF1.out.rc
    exact bodyPost_ret (v := .tuple #[rcA zR, .iface 22 (.int .i64 2)]) (by simp [results, Tryd.results13, go_sem, zR, y0, y1, y2, y3, y4]) rfl ⟨.iface 22 (.int .i64 2), by rw [HPR.out], by rw [HPR.out]; exact ErrIs.code (by decide), HF2.out⟩
theorem fields_len49 (w : World) : Calls Tryd.prog 29 #[.agg #[.int .i64 49, .int .i64 0, .int .i64 0, .int .i64 0, .int .i64 0]] w fun e w' => ∃ a c, e = .returned (.slice a 9 c) ∧ Ext w w' :=
  (fields_any ⟨49, 0, 0, 0, 0⟩ w (okF_zero ⟨by decide, by decide⟩)).mono fun e w' ⟨u, h1, h2, h3⟩ => by
    obtain ⟨a, c, rfl⟩ := uform h2
    exact ⟨a, c, h1, h3⟩
set_option maxHeartbeats 4000000 in
set_option maxRecDepth 20000 in
theorem parse_len49 (at' en : Int) (a : Option Addr) (n cap : Nat) (w : World) (hn : n ≠ 9) : Calls Tryd.prog 13 #[.agg #[.int .i64 49, .slice a n cap, .int .i64 at', .int .i64 en]] w (PaPost w (some ([], 2), zR)) := by
  have h : True := trivial
  have UF := Lib.hid fields_len49
  have hne : ((n : Int) != 9) = true := by rw [bne_iff_ne]; omega
  have HB := Lib.hid h
  have A3 := (((Ext.refl w).alloc (.cells #[.int .i64 49, .slice a n cap, .int .i64 at', .int .i64 en] 27)).alloc (.cells #[.int .i64 0, .int .i64 0, .int .i64 0, .int .i64 0, .int .i64 0] 24)).alloc (.cells #[.int .i64 49, .int .i64 0, .int .i64 0, .int .i64 0, .int .i64 0] 24)
  have B1 : BoxIs (((w.alloc (.cells #[.int .i64 49, .slice a n cap, .int .i64 at', .int .i64 en] 27)).alloc (.cells #[.int .i64 0, .int .i64 0, .int .i64 0, .int .i64 0, .int .i64 0] 24)).alloc (.cells #[.int .i64 49, .int .i64 0, .int .i64 0, .int .i64 0, .int .i64 0] 24)) (w.heap.size + 1) #[.int .i64 0, .int .i64 0, .int .i64 0, .int .i64 0, .int .i64 0] 24 := by
    have := BoxIs.new (w.alloc (.cells #[.int .i64 49, .slice a n cap, .int .i64 at', .int .i64 en] 27)) #[.int .i64 0, .int .i64 0, .int .i64 0, .int .i64 0, .int .i64 0] 24
    rw [show (w.alloc (.cells #[.int .i64 49, .slice a n cap, .int .i64 at', .int .i64 en] 27)).heap.size = w.heap.size + 1 by simp] at this
    exact this.ext ((Ext.refl _).alloc _)
  have B2 : BoxIs (((w.alloc (.cells #[.int .i64 49, .slice a n cap, .int .i64 at', .int .i64 en] 27)).alloc (.cells #[.int .i64 0, .int .i64 0, .int .i64 0, .int .i64 0, .int .i64 0] 24)).alloc (.cells #[.int .i64 49, .int .i64 0, .int .i64 0, .int .i64 0, .int .i64 0] 24)) (w.heap.size + 2) #[.int .i64 49, .int .i64 0, .int .i64 0, .int .i64 0, .int .i64 0] 24 := by
    have := BoxIs.new ((w.alloc (.cells #[.int .i64 49, .slice a n cap, .int .i64 at', .int .i64 en] 27)).alloc (.cells #[.int .i64 0, .int .i64 0, .int .i64 0, .int .i64 0, .int .i64 0] 24)) #[.int .i64 49, .int .i64 0, .int .i64 0, .int .i64 0, .int .i64 0] 24
    rw [show ((w.alloc (.cells #[.int .i64 49, .slice a n cap, .int .i64 at', .int .i64 en] 27)).alloc (.cells #[.int .i64 0, .int .i64 0, .int .i64 0, .int .i64 0, .int .i64 0] 24)).heap.size = w.heap.size + 2 by simp] at this
    exact this
  have B0 : BoxIs (((w.alloc (.cells #[.int .i64 49, .slice a n cap, .int .i64 at', .int .i64 en] 27)).alloc (.cells #[.int .i64 0, .int .i64 0, .int .i64 0, .int .i64 0, .int .i64 0] 24)).alloc (.cells #[.int .i64 49, .int .i64 0, .int .i64 0, .int .i64 0, .int .i64 0] 24)) w.heap.size #[.int .i64 49, .slice a n cap, .int .i64 at', .int .i64 en] 27 := (BoxIs.new w _ _).ext (((Ext.refl _).alloc _).alloc _)
  have HA3 := Lib.hid A3
  have HB0 := Lib.hid B0
  have HB1 := Lib.hid B1
  have HB2 := Lib.hid B2
  clear A3 B0 B1 B2
  go_enter Tryd.func13, Tryd.ntmps13
  go_wp2
  revert HA3 HB0 HB1 HB2
  generalize World.alloc (World.alloc (World.alloc w _) _) _ = w1
  intro HA3 HB0 HB1 HB2
  have u0 := HB0.out.cell (i := 0) rfl
  have u1 := HB0.out.cell (i := 1) rfl
  obtain ⟨⟨c0, c1, c2, c3, c4⟩, -⟩ := HB2.out.rc
  have KS : Hid (∀ w', Ext w1 w' → w'.cell? ⟨w.heap.size, 1, none⟩ = some (.slice a n cap) ∧ (w'.cell? ⟨w.heap.size + 2, 0, none⟩ = some (.int .i64 49) ∧ w'.cell? ⟨w.heap.size + 2, 1, none⟩ = some (.int .i64 0) ∧ w'.cell? ⟨w.heap.size + 2, 2, none⟩ = some (.int .i64 0) ∧ w'.cell? ⟨w.heap.size + 2, 3, none⟩ = some (.int .i64 0) ∧ w'.cell? ⟨w.heap.size + 2, 4, none⟩ = some (.int .i64 0)) ∧ Ext w1 w') := fun w' x => ⟨x.cell u1, ⟨x.cell c0, x.cell c1, x.cell c2, x.cell c3, x.cell c4⟩, x⟩
  go_region_held3 (fun w' => w'.cell? ⟨w.heap.size, 1, none⟩ = some (.slice a n cap) ∧ (w'.cell? ⟨w.heap.size + 2, 0, none⟩ = some (.int .i64 49) ∧ w'.cell? ⟨w.heap.size + 2, 1, none⟩ = some (.int .i64 0) ∧ w'.cell? ⟨w.heap.size + 2, 2, none⟩ = some (.int .i64 0) ∧ w'.cell? ⟨w.heap.size + 2, 3, none⟩ = some (.int .i64 0) ∧ w'.cell? ⟨w.heap.size + 2, 4, none⟩ = some (.int .i64 0)) ∧ Ext w1 w')
    (first | assumption | (exact KS.out _ (by repeat (first | exact Ext.refl _ | assumption | refine Ext.drew ?_ | refine Ext.trans ?_ (by assumption)))) | (go_split_ands; exact KS.out _ (by repeat (first | exact Ext.refl _ | assumption | refine Ext.drew ?_ | refine Ext.trans ?_ (by assumption)))))
    ((go_at_call 29; refine (UF.out _).mono ?_; rintro e w2 ⟨ua, uc, rfl, hx2⟩))
  obtain ⟨-, -, hE2⟩ : _ ∧ _ ∧ Ext w1 _ := by assumption
  have HE2 := Lib.hid hE2
  have HX2 := Lib.hid (HA3.out.trans hE2)
  have HC0 := Lib.hid (HB0.out.ext hE2)
  have HC1 := Lib.hid (HB1.out.ext hE2)
  have HC2 := Lib.hid (HB2.out.ext hE2)
  have HS2 : Hid (w.heap.size + 2 < w2.heap.size) := HC2.out.lt
  clear u0 u1 c0 c1 c2 c3 c4 hE2 KS HA3 HB0 HB1 HB2
  obtain ⟨⟨r0, r1, r2, r3, r4⟩, s0, s1, s2, s3, s4⟩ := HC1.out.rc
  go_wp2_with fail
  have HF1 := Lib.hid (HC1.out.set5 (.int .i64 0) (.int .i64 0) (.int .i64 0) (.int .i64 0) (.int .i64 0))
  have HF2 := Lib.hid (ext_set5 HX2.out (b := w.heap.size + 1) (Nat.le_succ _) (.int .i64 0) (.int .i64 0) (.int .i64 0) (.int .i64 0) (.int .i64 0))
  obtain ⟨⟨y0, y1, y2, y3, y4⟩, -⟩ := HF1.out.rc
  exact bodyPost_ret (v := .tuple #[rcA zR, .iface 22 (.int .i64 2)]) (by simp [results, Tryd.results13, go_sem, zR, y0, y1, y2, y3, y4]) rfl ⟨_, rfl, ErrIs.code (by decide), HF2.out⟩
set_option maxHeartbeats 8000000 in
set_option maxRecDepth 20000 in
theorem parse_is49 (at' en : Int) (b0 b1 b2 b3 b4 b5 b6 b7 b8 : Nat) (g off n cap : Nat) (w : World) (h : Bys w (.slice (some ⟨g, off, none⟩) n cap) [b0, b1, b2, b3, b4, b5, b6, b7, b8]) : Calls Tryd.prog 13 #[.agg #[.int .i64 49, .slice (some ⟨g, off, none⟩) n cap, .int .i64 at', .int .i64 en]] w (PaPost w (prR 49 [b0, b1, b2, b3, b4, b5, b6, b7, b8])) := by
  obtain rfl : n = 9 := h.len
  have UF := Lib.hid fields_len49
  have hne : ((9 : Int) != 9) = false := rfl
  have HB := Lib.hid h
  have A3 := (((Ext.refl w).alloc (.cells #[.int .i64 49, .slice (some ⟨g, off, none⟩) 9 cap, .int .i64 at', .int .i64 en] 27)).alloc (.cells #[.int .i64 0, .int .i64 0, .int .i64 0, .int .i64 0, .int .i64 0] 24)).alloc (.cells #[.int .i64 49, .int .i64 0, .int .i64 0, .int .i64 0, .int .i64 0] 24)
  have B1 : BoxIs (((w.alloc (.cells #[.int .i64 49, .slice (some ⟨g, off, none⟩) 9 cap, .int .i64 at', .int .i64 en] 27)).alloc (.cells #[.int .i64 0, .int .i64 0, .int .i64 0, .int .i64 0, .int .i64 0] 24)).alloc (.cells #[.int .i64 49, .int .i64 0, .int .i64 0, .int .i64 0, .int .i64 0] 24)) (w.heap.size + 1) #[.int .i64 0, .int .i64 0, .int .i64 0, .int .i64 0, .int .i64 0] 24 := by
    have := BoxIs.new (w.alloc (.cells #[.int .i64 49, .slice (some ⟨g, off, none⟩) 9 cap, .int .i64 at', .int .i64 en] 27)) #[.int .i64 0, .int .i64 0, .int .i64 0, .int .i64 0, .int .i64 0] 24
    rw [show (w.alloc (.cells #[.int .i64 49, .slice (some ⟨g, off, none⟩) 9 cap, .int .i64 at', .int .i64 en] 27)).heap.size = w.heap.size + 1 by simp] at this
    exact this.ext ((Ext.refl _).alloc _)
  have B2 : BoxIs (((w.alloc (.cells #[.int .i64 49, .slice (some ⟨g, off, none⟩) 9 cap, .int .i64 at', .int .i64 en] 27)).alloc (.cells #[.int .i64 0, .int .i64 0, .int .i64 0, .int .i64 0, .int .i64 0] 24)).alloc (.cells #[.int .i64 49, .int .i64 0, .int .i64 0, .int .i64 0, .int .i64 0] 24)) (w.heap.size + 2) #[.int .i64 49, .int .i64 0, .int .i64 0, .int .i64 0, .int .i64 0] 24 := by
    have := BoxIs.new ((w.alloc (.cells #[.int .i64 49, .slice (some ⟨g, off, none⟩) 9 cap, .int .i64 at', .int .i64 en] 27)).alloc (.cells #[.int .i64 0, .int .i64 0, .int .i64 0, .int .i64 0, .int .i64 0] 24)) #[.int .i64 49, .int .i64 0, .int .i64 0, .int .i64 0, .int .i64 0] 24
    rw [show ((w.alloc (.cells #[.int .i64 49, .slice (some ⟨g, off, none⟩) 9 cap, .int .i64 at', .int .i64 en] 27)).alloc (.cells #[.int .i64 0, .int .i64 0, .int .i64 0, .int .i64 0, .int .i64 0] 24)).heap.size = w.heap.size + 2 by simp] at this
    exact this
  have B0 : BoxIs (((w.alloc (.cells #[.int .i64 49, .slice (some ⟨g, off, none⟩) 9 cap, .int .i64 at', .int .i64 en] 27)).alloc (.cells #[.int .i64 0, .int .i64 0, .int .i64 0, .int .i64 0, .int .i64 0] 24)).alloc (.cells #[.int .i64 49, .int .i64 0, .int .i64 0, .int .i64 0, .int .i64 0] 24)) w.heap.size #[.int .i64 49, .slice (some ⟨g, off, none⟩) 9 cap, .int .i64 at', .int .i64 en] 27 := (BoxIs.new w _ _).ext (((Ext.refl _).alloc _).alloc _)
  have HA3 := Lib.hid A3
  have HB0 := Lib.hid B0
  have HB1 := Lib.hid B1
  have HB2 := Lib.hid B2
  clear A3 B0 B1 B2
  go_enter Tryd.func13, Tryd.ntmps13
  go_wp2
  revert HA3 HB0 HB1 HB2
  generalize World.alloc (World.alloc (World.alloc w _) _) _ = w1
  intro HA3 HB0 HB1 HB2
  have u0 := HB0.out.cell (i := 0) rfl
  have u1 := HB0.out.cell (i := 1) rfl
  obtain ⟨⟨c0, c1, c2, c3, c4⟩, -⟩ := HB2.out.rc
  have KS : Hid (∀ w', Ext w1 w' → w'.cell? ⟨w.heap.size, 1, none⟩ = some (.slice (some ⟨g, off, none⟩) 9 cap) ∧ (w'.cell? ⟨w.heap.size + 2, 0, none⟩ = some (.int .i64 49) ∧ w'.cell? ⟨w.heap.size + 2, 1, none⟩ = some (.int .i64 0) ∧ w'.cell? ⟨w.heap.size + 2, 2, none⟩ = some (.int .i64 0) ∧ w'.cell? ⟨w.heap.size + 2, 3, none⟩ = some (.int .i64 0) ∧ w'.cell? ⟨w.heap.size + 2, 4, none⟩ = some (.int .i64 0)) ∧ Ext w1 w') := fun w' x => ⟨x.cell u1, ⟨x.cell c0, x.cell c1, x.cell c2, x.cell c3, x.cell c4⟩, x⟩
  go_region_held3 (fun w' => w'.cell? ⟨w.heap.size, 1, none⟩ = some (.slice (some ⟨g, off, none⟩) 9 cap) ∧ (w'.cell? ⟨w.heap.size + 2, 0, none⟩ = some (.int .i64 49) ∧ w'.cell? ⟨w.heap.size + 2, 1, none⟩ = some (.int .i64 0) ∧ w'.cell? ⟨w.heap.size + 2, 2, none⟩ = some (.int .i64 0) ∧ w'.cell? ⟨w.heap.size + 2, 3, none⟩ = some (.int .i64 0) ∧ w'.cell? ⟨w.heap.size + 2, 4, none⟩ = some (.int .i64 0)) ∧ Ext w1 w')
    (first | assumption | (exact KS.out _ (by repeat (first | exact Ext.refl _ | assumption | refine Ext.drew ?_ | refine Ext.trans ?_ (by assumption)))) | (go_split_ands; exact KS.out _ (by repeat (first | exact Ext.refl _ | assumption | refine Ext.drew ?_ | refine Ext.trans ?_ (by assumption)))))
    ((go_at_call 29; refine (UF.out _).mono ?_; rintro e w2 ⟨ua, uc, rfl, hx2⟩))
  obtain ⟨-, -, hE2⟩ : _ ∧ _ ∧ Ext w1 _ := by assumption
  have HE2 := Lib.hid hE2
  have HX2 := Lib.hid (HA3.out.trans hE2)
  have HC0 := Lib.hid (HB0.out.ext hE2)
  have HC1 := Lib.hid (HB1.out.ext hE2)
  have HC2 := Lib.hid (HB2.out.ext hE2)
  have HS2 : Hid (w.heap.size + 2 < w2.heap.size) := HC2.out.lt
  clear u0 u1 c0 c1 c2 c3 c4 hE2 KS HA3 HB0 HB1 HB2
  obtain ⟨⟨r0, r1, r2, r3, r4⟩, s0, s1, s2, s3, s4⟩ := HC1.out.rc
  have HG0 : Hid (BoxIs (w2.alloc (.cells #[.slice (some ⟨g, off, none⟩) 9 cap] 25)) w2.heap.size #[.slice (some ⟨g, off, none⟩) 9 cap] 25) := BoxIs.new w2 _ _
  have HGE := Lib.hid ((Ext.refl w2).alloc (.cells #[.slice (some ⟨g, off, none⟩) 9 cap] 25))
  clear r0 r1 r2 r3 r4 s0 s1 s2 s3 s4
  have u0 := HC0.out.cell (i := 0) rfl
  have u1 := HC0.out.cell (i := 1) rfl
  have u0' := HGE.out.cell u0
  go_wp2_with fail
  revert HG0 HGE
  generalize hR : w2.heap.size = R at *
  generalize World.alloc w2 _ = w3
  intro HG0 HGE
  have HX3 := Lib.hid (HX2.out.trans HGE.out)
  have HD1 := Lib.hid (HC1.out.ext HGE.out)
  have HD2 := Lib.hid (HC2.out.ext HGE.out)
  have HYw := HB
  have hR1 : w.heap.size + 1 ≠ R := by have := HS2.out; omega
  have hR2 : w.heap.size + 2 ≠ R := by have := HS2.out; omega
  have hR3 : w.heap.size ≤ R := by have := HS2.out; omega
  clear u0 u1 u0' HX2 HC0 HC1 HC2 HGE HE2 hR
  -- step 0
  have HY_0 : Hid (Bys w3 (.slice (some ⟨g, off, none⟩) 9 (cap)) [b0, b1, b2, b3, b4, b5, b6, b7, b8]) := HYw.out.ext HX3.out
  have NX := Lib.hid (nextc_any R g (off) 9 (cap) 1 [b0, b1, b2, b3, b4, b5, b6, b7, b8] w3 (HG0.out.cell (i := 0) rfl) HG0.out.free HY_0.out (by decide) (by decide))
  have e9 : val ([b0, b1, b2, b3, b4, b5, b6, b7, b8].take 1) = b0 := val_1 b0
  rw [e9] at NX
  clear e9
  go_wp2_with fail
  refine NX.out.mono ?_; rintro e wq ⟨u, rfl, hwq, hu⟩
  subst hwq
  obtain rfl : u = .slice (some ⟨g, off + 1, none⟩) 8 (cap - 1) := hu (by decide)
  clear NX hu
  have HG1 : Hid (BoxIs ((w3.setCell ⟨R, 0, none⟩ (.slice (some ⟨g, off + 1, none⟩) 8 (cap - 1))).setCell ⟨w.heap.size + 2, 2, none⟩ (.int .i64 (b0 : Nat))) R #[(.slice (some ⟨g, off + 1, none⟩) 8 (cap - 1))] 25) := (HG0.out.set 0 _).put hR2.symm _
  have HD3 : Hid (BoxIs ((w3.setCell ⟨R, 0, none⟩ (.slice (some ⟨g, off + 1, none⟩) 8 (cap - 1))).setCell ⟨w.heap.size + 2, 2, none⟩ (.int .i64 (b0 : Nat))) (w.heap.size + 2) #[.int .i64 49, .int .i64 0, .int .i64 (b0 : Nat), .int .i64 0, .int .i64 0] 24) := (HD2.out.put hR2 _).set 2 _
  have HD4 : Hid (BoxIs ((w3.setCell ⟨R, 0, none⟩ (.slice (some ⟨g, off + 1, none⟩) 8 (cap - 1))).setCell ⟨w.heap.size + 2, 2, none⟩ (.int .i64 (b0 : Nat))) (w.heap.size + 1) #[.int .i64 0, .int .i64 0, .int .i64 0, .int .i64 0, .int .i64 0] 24) := (HD1.out.put hR1 _).put (by simp) _
  have HX4 := Lib.hid ((HX3.out.setCell (p := ⟨R, 0, none⟩) hR3 (.slice (some ⟨g, off + 1, none⟩) 8 (cap - 1))).setCell (p := ⟨w.heap.size + 2, 2, none⟩) (by simp) (.int .i64 (b0 : Nat)))
  obtain ⟨⟨z0, z1, z2, z3, z4⟩, f0, f1, f2, f3, f4⟩ := (HD2.out.put hR2 (.slice (some ⟨g, off + 1, none⟩) 8 (cap - 1)) : BoxIs (w3.setCell ⟨R, 0, none⟩ (.slice (some ⟨g, off + 1, none⟩) 8 (cap - 1))) _ _ _).rc
  have HY5 : Hid (Bys w (.slice (some ⟨g, off + 1, none⟩) 8 (cap - 1)) [b1, b2, b3, b4, b5, b6, b7, b8]) := HYw.out.cut (lo := 1) (hi := 9) (by decide) (by decide)
  have HYw := HY5
  clear HY5
  clear HG0 HD1 HD2 HX3
  go_wp2_with fail
  clear z0 z1 z2 z3 z4 f0 f1 f2 f3 f4
  revert HG1 HD3 HD4 HX4
  generalize World.setCell (World.setCell w3 _ _) _ _ = w4
  intro HG1 HD3 HD4 HX4
  have HG0 := HG1
  have HD2 := HD3
  have HD1 := HD4
  have HX3 := HX4
  clear HG1 HD3 HD4 HX4
  -- step 1
  have HY_1 : Hid (Bys w4 (.slice (some ⟨g, off + 1, none⟩) 8 (cap - 1)) [b1, b2, b3, b4, b5, b6, b7, b8]) := HYw.out.ext HX3.out
  have NX := Lib.hid (nextc_any R g (off + 1) 8 (cap - 1) 4 [b1, b2, b3, b4, b5, b6, b7, b8] w4 (HG0.out.cell (i := 0) rfl) HG0.out.free HY_1.out (by decide) (by decide))
  have e9 : val ([b1, b2, b3, b4, b5, b6, b7, b8].take 4) = v4 b1 b2 b3 b4 := val_4 b1 b2 b3 b4
  rw [e9] at NX
  clear e9
  go_wp2_with fail
  refine NX.out.mono ?_; rintro e wq ⟨u, rfl, hwq, hu⟩
  subst hwq
  obtain rfl : u = .slice (some ⟨g, off + 1 + 4, none⟩) 4 (cap - 1 - 4) := hu (by decide)
  clear NX hu
  have HG1 : Hid (BoxIs ((w4.setCell ⟨R, 0, none⟩ (.slice (some ⟨g, off + 1 + 4, none⟩) 4 (cap - 1 - 4))).setCell ⟨w.heap.size + 2, 3, none⟩ (.int .i64 (v4 b1 b2 b3 b4 : Nat))) R #[(.slice (some ⟨g, off + 1 + 4, none⟩) 4 (cap - 1 - 4))] 25) := (HG0.out.set 0 _).put hR2.symm _
  have HD3 : Hid (BoxIs ((w4.setCell ⟨R, 0, none⟩ (.slice (some ⟨g, off + 1 + 4, none⟩) 4 (cap - 1 - 4))).setCell ⟨w.heap.size + 2, 3, none⟩ (.int .i64 (v4 b1 b2 b3 b4 : Nat))) (w.heap.size + 2) #[.int .i64 49, .int .i64 0, .int .i64 (b0 : Nat), .int .i64 (v4 b1 b2 b3 b4 : Nat), .int .i64 0] 24) := (HD2.out.put hR2 _).set 3 _
  have HD4 : Hid (BoxIs ((w4.setCell ⟨R, 0, none⟩ (.slice (some ⟨g, off + 1 + 4, none⟩) 4 (cap - 1 - 4))).setCell ⟨w.heap.size + 2, 3, none⟩ (.int .i64 (v4 b1 b2 b3 b4 : Nat))) (w.heap.size + 1) #[.int .i64 0, .int .i64 0, .int .i64 0, .int .i64 0, .int .i64 0] 24) := (HD1.out.put hR1 _).put (by simp) _
  have HX4 := Lib.hid ((HX3.out.setCell (p := ⟨R, 0, none⟩) hR3 (.slice (some ⟨g, off + 1 + 4, none⟩) 4 (cap - 1 - 4))).setCell (p := ⟨w.heap.size + 2, 3, none⟩) (by simp) (.int .i64 (v4 b1 b2 b3 b4 : Nat)))
  obtain ⟨⟨z0, z1, z2, z3, z4⟩, f0, f1, f2, f3, f4⟩ := (HD2.out.put hR2 (.slice (some ⟨g, off + 1 + 4, none⟩) 4 (cap - 1 - 4)) : BoxIs (w4.setCell ⟨R, 0, none⟩ (.slice (some ⟨g, off + 1 + 4, none⟩) 4 (cap - 1 - 4))) _ _ _).rc
  have HY5 : Hid (Bys w (.slice (some ⟨g, off + 1 + 4, none⟩) 4 (cap - 1 - 4)) [b5, b6, b7, b8]) := HYw.out.cut (lo := 4) (hi := 8) (by decide) (by decide)
  have HYw := HY5
  clear HY5
  clear HG0 HD1 HD2 HX3
  go_wp2_with fail
  clear z0 z1 z2 z3 z4 f0 f1 f2 f3 f4
  revert HG1 HD3 HD4 HX4
  generalize World.setCell (World.setCell w4 _ _) _ _ = w5
  intro HG1 HD3 HD4 HX4
  have HG0 := HG1
  have HD2 := HD3
  have HD1 := HD4
  have HX3 := HX4
  clear HG1 HD3 HD4 HX4
  -- step 2
  have HY_2 : Hid (Bys w5 (.slice (some ⟨g, off + 1 + 4, none⟩) 4 ((cap - 1 - 4))) [b5, b6, b7, b8]) := HYw.out.ext HX3.out
  have NX := Lib.hid (nextc_any R g (off + 1 + 4) 4 ((cap - 1 - 4)) 4 [b5, b6, b7, b8] w5 (HG0.out.cell (i := 0) rfl) HG0.out.free HY_2.out (by decide) (by decide))
  have e9 : val ([b5, b6, b7, b8].take 4) = v4 b5 b6 b7 b8 := val_4 b5 b6 b7 b8
  rw [e9] at NX
  clear e9
  go_wp2_with fail
  refine NX.out.mono ?_; rintro e wq ⟨u, rfl, hwq, hu⟩
  subst hwq
  clear NX hu
  have HG1 : Hid (BoxIs ((w5.setCell ⟨R, 0, none⟩ u).setCell ⟨w.heap.size + 2, 1, none⟩ (.int .i64 (v4 b5 b6 b7 b8 : Nat))) R #[u] 25) := (HG0.out.set 0 _).put hR2.symm _
  have HD3 : Hid (BoxIs ((w5.setCell ⟨R, 0, none⟩ u).setCell ⟨w.heap.size + 2, 1, none⟩ (.int .i64 (v4 b5 b6 b7 b8 : Nat))) (w.heap.size + 2) #[.int .i64 49, .int .i64 (v4 b5 b6 b7 b8 : Nat), .int .i64 (b0 : Nat), .int .i64 (v4 b1 b2 b3 b4 : Nat), .int .i64 0] 24) := (HD2.out.put hR2 _).set 1 _
  have HD4 : Hid (BoxIs ((w5.setCell ⟨R, 0, none⟩ u).setCell ⟨w.heap.size + 2, 1, none⟩ (.int .i64 (v4 b5 b6 b7 b8 : Nat))) (w.heap.size + 1) #[.int .i64 0, .int .i64 0, .int .i64 0, .int .i64 0, .int .i64 0] 24) := (HD1.out.put hR1 _).put (by simp) _
  have HX4 := Lib.hid ((HX3.out.setCell (p := ⟨R, 0, none⟩) hR3 u).setCell (p := ⟨w.heap.size + 2, 1, none⟩) (by simp) (.int .i64 (v4 b5 b6 b7 b8 : Nat)))
  obtain ⟨⟨z0, z1, z2, z3, z4⟩, f0, f1, f2, f3, f4⟩ := (HD2.out.put hR2 u : BoxIs (w5.setCell ⟨R, 0, none⟩ u) _ _ _).rc
  clear HG0 HD1 HD2 HX3
  go_wp2_with fail
  clear z0 z1 z2 z3 z4 f0 f1 f2 f3 f4
  revert HG1 HD3 HD4 HX4
  generalize World.setCell (World.setCell w5 _ _) _ _ = w6
  intro HG1 HD3 HD4 HX4
  have HG0 := HG1
  have HD2 := HD3
  have HD1 := HD4
  have HX3 := HX4
  clear HG1 HD3 HD4 HX4
  -- the end
  have HRR : Hid (recR 49 [b0, b1, b2, b3, b4, b5, b6, b7, b8] = ⟨49, (v4 b5 b6 b7 b8 : Nat), (b0 : Nat), (v4 b1 b2 b3 b4 : Nat), 0⟩) := rfl
  have MY := Lib.hid (lmay_any ⟨49, (v4 b5 b6 b7 b8 : Nat), (b0 : Nat), (v4 b1 b2 b3 b4 : Nat), 0⟩ w6)
  obtain ⟨⟨z0, z1, z2, z3, z4⟩, -⟩ := HD2.out.rc
  go_wp2_with fail
  refine MY.out.mono ?_; rintro e wm ⟨rfl, hxm⟩
  have HX5 := Lib.hid (HX3.out.trans hxm)
  have HD1m := Lib.hid (HD1.out.ext hxm)
  have HD2m := Lib.hid (HD2.out.ext hxm)
  clear HX3 HD1 HD2 HG0 hxm z0 z1 z2 z3 z4
  obtain ⟨⟨r0, r1, r2, r3, r4⟩, s0, s1, s2, s3, s4⟩ := HD1m.out.rc
  obtain ⟨⟨z0, z1, z2, z3, z4⟩, -⟩ := HD2m.out.rc
  by_cases hmay : MayR (⟨49, (v4 b5 b6 b7 b8 : Nat), (b0 : Nat), (v4 b1 b2 b3 b4 : Nat), 0⟩ : Rc)
  · rw [decide_eq_true hmay]
    have HPR : Hid (prR 49 [b0, b1, b2, b3, b4, b5, b6, b7, b8] = (none, ⟨49, (v4 b5 b6 b7 b8 : Nat), (b0 : Nat), (v4 b1 b2 b3 b4 : Nat), 0⟩)) := by
      show _ = _
      unfold prR
      rw [if_neg (by decide), if_neg (by simp [lenR]), HRR.out, if_neg (Decidable.not_not.2 hmay)]
    clear hmay
    have HF1 := Lib.hid (HD1m.out.set5 (.int .i64 49) (.int .i64 (v4 b5 b6 b7 b8 : Nat)) (.int .i64 (b0 : Nat)) (.int .i64 (v4 b1 b2 b3 b4 : Nat)) (.int .i64 0))
    have HF2 := Lib.hid (ext_set5 HX5.out (b := w.heap.size + 1) (Nat.le_succ _) (.int .i64 49) (.int .i64 (v4 b5 b6 b7 b8 : Nat)) (.int .i64 (b0 : Nat)) (.int .i64 (v4 b1 b2 b3 b4 : Nat)) (.int .i64 0))
    go_wp2_with fail
    obtain ⟨⟨y0, y1, y2, y3, y4⟩, -⟩ := HF1.out.rc
    exact bodyPost_ret (v := .tuple #[.agg #[.int .i64 49, .int .i64 (v4 b5 b6 b7 b8 : Nat), .int .i64 (b0 : Nat), .int .i64 (v4 b1 b2 b3 b4 : Nat), .int .i64 0], .nilIface]) (by simp [results, Tryd.results13, go_sem, y0, y1, y2, y3, y4]) rfl ⟨.nilIface, by rw [HPR.out], by rw [HPR.out]; exact rfl, HF2.out⟩
  · rw [decide_eq_false hmay]
    have HPR : Hid (prR 49 [b0, b1, b2, b3, b4, b5, b6, b7, b8] = (some ([], 2), zR)) := by
      show _ = _
      unfold prR
      rw [if_neg (by decide), if_neg (by simp [lenR]), HRR.out, if_pos hmay]
    clear hmay
    have HF1 := Lib.hid (HD1m.out.set5 (.int .i64 0) (.int .i64 0) (.int .i64 0) (.int .i64 0) (.int .i64 0))
    have HF2 := Lib.hid (ext_set5 HX5.out (b := w.heap.size + 1) (Nat.le_succ _) (.int .i64 0) (.int .i64 0) (.int .i64 0) (.int .i64 0) (.int .i64 0))
    go_wp2_with fail
    obtain ⟨⟨y0, y1, y2, y3, y4⟩, -⟩ := HF1.out.rc
    exact bodyPost_ret (v := .tuple #[rcA zR, .iface 22 (.int .i64 2)]) (by simp [results, Tryd.results13, go_sem, zR, y0, y1, y2, y3, y4]) rfl ⟨.iface 22 (.int .i64 2), by rw [HPR.out], by rw [HPR.out]; exact ErrIs.code (by decide), HF2.out⟩
theorem fields_len50 (w : World) : Calls Tryd.prog 29 #[.agg #[.int .i64 50, .int .i64 0, .int .i64 0, .int .i64 0, .int .i64 0]] w fun e w' => ∃ a c, e = .returned (.slice a 1 c) ∧ Ext w w' :=
  (fields_any ⟨50, 0, 0, 0, 0⟩ w (okF_zero ⟨by decide, by decide⟩)).mono fun e w' ⟨u, h1, h2, h3⟩ => by
    obtain ⟨a, c, rfl⟩ := uform h2
    exact ⟨a, c, h1, h3⟩
set_option maxHeartbeats 4000000 in
set_option maxRecDepth 20000 in
theorem parse_len50 (at' en : Int) (a : Option Addr) (n cap : Nat) (w : World) (hn : n ≠ 1) : Calls Tryd.prog 13 #[.agg #[.int .i64 50, .slice a n cap, .int .i64 at', .int .i64 en]] w (PaPost w (some ([], 2), zR)) := by
  have h : True := trivial
  have UF := Lib.hid fields_len50
  have hne : ((n : Int) != 1) = true := by rw [bne_iff_ne]; omega
  have HB := Lib.hid h
  have A3 := (((Ext.refl w).alloc (.cells #[.int .i64 50, .slice a n cap, .int .i64 at', .int .i64 en] 27)).alloc (.cells #[.int .i64 0, .int .i64 0, .int .i64 0, .int .i64 0, .int .i64 0] 24)).alloc (.cells #[.int .i64 50, .int .i64 0, .int .i64 0, .int .i64 0, .int .i64 0] 24)
  have B1 : BoxIs (((w.alloc (.cells #[.int .i64 50, .slice a n cap, .int .i64 at', .int .i64 en] 27)).alloc (.cells #[.int .i64 0, .int .i64 0, .int .i64 0, .int .i64 0, .int .i64 0] 24)).alloc (.cells #[.int .i64 50, .int .i64 0, .int .i64 0, .int .i64 0, .int .i64 0] 24)) (w.heap.size + 1) #[.int .i64 0, .int .i64 0, .int .i64 0, .int .i64 0, .int .i64 0] 24 := by
    have := BoxIs.new (w.alloc (.cells #[.int .i64 50, .slice a n cap, .int .i64 at', .int .i64 en] 27)) #[.int .i64 0, .int .i64 0, .int .i64 0, .int .i64 0, .int .i64 0] 24
    rw [show (w.alloc (.cells #[.int .i64 50, .slice a n cap, .int .i64 at', .int .i64 en] 27)).heap.size = w.heap.size + 1 by simp] at this
    exact this.ext ((Ext.refl _).alloc _)
  have B2 : BoxIs (((w.alloc (.cells #[.int .i64 50, .slice a n cap, .int .i64 at', .int .i64 en] 27)).alloc (.cells #[.int .i64 0, .int .i64 0, .int .i64 0, .int .i64 0, .int .i64 0] 24)).alloc (.cells #[.int .i64 50, .int .i64 0, .int .i64 0, .int .i64 0, .int .i64 0] 24)) (w.heap.size + 2) #[.int .i64 50, .int .i64 0, .int .i64 0, .int .i64 0, .int .i64 0] 24 := by
    have := BoxIs.new ((w.alloc (.cells #[.int .i64 50, .slice a n cap, .int .i64 at', .int .i64 en] 27)).alloc (.cells #[.int .i64 0, .int .i64 0, .int .i64 0, .int .i64 0, .int .i64 0] 24)) #[.int .i64 50, .int .i64 0, .int .i64 0, .int .i64 0, .int .i64 0] 24
    rw [show ((w.alloc (.cells #[.int .i64 50, .slice a n cap, .int .i64 at', .int .i64 en] 27)).alloc (.cells #[.int .i64 0, .int .i64 0, .int .i64 0, .int .i64 0, .int .i64 0] 24)).heap.size = w.heap.size + 2 by simp] at this
    exact this
  have B0 : BoxIs (((w.alloc (.cells #[.int .i64 50, .slice a n cap, .int .i64 at', .int .i64 en] 27)).alloc (.cells #[.int .i64 0, .int .i64 0, .int .i64 0, .int .i64 0, .int .i64 0] 24)).alloc (.cells #[.int .i64 50, .int .i64 0, .int .i64 0, .int .i64 0, .int .i64 0] 24)) w.heap.size #[.int .i64 50, .slice a n cap, .int .i64 at', .int .i64 en] 27 := (BoxIs.new w _ _).ext (((Ext.refl _).alloc _).alloc _)
  have HA3 := Lib.hid A3
  have HB0 := Lib.hid B0
  have HB1 := Lib.hid B1
  have HB2 := Lib.hid B2
  clear A3 B0 B1 B2
  go_enter Tryd.func13, Tryd.ntmps13
  go_wp2
  revert HA3 HB0 HB1 HB2
  generalize World.alloc (World.alloc (World.alloc w _) _) _ = w1
  intro HA3 HB0 HB1 HB2
  have u0 := HB0.out.cell (i := 0) rfl
  have u1 := HB0.out.cell (i := 1) rfl
  obtain ⟨⟨c0, c1, c2, c3, c4⟩, -⟩ := HB2.out.rc
  have KS : Hid (∀ w', Ext w1 w' → w'.cell? ⟨w.heap.size, 1, none⟩ = some (.slice a n cap) ∧ (w'.cell? ⟨w.heap.size + 2, 0, none⟩ = some (.int .i64 50) ∧ w'.cell? ⟨w.heap.size + 2, 1, none⟩ = some (.int .i64 0) ∧ w'.cell? ⟨w.heap.size + 2, 2, none⟩ = some (.int .i64 0) ∧ w'.cell? ⟨w.heap.size + 2, 3, none⟩ = some (.int .i64 0) ∧ w'.cell? ⟨w.heap.size + 2, 4, none⟩ = some (.int .i64 0)) ∧ Ext w1 w') := fun w' x => ⟨x.cell u1, ⟨x.cell c0, x.cell c1, x.cell c2, x.cell c3, x.cell c4⟩, x⟩
  go_region_held3 (fun w' => w'.cell? ⟨w.heap.size, 1, none⟩ = some (.slice a n cap) ∧ (w'.cell? ⟨w.heap.size + 2, 0, none⟩ = some (.int .i64 50) ∧ w'.cell? ⟨w.heap.size + 2, 1, none⟩ = some (.int .i64 0) ∧ w'.cell? ⟨w.heap.size + 2, 2, none⟩ = some (.int .i64 0) ∧ w'.cell? ⟨w.heap.size + 2, 3, none⟩ = some (.int .i64 0) ∧ w'.cell? ⟨w.heap.size + 2, 4, none⟩ = some (.int .i64 0)) ∧ Ext w1 w')
    (first | assumption | (exact KS.out _ (by repeat (first | exact Ext.refl _ | assumption | refine Ext.drew ?_ | refine Ext.trans ?_ (by assumption)))) | (go_split_ands; exact KS.out _ (by repeat (first | exact Ext.refl _ | assumption | refine Ext.drew ?_ | refine Ext.trans ?_ (by assumption)))))
    ((go_at_call 29; refine (UF.out _).mono ?_; rintro e w2 ⟨ua, uc, rfl, hx2⟩))
  obtain ⟨-, -, hE2⟩ : _ ∧ _ ∧ Ext w1 _ := by assumption
  have HE2 := Lib.hid hE2
  have HX2 := Lib.hid (HA3.out.trans hE2)
  have HC0 := Lib.hid (HB0.out.ext hE2)
  have HC1 := Lib.hid (HB1.out.ext hE2)
  have HC2 := Lib.hid (HB2.out.ext hE2)
  have HS2 : Hid (w.heap.size + 2 < w2.heap.size) := HC2.out.lt
  clear u0 u1 c0 c1 c2 c3 c4 hE2 KS HA3 HB0 HB1 HB2
  obtain ⟨⟨r0, r1, r2, r3, r4⟩, s0, s1, s2, s3, s4⟩ := HC1.out.rc
  go_wp2_with fail
  have HF1 := Lib.hid (HC1.out.set5 (.int .i64 0) (.int .i64 0) (.int .i64 0) (.int .i64 0) (.int .i64 0))
  have HF2 := Lib.hid (ext_set5 HX2.out (b := w.heap.size + 1) (Nat.le_succ _) (.int .i64 0) (.int .i64 0) (.int .i64 0) (.int .i64 0) (.int .i64 0))
  obtain ⟨⟨y0, y1, y2, y3, y4⟩, -⟩ := HF1.out.rc
  exact bodyPost_ret (v := .tuple #[rcA zR, .iface 22 (.int .i64 2)]) (by simp [results, Tryd.results13, go_sem, zR, y0, y1, y2, y3, y4]) rfl ⟨_, rfl, ErrIs.code (by decide), HF2.out⟩
set_option maxHeartbeats 8000000 in
set_option maxRecDepth 20000 in
theorem parse_is50 (at' en : Int) (b0 : Nat) (g off n cap : Nat) (w : World) (h : Bys w (.slice (some ⟨g, off, none⟩) n cap) [b0]) : Calls Tryd.prog 13 #[.agg #[.int .i64 50, .slice (some ⟨g, off, none⟩) n cap, .int .i64 at', .int .i64 en]] w (PaPost w (prR 50 [b0])) := by
  obtain rfl : n = 1 := h.len
  have UF := Lib.hid fields_len50
  have hne : ((1 : Int) != 1) = false := rfl
  have HB := Lib.hid h
  have A3 := (((Ext.refl w).alloc (.cells #[.int .i64 50, .slice (some ⟨g, off, none⟩) 1 cap, .int .i64 at', .int .i64 en] 27)).alloc (.cells #[.int .i64 0, .int .i64 0, .int .i64 0, .int .i64 0, .int .i64 0] 24)).alloc (.cells #[.int .i64 50, .int .i64 0, .int .i64 0, .int .i64 0, .int .i64 0] 24)
  have B1 : BoxIs (((w.alloc (.cells #[.int .i64 50, .slice (some ⟨g, off, none⟩) 1 cap, .int .i64 at', .int .i64 en] 27)).alloc (.cells #[.int .i64 0, .int .i64 0, .int .i64 0, .int .i64 0, .int .i64 0] 24)).alloc (.cells #[.int .i64 50, .int .i64 0, .int .i64 0, .int .i64 0, .int .i64 0] 24)) (w.heap.size + 1) #[.int .i64 0, .int .i64 0, .int .i64 0, .int .i64 0, .int .i64 0] 24 := by
    have := BoxIs.new (w.alloc (.cells #[.int .i64 50, .slice (some ⟨g, off, none⟩) 1 cap, .int .i64 at', .int .i64 en] 27)) #[.int .i64 0, .int .i64 0, .int .i64 0, .int .i64 0, .int .i64 0] 24
    rw [show (w.alloc (.cells #[.int .i64 50, .slice (some ⟨g, off, none⟩) 1 cap, .int .i64 at', .int .i64 en] 27)).heap.size = w.heap.size + 1 by simp] at this
    exact this.ext ((Ext.refl _).alloc _)
  have B2 : BoxIs (((w.alloc (.cells #[.int .i64 50, .slice (some ⟨g, off, none⟩) 1 cap, .int .i64 at', .int .i64 en] 27)).alloc (.cells #[.int .i64 0, .int .i64 0, .int .i64 0, .int .i64 0, .int .i64 0] 24)).alloc (.cells #[.int .i64 50, .int .i64 0, .int .i64 0, .int .i64 0, .int .i64 0] 24)) (w.heap.size + 2) #[.int .i64 50, .int .i64 0, .int .i64 0, .int .i64 0, .int .i64 0] 24 := by
    have := BoxIs.new ((w.alloc (.cells #[.int .i64 50, .slice (some ⟨g, off, none⟩) 1 cap, .int .i64 at', .int .i64 en] 27)).alloc (.cells #[.int .i64 0, .int .i64 0, .int .i64 0, .int .i64 0, .int .i64 0] 24)) #[.int .i64 50, .int .i64 0, .int .i64 0, .int .i64 0, .int .i64 0] 24
    rw [show ((w.alloc (.cells #[.int .i64 50, .slice (some ⟨g, off, none⟩) 1 cap, .int .i64 at', .int .i64 en] 27)).alloc (.cells #[.int .i64 0, .int .i64 0, .int .i64 0, .int .i64 0, .int .i64 0] 24)).heap.size = w.heap.size + 2 by simp] at this
    exact this
  have B0 : BoxIs (((w.alloc (.cells #[.int .i64 50, .slice (some ⟨g, off, none⟩) 1 cap, .int .i64 at', .int .i64 en] 27)).alloc (.cells #[.int .i64 0, .int .i64 0, .int .i64 0, .int .i64 0, .int .i64 0] 24)).alloc (.cells #[.int .i64 50, .int .i64 0, .int .i64 0, .int .i64 0, .int .i64 0] 24)) w.heap.size #[.int .i64 50, .slice (some ⟨g, off, none⟩) 1 cap, .int .i64 at', .int .i64 en] 27 := (BoxIs.new w _ _).ext (((Ext.refl _).alloc _).alloc _)
  have HA3 := Lib.hid A3
  have HB0 := Lib.hid B0
  have HB1 := Lib.hid B1
  have HB2 := Lib.hid B2
  clear A3 B0 B1 B2
  go_enter Tryd.func13, Tryd.ntmps13
  go_wp2
  revert HA3 HB0 HB1 HB2
  generalize World.alloc (World.alloc (World.alloc w _) _) _ = w1
  intro HA3 HB0 HB1 HB2
  have u0 := HB0.out.cell (i := 0) rfl
  have u1 := HB0.out.cell (i := 1) rfl
  obtain ⟨⟨c0, c1, c2, c3, c4⟩, -⟩ := HB2.out.rc
  have KS : Hid (∀ w', Ext w1 w' → w'.cell? ⟨w.heap.size, 1, none⟩ = some (.slice (some ⟨g, off, none⟩) 1 cap) ∧ (w'.cell? ⟨w.heap.size + 2, 0, none⟩ = some (.int .i64 50) ∧ w'.cell? ⟨w.heap.size + 2, 1, none⟩ = some (.int .i64 0) ∧ w'.cell? ⟨w.heap.size + 2, 2, none⟩ = some (.int .i64 0) ∧ w'.cell? ⟨w.heap.size + 2, 3, none⟩ = some (.int .i64 0) ∧ w'.cell? ⟨w.heap.size + 2, 4, none⟩ = some (.int .i64 0)) ∧ Ext w1 w') := fun w' x => ⟨x.cell u1, ⟨x.cell c0, x.cell c1, x.cell c2, x.cell c3, x.cell c4⟩, x⟩
  go_region_held3 (fun w' => w'.cell? ⟨w.heap.size, 1, none⟩ = some (.slice (some ⟨g, off, none⟩) 1 cap) ∧ (w'.cell? ⟨w.heap.size + 2, 0, none⟩ = some (.int .i64 50) ∧ w'.cell? ⟨w.heap.size + 2, 1, none⟩ = some (.int .i64 0) ∧ w'.cell? ⟨w.heap.size + 2, 2, none⟩ = some (.int .i64 0) ∧ w'.cell? ⟨w.heap.size + 2, 3, none⟩ = some (.int .i64 0) ∧ w'.cell? ⟨w.heap.size + 2, 4, none⟩ = some (.int .i64 0)) ∧ Ext w1 w')
    (first | assumption | (exact KS.out _ (by repeat (first | exact Ext.refl _ | assumption | refine Ext.drew ?_ | refine Ext.trans ?_ (by assumption)))) | (go_split_ands; exact KS.out _ (by repeat (first | exact Ext.refl _ | assumption | refine Ext.drew ?_ | refine Ext.trans ?_ (by assumption)))))
    ((go_at_call 29; refine (UF.out _).mono ?_; rintro e w2 ⟨ua, uc, rfl, hx2⟩))
  obtain ⟨-, -, hE2⟩ : _ ∧ _ ∧ Ext w1 _ := by assumption
  have HE2 := Lib.hid hE2
  have HX2 := Lib.hid (HA3.out.trans hE2)
  have HC0 := Lib.hid (HB0.out.ext hE2)
  have HC1 := Lib.hid (HB1.out.ext hE2)
  have HC2 := Lib.hid (HB2.out.ext hE2)
  have HS2 : Hid (w.heap.size + 2 < w2.heap.size) := HC2.out.lt
  clear u0 u1 c0 c1 c2 c3 c4 hE2 KS HA3 HB0 HB1 HB2
  obtain ⟨⟨r0, r1, r2, r3, r4⟩, s0, s1, s2, s3, s4⟩ := HC1.out.rc
  have HG0 : Hid (BoxIs (w2.alloc (.cells #[.slice (some ⟨g, off, none⟩) 1 cap] 25)) w2.heap.size #[.slice (some ⟨g, off, none⟩) 1 cap] 25) := BoxIs.new w2 _ _
  have HGE := Lib.hid ((Ext.refl w2).alloc (.cells #[.slice (some ⟨g, off, none⟩) 1 cap] 25))
  clear r0 r1 r2 r3 r4 s0 s1 s2 s3 s4
  have u0 := HC0.out.cell (i := 0) rfl
  have u1 := HC0.out.cell (i := 1) rfl
  have u0' := HGE.out.cell u0
  go_wp2_with fail
  revert HG0 HGE
  generalize hR : w2.heap.size = R at *
  generalize World.alloc w2 _ = w3
  intro HG0 HGE
  have HX3 := Lib.hid (HX2.out.trans HGE.out)
  have HD1 := Lib.hid (HC1.out.ext HGE.out)
  have HD2 := Lib.hid (HC2.out.ext HGE.out)
  have HYw := HB
  have hR1 : w.heap.size + 1 ≠ R := by have := HS2.out; omega
  have hR2 : w.heap.size + 2 ≠ R := by have := HS2.out; omega
  have hR3 : w.heap.size ≤ R := by have := HS2.out; omega
  clear u0 u1 u0' HX2 HC0 HC1 HC2 HGE HE2 hR
  -- step 0
  have HY_0 : Hid (Bys w3 (.slice (some ⟨g, off, none⟩) 1 (cap)) [b0]) := HYw.out.ext HX3.out
  have NX := Lib.hid (nextc_any R g (off) 1 (cap) 1 [b0] w3 (HG0.out.cell (i := 0) rfl) HG0.out.free HY_0.out (by decide) (by decide))
  have e9 : val ([b0].take 1) = b0 := val_1 b0
  rw [e9] at NX
  clear e9
  go_wp2_with fail
  refine NX.out.mono ?_; rintro e wq ⟨u, rfl, hwq, hu⟩
  subst hwq
  clear NX hu
  have HG1 : Hid (BoxIs ((w3.setCell ⟨R, 0, none⟩ u).setCell ⟨w.heap.size + 2, 4, none⟩ (.int .i64 (b0 : Nat))) R #[u] 25) := (HG0.out.set 0 _).put hR2.symm _
  have HD3 : Hid (BoxIs ((w3.setCell ⟨R, 0, none⟩ u).setCell ⟨w.heap.size + 2, 4, none⟩ (.int .i64 (b0 : Nat))) (w.heap.size + 2) #[.int .i64 50, .int .i64 0, .int .i64 0, .int .i64 0, .int .i64 (b0 : Nat)] 24) := (HD2.out.put hR2 _).set 4 _
  have HD4 : Hid (BoxIs ((w3.setCell ⟨R, 0, none⟩ u).setCell ⟨w.heap.size + 2, 4, none⟩ (.int .i64 (b0 : Nat))) (w.heap.size + 1) #[.int .i64 0, .int .i64 0, .int .i64 0, .int .i64 0, .int .i64 0] 24) := (HD1.out.put hR1 _).put (by simp) _
  have HX4 := Lib.hid ((HX3.out.setCell (p := ⟨R, 0, none⟩) hR3 u).setCell (p := ⟨w.heap.size + 2, 4, none⟩) (by simp) (.int .i64 (b0 : Nat)))
  obtain ⟨⟨z0, z1, z2, z3, z4⟩, f0, f1, f2, f3, f4⟩ := (HD2.out.put hR2 u : BoxIs (w3.setCell ⟨R, 0, none⟩ u) _ _ _).rc
  clear HG0 HD1 HD2 HX3
  go_wp2_with fail
  clear z0 z1 z2 z3 z4 f0 f1 f2 f3 f4
  revert HG1 HD3 HD4 HX4
  generalize World.setCell (World.setCell w3 _ _) _ _ = w4
  intro HG1 HD3 HD4 HX4
  have HG0 := HG1
  have HD2 := HD3
  have HD1 := HD4
  have HX3 := HX4
  clear HG1 HD3 HD4 HX4
  -- the end
  have HRR : Hid (recR 50 [b0] = ⟨50, 0, 0, 0, (b0 : Nat)⟩) := rfl
  have MY := Lib.hid (lmay_any ⟨50, 0, 0, 0, (b0 : Nat)⟩ w4)
  obtain ⟨⟨z0, z1, z2, z3, z4⟩, -⟩ := HD2.out.rc
  go_wp2_with fail
  refine MY.out.mono ?_; rintro e wm ⟨rfl, hxm⟩
  have HX5 := Lib.hid (HX3.out.trans hxm)
  have HD1m := Lib.hid (HD1.out.ext hxm)
  have HD2m := Lib.hid (HD2.out.ext hxm)
  clear HX3 HD1 HD2 HG0 hxm z0 z1 z2 z3 z4
  obtain ⟨⟨r0, r1, r2, r3, r4⟩, s0, s1, s2, s3, s4⟩ := HD1m.out.rc
  obtain ⟨⟨z0, z1, z2, z3, z4⟩, -⟩ := HD2m.out.rc
  by_cases hmay : MayR (⟨50, 0, 0, 0, (b0 : Nat)⟩ : Rc)
  · rw [decide_eq_true hmay]
    have HPR : Hid (prR 50 [b0] = (none, ⟨50, 0, 0, 0, (b0 : Nat)⟩)) := by
      show _ = _
      unfold prR
      rw [if_neg (by decide), if_neg (by simp [lenR]), HRR.out, if_neg (Decidable.not_not.2 hmay)]
    clear hmay
    have HF1 := Lib.hid (HD1m.out.set5 (.int .i64 50) (.int .i64 0) (.int .i64 0) (.int .i64 0) (.int .i64 (b0 : Nat)))
    have HF2 := Lib.hid (ext_set5 HX5.out (b := w.heap.size + 1) (Nat.le_succ _) (.int .i64 50) (.int .i64 0) (.int .i64 0) (.int .i64 0) (.int .i64 (b0 : Nat)))
    go_wp2_with fail
    obtain ⟨⟨y0, y1, y2, y3, y4⟩, -⟩ := HF1.out.rc
    exact bodyPost_ret (v := .tuple #[.agg #[.int .i64 50, .int .i64 0, .int .i64 0, .int .i64 0, .int .i64 (b0 : Nat)], .nilIface]) (by simp [results, Tryd.results13, go_sem, y0, y1, y2, y3, y4]) rfl ⟨.nilIface, by rw [HPR.out], by rw [HPR.out]; exact rfl, HF2.out⟩
  · rw [decide_eq_false hmay]
    have HPR : Hid (prR 50 [b0] = (some ([], 2), zR)) := by
      show _ = _
      unfold prR
      rw [if_neg (by decide), if_neg (by simp [lenR]), HRR.out, if_pos hmay]
    clear hmay
    have HF1 := Lib.hid (HD1m.out.set5 (.int .i64 0) (.int .i64 0) (.int .i64 0) (.int .i64 0) (.int .i64 0))
    have HF2 := Lib.hid (ext_set5 HX5.out (b := w.heap.size + 1) (Nat.le_succ _) (.int .i64 0) (.int .i64 0) (.int .i64 0) (.int .i64 0) (.int .i64 0))
    go_wp2_with fail
    obtain ⟨⟨y0, y1, y2, y3, y4⟩, -⟩ := HF1.out.rc
    exact bodyPost_ret (v := .tuple #[rcA zR, .iface 22 (.int .i64 2)]) (by simp [results, Tryd.results13, go_sem, zR, y0, y1, y2, y3, y4]) rfl ⟨.iface 22 (.int .i64 2), by rw [HPR.out], by rw [HPR.out]; exact ErrIs.code (by decide), HF2.out⟩
theorem fields_len51 (w : World) : Calls Tryd.prog 29 #[.agg #[.int .i64 51, .int .i64 0, .int .i64 0, .int .i64 0, .int .i64 0]] w fun e w' => ∃ a c, e = .returned (.slice a 8 c) ∧ Ext w w' :=
  (fields_any ⟨51, 0, 0, 0, 0⟩ w (okF_zero ⟨by decide, by decide⟩)).mono fun e w' ⟨u, h1, h2, h3⟩ => by
    obtain ⟨a, c, rfl⟩ := uform h2
    exact ⟨a, c, h1, h3⟩
set_option maxHeartbeats 4000000 in
set_option maxRecDepth 20000 in
theorem parse_len51 (at' en : Int) (a : Option Addr) (n cap : Nat) (w : World) (hn : n ≠ 8) : Calls Tryd.prog 13 #[.agg #[.int .i64 51, .slice a n cap, .int .i64 at', .int .i64 en]] w (PaPost w (some ([], 2), zR)) := by
  have h : True := trivial
  have UF := Lib.hid fields_len51
  have hne : ((n : Int) != 8) = true := by rw [bne_iff_ne]; omega
  have HB := Lib.hid h
  have A3 := (((Ext.refl w).alloc (.cells #[.int .i64 51, .slice a n cap, .int .i64 at', .int .i64 en] 27)).alloc (.cells #[.int .i64 0, .int .i64 0, .int .i64 0, .int .i64 0, .int .i64 0] 24)).alloc (.cells #[.int .i64 51, .int .i64 0, .int .i64 0, .int .i64 0, .int .i64 0] 24)
  have B1 : BoxIs (((w.alloc (.cells #[.int .i64 51, .slice a n cap, .int .i64 at', .int .i64 en] 27)).alloc (.cells #[.int .i64 0, .int .i64 0, .int .i64 0, .int .i64 0, .int .i64 0] 24)).alloc (.cells #[.int .i64 51, .int .i64 0, .int .i64 0, .int .i64 0, .int .i64 0] 24)) (w.heap.size + 1) #[.int .i64 0, .int .i64 0, .int .i64 0, .int .i64 0, .int .i64 0] 24 := by
    have := BoxIs.new (w.alloc (.cells #[.int .i64 51, .slice a n cap, .int .i64 at', .int .i64 en] 27)) #[.int .i64 0, .int .i64 0, .int .i64 0, .int .i64 0, .int .i64 0] 24
    rw [show (w.alloc (.cells #[.int .i64 51, .slice a n cap, .int .i64 at', .int .i64 en] 27)).heap.size = w.heap.size + 1 by simp] at this
    exact this.ext ((Ext.refl _).alloc _)
  have B2 : BoxIs (((w.alloc (.cells #[.int .i64 51, .slice a n cap, .int .i64 at', .int .i64 en] 27)).alloc (.cells #[.int .i64 0, .int .i64 0, .int .i64 0, .int .i64 0, .int .i64 0] 24)).alloc (.cells #[.int .i64 51, .int .i64 0, .int .i64 0, .int .i64 0, .int .i64 0] 24)) (w.heap.size + 2) #[.int .i64 51, .int .i64 0, .int .i64 0, .int .i64 0, .int .i64 0] 24 := by
    have := BoxIs.new ((w.alloc (.cells #[.int .i64 51, .slice a n cap, .int .i64 at', .int .i64 en] 27)).alloc (.cells #[.int .i64 0, .int .i64 0, .int .i64 0, .int .i64 0, .int .i64 0] 24)) #[.int .i64 51, .int .i64 0, .int .i64 0, .int .i64 0, .int .i64 0] 24
    rw [show ((w.alloc (.cells #[.int .i64 51, .slice a n cap, .int .i64 at', .int .i64 en] 27)).alloc (.cells #[.int .i64 0, .int .i64 0, .int .i64 0, .int .i64 0, .int .i64 0] 24)).heap.size = w.heap.size + 2 by simp] at this
    exact this
  have B0 : BoxIs (((w.alloc (.cells #[.int .i64 51, .slice a n cap, .int .i64 at', .int .i64 en] 27)).alloc (.cells #[.int .i64 0, .int .i64 0, .int .i64 0, .int .i64 0, .int .i64 0] 24)).alloc (.cells #[.int .i64 51, .int .i64 0, .int .i64 0, .int .i64 0, .int .i64 0] 24)) w.heap.size #[.int .i64 51, .slice a n cap, .int .i64 at', .int .i64 en] 27 := (BoxIs.new w _ _).ext (((Ext.refl _).alloc _).alloc _)
  have HA3 := Lib.hid A3
  have HB0 := Lib.hid B0
  have HB1 := Lib.hid B1
  have HB2 := Lib.hid B2
  clear A3 B0 B1 B2
  go_enter Tryd.func13, Tryd.ntmps13
  go_wp2
  revert HA3 HB0 HB1 HB2
  generalize World.alloc (World.alloc (World.alloc w _) _) _ = w1
  intro HA3 HB0 HB1 HB2
  have u0 := HB0.out.cell (i := 0) rfl
  have u1 := HB0.out.cell (i := 1) rfl
  obtain ⟨⟨c0, c1, c2, c3, c4⟩, -⟩ := HB2.out.rc
  have KS : Hid (∀ w', Ext w1 w' → w'.cell? ⟨w.heap.size, 1, none⟩ = some (.slice a n cap) ∧ (w'.cell? ⟨w.heap.size + 2, 0, none⟩ = some (.int .i64 51) ∧ w'.cell? ⟨w.heap.size + 2, 1, none⟩ = some (.int .i64 0) ∧ w'.cell? ⟨w.heap.size + 2, 2, none⟩ = some (.int .i64 0) ∧ w'.cell? ⟨w.heap.size + 2, 3, none⟩ = some (.int .i64 0) ∧ w'.cell? ⟨w.heap.size + 2, 4, none⟩ = some (.int .i64 0)) ∧ Ext w1 w') := fun w' x => ⟨x.cell u1, ⟨x.cell c0, x.cell c1, x.cell c2, x.cell c3, x.cell c4⟩, x⟩
  go_region_held3 (fun w' => w'.cell? ⟨w.heap.size, 1, none⟩ = some (.slice a n cap) ∧ (w'.cell? ⟨w.heap.size + 2, 0, none⟩ = some (.int .i64 51) ∧ w'.cell? ⟨w.heap.size + 2, 1, none⟩ = some (.int .i64 0) ∧ w'.cell? ⟨w.heap.size + 2, 2, none⟩ = some (.int .i64 0) ∧ w'.cell? ⟨w.heap.size + 2, 3, none⟩ = some (.int .i64 0) ∧ w'.cell? ⟨w.heap.size + 2, 4, none⟩ = some (.int .i64 0)) ∧ Ext w1 w')
    (first | assumption | (exact KS.out _ (by repeat (first | exact Ext.refl _ | assumption | refine Ext.drew ?_ | refine Ext.trans ?_ (by assumption)))) | (go_split_ands; exact KS.out _ (by repeat (first | exact Ext.refl _ | assumption | refine Ext.drew ?_ | refine Ext.trans ?_ (by assumption)))))
    ((go_at_call 29; refine (UF.out _).mono ?_; rintro e w2 ⟨ua, uc, rfl, hx2⟩))
  obtain ⟨-, -, hE2⟩ : _ ∧ _ ∧ Ext w1 _ := by assumption
  have HE2 := Lib.hid hE2
  have HX2 := Lib.hid (HA3.out.trans hE2)
  have HC0 := Lib.hid (HB0.out.ext hE2)
  have HC1 := Lib.hid (HB1.out.ext hE2)
  have HC2 := Lib.hid (HB2.out.ext hE2)
  have HS2 : Hid (w.heap.size + 2 < w2.heap.size) := HC2.out.lt
  clear u0 u1 c0 c1 c2 c3 c4 hE2 KS HA3 HB0 HB1 HB2
  obtain ⟨⟨r0, r1, r2, r3, r4⟩, s0, s1, s2, s3, s4⟩ := HC1.out.rc
  go_wp2_with fail
  have HF1 := Lib.hid (HC1.out.set5 (.int .i64 0) (.int .i64 0) (.int .i64 0) (.int .i64 0) (.int .i64 0))
  have HF2 := Lib.hid (ext_set5 HX2.out (b := w.heap.size + 1) (Nat.le_succ _) (.int .i64 0) (.int .i64 0) (.int .i64 0) (.int .i64 0) (.int .i64 0))
  obtain ⟨⟨y0, y1, y2, y3, y4⟩, -⟩ := HF1.out.rc
  exact bodyPost_ret (v := .tuple #[rcA zR, .iface 22 (.int .i64 2)]) (by simp [results, Tryd.results13, go_sem, zR, y0, y1, y2, y3, y4]) rfl ⟨_, rfl, ErrIs.code (by decide), HF2.out⟩
set_option maxHeartbeats 8000000 in
set_option maxRecDepth 20000 in
theorem parse_is51 (at' en : Int) (b0 b1 b2 b3 b4 b5 b6 b7 : Nat) (g off n cap : Nat) (w : World) (h : Bys w (.slice (some ⟨g, off, none⟩) n cap) [b0, b1, b2, b3, b4, b5, b6, b7]) : Calls Tryd.prog 13 #[.agg #[.int .i64 51, .slice (some ⟨g, off, none⟩) n cap, .int .i64 at', .int .i64 en]] w (PaPost w (prR 51 [b0, b1, b2, b3, b4, b5, b6, b7])) := by
  obtain rfl : n = 8 := h.len
  have UF := Lib.hid fields_len51
  have hne : ((8 : Int) != 8) = false := rfl
  have HB := Lib.hid h
  have A3 := (((Ext.refl w).alloc (.cells #[.int .i64 51, .slice (some ⟨g, off, none⟩) 8 cap, .int .i64 at', .int .i64 en] 27)).alloc (.cells #[.int .i64 0, .int .i64 0, .int .i64 0, .int .i64 0, .int .i64 0] 24)).alloc (.cells #[.int .i64 51, .int .i64 0, .int .i64 0, .int .i64 0, .int .i64 0] 24)
  have B1 : BoxIs (((w.alloc (.cells #[.int .i64 51, .slice (some ⟨g, off, none⟩) 8 cap, .int .i64 at', .int .i64 en] 27)).alloc (.cells #[.int .i64 0, .int .i64 0, .int .i64 0, .int .i64 0, .int .i64 0] 24)).alloc (.cells #[.int .i64 51, .int .i64 0, .int .i64 0, .int .i64 0, .int .i64 0] 24)) (w.heap.size + 1) #[.int .i64 0, .int .i64 0, .int .i64 0, .int .i64 0, .int .i64 0] 24 := by
    have := BoxIs.new (w.alloc (.cells #[.int .i64 51, .slice (some ⟨g, off, none⟩) 8 cap, .int .i64 at', .int .i64 en] 27)) #[.int .i64 0, .int .i64 0, .int .i64 0, .int .i64 0, .int .i64 0] 24
    rw [show (w.alloc (.cells #[.int .i64 51, .slice (some ⟨g, off, none⟩) 8 cap, .int .i64 at', .int .i64 en] 27)).heap.size = w.heap.size + 1 by simp] at this
    exact this.ext ((Ext.refl _).alloc _)
  have B2 : BoxIs (((w.alloc (.cells #[.int .i64 51, .slice (some ⟨g, off, none⟩) 8 cap, .int .i64 at', .int .i64 en] 27)).alloc (.cells #[.int .i64 0, .int .i64 0, .int .i64 0, .int .i64 0, .int .i64 0] 24)).alloc (.cells #[.int .i64 51, .int .i64 0, .int .i64 0, .int .i64 0, .int .i64 0] 24)) (w.heap.size + 2) #[.int .i64 51, .int .i64 0, .int .i64 0, .int .i64 0, .int .i64 0] 24 := by
    have := BoxIs.new ((w.alloc (.cells #[.int .i64 51, .slice (some ⟨g, off, none⟩) 8 cap, .int .i64 at', .int .i64 en] 27)).alloc (.cells #[.int .i64 0, .int .i64 0, .int .i64 0, .int .i64 0, .int .i64 0] 24)) #[.int .i64 51, .int .i64 0, .int .i64 0, .int .i64 0, .int .i64 0] 24
    rw [show ((w.alloc (.cells #[.int .i64 51, .slice (some ⟨g, off, none⟩) 8 cap, .int .i64 at', .int .i64 en] 27)).alloc (.cells #[.int .i64 0, .int .i64 0, .int .i64 0, .int .i64 0, .int .i64 0] 24)).heap.size = w.heap.size + 2 by simp] at this
    exact this
  have B0 : BoxIs (((w.alloc (.cells #[.int .i64 51, .slice (some ⟨g, off, none⟩) 8 cap, .int .i64 at', .int .i64 en] 27)).alloc (.cells #[.int .i64 0, .int .i64 0, .int .i64 0, .int .i64 0, .int .i64 0] 24)).alloc (.cells #[.int .i64 51, .int .i64 0, .int .i64 0, .int .i64 0, .int .i64 0] 24)) w.heap.size #[.int .i64 51, .slice (some ⟨g, off, none⟩) 8 cap, .int .i64 at', .int .i64 en] 27 := (BoxIs.new w _ _).ext (((Ext.refl _).alloc _).alloc _)
  have HA3 := Lib.hid A3
  have HB0 := Lib.hid B0
  have HB1 := Lib.hid B1
  have HB2 := Lib.hid B2
  clear A3 B0 B1 B2
  go_enter Tryd.func13, Tryd.ntmps13
  go_wp2
  revert HA3 HB0 HB1 HB2
  generalize World.alloc (World.alloc (World.alloc w _) _) _ = w1
  intro HA3 HB0 HB1 HB2
  have u0 := HB0.out.cell (i := 0) rfl
  have u1 := HB0.out.cell (i := 1) rfl
  obtain ⟨⟨c0, c1, c2, c3, c4⟩, -⟩ := HB2.out.rc
  have KS : Hid (∀ w', Ext w1 w' → w'.cell? ⟨w.heap.size, 1, none⟩ = some (.slice (some ⟨g, off, none⟩) 8 cap) ∧ (w'.cell? ⟨w.heap.size + 2, 0, none⟩ = some (.int .i64 51) ∧ w'.cell? ⟨w.heap.size + 2, 1, none⟩ = some (.int .i64 0) ∧ w'.cell? ⟨w.heap.size + 2, 2, none⟩ = some (.int .i64 0) ∧ w'.cell? ⟨w.heap.size + 2, 3, none⟩ = some (.int .i64 0) ∧ w'.cell? ⟨w.heap.size + 2, 4, none⟩ = some (.int .i64 0)) ∧ Ext w1 w') := fun w' x => ⟨x.cell u1, ⟨x.cell c0, x.cell c1, x.cell c2, x.cell c3, x.cell c4⟩, x⟩
  go_region_held3 (fun w' => w'.cell? ⟨w.heap.size, 1, none⟩ = some (.slice (some ⟨g, off, none⟩) 8 cap) ∧ (w'.cell? ⟨w.heap.size + 2, 0, none⟩ = some (.int .i64 51) ∧ w'.cell? ⟨w.heap.size + 2, 1, none⟩ = some (.int .i64 0) ∧ w'.cell? ⟨w.heap.size + 2, 2, none⟩ = some (.int .i64 0) ∧ w'.cell? ⟨w.heap.size + 2, 3, none⟩ = some (.int .i64 0) ∧ w'.cell? ⟨w.heap.size + 2, 4, none⟩ = some (.int .i64 0)) ∧ Ext w1 w')
    (first | assumption | (exact KS.out _ (by repeat (first | exact Ext.refl _ | assumption | refine Ext.drew ?_ | refine Ext.trans ?_ (by assumption)))) | (go_split_ands; exact KS.out _ (by repeat (first | exact Ext.refl _ | assumption | refine Ext.drew ?_ | refine Ext.trans ?_ (by assumption)))))
    ((go_at_call 29; refine (UF.out _).mono ?_; rintro e w2 ⟨ua, uc, rfl, hx2⟩))
  obtain ⟨-, -, hE2⟩ : _ ∧ _ ∧ Ext w1 _ := by assumption
  have HE2 := Lib.hid hE2
  have HX2 := Lib.hid (HA3.out.trans hE2)
  have HC0 := Lib.hid (HB0.out.ext hE2)
  have HC1 := Lib.hid (HB1.out.ext hE2)
  have HC2 := Lib.hid (HB2.out.ext hE2)
  have HS2 : Hid (w.heap.size + 2 < w2.heap.size) := HC2.out.lt
  clear u0 u1 c0 c1 c2 c3 c4 hE2 KS HA3 HB0 HB1 HB2
  obtain ⟨⟨r0, r1, r2, r3, r4⟩, s0, s1, s2, s3, s4⟩ := HC1.out.rc
  have HG0 : Hid (BoxIs (w2.alloc (.cells #[.slice (some ⟨g, off, none⟩) 8 cap] 25)) w2.heap.size #[.slice (some ⟨g, off, none⟩) 8 cap] 25) := BoxIs.new w2 _ _
  have HGE := Lib.hid ((Ext.refl w2).alloc (.cells #[.slice (some ⟨g, off, none⟩) 8 cap] 25))
  clear r0 r1 r2 r3 r4 s0 s1 s2 s3 s4
  have u0 := HC0.out.cell (i := 0) rfl
  have u1 := HC0.out.cell (i := 1) rfl
  have u0' := HGE.out.cell u0
  go_wp2_with fail
  revert HG0 HGE
  generalize hR : w2.heap.size = R at *
  generalize World.alloc w2 _ = w3
  intro HG0 HGE
  have HX3 := Lib.hid (HX2.out.trans HGE.out)
  have HD1 := Lib.hid (HC1.out.ext HGE.out)
  have HD2 := Lib.hid (HC2.out.ext HGE.out)
  have HYw := HB
  have hR1 : w.heap.size + 1 ≠ R := by have := HS2.out; omega
  have hR2 : w.heap.size + 2 ≠ R := by have := HS2.out; omega
  have hR3 : w.heap.size ≤ R := by have := HS2.out; omega
  clear u0 u1 u0' HX2 HC0 HC1 HC2 HGE HE2 hR
  -- step 0
  have HY_0 : Hid (Bys w3 (.slice (some ⟨g, off, none⟩) 8 (cap)) [b0, b1, b2, b3, b4, b5, b6, b7]) := HYw.out.ext HX3.out
  have NX := Lib.hid (nextc_any R g (off) 8 (cap) 4 [b0, b1, b2, b3, b4, b5, b6, b7] w3 (HG0.out.cell (i := 0) rfl) HG0.out.free HY_0.out (by decide) (by decide))
  have e9 : val ([b0, b1, b2, b3, b4, b5, b6, b7].take 4) = v4 b0 b1 b2 b3 := val_4 b0 b1 b2 b3
  rw [e9] at NX
  clear e9
  go_wp2_with fail
  refine NX.out.mono ?_; rintro e wq ⟨u, rfl, hwq, hu⟩
  subst hwq
  obtain rfl : u = .slice (some ⟨g, off + 4, none⟩) 4 (cap - 4) := hu (by decide)
  clear NX hu
  have HG1 : Hid (BoxIs ((w3.setCell ⟨R, 0, none⟩ (.slice (some ⟨g, off + 4, none⟩) 4 (cap - 4))).setCell ⟨w.heap.size + 2, 3, none⟩ (.int .i64 (v4 b0 b1 b2 b3 : Nat))) R #[(.slice (some ⟨g, off + 4, none⟩) 4 (cap - 4))] 25) := (HG0.out.set 0 _).put hR2.symm _
  have HD3 : Hid (BoxIs ((w3.setCell ⟨R, 0, none⟩ (.slice (some ⟨g, off + 4, none⟩) 4 (cap - 4))).setCell ⟨w.heap.size + 2, 3, none⟩ (.int .i64 (v4 b0 b1 b2 b3 : Nat))) (w.heap.size + 2) #[.int .i64 51, .int .i64 0, .int .i64 0, .int .i64 (v4 b0 b1 b2 b3 : Nat), .int .i64 0] 24) := (HD2.out.put hR2 _).set 3 _
  have HD4 : Hid (BoxIs ((w3.setCell ⟨R, 0, none⟩ (.slice (some ⟨g, off + 4, none⟩) 4 (cap - 4))).setCell ⟨w.heap.size + 2, 3, none⟩ (.int .i64 (v4 b0 b1 b2 b3 : Nat))) (w.heap.size + 1) #[.int .i64 0, .int .i64 0, .int .i64 0, .int .i64 0, .int .i64 0] 24) := (HD1.out.put hR1 _).put (by simp) _
  have HX4 := Lib.hid ((HX3.out.setCell (p := ⟨R, 0, none⟩) hR3 (.slice (some ⟨g, off + 4, none⟩) 4 (cap - 4))).setCell (p := ⟨w.heap.size + 2, 3, none⟩) (by simp) (.int .i64 (v4 b0 b1 b2 b3 : Nat)))
  obtain ⟨⟨z0, z1, z2, z3, z4⟩, f0, f1, f2, f3, f4⟩ := (HD2.out.put hR2 (.slice (some ⟨g, off + 4, none⟩) 4 (cap - 4)) : BoxIs (w3.setCell ⟨R, 0, none⟩ (.slice (some ⟨g, off + 4, none⟩) 4 (cap - 4))) _ _ _).rc
  have HY5 : Hid (Bys w (.slice (some ⟨g, off + 4, none⟩) 4 (cap - 4)) [b4, b5, b6, b7]) := HYw.out.cut (lo := 4) (hi := 8) (by decide) (by decide)
  have HYw := HY5
  clear HY5
  clear HG0 HD1 HD2 HX3
  go_wp2_with fail
  clear z0 z1 z2 z3 z4 f0 f1 f2 f3 f4
  revert HG1 HD3 HD4 HX4
  generalize World.setCell (World.setCell w3 _ _) _ _ = w4
  intro HG1 HD3 HD4 HX4
  have HG0 := HG1
  have HD2 := HD3
  have HD1 := HD4
  have HX3 := HX4
  clear HG1 HD3 HD4 HX4
  -- step 1
  have HY_1 : Hid (Bys w4 (.slice (some ⟨g, off + 4, none⟩) 4 (cap - 4)) [b4, b5, b6, b7]) := HYw.out.ext HX3.out
  have NX := Lib.hid (nextc_any R g (off + 4) 4 (cap - 4) 4 [b4, b5, b6, b7] w4 (HG0.out.cell (i := 0) rfl) HG0.out.free HY_1.out (by decide) (by decide))
  have e9 : val ([b4, b5, b6, b7].take 4) = v4 b4 b5 b6 b7 := val_4 b4 b5 b6 b7
  rw [e9] at NX
  clear e9
  go_wp2_with fail
  refine NX.out.mono ?_; rintro e wq ⟨u, rfl, hwq, hu⟩
  subst hwq
  clear NX hu
  have HG1 : Hid (BoxIs ((w4.setCell ⟨R, 0, none⟩ u).setCell ⟨w.heap.size + 2, 1, none⟩ (.int .i64 (v4 b4 b5 b6 b7 : Nat))) R #[u] 25) := (HG0.out.set 0 _).put hR2.symm _
  have HD3 : Hid (BoxIs ((w4.setCell ⟨R, 0, none⟩ u).setCell ⟨w.heap.size + 2, 1, none⟩ (.int .i64 (v4 b4 b5 b6 b7 : Nat))) (w.heap.size + 2) #[.int .i64 51, .int .i64 (v4 b4 b5 b6 b7 : Nat), .int .i64 0, .int .i64 (v4 b0 b1 b2 b3 : Nat), .int .i64 0] 24) := (HD2.out.put hR2 _).set 1 _
  have HD4 : Hid (BoxIs ((w4.setCell ⟨R, 0, none⟩ u).setCell ⟨w.heap.size + 2, 1, none⟩ (.int .i64 (v4 b4 b5 b6 b7 : Nat))) (w.heap.size + 1) #[.int .i64 0, .int .i64 0, .int .i64 0, .int .i64 0, .int .i64 0] 24) := (HD1.out.put hR1 _).put (by simp) _
  have HX4 := Lib.hid ((HX3.out.setCell (p := ⟨R, 0, none⟩) hR3 u).setCell (p := ⟨w.heap.size + 2, 1, none⟩) (by simp) (.int .i64 (v4 b4 b5 b6 b7 : Nat)))
  obtain ⟨⟨z0, z1, z2, z3, z4⟩, f0, f1, f2, f3, f4⟩ := (HD2.out.put hR2 u : BoxIs (w4.setCell ⟨R, 0, none⟩ u) _ _ _).rc
  clear HG0 HD1 HD2 HX3
  go_wp2_with fail
  clear z0 z1 z2 z3 z4 f0 f1 f2 f3 f4
  revert HG1 HD3 HD4 HX4
  generalize World.setCell (World.setCell w4 _ _) _ _ = w5
  intro HG1 HD3 HD4 HX4
  have HG0 := HG1
  have HD2 := HD3
  have HD1 := HD4
  have HX3 := HX4
  clear HG1 HD3 HD4 HX4
  -- the end
  have HRR : Hid (recR 51 [b0, b1, b2, b3, b4, b5, b6, b7] = ⟨51, (v4 b4 b5 b6 b7 : Nat), 0, (v4 b0 b1 b2 b3 : Nat), 0⟩) := rfl
  have MY := Lib.hid (lmay_any ⟨51, (v4 b4 b5 b6 b7 : Nat), 0, (v4 b0 b1 b2 b3 : Nat), 0⟩ w5)
  obtain ⟨⟨z0, z1, z2, z3, z4⟩, -⟩ := HD2.out.rc
  go_wp2_with fail
  refine MY.out.mono ?_; rintro e wm ⟨rfl, hxm⟩
  have HX5 := Lib.hid (HX3.out.trans hxm)
  have HD1m := Lib.hid (HD1.out.ext hxm)
  have HD2m := Lib.hid (HD2.out.ext hxm)
  clear HX3 HD1 HD2 HG0 hxm z0 z1 z2 z3 z4
  obtain ⟨⟨r0, r1, r2, r3, r4⟩, s0, s1, s2, s3, s4⟩ := HD1m.out.rc
  obtain ⟨⟨z0, z1, z2, z3, z4⟩, -⟩ := HD2m.out.rc
  by_cases hmay : MayR (⟨51, (v4 b4 b5 b6 b7 : Nat), 0, (v4 b0 b1 b2 b3 : Nat), 0⟩ : Rc)
  · rw [decide_eq_true hmay]
    have HPR : Hid (prR 51 [b0, b1, b2, b3, b4, b5, b6, b7] = (none, ⟨51, (v4 b4 b5 b6 b7 : Nat), 0, (v4 b0 b1 b2 b3 : Nat), 0⟩)) := by
      show _ = _
      unfold prR
      rw [if_neg (by decide), if_neg (by simp [lenR]), HRR.out, if_neg (Decidable.not_not.2 hmay)]
    clear hmay
    have HF1 := Lib.hid (HD1m.out.set5 (.int .i64 51) (.int .i64 (v4 b4 b5 b6 b7 : Nat)) (.int .i64 0) (.int .i64 (v4 b0 b1 b2 b3 : Nat)) (.int .i64 0))
    have HF2 := Lib.hid (ext_set5 HX5.out (b := w.heap.size + 1) (Nat.le_succ _) (.int .i64 51) (.int .i64 (v4 b4 b5 b6 b7 : Nat)) (.int .i64 0) (.int .i64 (v4 b0 b1 b2 b3 : Nat)) (.int .i64 0))
    go_wp2_with fail
    obtain ⟨⟨y0, y1, y2, y3, y4⟩, -⟩ := HF1.out.rc
    exact bodyPost_ret (v := .tuple #[.agg #[.int .i64 51, .int .i64 (v4 b4 b5 b6 b7 : Nat), .int .i64 0, .int .i64 (v4 b0 b1 b2 b3 : Nat), .int .i64 0], .nilIface]) (by simp [results, Tryd.results13, go_sem, y0, y1, y2, y3, y4]) rfl ⟨.nilIface, by rw [HPR.out], by rw [HPR.out]; exact rfl, HF2.out⟩
  · rw [decide_eq_false hmay]
    have HPR : Hid (prR 51 [b0, b1, b2, b3, b4, b5, b6, b7] = (some ([], 2), zR)) := by
      show _ = _
      unfold prR
      rw [if_neg (by decide), if_neg (by simp [lenR]), HRR.out, if_pos hmay]
    clear hmay
    have HF1 := Lib.hid (HD1m.out.set5 (.int .i64 0) (.int .i64 0) (.int .i64 0) (.int .i64 0) (.int .i64 0))
    have HF2 := Lib.hid (ext_set5 HX5.out (b := w.heap.size + 1) (Nat.le_succ _) (.int .i64 0) (.int .i64 0) (.int .i64 0) (.int .i64 0) (.int .i64 0))
    go_wp2_with fail
    obtain ⟨⟨y0, y1, y2, y3, y4⟩, -⟩ := HF1.out.rc
    exact bodyPost_ret (v := .tuple #[rcA zR, .iface 22 (.int .i64 2)]) (by simp [results, Tryd.results13, go_sem, zR, y0, y1, y2, y3, y4]) rfl ⟨.iface 22 (.int .i64 2), by rw [HPR.out], by rw [HPR.out]; exact ErrIs.code (by decide), HF2.out⟩
theorem parse_any (k at' en : Int) (bs : List Nat) (v : Value) (w : World) (h : Bys w v bs) : Calls Tryd.prog 13 #[.agg #[.int .i64 k, v, .int .i64 at', .int .i64 en]] w (PaPost w (prR k bs)) := by
  by_cases hk : kndR k
  · obtain ⟨a, cap, rfl⟩ := h.form
    obtain ⟨h1, h2⟩ := hk
    have hk : k = 48 ∨ k = 49 ∨ k = 50 ∨ k = 51 := by omega
    rcases hk with rfl | rfl | rfl | rfl
    · by_cases hn : bs.length = 5
      · obtain ⟨b0, b1, b2, b3, b4, rfl⟩ : ∃ b0 b1 b2 b3 b4, bs = [b0, b1, b2, b3, b4] := by match bs, hn with | [b0, b1, b2, b3, b4], _ => exact ⟨b0, b1, b2, b3, b4, rfl⟩
        obtain ⟨g, off, rfl⟩ := h.had (by simp)
        exact parse_is48 at' en b0 b1 b2 b3 b4 g off _ cap w h
      · have e : prR 48 bs = (some ([], 2), zR) := by unfold prR; rw [if_neg (by decide), if_pos (show bs.length ≠ lenR 48 from hn)]
        rw [e]
        exact parse_len48 at' en a _ cap w hn
    · by_cases hn : bs.length = 9
      · obtain ⟨b0, b1, b2, b3, b4, b5, b6, b7, b8, rfl⟩ : ∃ b0 b1 b2 b3 b4 b5 b6 b7 b8, bs = [b0, b1, b2, b3, b4, b5, b6, b7, b8] := by match bs, hn with | [b0, b1, b2, b3, b4, b5, b6, b7, b8], _ => exact ⟨b0, b1, b2, b3, b4, b5, b6, b7, b8, rfl⟩
        obtain ⟨g, off, rfl⟩ := h.had (by simp)
        exact parse_is49 at' en b0 b1 b2 b3 b4 b5 b6 b7 b8 g off _ cap w h
      · have e : prR 49 bs = (some ([], 2), zR) := by unfold prR; rw [if_neg (by decide), if_pos (show bs.length ≠ lenR 49 from hn)]
        rw [e]
        exact parse_len49 at' en a _ cap w hn
    · by_cases hn : bs.length = 1
      · obtain ⟨b0, rfl⟩ : ∃ b0, bs = [b0] := by match bs, hn with | [b0], _ => exact ⟨b0, rfl⟩
        obtain ⟨g, off, rfl⟩ := h.had (by simp)
        exact parse_is50 at' en b0 g off _ cap w h
      · have e : prR 50 bs = (some ([], 2), zR) := by unfold prR; rw [if_neg (by decide), if_pos (show bs.length ≠ lenR 50 from hn)]
        rw [e]
        exact parse_len50 at' en a _ cap w hn
    · by_cases hn : bs.length = 8
      · obtain ⟨b0, b1, b2, b3, b4, b5, b6, b7, rfl⟩ : ∃ b0 b1 b2 b3 b4 b5 b6 b7, bs = [b0, b1, b2, b3, b4, b5, b6, b7] := by match bs, hn with | [b0, b1, b2, b3, b4, b5, b6, b7], _ => exact ⟨b0, b1, b2, b3, b4, b5, b6, b7, rfl⟩
        obtain ⟨g, off, rfl⟩ := h.had (by simp)
        exact parse_is51 at' en b0 b1 b2 b3 b4 b5 b6 b7 g off _ cap w h
      · have e : prR 51 bs = (some ([], 2), zR) := by unfold prR; rw [if_neg (by decide), if_pos (show bs.length ≠ lenR 51 from hn)]
        rw [e]
        exact parse_len51 at' en a _ cap w hn
  · have e : prR k bs = (some ([], 13), zR) := by unfold prR; rw [if_pos hk]
    rw [e]
    exact parse_kind k at' en v w hk
end Go.Proofs.YtmphochnmdmioaaDoor
