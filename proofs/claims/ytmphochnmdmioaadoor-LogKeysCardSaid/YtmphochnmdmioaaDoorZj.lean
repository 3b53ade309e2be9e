/- Contracts of this seat: Lg6. -/
import Derived.Test.YtmphochnmdmioaaDoorZg
import Derived.Test.YtmphochnmdmioaaDoorZh
import Derived.BigRegion
/- kinref26.Parse, Pack: contracts over this seat's translation (Parse made by tools/mklg6.py). -/
namespace Go.Proofs.YtmphochnmdmioaaDoor
set_option linter.unusedVariables false
set_option linter.unusedSimpArgs false
open Go.RowKit Go.Extern.Stop Go.Stop Go.Extern

def RPaPost (w : World) (R : Fall × Rc) (e : Ending) (w' : World) : Prop := ∃ c x, e = .returned (.tuple #[rcA R.2, .agg #[.int .i64 c, x]]) ∧ RErrIs w' R.1 c x ∧ Ext w w'
theorem BoxIs.newAt (w : World) (m : Nat) (hm : w.heap.size = m) (cs : Array Value) (T : TypeId) : BoxIs (w.alloc (.cells cs T)) m cs T := by
  subst hm
  exact BoxIs.new w cs T
theorem BoxIs.set2 {w : World} {b : Nat} {t : TypeId} {k s : Value} (h : BoxIs w b #[k, s] t) (v0 v1 : Value) : BoxIs ((w.setCell ⟨b, 0, none⟩ v0).setCell ⟨b, 1, none⟩ v1) b #[v0, v1] t := (h.set 0 v0).set 1 v1
/-- a record and an error in two blocks of the call's own, stored -/
theorem res7 {w0 w : World} {A B : Nat} {k s n l c x y : Value} {S T : TypeId} (ha : BoxIs w A #[k, s, n, l, c] S) (hb : BoxIs w B #[x, y] T) (he : Ext w0 w) (h1 : w0.heap.size ≤ A) (h2 : w0.heap.size ≤ B) (hab : A ≠ B) (v0 v1 v2 v3 v4 u0 u1 : Value) :
    BoxIs (((((((w.setCell ⟨A, 0, none⟩ v0).setCell ⟨A, 1, none⟩ v1).setCell ⟨A, 2, none⟩ v2).setCell ⟨A, 3, none⟩ v3).setCell ⟨A, 4, none⟩ v4).setCell ⟨B, 0, none⟩ u0).setCell ⟨B, 1, none⟩ u1) A #[v0, v1, v2, v3, v4] S ∧ BoxIs (((((((w.setCell ⟨A, 0, none⟩ v0).setCell ⟨A, 1, none⟩ v1).setCell ⟨A, 2, none⟩ v2).setCell ⟨A, 3, none⟩ v3).setCell ⟨A, 4, none⟩ v4).setCell ⟨B, 0, none⟩ u0).setCell ⟨B, 1, none⟩ u1) B #[u0, u1] T ∧ Ext w0 (((((((w.setCell ⟨A, 0, none⟩ v0).setCell ⟨A, 1, none⟩ v1).setCell ⟨A, 2, none⟩ v2).setCell ⟨A, 3, none⟩ v3).setCell ⟨A, 4, none⟩ v4).setCell ⟨B, 0, none⟩ u0).setCell ⟨B, 1, none⟩ u1) :=
  ⟨((ha.set5 v0 v1 v2 v3 v4).put hab _).put hab _, (((((hb.put hab.symm _).put hab.symm _).put hab.symm _).put hab.symm _).put hab.symm _).set2 u0 u1, ((ext_set5 he h1 v0 v1 v2 v3 v4).setCell (p := ⟨B, 0, none⟩) h2 _).setCell (p := ⟨B, 1, none⟩) h2 _⟩
theorem BoxIs.two {w : World} {b : Nat} {t : TypeId} {k s : Value} (h : BoxIs w b #[k, s] t) : (w.cell? ⟨b, 0, none⟩ = some k ∧ w.cell? ⟨b, 1, none⟩ = some s) ∧ w.frozen? ⟨b, 0, none⟩ = false ∧ w.frozen? ⟨b, 1, none⟩ = false := ⟨⟨h.cell rfl, h.cell rfl⟩, h.free, h.free⟩
theorem lkind_no (k : Int) (w : World) (h : ¬ kndR k) : Calls Tryd.prog 27 #[.int .i64 k] w fun e w' => e = .returned (.bool false) ∧ w = w' := by
  unfold kndR at h
  by_cases h1 : k < 48
  · have h1' : ¬ 48 ≤ k := by omega
    go_enter Tryd.func27, Tryd.ntmps27
    go_wp2
    go_ret
    exact ⟨rfl, rfl⟩
  · have h1' : 48 ≤ k := by omega
    have h2 : ¬ k ≤ 51 := by omega
    go_enter Tryd.func27, Tryd.ntmps27
    go_wp2
    go_ret
    exact ⟨rfl, rfl⟩
theorem rkind_no (k : Int) (w : World) (h : ¬ kndR k) : Calls Tryd.prog 30 #[.int .i64 k] w fun e w' => e = .returned (.bool false) ∧ w = w' := by
  unfold kndR at h
  by_cases h1 : k < 48
  · have h1' : ¬ 48 ≤ k := by omega
    go_enter Tryd.func30, Tryd.ntmps30
    go_wp2
    go_ret
    exact ⟨rfl, rfl⟩
  · have h1' : 48 ≤ k := by omega
    have h2 : ¬ k ≤ 51 := by omega
    go_enter Tryd.func30, Tryd.ntmps30
    go_wp2
    go_ret
    exact ⟨rfl, rfl⟩
set_option maxHeartbeats 4000000 in
set_option maxRecDepth 20000 in
theorem rparse_kind (k at' en : Int) (v : Value) (w : World) (hk : ¬ kndR k) : Calls Tryd.prog 14 #[.agg #[.int .i64 k, v, .int .i64 at', .int .i64 en]] w (RPaPost w (some ([], 13), zR)) := by
  have HKN := Lib.hid (fun w => rkind_no k w hk)
  obtain ⟨C, hC⟩ : ∃ C : Int, C = 13 := ⟨_, rfl⟩
  have hC0 : Hid (C ≠ 0) := by show _ ≠ _; omega
  rw [← hC]
  have e13 : (13 : Int) = C := hC.symm
  clear hC hk
  have HA3 := Lib.hid (((((Ext.refl w).alloc (.cells #[.int .i64 k, v, .int .i64 at', .int .i64 en] 27)).alloc (.cells #[.int .i64 0, .int .i64 0, .int .i64 0, .int .i64 0, .int .i64 0] 38)).alloc (.cells #[.int .i64 0, .slice none 0 0] 35)).alloc (.cells #[.int .i64 k, .int .i64 0, .int .i64 0, .int .i64 0, .int .i64 0] 38))
  have HB1 := Lib.hid ((BoxIs.newAt (w.alloc (.cells #[.int .i64 k, v, .int .i64 at', .int .i64 en] 27)) (w.heap.size + 1) (by simp) #[.int .i64 0, .int .i64 0, .int .i64 0, .int .i64 0, .int .i64 0] 38).ext (((Ext.refl _).alloc (.cells #[.int .i64 0, .slice none 0 0] 35)).alloc (.cells #[.int .i64 k, .int .i64 0, .int .i64 0, .int .i64 0, .int .i64 0] 38)))
  have HB2 := Lib.hid ((BoxIs.newAt ((w.alloc (.cells #[.int .i64 k, v, .int .i64 at', .int .i64 en] 27)).alloc (.cells #[.int .i64 0, .int .i64 0, .int .i64 0, .int .i64 0, .int .i64 0] 38)) (w.heap.size + 2) (by simp) #[.int .i64 0, .slice none 0 0] 35).ext ((Ext.refl _).alloc (.cells #[.int .i64 k, .int .i64 0, .int .i64 0, .int .i64 0, .int .i64 0] 38)))
  have HB3 := Lib.hid (BoxIs.newAt (((w.alloc (.cells #[.int .i64 k, v, .int .i64 at', .int .i64 en] 27)).alloc (.cells #[.int .i64 0, .int .i64 0, .int .i64 0, .int .i64 0, .int .i64 0] 38)).alloc (.cells #[.int .i64 0, .slice none 0 0] 35)) (w.heap.size + 3) (by simp) #[.int .i64 k, .int .i64 0, .int .i64 0, .int .i64 0, .int .i64 0] 38)
  go_enter Tryd.func14, Tryd.ntmps14
  rw [e13]
  clear e13
  go_wp2_with (first | (go_at_call 30; refine (HKN.out _).mono ?_; rintro e w9 ⟨rfl, rfl⟩) | (go_at_call 26; refine (fail_any _ _).mono ?_; rintro e w1 ⟨rfl, hx1⟩; have HX1 := Lib.hid (HA3.out.trans hx1); have HC1 := Lib.hid (HB1.out.ext hx1); have HC2 := Lib.hid (HB2.out.ext hx1); obtain ⟨⟨r0, r1, r2, r3, r4⟩, s0, s1, s2, s3, s4⟩ := HC1.out.rc; obtain ⟨⟨r5, r6⟩, s5, s6⟩ := HC2.out.two; clear hx1))
  clear HA3 HB1 HB2 HB3
  obtain ⟨HG1, HG2, HG3⟩ := res7 HC1.out HC2.out HX1.out (Nat.le_succ _) (by omega) (by omega) (.int .i64 0) (.int .i64 0) (.int .i64 0) (.int .i64 0) (.int .i64 0) (.int .i64 C) (.slice none 0 0)
  have HG1 := Lib.hid HG1
  have HG2 := Lib.hid HG2
  have HG3 := Lib.hid HG3
  obtain ⟨⟨y0, y1, y2, y3, y4⟩, -⟩ := HG1.out.rc
  obtain ⟨⟨y5, y6⟩, -⟩ := HG2.out.two
  exact bodyPost_ret (v := .tuple #[rcA zR, .agg #[.int .i64 C, .slice none 0 0]]) (by simp [results, Tryd.results14, go_sem, zR, y0, y1, y2, y3, y4, y5, y6]) rfl ⟨C, .slice none 0 0, rfl, RErrIs.code hC0.out, HG3.out⟩

set_option maxHeartbeats 4000000 in
set_option maxRecDepth 20000 in
theorem rparse_len48 (at' en : Int) (a : Option Addr) (n cap : Nat) (w : World) (hn : n ≠ 5) : Calls Tryd.prog 14 #[.agg #[.int .i64 48, .slice a n cap, .int .i64 at', .int .i64 en]] w (RPaPost w (some ([], 2), zR)) := by
  have HKN := Lib.hid (fun w => rkind_yes 48 w ⟨by decide, by decide⟩)
  have hne : ((n : Int) == 5) = false := by rw [beq_eq_false_iff_ne]; omega
  obtain ⟨C, hC⟩ : ∃ C : Int, C = 2 := ⟨_, rfl⟩
  have hC0 : Hid (C ≠ 0) := by show _ ≠ _; omega
  rw [← hC]
  have e2 : (2 : Int) = C := hC.symm
  clear hC
  have HA3 := Lib.hid (((((Ext.refl w).alloc (.cells #[.int .i64 48, .slice a n cap, .int .i64 at', .int .i64 en] 27)).alloc (.cells #[.int .i64 0, .int .i64 0, .int .i64 0, .int .i64 0, .int .i64 0] 38)).alloc (.cells #[.int .i64 0, .slice none 0 0] 35)).alloc (.cells #[.int .i64 48, .int .i64 0, .int .i64 0, .int .i64 0, .int .i64 0] 38))
  have HB1 := Lib.hid ((BoxIs.newAt (w.alloc (.cells #[.int .i64 48, .slice a n cap, .int .i64 at', .int .i64 en] 27)) (w.heap.size + 1) (by simp) #[.int .i64 0, .int .i64 0, .int .i64 0, .int .i64 0, .int .i64 0] 38).ext (((Ext.refl _).alloc (.cells #[.int .i64 0, .slice none 0 0] 35)).alloc (.cells #[.int .i64 48, .int .i64 0, .int .i64 0, .int .i64 0, .int .i64 0] 38)))
  have HB2 := Lib.hid ((BoxIs.newAt ((w.alloc (.cells #[.int .i64 48, .slice a n cap, .int .i64 at', .int .i64 en] 27)).alloc (.cells #[.int .i64 0, .int .i64 0, .int .i64 0, .int .i64 0, .int .i64 0] 38)) (w.heap.size + 2) (by simp) #[.int .i64 0, .slice none 0 0] 35).ext ((Ext.refl _).alloc (.cells #[.int .i64 48, .int .i64 0, .int .i64 0, .int .i64 0, .int .i64 0] 38)))
  have HB3 := Lib.hid (BoxIs.newAt (((w.alloc (.cells #[.int .i64 48, .slice a n cap, .int .i64 at', .int .i64 en] 27)).alloc (.cells #[.int .i64 0, .int .i64 0, .int .i64 0, .int .i64 0, .int .i64 0] 38)).alloc (.cells #[.int .i64 0, .slice none 0 0] 35)) (w.heap.size + 3) (by simp) #[.int .i64 48, .int .i64 0, .int .i64 0, .int .i64 0, .int .i64 0] 38)
  go_enter Tryd.func14, Tryd.ntmps14
  rw [e2]
  clear e2
  go_wp2_with (first | (go_at_call 30; refine (HKN.out _).mono ?_; rintro e w9 ⟨rfl, rfl⟩) | (go_at_call 26; refine (fail_any _ _).mono ?_; rintro e w1 ⟨rfl, hx1⟩; have HX1 := Lib.hid (HA3.out.trans hx1); have HC1 := Lib.hid (HB1.out.ext hx1); have HC2 := Lib.hid (HB2.out.ext hx1); obtain ⟨⟨r0, r1, r2, r3, r4⟩, s0, s1, s2, s3, s4⟩ := HC1.out.rc; obtain ⟨⟨r5, r6⟩, s5, s6⟩ := HC2.out.two; clear hx1))
  clear HA3 HB1 HB2 HB3
  obtain ⟨HG1, HG2, HG3⟩ := res7 HC1.out HC2.out HX1.out (Nat.le_succ _) (by omega) (by omega) (.int .i64 0) (.int .i64 0) (.int .i64 0) (.int .i64 0) (.int .i64 0) (.int .i64 C) (.slice none 0 0)
  have HG1 := Lib.hid HG1
  have HG2 := Lib.hid HG2
  have HG3 := Lib.hid HG3
  obtain ⟨⟨y0, y1, y2, y3, y4⟩, -⟩ := HG1.out.rc
  obtain ⟨⟨y5, y6⟩, -⟩ := HG2.out.two
  exact bodyPost_ret (v := .tuple #[rcA zR, .agg #[.int .i64 C, .slice none 0 0]]) (by simp [results, Tryd.results14, go_sem, zR, y0, y1, y2, y3, y4, y5, y6]) rfl ⟨C, .slice none 0 0, rfl, RErrIs.code hC0.out, HG3.out⟩
set_option maxHeartbeats 8000000 in
set_option maxRecDepth 20000 in
theorem rparse_is48 (at' en : Int) (b0 b1 b2 b3 b4 : Nat) (g off n cap : Nat) (w : World) (h : Bys w (.slice (some ⟨g, off, none⟩) n cap) [b0, b1, b2, b3, b4]) : Calls Tryd.prog 14 #[.agg #[.int .i64 48, .slice (some ⟨g, off, none⟩) n cap, .int .i64 at', .int .i64 en]] w (RPaPost w (prR 48 [b0, b1, b2, b3, b4])) := by
  obtain rfl : n = 5 := h.len
  have HKN := Lib.hid (fun w => rkind_yes 48 w ⟨by decide, by decide⟩)
  have HRR : Hid (recR 48 [b0, b1, b2, b3, b4] = ⟨48, ((v4 b0 b1 b2 b3 : Nat) : Int), (b4 : Int), 0, 0⟩) := rfl
  have hcap := h.caps
  have hc1 : (5 : Int) ≤ (cap : Int) := by omega
  have HB := Lib.hid h
  have l0 := h.2.1 b0 (by simp)
  have l1 := h.2.1 b1 (by simp)
  have l2 := h.2.1 b2 (by simp)
  have l3 := h.2.1 b3 (by simp)
  have l4 := h.2.1 b4 (by simp)
  clear h
  have HA3 := Lib.hid (((((Ext.refl w).alloc (.cells #[.int .i64 48, .slice (some ⟨g, off, none⟩) 5 cap, .int .i64 at', .int .i64 en] 27)).alloc (.cells #[.int .i64 0, .int .i64 0, .int .i64 0, .int .i64 0, .int .i64 0] 38)).alloc (.cells #[.int .i64 0, .slice none 0 0] 35)).alloc (.cells #[.int .i64 48, .int .i64 0, .int .i64 0, .int .i64 0, .int .i64 0] 38))
  have HB1 := Lib.hid ((BoxIs.newAt (w.alloc (.cells #[.int .i64 48, .slice (some ⟨g, off, none⟩) 5 cap, .int .i64 at', .int .i64 en] 27)) (w.heap.size + 1) (by simp) #[.int .i64 0, .int .i64 0, .int .i64 0, .int .i64 0, .int .i64 0] 38).ext (((Ext.refl _).alloc (.cells #[.int .i64 0, .slice none 0 0] 35)).alloc (.cells #[.int .i64 48, .int .i64 0, .int .i64 0, .int .i64 0, .int .i64 0] 38)))
  have HB2 := Lib.hid ((BoxIs.newAt ((w.alloc (.cells #[.int .i64 48, .slice (some ⟨g, off, none⟩) 5 cap, .int .i64 at', .int .i64 en] 27)).alloc (.cells #[.int .i64 0, .int .i64 0, .int .i64 0, .int .i64 0, .int .i64 0] 38)) (w.heap.size + 2) (by simp) #[.int .i64 0, .slice none 0 0] 35).ext ((Ext.refl _).alloc (.cells #[.int .i64 48, .int .i64 0, .int .i64 0, .int .i64 0, .int .i64 0] 38)))
  have HB3 := Lib.hid (BoxIs.newAt (((w.alloc (.cells #[.int .i64 48, .slice (some ⟨g, off, none⟩) 5 cap, .int .i64 at', .int .i64 en] 27)).alloc (.cells #[.int .i64 0, .int .i64 0, .int .i64 0, .int .i64 0, .int .i64 0] 38)).alloc (.cells #[.int .i64 0, .slice none 0 0] 35)) (w.heap.size + 3) (by simp) #[.int .i64 48, .int .i64 0, .int .i64 0, .int .i64 0, .int .i64 0] 38)
  go_enter Tryd.func14, Tryd.ntmps14
  go_wp2_with (go_at_call 30; refine (HKN.out _).mono ?_; rintro e w9 ⟨rfl, rfl⟩)
  revert HA3 HB1 HB2 HB3
  generalize World.alloc (World.alloc (World.alloc (World.alloc w _) _) _) _ = w0
  intro HA3 HB1 HB2 HB3
  have HC0 : Hid (Bys w (.slice (some ⟨g, off, none⟩) 4 cap) [b0, b1, b2, b3]) := HB.out.cut (lo := 0) (hi := 4) (by decide) (by decide)
  have U0 := Lib.hid (value_any [b0, b1, b2, b3] _ w0.drew (HC0.out.ext HA3.out.drew) (by simp))
  rw [val_4] at U0
  have hi0 : (4 : Int) ≤ (cap : Int) := by omega
  have hj0 : (0 : Int) ≤ (cap : Int) := by omega
  have d0 := HA3.out.cell (HB.out.at (j := 4) (x := b4) rfl)
  skip
  have m0 : IntKind.i64.wrap (b4 : Int) = (b4 : Int) := by rw [IntKind.wrap_i64]; omega
  have HD1 : Hid (BoxIs ((w0.setCell ⟨w.heap.size + 3, 1, none⟩ (.int .i64 ((v4 b0 b1 b2 b3 : Nat) : Int))).setCell ⟨w.heap.size + 3, 2, none⟩ (.int .i64 (b4 : Int))).drew (w.heap.size + 1) #[.int .i64 0, .int .i64 0, .int .i64 0, .int .i64 0, .int .i64 0] 38) := ((HB1.out.put (p := ⟨w.heap.size + 3, 1, none⟩) (by simp) (.int .i64 ((v4 b0 b1 b2 b3 : Nat) : Int))).put (p := ⟨w.heap.size + 3, 2, none⟩) (by simp) (.int .i64 (b4 : Int)))
  have HD2 : Hid (BoxIs ((w0.setCell ⟨w.heap.size + 3, 1, none⟩ (.int .i64 ((v4 b0 b1 b2 b3 : Nat) : Int))).setCell ⟨w.heap.size + 3, 2, none⟩ (.int .i64 (b4 : Int))).drew (w.heap.size + 2) #[.int .i64 0, .slice none 0 0] 35) := ((HB2.out.put (p := ⟨w.heap.size + 3, 1, none⟩) (by simp) (.int .i64 ((v4 b0 b1 b2 b3 : Nat) : Int))).put (p := ⟨w.heap.size + 3, 2, none⟩) (by simp) (.int .i64 (b4 : Int)))
  have HD3 : Hid (BoxIs ((w0.setCell ⟨w.heap.size + 3, 1, none⟩ (.int .i64 ((v4 b0 b1 b2 b3 : Nat) : Int))).setCell ⟨w.heap.size + 3, 2, none⟩ (.int .i64 (b4 : Int))).drew (w.heap.size + 3) #[.int .i64 48, .int .i64 ((v4 b0 b1 b2 b3 : Nat) : Int), .int .i64 (b4 : Int), .int .i64 0, .int .i64 0] 38) := ((HB3.out.set 1 (.int .i64 ((v4 b0 b1 b2 b3 : Nat) : Int))).set 2 (.int .i64 (b4 : Int)))
  have HX3 := Lib.hid ((HA3.out.setCell (p := ⟨w.heap.size + 3, 1, none⟩) (by simp) (.int .i64 ((v4 b0 b1 b2 b3 : Nat) : Int))).setCell (p := ⟨w.heap.size + 3, 2, none⟩) (by simp) (.int .i64 (b4 : Int))).drew
  have MY := Lib.hid (fun W => rlmay_any ⟨48, ((v4 b0 b1 b2 b3 : Nat) : Int), (b4 : Int), 0, 0⟩ W)
  obtain ⟨⟨r0, r1, r2, r3, r4⟩, s0, s1, s2, s3, s4⟩ := HB3.out.rc
  go_wp2_with fail
  go_region_law (first | (go_simp; go_at_call 34; (with_reducible refine U0.out.mono ?_); rintro e wq ⟨rfl, rfl⟩))
  all_goals go_wp2_with fail

  clear r0 r1 r2 r3 r4 s0 s1 s2 s3 s4 HB1 HB2 HB3 HA3
  all_goals
    refine (MY.out _).mono ?_
    rintro e wm ⟨rfl, hxm⟩
    have HX5 := Lib.hid (HX3.out.trans hxm)
    have HD1m := Lib.hid (BoxIs.ext HD1.out hxm)
    have HD2m := Lib.hid (BoxIs.ext HD2.out hxm)
    have HD3m := Lib.hid (BoxIs.ext HD3.out hxm)
    clear HX3 HD1 HD2 HD3 hxm
    by_cases hmay : MayR (⟨48, ((v4 b0 b1 b2 b3 : Nat) : Int), (b4 : Int), 0, 0⟩ : Rc)
    · rw [decide_eq_true hmay]
      have HPR : Hid (prR 48 [b0, b1, b2, b3, b4] = (none, ⟨48, ((v4 b0 b1 b2 b3 : Nat) : Int), (b4 : Int), 0, 0⟩)) := by
        show _ = _
        unfold prR
        rw [if_neg (by decide), if_neg (by simp [lenR]), HRR.out, if_neg (Decidable.not_not.2 hmay)]
      clear hmay
      obtain ⟨⟨r0, r1, r2, r3, r4⟩, s0, s1, s2, s3, s4⟩ := HD1m.out.rc
      obtain ⟨⟨r5, r6⟩, s5, s6⟩ := HD2m.out.two
      obtain ⟨⟨z0, z1, z2, z3, z4⟩, -⟩ := HD3m.out.rc
      obtain ⟨HG1, HG2, HG3⟩ := res7 HD1m.out HD2m.out HX5.out (Nat.le_succ _) (by omega) (by omega) (.int .i64 48) (.int .i64 ((v4 b0 b1 b2 b3 : Nat) : Int)) (.int .i64 (b4 : Int)) (.int .i64 0) (.int .i64 0) (.int .i64 0) (.slice none 0 0)
      have HG1 := Lib.hid HG1
      have HG2 := Lib.hid HG2
      have HG3 := Lib.hid HG3
      go_wp2_with fail
      obtain ⟨⟨y0, y1, y2, y3, y4⟩, -⟩ := HG1.out.rc
      obtain ⟨⟨y5, y6⟩, -⟩ := HG2.out.two
      exact bodyPost_ret (v := .tuple #[.agg #[.int .i64 48, .int .i64 ((v4 b0 b1 b2 b3 : Nat) : Int), .int .i64 (b4 : Int), .int .i64 0, .int .i64 0], .agg #[.int .i64 0, .slice none 0 0]]) (by simp [results, Tryd.results14, go_sem, y0, y1, y2, y3, y4, y5, y6]) rfl ⟨0, .slice none 0 0, by rw [HPR.out], by rw [HPR.out]; exact RErrIs.zero, HG3.out⟩
    · rw [decide_eq_false hmay]
      have HPR : Hid (prR 48 [b0, b1, b2, b3, b4] = (some ([], 2), zR)) := by
        show _ = _
        unfold prR
        rw [if_neg (by decide), if_neg (by simp [lenR]), HRR.out, if_pos hmay]
      clear hmay
      go_wp2_with fail
      refine (fail_any _ _).mono ?_; rintro e w1 ⟨rfl, hx1⟩
      have HX1 := Lib.hid (HX5.out.trans hx1)
      have HC1 := Lib.hid (HD1m.out.ext hx1)
      have HC2 := Lib.hid (HD2m.out.ext hx1)
      obtain ⟨⟨r0, r1, r2, r3, r4⟩, s0, s1, s2, s3, s4⟩ := HC1.out.rc
      obtain ⟨⟨r5, r6⟩, s5, s6⟩ := HC2.out.two
      clear hx1
      obtain ⟨HG1, HG2, HG3⟩ := res7 HC1.out HC2.out HX1.out (Nat.le_succ _) (by omega) (by omega) (.int .i64 0) (.int .i64 0) (.int .i64 0) (.int .i64 0) (.int .i64 0) (.int .i64 2) (.slice none 0 0)
      have HG1 := Lib.hid HG1
      have HG2 := Lib.hid HG2
      have HG3 := Lib.hid HG3
      go_wp2_with fail
      obtain ⟨⟨y0, y1, y2, y3, y4⟩, -⟩ := HG1.out.rc
      obtain ⟨⟨y5, y6⟩, -⟩ := HG2.out.two
      exact bodyPost_ret (v := .tuple #[rcA zR, .agg #[.int .i64 2, .slice none 0 0]]) (by simp [results, Tryd.results14, go_sem, zR, y0, y1, y2, y3, y4, y5, y6]) rfl ⟨2, .slice none 0 0, by rw [HPR.out], by rw [HPR.out]; exact RErrIs.code (by decide), HG3.out⟩
set_option maxHeartbeats 4000000 in
set_option maxRecDepth 20000 in
theorem rparse_len49 (at' en : Int) (a : Option Addr) (n cap : Nat) (w : World) (hn : n ≠ 9) : Calls Tryd.prog 14 #[.agg #[.int .i64 49, .slice a n cap, .int .i64 at', .int .i64 en]] w (RPaPost w (some ([], 2), zR)) := by
  have HKN := Lib.hid (fun w => rkind_yes 49 w ⟨by decide, by decide⟩)
  have hne : ((n : Int) == 9) = false := by rw [beq_eq_false_iff_ne]; omega
  obtain ⟨C, hC⟩ : ∃ C : Int, C = 2 := ⟨_, rfl⟩
  have hC0 : Hid (C ≠ 0) := by show _ ≠ _; omega
  rw [← hC]
  have e2 : (2 : Int) = C := hC.symm
  clear hC
  have HA3 := Lib.hid (((((Ext.refl w).alloc (.cells #[.int .i64 49, .slice a n cap, .int .i64 at', .int .i64 en] 27)).alloc (.cells #[.int .i64 0, .int .i64 0, .int .i64 0, .int .i64 0, .int .i64 0] 38)).alloc (.cells #[.int .i64 0, .slice none 0 0] 35)).alloc (.cells #[.int .i64 49, .int .i64 0, .int .i64 0, .int .i64 0, .int .i64 0] 38))
  have HB1 := Lib.hid ((BoxIs.newAt (w.alloc (.cells #[.int .i64 49, .slice a n cap, .int .i64 at', .int .i64 en] 27)) (w.heap.size + 1) (by simp) #[.int .i64 0, .int .i64 0, .int .i64 0, .int .i64 0, .int .i64 0] 38).ext (((Ext.refl _).alloc (.cells #[.int .i64 0, .slice none 0 0] 35)).alloc (.cells #[.int .i64 49, .int .i64 0, .int .i64 0, .int .i64 0, .int .i64 0] 38)))
  have HB2 := Lib.hid ((BoxIs.newAt ((w.alloc (.cells #[.int .i64 49, .slice a n cap, .int .i64 at', .int .i64 en] 27)).alloc (.cells #[.int .i64 0, .int .i64 0, .int .i64 0, .int .i64 0, .int .i64 0] 38)) (w.heap.size + 2) (by simp) #[.int .i64 0, .slice none 0 0] 35).ext ((Ext.refl _).alloc (.cells #[.int .i64 49, .int .i64 0, .int .i64 0, .int .i64 0, .int .i64 0] 38)))
  have HB3 := Lib.hid (BoxIs.newAt (((w.alloc (.cells #[.int .i64 49, .slice a n cap, .int .i64 at', .int .i64 en] 27)).alloc (.cells #[.int .i64 0, .int .i64 0, .int .i64 0, .int .i64 0, .int .i64 0] 38)).alloc (.cells #[.int .i64 0, .slice none 0 0] 35)) (w.heap.size + 3) (by simp) #[.int .i64 49, .int .i64 0, .int .i64 0, .int .i64 0, .int .i64 0] 38)
  go_enter Tryd.func14, Tryd.ntmps14
  rw [e2]
  clear e2
  go_wp2_with (first | (go_at_call 30; refine (HKN.out _).mono ?_; rintro e w9 ⟨rfl, rfl⟩) | (go_at_call 26; refine (fail_any _ _).mono ?_; rintro e w1 ⟨rfl, hx1⟩; have HX1 := Lib.hid (HA3.out.trans hx1); have HC1 := Lib.hid (HB1.out.ext hx1); have HC2 := Lib.hid (HB2.out.ext hx1); obtain ⟨⟨r0, r1, r2, r3, r4⟩, s0, s1, s2, s3, s4⟩ := HC1.out.rc; obtain ⟨⟨r5, r6⟩, s5, s6⟩ := HC2.out.two; clear hx1))
  clear HA3 HB1 HB2 HB3
  obtain ⟨HG1, HG2, HG3⟩ := res7 HC1.out HC2.out HX1.out (Nat.le_succ _) (by omega) (by omega) (.int .i64 0) (.int .i64 0) (.int .i64 0) (.int .i64 0) (.int .i64 0) (.int .i64 C) (.slice none 0 0)
  have HG1 := Lib.hid HG1
  have HG2 := Lib.hid HG2
  have HG3 := Lib.hid HG3
  obtain ⟨⟨y0, y1, y2, y3, y4⟩, -⟩ := HG1.out.rc
  obtain ⟨⟨y5, y6⟩, -⟩ := HG2.out.two
  exact bodyPost_ret (v := .tuple #[rcA zR, .agg #[.int .i64 C, .slice none 0 0]]) (by simp [results, Tryd.results14, go_sem, zR, y0, y1, y2, y3, y4, y5, y6]) rfl ⟨C, .slice none 0 0, rfl, RErrIs.code hC0.out, HG3.out⟩
set_option maxHeartbeats 8000000 in
set_option maxRecDepth 20000 in
theorem rparse_is49 (at' en : Int) (b0 b1 b2 b3 b4 b5 b6 b7 b8 : Nat) (g off n cap : Nat) (w : World) (h : Bys w (.slice (some ⟨g, off, none⟩) n cap) [b0, b1, b2, b3, b4, b5, b6, b7, b8]) : Calls Tryd.prog 14 #[.agg #[.int .i64 49, .slice (some ⟨g, off, none⟩) n cap, .int .i64 at', .int .i64 en]] w (RPaPost w (prR 49 [b0, b1, b2, b3, b4, b5, b6, b7, b8])) := by
  obtain rfl : n = 9 := h.len
  have HKN := Lib.hid (fun w => rkind_yes 49 w ⟨by decide, by decide⟩)
  have HRR : Hid (recR 49 [b0, b1, b2, b3, b4, b5, b6, b7, b8] = ⟨49, ((v4 b5 b6 b7 b8 : Nat) : Int), (b0 : Int), ((v4 b1 b2 b3 b4 : Nat) : Int), 0⟩) := rfl
  have hcap := h.caps
  have hc1 : (9 : Int) ≤ (cap : Int) := by omega
  have HB := Lib.hid h
  have l0 := h.2.1 b0 (by simp)
  have l1 := h.2.1 b1 (by simp)
  have l2 := h.2.1 b2 (by simp)
  have l3 := h.2.1 b3 (by simp)
  have l4 := h.2.1 b4 (by simp)
  have l5 := h.2.1 b5 (by simp)
  have l6 := h.2.1 b6 (by simp)
  have l7 := h.2.1 b7 (by simp)
  have l8 := h.2.1 b8 (by simp)
  clear h
  have HA3 := Lib.hid (((((Ext.refl w).alloc (.cells #[.int .i64 49, .slice (some ⟨g, off, none⟩) 9 cap, .int .i64 at', .int .i64 en] 27)).alloc (.cells #[.int .i64 0, .int .i64 0, .int .i64 0, .int .i64 0, .int .i64 0] 38)).alloc (.cells #[.int .i64 0, .slice none 0 0] 35)).alloc (.cells #[.int .i64 49, .int .i64 0, .int .i64 0, .int .i64 0, .int .i64 0] 38))
  have HB1 := Lib.hid ((BoxIs.newAt (w.alloc (.cells #[.int .i64 49, .slice (some ⟨g, off, none⟩) 9 cap, .int .i64 at', .int .i64 en] 27)) (w.heap.size + 1) (by simp) #[.int .i64 0, .int .i64 0, .int .i64 0, .int .i64 0, .int .i64 0] 38).ext (((Ext.refl _).alloc (.cells #[.int .i64 0, .slice none 0 0] 35)).alloc (.cells #[.int .i64 49, .int .i64 0, .int .i64 0, .int .i64 0, .int .i64 0] 38)))
  have HB2 := Lib.hid ((BoxIs.newAt ((w.alloc (.cells #[.int .i64 49, .slice (some ⟨g, off, none⟩) 9 cap, .int .i64 at', .int .i64 en] 27)).alloc (.cells #[.int .i64 0, .int .i64 0, .int .i64 0, .int .i64 0, .int .i64 0] 38)) (w.heap.size + 2) (by simp) #[.int .i64 0, .slice none 0 0] 35).ext ((Ext.refl _).alloc (.cells #[.int .i64 49, .int .i64 0, .int .i64 0, .int .i64 0, .int .i64 0] 38)))
  have HB3 := Lib.hid (BoxIs.newAt (((w.alloc (.cells #[.int .i64 49, .slice (some ⟨g, off, none⟩) 9 cap, .int .i64 at', .int .i64 en] 27)).alloc (.cells #[.int .i64 0, .int .i64 0, .int .i64 0, .int .i64 0, .int .i64 0] 38)).alloc (.cells #[.int .i64 0, .slice none 0 0] 35)) (w.heap.size + 3) (by simp) #[.int .i64 49, .int .i64 0, .int .i64 0, .int .i64 0, .int .i64 0] 38)
  go_enter Tryd.func14, Tryd.ntmps14
  go_wp2_with (go_at_call 30; refine (HKN.out _).mono ?_; rintro e w9 ⟨rfl, rfl⟩)
  revert HA3 HB1 HB2 HB3
  generalize World.alloc (World.alloc (World.alloc (World.alloc w _) _) _) _ = w0
  intro HA3 HB1 HB2 HB3
  have HC0 : Hid (Bys w (.slice (some ⟨g, off + 1, none⟩) 4 (cap - 1)) [b1, b2, b3, b4]) := HB.out.cut (lo := 1) (hi := 5) (by decide) (by decide)
  have U0 := Lib.hid (value_any [b1, b2, b3, b4] _ w0.drew (HC0.out.ext HA3.out.drew) (by simp))
  rw [val_4] at U0
  have hk0 : ¬ cap = 1 := by omega
  have hz0 : ¬ cap - 1 = 0 := by omega
  have hi0 : (5 : Int) ≤ (cap : Int) := by omega
  have hj0 : (1 : Int) ≤ (cap : Int) := by omega
  have HC1 : Hid (Bys w (.slice (some ⟨g, off + 5, none⟩) 4 (cap - 5)) [b5, b6, b7, b8]) := HB.out.cut (lo := 5) (hi := 9) (by decide) (by decide)
  have U1 := Lib.hid (value_any [b5, b6, b7, b8] _ w0.drew (HC1.out.ext HA3.out.drew) (by simp))
  rw [val_4] at U1
  have hk1 : ¬ cap = 5 := by omega
  have hz1 : ¬ cap - 5 = 0 := by omega
  have hi1 : (9 : Int) ≤ (cap : Int) := by omega
  have hj1 : (5 : Int) ≤ (cap : Int) := by omega
  have d0 := HA3.out.cell (HB.out.at (j := 0) (x := b0) rfl)
  rw [Nat.add_zero] at d0
  have m0 : IntKind.i64.wrap (b0 : Int) = (b0 : Int) := by rw [IntKind.wrap_i64]; omega
  have HD1 : Hid (BoxIs (((w0.setCell ⟨w.heap.size + 3, 2, none⟩ (.int .i64 (b0 : Int))).setCell ⟨w.heap.size + 3, 3, none⟩ (.int .i64 ((v4 b1 b2 b3 b4 : Nat) : Int))).setCell ⟨w.heap.size + 3, 1, none⟩ (.int .i64 ((v4 b5 b6 b7 b8 : Nat) : Int))).drew (w.heap.size + 1) #[.int .i64 0, .int .i64 0, .int .i64 0, .int .i64 0, .int .i64 0] 38) := (((HB1.out.put (p := ⟨w.heap.size + 3, 2, none⟩) (by simp) (.int .i64 (b0 : Int))).put (p := ⟨w.heap.size + 3, 3, none⟩) (by simp) (.int .i64 ((v4 b1 b2 b3 b4 : Nat) : Int))).put (p := ⟨w.heap.size + 3, 1, none⟩) (by simp) (.int .i64 ((v4 b5 b6 b7 b8 : Nat) : Int)))
  have HD2 : Hid (BoxIs (((w0.setCell ⟨w.heap.size + 3, 2, none⟩ (.int .i64 (b0 : Int))).setCell ⟨w.heap.size + 3, 3, none⟩ (.int .i64 ((v4 b1 b2 b3 b4 : Nat) : Int))).setCell ⟨w.heap.size + 3, 1, none⟩ (.int .i64 ((v4 b5 b6 b7 b8 : Nat) : Int))).drew (w.heap.size + 2) #[.int .i64 0, .slice none 0 0] 35) := (((HB2.out.put (p := ⟨w.heap.size + 3, 2, none⟩) (by simp) (.int .i64 (b0 : Int))).put (p := ⟨w.heap.size + 3, 3, none⟩) (by simp) (.int .i64 ((v4 b1 b2 b3 b4 : Nat) : Int))).put (p := ⟨w.heap.size + 3, 1, none⟩) (by simp) (.int .i64 ((v4 b5 b6 b7 b8 : Nat) : Int)))
  have HD3 : Hid (BoxIs (((w0.setCell ⟨w.heap.size + 3, 2, none⟩ (.int .i64 (b0 : Int))).setCell ⟨w.heap.size + 3, 3, none⟩ (.int .i64 ((v4 b1 b2 b3 b4 : Nat) : Int))).setCell ⟨w.heap.size + 3, 1, none⟩ (.int .i64 ((v4 b5 b6 b7 b8 : Nat) : Int))).drew (w.heap.size + 3) #[.int .i64 49, .int .i64 ((v4 b5 b6 b7 b8 : Nat) : Int), .int .i64 (b0 : Int), .int .i64 ((v4 b1 b2 b3 b4 : Nat) : Int), .int .i64 0] 38) := (((HB3.out.set 2 (.int .i64 (b0 : Int))).set 3 (.int .i64 ((v4 b1 b2 b3 b4 : Nat) : Int))).set 1 (.int .i64 ((v4 b5 b6 b7 b8 : Nat) : Int)))
  have HX3 := Lib.hid (((HA3.out.setCell (p := ⟨w.heap.size + 3, 2, none⟩) (by simp) (.int .i64 (b0 : Int))).setCell (p := ⟨w.heap.size + 3, 3, none⟩) (by simp) (.int .i64 ((v4 b1 b2 b3 b4 : Nat) : Int))).setCell (p := ⟨w.heap.size + 3, 1, none⟩) (by simp) (.int .i64 ((v4 b5 b6 b7 b8 : Nat) : Int))).drew
  have MY := Lib.hid (fun W => rlmay_any ⟨49, ((v4 b5 b6 b7 b8 : Nat) : Int), (b0 : Int), ((v4 b1 b2 b3 b4 : Nat) : Int), 0⟩ W)
  obtain ⟨⟨r0, r1, r2, r3, r4⟩, s0, s1, s2, s3, s4⟩ := HB3.out.rc
  go_wp2_with fail
  go_region_law (first | (go_simp; go_at_call 34; (with_reducible refine U0.out.mono ?_); rintro e wq ⟨rfl, rfl⟩) | (go_simp; go_at_call 34; (with_reducible refine U1.out.mono ?_); rintro e wq ⟨rfl, rfl⟩))
  all_goals go_wp2_with fail

  clear r0 r1 r2 r3 r4 s0 s1 s2 s3 s4 HB1 HB2 HB3 HA3
  all_goals
    refine (MY.out _).mono ?_
    rintro e wm ⟨rfl, hxm⟩
    have HX5 := Lib.hid (HX3.out.trans hxm)
    have HD1m := Lib.hid (BoxIs.ext HD1.out hxm)
    have HD2m := Lib.hid (BoxIs.ext HD2.out hxm)
    have HD3m := Lib.hid (BoxIs.ext HD3.out hxm)
    clear HX3 HD1 HD2 HD3 hxm
    by_cases hmay : MayR (⟨49, ((v4 b5 b6 b7 b8 : Nat) : Int), (b0 : Int), ((v4 b1 b2 b3 b4 : Nat) : Int), 0⟩ : Rc)
    · rw [decide_eq_true hmay]
      have HPR : Hid (prR 49 [b0, b1, b2, b3, b4, b5, b6, b7, b8] = (none, ⟨49, ((v4 b5 b6 b7 b8 : Nat) : Int), (b0 : Int), ((v4 b1 b2 b3 b4 : Nat) : Int), 0⟩)) := by
        show _ = _
        unfold prR
        rw [if_neg (by decide), if_neg (by simp [lenR]), HRR.out, if_neg (Decidable.not_not.2 hmay)]
      clear hmay
      obtain ⟨⟨r0, r1, r2, r3, r4⟩, s0, s1, s2, s3, s4⟩ := HD1m.out.rc
      obtain ⟨⟨r5, r6⟩, s5, s6⟩ := HD2m.out.two
      obtain ⟨⟨z0, z1, z2, z3, z4⟩, -⟩ := HD3m.out.rc
      obtain ⟨HG1, HG2, HG3⟩ := res7 HD1m.out HD2m.out HX5.out (Nat.le_succ _) (by omega) (by omega) (.int .i64 49) (.int .i64 ((v4 b5 b6 b7 b8 : Nat) : Int)) (.int .i64 (b0 : Int)) (.int .i64 ((v4 b1 b2 b3 b4 : Nat) : Int)) (.int .i64 0) (.int .i64 0) (.slice none 0 0)
      have HG1 := Lib.hid HG1
      have HG2 := Lib.hid HG2
      have HG3 := Lib.hid HG3
      go_wp2_with fail
      obtain ⟨⟨y0, y1, y2, y3, y4⟩, -⟩ := HG1.out.rc
      obtain ⟨⟨y5, y6⟩, -⟩ := HG2.out.two
      exact bodyPost_ret (v := .tuple #[.agg #[.int .i64 49, .int .i64 ((v4 b5 b6 b7 b8 : Nat) : Int), .int .i64 (b0 : Int), .int .i64 ((v4 b1 b2 b3 b4 : Nat) : Int), .int .i64 0], .agg #[.int .i64 0, .slice none 0 0]]) (by simp [results, Tryd.results14, go_sem, y0, y1, y2, y3, y4, y5, y6]) rfl ⟨0, .slice none 0 0, by rw [HPR.out], by rw [HPR.out]; exact RErrIs.zero, HG3.out⟩
    · rw [decide_eq_false hmay]
      have HPR : Hid (prR 49 [b0, b1, b2, b3, b4, b5, b6, b7, b8] = (some ([], 2), zR)) := by
        show _ = _
        unfold prR
        rw [if_neg (by decide), if_neg (by simp [lenR]), HRR.out, if_pos hmay]
      clear hmay
      go_wp2_with fail
      refine (fail_any _ _).mono ?_; rintro e w1 ⟨rfl, hx1⟩
      have HX1 := Lib.hid (HX5.out.trans hx1)
      have HC1 := Lib.hid (HD1m.out.ext hx1)
      have HC2 := Lib.hid (HD2m.out.ext hx1)
      obtain ⟨⟨r0, r1, r2, r3, r4⟩, s0, s1, s2, s3, s4⟩ := HC1.out.rc
      obtain ⟨⟨r5, r6⟩, s5, s6⟩ := HC2.out.two
      clear hx1
      obtain ⟨HG1, HG2, HG3⟩ := res7 HC1.out HC2.out HX1.out (Nat.le_succ _) (by omega) (by omega) (.int .i64 0) (.int .i64 0) (.int .i64 0) (.int .i64 0) (.int .i64 0) (.int .i64 2) (.slice none 0 0)
      have HG1 := Lib.hid HG1
      have HG2 := Lib.hid HG2
      have HG3 := Lib.hid HG3
      go_wp2_with fail
      obtain ⟨⟨y0, y1, y2, y3, y4⟩, -⟩ := HG1.out.rc
      obtain ⟨⟨y5, y6⟩, -⟩ := HG2.out.two
      exact bodyPost_ret (v := .tuple #[rcA zR, .agg #[.int .i64 2, .slice none 0 0]]) (by simp [results, Tryd.results14, go_sem, zR, y0, y1, y2, y3, y4, y5, y6]) rfl ⟨2, .slice none 0 0, by rw [HPR.out], by rw [HPR.out]; exact RErrIs.code (by decide), HG3.out⟩
set_option maxHeartbeats 4000000 in
set_option maxRecDepth 20000 in
theorem rparse_len50 (at' en : Int) (a : Option Addr) (n cap : Nat) (w : World) (hn : n ≠ 1) : Calls Tryd.prog 14 #[.agg #[.int .i64 50, .slice a n cap, .int .i64 at', .int .i64 en]] w (RPaPost w (some ([], 2), zR)) := by
  have HKN := Lib.hid (fun w => rkind_yes 50 w ⟨by decide, by decide⟩)
  have hne : ((n : Int) == 1) = false := by rw [beq_eq_false_iff_ne]; omega
  obtain ⟨C, hC⟩ : ∃ C : Int, C = 2 := ⟨_, rfl⟩
  have hC0 : Hid (C ≠ 0) := by show _ ≠ _; omega
  rw [← hC]
  have e2 : (2 : Int) = C := hC.symm
  clear hC
  have HA3 := Lib.hid (((((Ext.refl w).alloc (.cells #[.int .i64 50, .slice a n cap, .int .i64 at', .int .i64 en] 27)).alloc (.cells #[.int .i64 0, .int .i64 0, .int .i64 0, .int .i64 0, .int .i64 0] 38)).alloc (.cells #[.int .i64 0, .slice none 0 0] 35)).alloc (.cells #[.int .i64 50, .int .i64 0, .int .i64 0, .int .i64 0, .int .i64 0] 38))
  have HB1 := Lib.hid ((BoxIs.newAt (w.alloc (.cells #[.int .i64 50, .slice a n cap, .int .i64 at', .int .i64 en] 27)) (w.heap.size + 1) (by simp) #[.int .i64 0, .int .i64 0, .int .i64 0, .int .i64 0, .int .i64 0] 38).ext (((Ext.refl _).alloc (.cells #[.int .i64 0, .slice none 0 0] 35)).alloc (.cells #[.int .i64 50, .int .i64 0, .int .i64 0, .int .i64 0, .int .i64 0] 38)))
  have HB2 := Lib.hid ((BoxIs.newAt ((w.alloc (.cells #[.int .i64 50, .slice a n cap, .int .i64 at', .int .i64 en] 27)).alloc (.cells #[.int .i64 0, .int .i64 0, .int .i64 0, .int .i64 0, .int .i64 0] 38)) (w.heap.size + 2) (by simp) #[.int .i64 0, .slice none 0 0] 35).ext ((Ext.refl _).alloc (.cells #[.int .i64 50, .int .i64 0, .int .i64 0, .int .i64 0, .int .i64 0] 38)))
  have HB3 := Lib.hid (BoxIs.newAt (((w.alloc (.cells #[.int .i64 50, .slice a n cap, .int .i64 at', .int .i64 en] 27)).alloc (.cells #[.int .i64 0, .int .i64 0, .int .i64 0, .int .i64 0, .int .i64 0] 38)).alloc (.cells #[.int .i64 0, .slice none 0 0] 35)) (w.heap.size + 3) (by simp) #[.int .i64 50, .int .i64 0, .int .i64 0, .int .i64 0, .int .i64 0] 38)
  go_enter Tryd.func14, Tryd.ntmps14
  rw [e2]
  clear e2
  go_wp2_with (first | (go_at_call 30; refine (HKN.out _).mono ?_; rintro e w9 ⟨rfl, rfl⟩) | (go_at_call 26; refine (fail_any _ _).mono ?_; rintro e w1 ⟨rfl, hx1⟩; have HX1 := Lib.hid (HA3.out.trans hx1); have HC1 := Lib.hid (HB1.out.ext hx1); have HC2 := Lib.hid (HB2.out.ext hx1); obtain ⟨⟨r0, r1, r2, r3, r4⟩, s0, s1, s2, s3, s4⟩ := HC1.out.rc; obtain ⟨⟨r5, r6⟩, s5, s6⟩ := HC2.out.two; clear hx1))
  clear HA3 HB1 HB2 HB3
  obtain ⟨HG1, HG2, HG3⟩ := res7 HC1.out HC2.out HX1.out (Nat.le_succ _) (by omega) (by omega) (.int .i64 0) (.int .i64 0) (.int .i64 0) (.int .i64 0) (.int .i64 0) (.int .i64 C) (.slice none 0 0)
  have HG1 := Lib.hid HG1
  have HG2 := Lib.hid HG2
  have HG3 := Lib.hid HG3
  obtain ⟨⟨y0, y1, y2, y3, y4⟩, -⟩ := HG1.out.rc
  obtain ⟨⟨y5, y6⟩, -⟩ := HG2.out.two
  exact bodyPost_ret (v := .tuple #[rcA zR, .agg #[.int .i64 C, .slice none 0 0]]) (by simp [results, Tryd.results14, go_sem, zR, y0, y1, y2, y3, y4, y5, y6]) rfl ⟨C, .slice none 0 0, rfl, RErrIs.code hC0.out, HG3.out⟩
set_option maxHeartbeats 8000000 in
set_option maxRecDepth 20000 in
theorem rparse_is50 (at' en : Int) (b0 : Nat) (g off n cap : Nat) (w : World) (h : Bys w (.slice (some ⟨g, off, none⟩) n cap) [b0]) : Calls Tryd.prog 14 #[.agg #[.int .i64 50, .slice (some ⟨g, off, none⟩) n cap, .int .i64 at', .int .i64 en]] w (RPaPost w (prR 50 [b0])) := by
  obtain rfl : n = 1 := h.len
  have HKN := Lib.hid (fun w => rkind_yes 50 w ⟨by decide, by decide⟩)
  have HRR : Hid (recR 50 [b0] = ⟨50, 0, 0, 0, (b0 : Int)⟩) := rfl
  have hcap := h.caps
  have hc1 : (1 : Int) ≤ (cap : Int) := by omega
  have HB := Lib.hid h
  have l0 := h.2.1 b0 (by simp)
  clear h
  have HA3 := Lib.hid (((((Ext.refl w).alloc (.cells #[.int .i64 50, .slice (some ⟨g, off, none⟩) 1 cap, .int .i64 at', .int .i64 en] 27)).alloc (.cells #[.int .i64 0, .int .i64 0, .int .i64 0, .int .i64 0, .int .i64 0] 38)).alloc (.cells #[.int .i64 0, .slice none 0 0] 35)).alloc (.cells #[.int .i64 50, .int .i64 0, .int .i64 0, .int .i64 0, .int .i64 (b0 : Int)] 38))
  have HB1 := Lib.hid ((BoxIs.newAt (w.alloc (.cells #[.int .i64 50, .slice (some ⟨g, off, none⟩) 1 cap, .int .i64 at', .int .i64 en] 27)) (w.heap.size + 1) (by simp) #[.int .i64 0, .int .i64 0, .int .i64 0, .int .i64 0, .int .i64 0] 38).ext (((Ext.refl _).alloc (.cells #[.int .i64 0, .slice none 0 0] 35)).alloc (.cells #[.int .i64 50, .int .i64 0, .int .i64 0, .int .i64 0, .int .i64 (b0 : Int)] 38)))
  have HB2 := Lib.hid ((BoxIs.newAt ((w.alloc (.cells #[.int .i64 50, .slice (some ⟨g, off, none⟩) 1 cap, .int .i64 at', .int .i64 en] 27)).alloc (.cells #[.int .i64 0, .int .i64 0, .int .i64 0, .int .i64 0, .int .i64 0] 38)) (w.heap.size + 2) (by simp) #[.int .i64 0, .slice none 0 0] 35).ext ((Ext.refl _).alloc (.cells #[.int .i64 50, .int .i64 0, .int .i64 0, .int .i64 0, .int .i64 (b0 : Int)] 38)))
  have HB3 := Lib.hid (BoxIs.newAt (((w.alloc (.cells #[.int .i64 50, .slice (some ⟨g, off, none⟩) 1 cap, .int .i64 at', .int .i64 en] 27)).alloc (.cells #[.int .i64 0, .int .i64 0, .int .i64 0, .int .i64 0, .int .i64 0] 38)).alloc (.cells #[.int .i64 0, .slice none 0 0] 35)) (w.heap.size + 3) (by simp) #[.int .i64 50, .int .i64 0, .int .i64 0, .int .i64 0, .int .i64 (b0 : Int)] 38)
  have d0 := (((((Ext.refl w).alloc (.cells #[.int .i64 50, .slice (some ⟨g, off, none⟩) 1 cap, .int .i64 at', .int .i64 en] 27)).alloc (.cells #[.int .i64 0, .int .i64 0, .int .i64 0, .int .i64 0, .int .i64 0] 38)).alloc (.cells #[.int .i64 0, .slice none 0 0] 35)).alloc (.cells #[.int .i64 50, .int .i64 0, .int .i64 0, .int .i64 0, .int .i64 0] 38)).cell (HB.out.at (j := 0) (x := b0) rfl)
  rw [Nat.add_zero] at d0
  have m0 : IntKind.i64.wrap (b0 : Int) = (b0 : Int) := by rw [IntKind.wrap_i64]; omega
  go_enter Tryd.func14, Tryd.ntmps14
  go_wp2_with (go_at_call 30; refine (HKN.out _).mono ?_; rintro e w9 ⟨rfl, rfl⟩)
  revert HA3 HB1 HB2 HB3
  generalize World.alloc (World.alloc (World.alloc (World.alloc w _) _) _) _ = w0
  intro HA3 HB1 HB2 HB3
  have HD1 : Hid (BoxIs w0 (w.heap.size + 1) #[.int .i64 0, .int .i64 0, .int .i64 0, .int .i64 0, .int .i64 0] 38) := HB1.out
  have HD2 : Hid (BoxIs w0 (w.heap.size + 2) #[.int .i64 0, .slice none 0 0] 35) := HB2.out
  have HD3 : Hid (BoxIs w0 (w.heap.size + 3) #[.int .i64 50, .int .i64 0, .int .i64 0, .int .i64 0, .int .i64 (b0 : Int)] 38) := HB3.out
  have HX3 := Lib.hid HA3.out
  have MY := Lib.hid (fun W => rlmay_any ⟨50, 0, 0, 0, (b0 : Int)⟩ W)
  obtain ⟨⟨r0, r1, r2, r3, r4⟩, s0, s1, s2, s3, s4⟩ := HB3.out.rc
  go_wp2_with fail

  clear r0 r1 r2 r3 r4 s0 s1 s2 s3 s4 HB1 HB2 HB3 HA3
  all_goals
    refine (MY.out _).mono ?_
    rintro e wm ⟨rfl, hxm⟩
    have HX5 := Lib.hid (HX3.out.trans hxm)
    have HD1m := Lib.hid (BoxIs.ext HD1.out hxm)
    have HD2m := Lib.hid (BoxIs.ext HD2.out hxm)
    have HD3m := Lib.hid (BoxIs.ext HD3.out hxm)
    clear HX3 HD1 HD2 HD3 hxm
    by_cases hmay : MayR (⟨50, 0, 0, 0, (b0 : Int)⟩ : Rc)
    · rw [decide_eq_true hmay]
      have HPR : Hid (prR 50 [b0] = (none, ⟨50, 0, 0, 0, (b0 : Int)⟩)) := by
        show _ = _
        unfold prR
        rw [if_neg (by decide), if_neg (by simp [lenR]), HRR.out, if_neg (Decidable.not_not.2 hmay)]
      clear hmay
      obtain ⟨⟨r0, r1, r2, r3, r4⟩, s0, s1, s2, s3, s4⟩ := HD1m.out.rc
      obtain ⟨⟨r5, r6⟩, s5, s6⟩ := HD2m.out.two
      obtain ⟨⟨z0, z1, z2, z3, z4⟩, -⟩ := HD3m.out.rc
      obtain ⟨HG1, HG2, HG3⟩ := res7 HD1m.out HD2m.out HX5.out (Nat.le_succ _) (by omega) (by omega) (.int .i64 50) (.int .i64 0) (.int .i64 0) (.int .i64 0) (.int .i64 (b0 : Int)) (.int .i64 0) (.slice none 0 0)
      have HG1 := Lib.hid HG1
      have HG2 := Lib.hid HG2
      have HG3 := Lib.hid HG3
      go_wp2_with fail
      obtain ⟨⟨y0, y1, y2, y3, y4⟩, -⟩ := HG1.out.rc
      obtain ⟨⟨y5, y6⟩, -⟩ := HG2.out.two
      exact bodyPost_ret (v := .tuple #[.agg #[.int .i64 50, .int .i64 0, .int .i64 0, .int .i64 0, .int .i64 (b0 : Int)], .agg #[.int .i64 0, .slice none 0 0]]) (by simp [results, Tryd.results14, go_sem, y0, y1, y2, y3, y4, y5, y6]) rfl ⟨0, .slice none 0 0, by rw [HPR.out], by rw [HPR.out]; exact RErrIs.zero, HG3.out⟩
    · rw [decide_eq_false hmay]
      have HPR : Hid (prR 50 [b0] = (some ([], 2), zR)) := by
        show _ = _
        unfold prR
        rw [if_neg (by decide), if_neg (by simp [lenR]), HRR.out, if_pos hmay]
      clear hmay
      go_wp2_with fail
      refine (fail_any _ _).mono ?_; rintro e w1 ⟨rfl, hx1⟩
      have HX1 := Lib.hid (HX5.out.trans hx1)
      have HC1 := Lib.hid (HD1m.out.ext hx1)
      have HC2 := Lib.hid (HD2m.out.ext hx1)
      obtain ⟨⟨r0, r1, r2, r3, r4⟩, s0, s1, s2, s3, s4⟩ := HC1.out.rc
      obtain ⟨⟨r5, r6⟩, s5, s6⟩ := HC2.out.two
      clear hx1
      obtain ⟨HG1, HG2, HG3⟩ := res7 HC1.out HC2.out HX1.out (Nat.le_succ _) (by omega) (by omega) (.int .i64 0) (.int .i64 0) (.int .i64 0) (.int .i64 0) (.int .i64 0) (.int .i64 2) (.slice none 0 0)
      have HG1 := Lib.hid HG1
      have HG2 := Lib.hid HG2
      have HG3 := Lib.hid HG3
      go_wp2_with fail
      obtain ⟨⟨y0, y1, y2, y3, y4⟩, -⟩ := HG1.out.rc
      obtain ⟨⟨y5, y6⟩, -⟩ := HG2.out.two
      exact bodyPost_ret (v := .tuple #[rcA zR, .agg #[.int .i64 2, .slice none 0 0]]) (by simp [results, Tryd.results14, go_sem, zR, y0, y1, y2, y3, y4, y5, y6]) rfl ⟨2, .slice none 0 0, by rw [HPR.out], by rw [HPR.out]; exact RErrIs.code (by decide), HG3.out⟩
set_option maxHeartbeats 4000000 in
set_option maxRecDepth 20000 in
theorem rparse_len51 (at' en : Int) (a : Option Addr) (n cap : Nat) (w : World) (hn : n ≠ 8) : Calls Tryd.prog 14 #[.agg #[.int .i64 51, .slice a n cap, .int .i64 at', .int .i64 en]] w (RPaPost w (some ([], 2), zR)) := by
  have HKN := Lib.hid (fun w => rkind_yes 51 w ⟨by decide, by decide⟩)
  have hne : ((n : Int) == 8) = false := by rw [beq_eq_false_iff_ne]; omega
  obtain ⟨C, hC⟩ : ∃ C : Int, C = 2 := ⟨_, rfl⟩
  have hC0 : Hid (C ≠ 0) := by show _ ≠ _; omega
  rw [← hC]
  have e2 : (2 : Int) = C := hC.symm
  clear hC
  have HA3 := Lib.hid (((((Ext.refl w).alloc (.cells #[.int .i64 51, .slice a n cap, .int .i64 at', .int .i64 en] 27)).alloc (.cells #[.int .i64 0, .int .i64 0, .int .i64 0, .int .i64 0, .int .i64 0] 38)).alloc (.cells #[.int .i64 0, .slice none 0 0] 35)).alloc (.cells #[.int .i64 51, .int .i64 0, .int .i64 0, .int .i64 0, .int .i64 0] 38))
  have HB1 := Lib.hid ((BoxIs.newAt (w.alloc (.cells #[.int .i64 51, .slice a n cap, .int .i64 at', .int .i64 en] 27)) (w.heap.size + 1) (by simp) #[.int .i64 0, .int .i64 0, .int .i64 0, .int .i64 0, .int .i64 0] 38).ext (((Ext.refl _).alloc (.cells #[.int .i64 0, .slice none 0 0] 35)).alloc (.cells #[.int .i64 51, .int .i64 0, .int .i64 0, .int .i64 0, .int .i64 0] 38)))
  have HB2 := Lib.hid ((BoxIs.newAt ((w.alloc (.cells #[.int .i64 51, .slice a n cap, .int .i64 at', .int .i64 en] 27)).alloc (.cells #[.int .i64 0, .int .i64 0, .int .i64 0, .int .i64 0, .int .i64 0] 38)) (w.heap.size + 2) (by simp) #[.int .i64 0, .slice none 0 0] 35).ext ((Ext.refl _).alloc (.cells #[.int .i64 51, .int .i64 0, .int .i64 0, .int .i64 0, .int .i64 0] 38)))
  have HB3 := Lib.hid (BoxIs.newAt (((w.alloc (.cells #[.int .i64 51, .slice a n cap, .int .i64 at', .int .i64 en] 27)).alloc (.cells #[.int .i64 0, .int .i64 0, .int .i64 0, .int .i64 0, .int .i64 0] 38)).alloc (.cells #[.int .i64 0, .slice none 0 0] 35)) (w.heap.size + 3) (by simp) #[.int .i64 51, .int .i64 0, .int .i64 0, .int .i64 0, .int .i64 0] 38)
  go_enter Tryd.func14, Tryd.ntmps14
  rw [e2]
  clear e2
  go_wp2_with (first | (go_at_call 30; refine (HKN.out _).mono ?_; rintro e w9 ⟨rfl, rfl⟩) | (go_at_call 26; refine (fail_any _ _).mono ?_; rintro e w1 ⟨rfl, hx1⟩; have HX1 := Lib.hid (HA3.out.trans hx1); have HC1 := Lib.hid (HB1.out.ext hx1); have HC2 := Lib.hid (HB2.out.ext hx1); obtain ⟨⟨r0, r1, r2, r3, r4⟩, s0, s1, s2, s3, s4⟩ := HC1.out.rc; obtain ⟨⟨r5, r6⟩, s5, s6⟩ := HC2.out.two; clear hx1))
  clear HA3 HB1 HB2 HB3
  obtain ⟨HG1, HG2, HG3⟩ := res7 HC1.out HC2.out HX1.out (Nat.le_succ _) (by omega) (by omega) (.int .i64 0) (.int .i64 0) (.int .i64 0) (.int .i64 0) (.int .i64 0) (.int .i64 C) (.slice none 0 0)
  have HG1 := Lib.hid HG1
  have HG2 := Lib.hid HG2
  have HG3 := Lib.hid HG3
  obtain ⟨⟨y0, y1, y2, y3, y4⟩, -⟩ := HG1.out.rc
  obtain ⟨⟨y5, y6⟩, -⟩ := HG2.out.two
  exact bodyPost_ret (v := .tuple #[rcA zR, .agg #[.int .i64 C, .slice none 0 0]]) (by simp [results, Tryd.results14, go_sem, zR, y0, y1, y2, y3, y4, y5, y6]) rfl ⟨C, .slice none 0 0, rfl, RErrIs.code hC0.out, HG3.out⟩
set_option maxHeartbeats 8000000 in
set_option maxRecDepth 20000 in
theorem rparse_is51 (at' en : Int) (b0 b1 b2 b3 b4 b5 b6 b7 : Nat) (g off n cap : Nat) (w : World) (h : Bys w (.slice (some ⟨g, off, none⟩) n cap) [b0, b1, b2, b3, b4, b5, b6, b7]) : Calls Tryd.prog 14 #[.agg #[.int .i64 51, .slice (some ⟨g, off, none⟩) n cap, .int .i64 at', .int .i64 en]] w (RPaPost w (prR 51 [b0, b1, b2, b3, b4, b5, b6, b7])) := by
  obtain rfl : n = 8 := h.len
  have HKN := Lib.hid (fun w => rkind_yes 51 w ⟨by decide, by decide⟩)
  have HRR : Hid (recR 51 [b0, b1, b2, b3, b4, b5, b6, b7] = ⟨51, ((v4 b4 b5 b6 b7 : Nat) : Int), 0, ((v4 b0 b1 b2 b3 : Nat) : Int), 0⟩) := rfl
  have hcap := h.caps
  have hc1 : (8 : Int) ≤ (cap : Int) := by omega
  have HB := Lib.hid h
  have l0 := h.2.1 b0 (by simp)
  have l1 := h.2.1 b1 (by simp)
  have l2 := h.2.1 b2 (by simp)
  have l3 := h.2.1 b3 (by simp)
  have l4 := h.2.1 b4 (by simp)
  have l5 := h.2.1 b5 (by simp)
  have l6 := h.2.1 b6 (by simp)
  have l7 := h.2.1 b7 (by simp)
  clear h
  have HA3 := Lib.hid (((((Ext.refl w).alloc (.cells #[.int .i64 51, .slice (some ⟨g, off, none⟩) 8 cap, .int .i64 at', .int .i64 en] 27)).alloc (.cells #[.int .i64 0, .int .i64 0, .int .i64 0, .int .i64 0, .int .i64 0] 38)).alloc (.cells #[.int .i64 0, .slice none 0 0] 35)).alloc (.cells #[.int .i64 51, .int .i64 0, .int .i64 0, .int .i64 0, .int .i64 0] 38))
  have HB1 := Lib.hid ((BoxIs.newAt (w.alloc (.cells #[.int .i64 51, .slice (some ⟨g, off, none⟩) 8 cap, .int .i64 at', .int .i64 en] 27)) (w.heap.size + 1) (by simp) #[.int .i64 0, .int .i64 0, .int .i64 0, .int .i64 0, .int .i64 0] 38).ext (((Ext.refl _).alloc (.cells #[.int .i64 0, .slice none 0 0] 35)).alloc (.cells #[.int .i64 51, .int .i64 0, .int .i64 0, .int .i64 0, .int .i64 0] 38)))
  have HB2 := Lib.hid ((BoxIs.newAt ((w.alloc (.cells #[.int .i64 51, .slice (some ⟨g, off, none⟩) 8 cap, .int .i64 at', .int .i64 en] 27)).alloc (.cells #[.int .i64 0, .int .i64 0, .int .i64 0, .int .i64 0, .int .i64 0] 38)) (w.heap.size + 2) (by simp) #[.int .i64 0, .slice none 0 0] 35).ext ((Ext.refl _).alloc (.cells #[.int .i64 51, .int .i64 0, .int .i64 0, .int .i64 0, .int .i64 0] 38)))
  have HB3 := Lib.hid (BoxIs.newAt (((w.alloc (.cells #[.int .i64 51, .slice (some ⟨g, off, none⟩) 8 cap, .int .i64 at', .int .i64 en] 27)).alloc (.cells #[.int .i64 0, .int .i64 0, .int .i64 0, .int .i64 0, .int .i64 0] 38)).alloc (.cells #[.int .i64 0, .slice none 0 0] 35)) (w.heap.size + 3) (by simp) #[.int .i64 51, .int .i64 0, .int .i64 0, .int .i64 0, .int .i64 0] 38)
  go_enter Tryd.func14, Tryd.ntmps14
  go_wp2_with (go_at_call 30; refine (HKN.out _).mono ?_; rintro e w9 ⟨rfl, rfl⟩)
  revert HA3 HB1 HB2 HB3
  generalize World.alloc (World.alloc (World.alloc (World.alloc w _) _) _) _ = w0
  intro HA3 HB1 HB2 HB3
  have HC0 : Hid (Bys w (.slice (some ⟨g, off, none⟩) 4 cap) [b0, b1, b2, b3]) := HB.out.cut (lo := 0) (hi := 4) (by decide) (by decide)
  have U0 := Lib.hid (value_any [b0, b1, b2, b3] _ w0.drew (HC0.out.ext HA3.out.drew) (by simp))
  rw [val_4] at U0
  have hi0 : (4 : Int) ≤ (cap : Int) := by omega
  have hj0 : (0 : Int) ≤ (cap : Int) := by omega
  have HC1 : Hid (Bys w (.slice (some ⟨g, off + 4, none⟩) 4 (cap - 4)) [b4, b5, b6, b7]) := HB.out.cut (lo := 4) (hi := 8) (by decide) (by decide)
  have U1 := Lib.hid (value_any [b4, b5, b6, b7] _ w0.drew (HC1.out.ext HA3.out.drew) (by simp))
  rw [val_4] at U1
  have hk1 : ¬ cap = 4 := by omega
  have hz1 : ¬ cap - 4 = 0 := by omega
  have hi1 : (8 : Int) ≤ (cap : Int) := by omega
  have hj1 : (4 : Int) ≤ (cap : Int) := by omega
  have HD1 : Hid (BoxIs ((w0.setCell ⟨w.heap.size + 3, 3, none⟩ (.int .i64 ((v4 b0 b1 b2 b3 : Nat) : Int))).setCell ⟨w.heap.size + 3, 1, none⟩ (.int .i64 ((v4 b4 b5 b6 b7 : Nat) : Int))).drew (w.heap.size + 1) #[.int .i64 0, .int .i64 0, .int .i64 0, .int .i64 0, .int .i64 0] 38) := ((HB1.out.put (p := ⟨w.heap.size + 3, 3, none⟩) (by simp) (.int .i64 ((v4 b0 b1 b2 b3 : Nat) : Int))).put (p := ⟨w.heap.size + 3, 1, none⟩) (by simp) (.int .i64 ((v4 b4 b5 b6 b7 : Nat) : Int)))
  have HD2 : Hid (BoxIs ((w0.setCell ⟨w.heap.size + 3, 3, none⟩ (.int .i64 ((v4 b0 b1 b2 b3 : Nat) : Int))).setCell ⟨w.heap.size + 3, 1, none⟩ (.int .i64 ((v4 b4 b5 b6 b7 : Nat) : Int))).drew (w.heap.size + 2) #[.int .i64 0, .slice none 0 0] 35) := ((HB2.out.put (p := ⟨w.heap.size + 3, 3, none⟩) (by simp) (.int .i64 ((v4 b0 b1 b2 b3 : Nat) : Int))).put (p := ⟨w.heap.size + 3, 1, none⟩) (by simp) (.int .i64 ((v4 b4 b5 b6 b7 : Nat) : Int)))
  have HD3 : Hid (BoxIs ((w0.setCell ⟨w.heap.size + 3, 3, none⟩ (.int .i64 ((v4 b0 b1 b2 b3 : Nat) : Int))).setCell ⟨w.heap.size + 3, 1, none⟩ (.int .i64 ((v4 b4 b5 b6 b7 : Nat) : Int))).drew (w.heap.size + 3) #[.int .i64 51, .int .i64 ((v4 b4 b5 b6 b7 : Nat) : Int), .int .i64 0, .int .i64 ((v4 b0 b1 b2 b3 : Nat) : Int), .int .i64 0] 38) := ((HB3.out.set 3 (.int .i64 ((v4 b0 b1 b2 b3 : Nat) : Int))).set 1 (.int .i64 ((v4 b4 b5 b6 b7 : Nat) : Int)))
  have HX3 := Lib.hid ((HA3.out.setCell (p := ⟨w.heap.size + 3, 3, none⟩) (by simp) (.int .i64 ((v4 b0 b1 b2 b3 : Nat) : Int))).setCell (p := ⟨w.heap.size + 3, 1, none⟩) (by simp) (.int .i64 ((v4 b4 b5 b6 b7 : Nat) : Int))).drew
  have MY := Lib.hid (fun W => rlmay_any ⟨51, ((v4 b4 b5 b6 b7 : Nat) : Int), 0, ((v4 b0 b1 b2 b3 : Nat) : Int), 0⟩ W)
  obtain ⟨⟨r0, r1, r2, r3, r4⟩, s0, s1, s2, s3, s4⟩ := HB3.out.rc
  go_wp2_with fail
  go_region_law (first | (go_simp; go_at_call 34; (with_reducible refine U0.out.mono ?_); rintro e wq ⟨rfl, rfl⟩) | (go_simp; go_at_call 34; (with_reducible refine U1.out.mono ?_); rintro e wq ⟨rfl, rfl⟩))
  all_goals go_wp2_with fail

  clear r0 r1 r2 r3 r4 s0 s1 s2 s3 s4 HB1 HB2 HB3 HA3
  all_goals
    refine (MY.out _).mono ?_
    rintro e wm ⟨rfl, hxm⟩
    have HX5 := Lib.hid (HX3.out.trans hxm)
    have HD1m := Lib.hid (BoxIs.ext HD1.out hxm)
    have HD2m := Lib.hid (BoxIs.ext HD2.out hxm)
    have HD3m := Lib.hid (BoxIs.ext HD3.out hxm)
    clear HX3 HD1 HD2 HD3 hxm
    by_cases hmay : MayR (⟨51, ((v4 b4 b5 b6 b7 : Nat) : Int), 0, ((v4 b0 b1 b2 b3 : Nat) : Int), 0⟩ : Rc)
    · rw [decide_eq_true hmay]
      have HPR : Hid (prR 51 [b0, b1, b2, b3, b4, b5, b6, b7] = (none, ⟨51, ((v4 b4 b5 b6 b7 : Nat) : Int), 0, ((v4 b0 b1 b2 b3 : Nat) : Int), 0⟩)) := by
        show _ = _
        unfold prR
        rw [if_neg (by decide), if_neg (by simp [lenR]), HRR.out, if_neg (Decidable.not_not.2 hmay)]
      clear hmay
      obtain ⟨⟨r0, r1, r2, r3, r4⟩, s0, s1, s2, s3, s4⟩ := HD1m.out.rc
      obtain ⟨⟨r5, r6⟩, s5, s6⟩ := HD2m.out.two
      obtain ⟨⟨z0, z1, z2, z3, z4⟩, -⟩ := HD3m.out.rc
      obtain ⟨HG1, HG2, HG3⟩ := res7 HD1m.out HD2m.out HX5.out (Nat.le_succ _) (by omega) (by omega) (.int .i64 51) (.int .i64 ((v4 b4 b5 b6 b7 : Nat) : Int)) (.int .i64 0) (.int .i64 ((v4 b0 b1 b2 b3 : Nat) : Int)) (.int .i64 0) (.int .i64 0) (.slice none 0 0)
      have HG1 := Lib.hid HG1
      have HG2 := Lib.hid HG2
      have HG3 := Lib.hid HG3
      go_wp2_with fail
      obtain ⟨⟨y0, y1, y2, y3, y4⟩, -⟩ := HG1.out.rc
      obtain ⟨⟨y5, y6⟩, -⟩ := HG2.out.two
      exact bodyPost_ret (v := .tuple #[.agg #[.int .i64 51, .int .i64 ((v4 b4 b5 b6 b7 : Nat) : Int), .int .i64 0, .int .i64 ((v4 b0 b1 b2 b3 : Nat) : Int), .int .i64 0], .agg #[.int .i64 0, .slice none 0 0]]) (by simp [results, Tryd.results14, go_sem, y0, y1, y2, y3, y4, y5, y6]) rfl ⟨0, .slice none 0 0, by rw [HPR.out], by rw [HPR.out]; exact RErrIs.zero, HG3.out⟩
    · rw [decide_eq_false hmay]
      have HPR : Hid (prR 51 [b0, b1, b2, b3, b4, b5, b6, b7] = (some ([], 2), zR)) := by
        show _ = _
        unfold prR
        rw [if_neg (by decide), if_neg (by simp [lenR]), HRR.out, if_pos hmay]
      clear hmay
      go_wp2_with fail
      refine (fail_any _ _).mono ?_; rintro e w1 ⟨rfl, hx1⟩
      have HX1 := Lib.hid (HX5.out.trans hx1)
      have HC1 := Lib.hid (HD1m.out.ext hx1)
      have HC2 := Lib.hid (HD2m.out.ext hx1)
      obtain ⟨⟨r0, r1, r2, r3, r4⟩, s0, s1, s2, s3, s4⟩ := HC1.out.rc
      obtain ⟨⟨r5, r6⟩, s5, s6⟩ := HC2.out.two
      clear hx1
      obtain ⟨HG1, HG2, HG3⟩ := res7 HC1.out HC2.out HX1.out (Nat.le_succ _) (by omega) (by omega) (.int .i64 0) (.int .i64 0) (.int .i64 0) (.int .i64 0) (.int .i64 0) (.int .i64 2) (.slice none 0 0)
      have HG1 := Lib.hid HG1
      have HG2 := Lib.hid HG2
      have HG3 := Lib.hid HG3
      go_wp2_with fail
      obtain ⟨⟨y0, y1, y2, y3, y4⟩, -⟩ := HG1.out.rc
      obtain ⟨⟨y5, y6⟩, -⟩ := HG2.out.two
      exact bodyPost_ret (v := .tuple #[rcA zR, .agg #[.int .i64 2, .slice none 0 0]]) (by simp [results, Tryd.results14, go_sem, zR, y0, y1, y2, y3, y4, y5, y6]) rfl ⟨2, .slice none 0 0, by rw [HPR.out], by rw [HPR.out]; exact RErrIs.code (by decide), HG3.out⟩
theorem rparse_any (k at' en : Int) (bs : List Nat) (v : Value) (w : World) (h : Bys w v bs) : Calls Tryd.prog 14 #[.agg #[.int .i64 k, v, .int .i64 at', .int .i64 en]] w (RPaPost w (prR k bs)) := by
  by_cases hk : kndR k
  · obtain ⟨a, cap, rfl⟩ := h.form
    obtain ⟨h1, h2⟩ := hk
    have hk : k = 48 ∨ k = 49 ∨ k = 50 ∨ k = 51 := by omega
    rcases hk with rfl | rfl | rfl | rfl
    · by_cases hn : bs.length = 5
      · obtain ⟨b0, b1, b2, b3, b4, rfl⟩ : ∃ b0 b1 b2 b3 b4, bs = [b0, b1, b2, b3, b4] := by match bs, hn with | [b0, b1, b2, b3, b4], _ => exact ⟨b0, b1, b2, b3, b4, rfl⟩
        obtain ⟨g, off, rfl⟩ := h.had (by simp)
        exact rparse_is48 at' en b0 b1 b2 b3 b4 g off _ cap w h
      · have e : prR 48 bs = (some ([], 2), zR) := by unfold prR; rw [if_neg (by decide), if_pos (show bs.length ≠ lenR 48 from hn)]
        rw [e]
        exact rparse_len48 at' en a _ cap w hn
    · by_cases hn : bs.length = 9
      · obtain ⟨b0, b1, b2, b3, b4, b5, b6, b7, b8, rfl⟩ : ∃ b0 b1 b2 b3 b4 b5 b6 b7 b8, bs = [b0, b1, b2, b3, b4, b5, b6, b7, b8] := by match bs, hn with | [b0, b1, b2, b3, b4, b5, b6, b7, b8], _ => exact ⟨b0, b1, b2, b3, b4, b5, b6, b7, b8, rfl⟩
        obtain ⟨g, off, rfl⟩ := h.had (by simp)
        exact rparse_is49 at' en b0 b1 b2 b3 b4 b5 b6 b7 b8 g off _ cap w h
      · have e : prR 49 bs = (some ([], 2), zR) := by unfold prR; rw [if_neg (by decide), if_pos (show bs.length ≠ lenR 49 from hn)]
        rw [e]
        exact rparse_len49 at' en a _ cap w hn
    · by_cases hn : bs.length = 1
      · obtain ⟨b0, rfl⟩ : ∃ b0, bs = [b0] := by match bs, hn with | [b0], _ => exact ⟨b0, rfl⟩
        obtain ⟨g, off, rfl⟩ := h.had (by simp)
        exact rparse_is50 at' en b0 g off _ cap w h
      · have e : prR 50 bs = (some ([], 2), zR) := by unfold prR; rw [if_neg (by decide), if_pos (show bs.length ≠ lenR 50 from hn)]
        rw [e]
        exact rparse_len50 at' en a _ cap w hn
    · by_cases hn : bs.length = 8
      · obtain ⟨b0, b1, b2, b3, b4, b5, b6, b7, rfl⟩ : ∃ b0 b1 b2 b3 b4 b5 b6 b7, bs = [b0, b1, b2, b3, b4, b5, b6, b7] := by match bs, hn with | [b0, b1, b2, b3, b4, b5, b6, b7], _ => exact ⟨b0, b1, b2, b3, b4, b5, b6, b7, rfl⟩
        obtain ⟨g, off, rfl⟩ := h.had (by simp)
        exact rparse_is51 at' en b0 b1 b2 b3 b4 b5 b6 b7 g off _ cap w h
      · have e : prR 51 bs = (some ([], 2), zR) := by unfold prR; rw [if_neg (by decide), if_pos (show bs.length ≠ lenR 51 from hn)]
        rw [e]
        exact rparse_len51 at' en a _ cap w hn
  · have e : prR k bs = (some ([], 13), zR) := by unfold prR; rw [if_pos hk]
    rw [e]
    exact rparse_kind k at' en v w hk
end Go.Proofs.YtmphochnmdmioaaDoor
