/- Contracts of this seat: Sy9, SyF, Sy4. -/
import Derived.Test.YtpofabebmeickaaGreatDoorVwZl
import Derived.Test.YtpofabebmeickaaGreatDoorVwZj
import Derived.Test.YtpofabebmeickaaGreatDoorVwZk
/- syntax.Code of two special squares, kinlaw20.first. -/
namespace Go.Proofs.YtpofabebmeickaaGreatDoor
set_option linter.unusedVariables false
set_option linter.unusedSimpArgs false
open Go.RowKit Go.Extern.Stop Go.Stop Go.Extern

set_option maxRecDepth 20000 in
theorem cpa_0 (B : Nat) (c : Value) (L s0 s1 s2 s3 : Addr) (w : World) (h : w.cell? ⟨B, 0, none⟩ = some (.int .i64 0)) : Calls Tryz.prog 39 #[.pointer (some ⟨B, 0, none⟩), c, sqV 0 0 0 0 0 0 0 0 (.slice (some L) 64 64) (.slice (some s0) 16 16) (.slice (some s1) 16 16) (.slice (some s2) 16 16) (.slice (some s3) 16 16)] w fun e w' => e = .returned .nilIface ∧ Ext w w' := by
  unfold sqV
  have c0 := ((Ext.refl w).alloc (.cells #[.int .i64 0, .int .i64 0, .int .i64 0, .int .i64 0, .int .i64 0, .int .i64 0, .int .i64 0, .int .i64 0, .slice (some L) 64 64, .slice (some s0) 16 16, .slice (some s1) 16 16, .slice (some s2) 16 16, .slice (some s3) 16 16] 36)).cell h
  go_enter Tryz.func39, Tryz.ntmps39
  go_wp2
  go_ret
  exact ⟨rfl, (Ext.refl w).alloc _⟩
set_option maxRecDepth 20000 in
theorem ck_0 (a N : Nat) (k : Int) (s : Ms Ec) (F : Nat → Prop) (w : World) (h : WrF a w F s) (hk : okS okEm N s) (hN : N ≤ 3999000) : Calls Tryz.prog 38 #[.iface 25 (.pointer (some ⟨a, 0, none⟩)), .bool false, .int .i64 k] w (FPost (WrF a) F w (.int .i64 ((kindM mE s k).1 : Int)) (kindM mE s k).2) := by
  have UB := Lib.hid (mwkind_any a N k s F w h hk hN)
  clear h
  go_enter Tryz.func38, Tryz.ntmps38
  go_wp2_with fail
  refine (UB.out).mono ?_; rintro e w1 ⟨rfl, F1, h1, g1⟩
  go_wp2
  go_ret
  exact ⟨rfl, F1, h1, g1⟩
set_option maxHeartbeats 4000000 in
set_option maxRecDepth 20000 in
theorem code_k1 (p : Value) (w : World) : Calls Tryz.prog 11 #[.iface 25 p, .bool true, sqV 1 0 0 0 0 0 0 0 nilS nilS nilS nilS nilS] w fun e w' => e = .returned (.tuple #[sqV 0 0 0 0 0 0 0 0 nilS nilS nilS nilS nilS, .iface 43 (.int .i64 13)]) ∧ Ext w w' := by
  have A0 := (BoxIs.new w #[.int .i64 1, .int .i64 0, .int .i64 0, .int .i64 0, .int .i64 0, .int .i64 0, .int .i64 0, .int .i64 0, .slice none 0 0, .slice none 0 0, .slice none 0 0, .slice none 0 0, .slice none 0 0] 36).ext ((Ext.refl _).alloc (.cells #[.int .i64 0, .int .i64 0, .int .i64 0, .int .i64 0, .int .i64 0, .int .i64 0, .int .i64 0, .int .i64 0, .slice none 0 0, .slice none 0 0, .slice none 0 0, .slice none 0 0, .slice none 0 0] 36))
  have A1 := BoxIs.new (w.alloc (.cells #[.int .i64 1, .int .i64 0, .int .i64 0, .int .i64 0, .int .i64 0, .int .i64 0, .int .i64 0, .int .i64 0, .slice none 0 0, .slice none 0 0, .slice none 0 0, .slice none 0 0, .slice none 0 0] 36)) #[.int .i64 0, .int .i64 0, .int .i64 0, .int .i64 0, .int .i64 0, .int .i64 0, .int .i64 0, .int .i64 0, .slice none 0 0, .slice none 0 0, .slice none 0 0, .slice none 0 0, .slice none 0 0] 36
  have hs : (w.alloc (.cells #[.int .i64 1, .int .i64 0, .int .i64 0, .int .i64 0, .int .i64 0, .int .i64 0, .int .i64 0, .int .i64 0, .slice none 0 0, .slice none 0 0, .slice none 0 0, .slice none 0 0, .slice none 0 0] 36)).heap.size = w.heap.size + 1 := by simp
  rw [hs] at A1
  have E2 := ((Ext.refl w).alloc (.cells #[.int .i64 1, .int .i64 0, .int .i64 0, .int .i64 0, .int .i64 0, .int .i64 0, .int .i64 0, .int .i64 0, .slice none 0 0, .slice none 0 0, .slice none 0 0, .slice none 0 0, .slice none 0 0] 36)).alloc (.cells #[.int .i64 0, .int .i64 0, .int .i64 0, .int .i64 0, .int .i64 0, .int .i64 0, .int .i64 0, .int .i64 0, .slice none 0 0, .slice none 0 0, .slice none 0 0, .slice none 0 0, .slice none 0 0] 36)
  obtain ⟨w2, hw2⟩ : ∃ z, (w.alloc (.cells #[.int .i64 1, .int .i64 0, .int .i64 0, .int .i64 0, .int .i64 0, .int .i64 0, .int .i64 0, .int .i64 0, .slice none 0 0, .slice none 0 0, .slice none 0 0, .slice none 0 0, .slice none 0 0] 36)).alloc (.cells #[.int .i64 0, .int .i64 0, .int .i64 0, .int .i64 0, .int .i64 0, .int .i64 0, .int .i64 0, .int .i64 0, .slice none 0 0, .slice none 0 0, .slice none 0 0, .slice none 0 0, .slice none 0 0] 36) = z := ⟨_, rfl⟩
  rw [hw2] at A0 A1 E2
  have HW2 := Lib.hid hw2
  have A0 := Lib.hid A0
  have A1 := Lib.hid A1
  have E2 := Lib.hid E2
  clear hw2 hs
  unfold sqV nilS
  go_enter Tryz.func11, Tryz.ntmps11
  go_wp2_with fail
  have hw2 := HW2.out
  rw [hw2]
  clear hw2 HW2
  refine (blank_ext _).mono ?_; rintro e w3 ⟨L, s0, s1, s2, s3, rfl, x3⟩
  have G0 := BoxIs.new w3 #[.int .i64 0, .int .i64 0, .int .i64 0, .int .i64 0, .int .i64 0, .int .i64 0, .int .i64 0, .int .i64 0, .slice (some L) 64 64, .slice (some s0) 16 16, .slice (some s1) 16 16, .slice (some s2) 16 16, .slice (some s3) 16 16] 36
  have x3' := x3.alloc (.cells #[.int .i64 0, .int .i64 0, .int .i64 0, .int .i64 0, .int .i64 0, .int .i64 0, .int .i64 0, .int .i64 0, .slice (some L) 64 64, .slice (some s0) 16 16, .slice (some s1) 16 16, .slice (some s2) 16 16, .slice (some s3) 16 16] 36)
  have HG := Lib.hid G0
  have HX := Lib.hid x3'
  have hlt : w2.heap.size ≤ w3.heap.size := x3.size
  clear G0 x3 x3'
  unfold sqV
  go_wp2_with fail
  generalize hu : w3.alloc (.cells #[.int .i64 0, .int .i64 0, .int .i64 0, .int .i64 0, .int .i64 0, .int .i64 0, .int .i64 0, .int .i64 0, .slice (some L) 64 64, .slice (some s0) 16 16, .slice (some s1) 16 16, .slice (some s2) 16 16, .slice (some s3) 16 16] 36) = u3
  rw [hu] at HG HX
  clear hu
  refine (isr_w _ _).mono ?_; rintro e w4 ⟨rfl, x4⟩
  have E4 := Lib.hid (HX.out.trans x4)
  obtain ⟨⟨c0, c1, c2, c3, c4, c5, c6, c7, c8, c9, c10, c11, c12⟩, -⟩ := sq_cells (A0.out.ext E4.out)
  clear x4
  go_wp2_with fail
  refine (chk_1 _).mono ?_; rintro e w5 ⟨rfl, x5⟩
  have E5 := Lib.hid (E4.out.trans x5)
  obtain ⟨⟨e0, e1, e2, e3, e4, e5, e6, e7, e8, e9, e10, e11, e12⟩, f0, f1, f2, f3, f4, f5, f6, f7, f8, f9, f10, f11, f12⟩ := sq_cells (A1.out.ext E5.out)
  clear x5 c0 c1 c2 c3 c4 c5 c6 c7 c8 c9 c10 c11 c12
  go_wp2
  obtain ⟨⟨g0, g1, g2, g3, g4, g5, g6, g7, g8, g9, g10, g11, g12⟩, -⟩ := sq_cells (sq_put (v0 := .int .i64 0) (v1 := .int .i64 0) (v2 := .int .i64 0) (v3 := .int .i64 0) (v4 := .int .i64 0) (v5 := .int .i64 0) (v6 := .int .i64 0) (v7 := .int .i64 0) (v8 := .slice none 0 0) (v9 := .slice none 0 0) (v10 := .slice none 0 0) (v11 := .slice none 0 0) (v12 := .slice none 0 0) (A1.out.ext E5.out))
  exact bodyPost_ret (v := .tuple #[.agg #[.int .i64 0, .int .i64 0, .int .i64 0, .int .i64 0, .int .i64 0, .int .i64 0, .int .i64 0, .int .i64 0, .slice none 0 0, .slice none 0 0, .slice none 0 0, .slice none 0 0, .slice none 0 0], .iface 43 (.int .i64 13)]) (by simp [results, Tryz.results11, go_sem, g0, g1, g2, g3, g4, g5, g6, g7, g8, g9, g10, g11, g12]) rfl ⟨rfl, by
    have e := E2.out.trans E5.out
    repeat refine Ext.setCell ?_ (by show w.heap.size ≤ w.heap.size + 1; exact Nat.le_succ _) _
    exact e⟩
set_option maxHeartbeats 4000000 in
set_option maxRecDepth 20000 in
theorem code_m2 (a : Nat) (w0 w : World) (h : Uno (WrF a) w0 w ⟨ch0, newE⟩) : Calls Tryz.prog 11 #[.iface 25 (.pointer (some ⟨a, 0, none⟩)), .bool false, sqV 0 2 0 0 0 0 0 0 nilS nilS nilS nilS nilS] w fun e w' => e = .returned (.tuple #[sqV 0 0 0 0 0 0 0 0 nilS nilS nilS nilS nilS, .nilIface]) ∧ Ext w0 w' := by
  obtain ⟨F, h1, h2, h3⟩ := h
  have hFl : ∀ k, F k → k < w.heap.size := fun k hk => (WrF.obj a).lt h1 k hk
  have H1 := Lib.hid h1
  have H2 := Lib.hid h2
  have H3 := Lib.hid h3
  have HZ : Hid (w0.heap.size ≤ w.heap.size + 1) := Nat.le_succ_of_le h2.size
  have HFL := Lib.hid hFl
  have hv : (kindM mE ⟨ch0, newE⟩ 0).1 = 0 := by decide +kernel
  have HV := Lib.hid hv
  clear h1 h2 h3 hFl hv
  have A0 := (BoxIs.new w #[.int .i64 0, .int .i64 2, .int .i64 0, .int .i64 0, .int .i64 0, .int .i64 0, .int .i64 0, .int .i64 0, .slice none 0 0, .slice none 0 0, .slice none 0 0, .slice none 0 0, .slice none 0 0] 36).ext ((Ext.refl _).alloc (.cells #[.int .i64 0, .int .i64 0, .int .i64 0, .int .i64 0, .int .i64 0, .int .i64 0, .int .i64 0, .int .i64 0, .slice none 0 0, .slice none 0 0, .slice none 0 0, .slice none 0 0, .slice none 0 0] 36))
  have A1 := BoxIs.new (w.alloc (.cells #[.int .i64 0, .int .i64 2, .int .i64 0, .int .i64 0, .int .i64 0, .int .i64 0, .int .i64 0, .int .i64 0, .slice none 0 0, .slice none 0 0, .slice none 0 0, .slice none 0 0, .slice none 0 0] 36)) #[.int .i64 0, .int .i64 0, .int .i64 0, .int .i64 0, .int .i64 0, .int .i64 0, .int .i64 0, .int .i64 0, .slice none 0 0, .slice none 0 0, .slice none 0 0, .slice none 0 0, .slice none 0 0] 36
  have hs : (w.alloc (.cells #[.int .i64 0, .int .i64 2, .int .i64 0, .int .i64 0, .int .i64 0, .int .i64 0, .int .i64 0, .int .i64 0, .slice none 0 0, .slice none 0 0, .slice none 0 0, .slice none 0 0, .slice none 0 0] 36)).heap.size = w.heap.size + 1 := by simp
  rw [hs] at A1
  have E2 := ((Ext.refl w).alloc (.cells #[.int .i64 0, .int .i64 2, .int .i64 0, .int .i64 0, .int .i64 0, .int .i64 0, .int .i64 0, .int .i64 0, .slice none 0 0, .slice none 0 0, .slice none 0 0, .slice none 0 0, .slice none 0 0] 36)).alloc (.cells #[.int .i64 0, .int .i64 0, .int .i64 0, .int .i64 0, .int .i64 0, .int .i64 0, .int .i64 0, .int .i64 0, .slice none 0 0, .slice none 0 0, .slice none 0 0, .slice none 0 0, .slice none 0 0] 36)
  obtain ⟨w2, hw2⟩ : ∃ z, (w.alloc (.cells #[.int .i64 0, .int .i64 2, .int .i64 0, .int .i64 0, .int .i64 0, .int .i64 0, .int .i64 0, .int .i64 0, .slice none 0 0, .slice none 0 0, .slice none 0 0, .slice none 0 0, .slice none 0 0] 36)).alloc (.cells #[.int .i64 0, .int .i64 0, .int .i64 0, .int .i64 0, .int .i64 0, .int .i64 0, .int .i64 0, .int .i64 0, .slice none 0 0, .slice none 0 0, .slice none 0 0, .slice none 0 0, .slice none 0 0] 36) = z := ⟨_, rfl⟩
  rw [hw2] at A0 A1 E2
  have HW2 := Lib.hid hw2
  have A0 := Lib.hid A0
  have A1 := Lib.hid A1
  have E2 := Lib.hid E2
  clear hw2 hs
  unfold sqV nilS
  go_enter Tryz.func11, Tryz.ntmps11
  go_wp2_with fail
  have hw2 := HW2.out
  rw [hw2]
  clear hw2 HW2
  refine (blank_ext _).mono ?_; rintro e w3 ⟨L, s0, s1, s2, s3, rfl, x3⟩
  have G0 := BoxIs.new w3 #[.int .i64 0, .int .i64 0, .int .i64 0, .int .i64 0, .int .i64 0, .int .i64 0, .int .i64 0, .int .i64 0, .slice (some L) 64 64, .slice (some s0) 16 16, .slice (some s1) 16 16, .slice (some s2) 16 16, .slice (some s3) 16 16] 36
  have x3' := x3.alloc (.cells #[.int .i64 0, .int .i64 0, .int .i64 0, .int .i64 0, .int .i64 0, .int .i64 0, .int .i64 0, .int .i64 0, .slice (some L) 64 64, .slice (some s0) 16 16, .slice (some s1) 16 16, .slice (some s2) 16 16, .slice (some s3) 16 16] 36)
  have HG := Lib.hid G0
  have HX := Lib.hid x3'
  have hlt : w2.heap.size ≤ w3.heap.size := x3.size
  clear G0 x3 x3'
  unfold sqV
  go_wp2_with fail
  generalize hu : w3.alloc (.cells #[.int .i64 0, .int .i64 0, .int .i64 0, .int .i64 0, .int .i64 0, .int .i64 0, .int .i64 0, .int .i64 0, .slice (some L) 64 64, .slice (some s0) 16 16, .slice (some s1) 16 16, .slice (some s2) 16 16, .slice (some s3) 16 16] 36) = u3
  rw [hu] at HG HX
  clear hu
  refine (isr_w _ _).mono ?_; rintro e w4 ⟨rfl, x4⟩
  have E4 := Lib.hid (HX.out.trans x4)
  have G4 := Lib.hid (HG.out.ext x4)
  obtain ⟨⟨c0, c1, c2, c3, c4, c5, c6, c7, c8, c9, c10, c11, c12⟩, -⟩ := sq_cells (A0.out.ext E4.out)
  clear x4
  go_wp2_with fail
  refine (chk_0 _).mono ?_; rintro e w5 ⟨rfl, x5⟩
  have E5 := Lib.hid (E4.out.trans x5)
  have G5 := Lib.hid (G4.out.ext x5)
  clear x5 c0 c1 c2 c3 c4 c5 c6 c7 c8 c9 c10 c11 c12
  obtain ⟨⟨c0, c1, c2, c3, c4, c5, c6, c7, c8, c9, c10, c11, c12⟩, -⟩ := sq_cells (A0.out.ext E5.out)
  go_wp2_with fail
  refine (tak_0 _ _).mono ?_; rintro e w6 ⟨rfl, x6⟩
  have E6 := Lib.hid (E5.out.trans x6)
  have G6 := Lib.hid (G5.out.ext x6)
  clear x6 c0 c1 c2 c3 c4 c5 c6 c7 c8 c9 c10 c11 c12
  have c0 := (A0.out.ext E6.out).cell (i := 0) (v := .int .i64 0) rfl
  go_wp2_with fail
  have hx6 : Ext w w6 := E2.out.trans E6.out
  refine (ck_0 a 0 0 _ F w6 ((WrF.obj a).same H1.out (fun i hi => hx6.block (HFL.out i hi))) okn13 (by omega)).mono ?_; rintro e w7 ⟨rfl, F1, y1, st⟩
  rw [HV.out]
  have hkeep : ∀ k, w.heap.size ≤ k → k < w6.heap.size → w7.heap[k]? = w6.heap[k]? := fun k hk hk6 => st.1.2.2 k hk6 (fun hf => by have := HFL.out k hf; omega)
  have hl0 := (A0.out.ext E6.out).lt
  have hl1 := (A1.out.ext E6.out).lt
  have hl2 := G6.out.lt
  have hle : w.heap.size ≤ w3.heap.size := Nat.le_trans E2.out.size hlt
  have A7 : Hid (BoxIs w7 (w.heap.size + 1) #[.int .i64 0, .int .i64 0, .int .i64 0, .int .i64 0, .int .i64 0, .int .i64 0, .int .i64 0, .int .i64 0, .slice none 0 0, .slice none 0 0, .slice none 0 0, .slice none 0 0, .slice none 0 0] 36) := (hkeep _ (Nat.le_succ _) hl1).trans (A1.out.ext E6.out)
  have G7 : Hid (BoxIs w7 w3.heap.size #[.int .i64 0, .int .i64 0, .int .i64 0, .int .i64 0, .int .i64 0, .int .i64 0, .int .i64 0, .int .i64 0, .slice (some L) 64 64, .slice (some s0) 16 16, .slice (some s1) 16 16, .slice (some s2) 16 16, .slice (some s3) 16 16] 36) := (hkeep _ hle hl2).trans G6.out
  have E7 := Lib.hid (Step.out (H2.out.trans hx6) st H3.out).1
  have S7 := Lib.hid (Nat.le_trans hx6.size st.size)
  clear c0 hx6 y1 st hkeep hl0 hl1 hl2 hle H1 H2 H3 HFL HV A0 A1 E2 HX HG E4 E5 E6 G4 G5 G6
  have N7 := BoxIs.new w7 #[.int .i64 0, .int .i64 0, .int .i64 0, .int .i64 0, .int .i64 0, .int .i64 0, .int .i64 0, .int .i64 0, .slice none 0 0, .slice none 0 0, .slice none 0 0, .slice none 0 0, .slice none 0 0] 36
  have X7 := (Ext.refl w7).alloc (.cells #[.int .i64 0, .int .i64 0, .int .i64 0, .int .i64 0, .int .i64 0, .int .i64 0, .int .i64 0, .int .i64 0, .slice none 0 0, .slice none 0 0, .slice none 0 0, .slice none 0 0, .slice none 0 0] 36)
  obtain ⟨⟨c0, c1, c2, c3, c4, c5, c6, c7, c8, c9, c10, c11, c12⟩, -⟩ := sq_cells (G7.out.ext X7)
  have N7 := Lib.hid N7
  have X7 := Lib.hid X7
  go_wp2_with fail
  refine (cpa_0 _ _ _ _ _ _ _ _ (N7.out.cell rfl)).mono ?_; rintro e w9 ⟨rfl, x9⟩
  obtain ⟨⟨d0, d1, d2, d3, d4, d5, d6, d7, d8, d9, d10, d11, d12⟩, -⟩ := sq_cells (N7.out.ext x9)
  obtain ⟨⟨e0, e1, e2, e3, e4, e5, e6, e7, e8, e9, e10, e11, e12⟩, f0, f1, f2, f3, f4, f5, f6, f7, f8, f9, f10, f11, f12⟩ := sq_cells (A7.out.ext (X7.out.trans x9))
  have A9 := Lib.hid (A7.out.ext (X7.out.trans x9))
  have E9 := Lib.hid (E7.out.trans (X7.out.trans x9))
  clear x9 c0 c1 c2 c3 c4 c5 c6 c7 c8 c9 c10 c11 c12
  go_wp2
  obtain ⟨⟨g0, g1, g2, g3, g4, g5, g6, g7, g8, g9, g10, g11, g12⟩, -⟩ := sq_cells (sq_put (v0 := .int .i64 0) (v1 := .int .i64 0) (v2 := .int .i64 0) (v3 := .int .i64 0) (v4 := .int .i64 0) (v5 := .int .i64 0) (v6 := .int .i64 0) (v7 := .int .i64 0) (v8 := .slice none 0 0) (v9 := .slice none 0 0) (v10 := .slice none 0 0) (v11 := .slice none 0 0) (v12 := .slice none 0 0) A9.out)
  exact bodyPost_ret (v := .tuple #[.agg #[.int .i64 0, .int .i64 0, .int .i64 0, .int .i64 0, .int .i64 0, .int .i64 0, .int .i64 0, .int .i64 0, .slice none 0 0, .slice none 0 0, .slice none 0 0, .slice none 0 0, .slice none 0 0], .nilIface]) (by simp [results, Tryz.results11, go_sem, g0, g1, g2, g3, g4, g5, g6, g7, g8, g9, g10, g11, g12]) rfl ⟨rfl, by
    have e := E9.out
    have hz : w0.heap.size ≤ w.heap.size + 1 := HZ.out
    repeat refine Ext.setCell ?_ hz _
    exact e⟩
end Go.Proofs.YtpofabebmeickaaGreatDoor

/- kinlaw20.first: its contract over this seat's translation. -/
namespace Go.Proofs.YtpofabebmeickaaGreatDoor
set_option linter.unusedVariables false
set_option linter.unusedSimpArgs false
open Go.RowKit Go.Extern.Stop Go.Stop Go.Extern

theorem pk_s (w : World) : Calls Tryz.prog 25 #[.agg #[.int .i64 3, .int .i64 0, .slice none 0 0]] w fun e w' => ∃ a c, e = .returned (.tuple #[.agg #[.int .i64 3, .slice a 0 c], .nilIface]) ∧ Bys w' (.slice a 0 c) [] ∧ Ext w w' := by
  refine (pack_any 3 0 [] _ w (Bys.nil w) (by simp)).mono ?_
  rintro e w' ⟨u, x, rfl, ⟨hu, -⟩, he, hx⟩
  obtain ⟨a, c, rfl⟩ := hu.form
  obtain rfl : x = .nilIface := he
  exact ⟨a, c, rfl, hu, hx⟩
theorem pk_r (w : World) : Calls Tryz.prog 25 #[.agg #[.int .i64 1, .int .i64 16, .slice none 0 0]] w fun e w' => ∃ a c x, e = .returned (.tuple #[.agg #[.int .i64 0, .slice a 0 c], x]) ∧ ErrIs w' (some ([], 3)) x ∧ Ext w w' := by
  refine (pack_any 1 16 [] _ w (Bys.nil w) (by simp)).mono ?_
  rintro e w' ⟨u, x, rfl, ⟨hu, -⟩, he, hx⟩
  obtain ⟨a, c, rfl⟩ := hu.form
  exact ⟨a, c, x, rfl, he, hx⟩
theorem rd_s (w : World) : Calls Tryz.prog 26 #[.agg #[.int .i64 1, .slice none 0 0]] w fun e w' => ∃ a c x, e = .returned (.tuple #[.agg #[.int .i64 0, .int .i64 0, .slice a 0 c], x]) ∧ ErrIs w' (some ([], 1)) x ∧ Ext w w' := by
  refine (read_any 1 [] _ w (Bys.nil w) (by simp)).mono ?_
  rintro e w' ⟨u, x, rfl, hu, he, hx⟩
  obtain ⟨a, c, rfl⟩ := hu.form
  exact ⟨a, c, x, rfl, he, hx⟩
set_option maxHeartbeats 4000000 in
set_option maxRecDepth 20000 in
theorem first20_any (w : World) (hg : EtIs w) : Calls Tryz.prog 6 #[] w fun e w' => e = .returned (.bool true) ∧ Ext w w' := by
  have HET := Lib.hid hg
  clear hg
  go_enter Tryz.func6, Tryz.ntmps6
  go_wp2_with fail
  refine (pk_s _).mono ?_; rintro e w1 ⟨a1, k1, rfl, hb1, x1⟩
  have B1 := Lib.hid (BoxIs.new w1 #[.int .i64 3, .slice a1 0 k1] 69)
  have X1 := Lib.hid (x1.alloc (.cells #[.int .i64 3, .slice a1 0 k1] 69))
  have Y1 := Lib.hid (hb1.ext ((Ext.refl w1).alloc (.cells #[.int .i64 3, .slice a1 0 k1] 69)))
  clear x1 hb1
  go_wp2_with fail
  generalize hv1 : w1.alloc (.cells #[.int .i64 3, .slice a1 0 k1] 69) = v1
  rw [hv1] at B1 X1 Y1
  clear hv1
  refine (pk_r _).mono ?_; rintro e w2 ⟨a2, k2, y2, rfl, he2, x2⟩
  have Z2 := Lib.hid he2
  have X2 := Lib.hid x2
  clear he2 x2
  go_wp2_with fail
  refine (rd_s _).mono ?_; rintro e w3 ⟨a3, k3, y3, rfl, he3, x3⟩
  have Z3 := Lib.hid he3
  have X3 := Lib.hid (((Ext.refl w2).alloc _).trans x3)
  clear he3 x3
  go_wp2_with fail
  refine (mwnew_any _).mono ?_; rintro e w4 ⟨a, F, rfl, hF, hW, hx4⟩
  have U4 := Lib.hid (Uno.first hW hx4 hF)
  clear hF hW hx4
  go_wp2_with fail
  refine (code_k1 _ _).mono ?_; rintro e w5 ⟨rfl, x5⟩
  have X5 := Lib.hid x5
  clear x5
  unfold sqV nilS
  go_wp2_with fail
  refine (code_m2 a _ _ (U4.out.ext (WrF.obj a) (X5.out.alloc _))).mono ?_; rintro e w6 ⟨rfl, x6⟩
  have X6 := Lib.hid ((((Ext.refl w3).alloc _).trans x6).alloc (.cells #[.int .i64 0, .int .i64 0, .int .i64 0, .int .i64 0, .int .i64 0, .int .i64 0, .int .i64 0, .int .i64 0, .slice none 0 0, .slice none 0 0, .slice none 0 0, .slice none 0 0, .slice none 0 0] 36))
  have B6 := Lib.hid (BoxIs.new w6 #[.int .i64 0, .int .i64 0, .int .i64 0, .int .i64 0, .int .i64 0, .int .i64 0, .int .i64 0, .int .i64 0, .slice none 0 0, .slice none 0 0, .slice none 0 0, .slice none 0 0, .slice none 0 0] 36)
  have C6 := Lib.hid (X2.out.trans (X3.out.trans X6.out))
  have c0 := (B1.out.ext C6.out).cell (i := 0) (v := .int .i64 3) rfl
  have c1 := (B1.out.ext C6.out).cell (i := 1) (v := .slice a1 0 k1) rfl
  unfold sqV nilS
  clear x6
  go_wp2_with fail
  refine (cost_any 3 [] _ _ (Y1.out.ext C6.out) (by simp)).mono ?_; rintro e w7 ⟨rfl, x7⟩
  have X7 := Lib.hid x7
  clear x7 c0 c1
  go_wp2_with fail
  refine (fail_any 3 _).mono ?_; rintro e w8 ⟨rfl, x8⟩
  have E8 := Lib.hid (X7.out.trans x8)
  clear x8
  go_wp2_with fail
  refine (same_fall (some ([], 3)) _ _ _ _ (HET.out.ext (X1.out.trans (C6.out.trans E8.out))) (Z2.out.ext (X3.out.trans (X6.out.trans E8.out))) (RErrIs.code (by decide))).mono ?_; rintro e w9 ⟨rfl, x9⟩
  have E9 := Lib.hid (E8.out.trans x9)
  clear x9
  go_wp2_with fail
  refine (fail_any 1 _).mono ?_; rintro e wA ⟨rfl, xA⟩
  have EA := Lib.hid (E9.out.trans xA)
  clear xA
  go_wp2_with fail
  refine (same_fall (some ([], 1)) _ _ _ _ (HET.out.ext (X1.out.trans (C6.out.trans EA.out))) (Z3.out.ext (X6.out.trans EA.out)) (RErrIs.code (by decide))).mono ?_; rintro e wB ⟨rfl, xB⟩
  have EB := Lib.hid (EA.out.trans xB)
  clear xB
  go_wp2_with fail
  refine (fail_any 13 _).mono ?_; rintro e wC ⟨rfl, xC⟩
  have EC := Lib.hid (EB.out.trans xC)
  clear xC
  go_wp2_with fail
  refine (same_fall (some ([], 13)) _ _ _ _ (HET.out.ext (X1.out.trans (C6.out.trans EC.out))) (ErrIs.code (by decide)) (RErrIs.code (by decide))).mono ?_; rintro e wD ⟨rfl, xD⟩
  have ED := Lib.hid (EC.out.trans xD)
  clear xD
  have s0 := (B6.out.ext ED.out).cell (i := 0) (v := .int .i64 0) rfl
  have s1 := (B6.out.ext ED.out).cell (i := 1) (v := .int .i64 0) rfl
  go_wp2
  go_ret
  exact ⟨rfl, X1.out.trans (C6.out.trans ED.out)⟩
end Go.Proofs.YtpofabebmeickaaGreatDoor

/- kinref.Coded of two coded frames alike. -/
namespace Go.Proofs.YtpofabebmeickaaGreatDoor
set_option linter.unusedVariables false
set_option linter.unusedSimpArgs false
open Go.RowKit Go.Extern.Stop Go.Stop Go.Extern

end Go.Proofs.YtpofabebmeickaaGreatDoor

