/- kinlaw20.Plain, parts, Same. -/
import Derived.Test.YtpofabebmeickaaGreatDoorVbSz8
namespace Go.Proofs.YtpofabebmeickaaGreatDoor
set_option linter.unusedVariables false
set_option linter.unusedSimpArgs false
open Go.RowKit Go.Extern.Stop Go.Stop Go.Extern

set_option maxRecDepth 20000 in
set_option maxHeartbeats 4000000 in
theorem prt_1 (gm ga gb gc gd gx gy : Int) (vL v0 v1 v2 v3 : Value) (w : World) (hL : SlF vL) (h0 : SlF v0) (h1 : SlF v1) (h2 : SlF v2) (h3 : SlF v3) : Calls Tryz.prog 24 #[sqV 1 gm ga gb gc gd gx gy vL v0 v1 v2 v3] w fun e w' => e = .returned (sqV 1 0 0 0 0 0 gx gy vL nilS nilS nilS nilS) ∧ Ext w w' := by
  obtain ⟨aL, lL, cL, rfl⟩ := hL
  obtain ⟨a0, l0, c0, rfl⟩ := h0
  obtain ⟨a1, l1, c1, rfl⟩ := h1
  obtain ⟨a2, l2, c2, rfl⟩ := h2
  obtain ⟨a3, l3, c3, rfl⟩ := h3
  have A0 := (BoxIs.new w #[.int .i64 1, .int .i64 gm, .int .i64 ga, .int .i64 gb, .int .i64 gc, .int .i64 gd, .int .i64 gx, .int .i64 gy, .slice aL lL cL, .slice a0 l0 c0, .slice a1 l1 c1, .slice a2 l2 c2, .slice a3 l3 c3] 36).ext ((Ext.refl _).alloc (.cells #[.int .i64 0, .int .i64 0, .int .i64 0, .int .i64 0, .int .i64 0, .int .i64 0, .int .i64 0, .int .i64 0, .slice none 0 0, .slice none 0 0, .slice none 0 0, .slice none 0 0, .slice none 0 0] 42))
  have A1 := BoxIs.new (w.alloc (.cells #[.int .i64 1, .int .i64 gm, .int .i64 ga, .int .i64 gb, .int .i64 gc, .int .i64 gd, .int .i64 gx, .int .i64 gy, .slice aL lL cL, .slice a0 l0 c0, .slice a1 l1 c1, .slice a2 l2 c2, .slice a3 l3 c3] 36)) #[.int .i64 0, .int .i64 0, .int .i64 0, .int .i64 0, .int .i64 0, .int .i64 0, .int .i64 0, .int .i64 0, .slice none 0 0, .slice none 0 0, .slice none 0 0, .slice none 0 0, .slice none 0 0] 42
  have hs : (w.alloc (.cells #[.int .i64 1, .int .i64 gm, .int .i64 ga, .int .i64 gb, .int .i64 gc, .int .i64 gd, .int .i64 gx, .int .i64 gy, .slice aL lL cL, .slice a0 l0 c0, .slice a1 l1 c1, .slice a2 l2 c2, .slice a3 l3 c3] 36)).heap.size = w.heap.size + 1 := by simp
  rw [hs] at A1
  have E2 := ((Ext.refl w).alloc (.cells #[.int .i64 1, .int .i64 gm, .int .i64 ga, .int .i64 gb, .int .i64 gc, .int .i64 gd, .int .i64 gx, .int .i64 gy, .slice aL lL cL, .slice a0 l0 c0, .slice a1 l1 c1, .slice a2 l2 c2, .slice a3 l3 c3] 36)).alloc (.cells #[.int .i64 0, .int .i64 0, .int .i64 0, .int .i64 0, .int .i64 0, .int .i64 0, .int .i64 0, .int .i64 0, .slice none 0 0, .slice none 0 0, .slice none 0 0, .slice none 0 0, .slice none 0 0] 42)
  have hs2 : ((w.alloc (.cells #[.int .i64 1, .int .i64 gm, .int .i64 ga, .int .i64 gb, .int .i64 gc, .int .i64 gd, .int .i64 gx, .int .i64 gy, .slice aL lL cL, .slice a0 l0 c0, .slice a1 l1 c1, .slice a2 l2 c2, .slice a3 l3 c3] 36)).alloc (.cells #[.int .i64 0, .int .i64 0, .int .i64 0, .int .i64 0, .int .i64 0, .int .i64 0, .int .i64 0, .int .i64 0, .slice none 0 0, .slice none 0 0, .slice none 0 0, .slice none 0 0, .slice none 0 0] 42)).heap.size = w.heap.size + 2 := by simp
  have N2 := BoxIs.new ((w.alloc (.cells #[.int .i64 1, .int .i64 gm, .int .i64 ga, .int .i64 gb, .int .i64 gc, .int .i64 gd, .int .i64 gx, .int .i64 gy, .slice aL lL cL, .slice a0 l0 c0, .slice a1 l1 c1, .slice a2 l2 c2, .slice a3 l3 c3] 36)).alloc (.cells #[.int .i64 0, .int .i64 0, .int .i64 0, .int .i64 0, .int .i64 0, .int .i64 0, .int .i64 0, .int .i64 0, .slice none 0 0, .slice none 0 0, .slice none 0 0, .slice none 0 0, .slice none 0 0] 42)) #[.int .i64 1, .int .i64 0, .int .i64 0, .int .i64 0, .int .i64 0, .int .i64 0, .int .i64 0, .int .i64 0, .slice none 0 0, .slice none 0 0, .slice none 0 0, .slice none 0 0, .slice none 0 0] 42
  rw [hs2] at N2
  have X2 := (Ext.refl ((w.alloc (.cells #[.int .i64 1, .int .i64 gm, .int .i64 ga, .int .i64 gb, .int .i64 gc, .int .i64 gd, .int .i64 gx, .int .i64 gy, .slice aL lL cL, .slice a0 l0 c0, .slice a1 l1 c1, .slice a2 l2 c2, .slice a3 l3 c3] 36)).alloc (.cells #[.int .i64 0, .int .i64 0, .int .i64 0, .int .i64 0, .int .i64 0, .int .i64 0, .int .i64 0, .int .i64 0, .slice none 0 0, .slice none 0 0, .slice none 0 0, .slice none 0 0, .slice none 0 0] 42))).alloc (.cells #[.int .i64 1, .int .i64 0, .int .i64 0, .int .i64 0, .int .i64 0, .int .i64 0, .int .i64 0, .int .i64 0, .slice none 0 0, .slice none 0 0, .slice none 0 0, .slice none 0 0, .slice none 0 0] 42)
  obtain ⟨⟨k0, k1, k2, k3, k4, k5, k6, k7, k8, k9, k10, k11, k12⟩, -⟩ := sq_cells A0
  obtain ⟨u, hu⟩ : ∃ z, ((w.alloc (.cells #[.int .i64 1, .int .i64 gm, .int .i64 ga, .int .i64 gb, .int .i64 gc, .int .i64 gd, .int .i64 gx, .int .i64 gy, .slice aL lL cL, .slice a0 l0 c0, .slice a1 l1 c1, .slice a2 l2 c2, .slice a3 l3 c3] 36)).alloc (.cells #[.int .i64 0, .int .i64 0, .int .i64 0, .int .i64 0, .int .i64 0, .int .i64 0, .int .i64 0, .int .i64 0, .slice none 0 0, .slice none 0 0, .slice none 0 0, .slice none 0 0, .slice none 0 0] 42)).alloc (.cells #[.int .i64 1, .int .i64 0, .int .i64 0, .int .i64 0, .int .i64 0, .int .i64 0, .int .i64 0, .int .i64 0, .slice none 0 0, .slice none 0 0, .slice none 0 0, .slice none 0 0, .slice none 0 0] 42) = z := ⟨_, rfl⟩
  rw [hu] at N2 X2
  have HB := Lib.hid (A0.ext X2)
  have HR := Lib.hid (A1.ext X2)
  have HE := Lib.hid (E2.trans X2)
  have HP := Lib.hid N2
  have HU := Lib.hid hu
  clear hu hs hs2 A0 A1 E2 N2 X2
  unfold sqV
  go_enter Tryz.func24, Tryz.ntmps24
  go_wp2_with fail
  rw [HU.out]
  clear HU k0 k1 k2 k3 k4 k5 k6 k7 k8 k9 k10 k11 k12
  refine wp_region_held_drew (S := fun w' => w'.cell? ⟨w.heap.size, 6, none⟩ = some (.int .i64 gx) ∧ w'.cell? ⟨w.heap.size, 7, none⟩ = some (.int .i64 gy) ∧ w'.cell? ⟨w.heap.size, 8, none⟩ = some (.slice aL lL cL)) (by kernel_rfl) (⟨(HB.out.ext ((Ext.refl _).drew)).cell rfl, (HB.out.ext ((Ext.refl _).drew)).cell rfl, (HB.out.ext ((Ext.refl _).drew)).cell rfl⟩) (fun hHeld => ?_)
  refine wpAnyH_take (i := 0) (oi := { dst := some 11, op := Op.fieldAddr 36 (Operand.tmp 1) 3, type := 0, pos := "law.go:139", after := #[], guard := none }) (v := ?_) rfl (by kernel_rfl) (by kernel_rfl) (by kernel_rfl) (fun _ _ _ h => h) (Or.inl ⟨by rfl, ?_⟩) (by assumption) ?_
  case refine_2 => (intro w hSw; (try dsimp only at hSw); go_simp; (try with_reducible rfl))
  try simp only [Act.put, List.setIfInBounds_toArray, List.set_cons_zero, List.set_cons_succ]
  refine wpAnyH_take (i := 1) (oi := { dst := some 12, op := Op.load 32 (Operand.tmp 11), type := 32, pos := "law.go:139", after := #[{ on := 0, ground := Ground.data }], guard := none }) (v := ?_) rfl (by kernel_rfl) (by kernel_rfl) (by kernel_rfl) (fun _ _ _ h => h) (Or.inl ⟨by rfl, ?_⟩) (by assumption) ?_
  case refine_2 => (intro w hSw; (try dsimp only at hSw); go_simp; (try with_reducible rfl))
  try simp only [Act.put, List.setIfInBounds_toArray, List.set_cons_zero, List.set_cons_succ]
  refine wpAnyH_take (i := 2) (oi := { dst := some 13, op := Op.fieldAddr 36 (Operand.tmp 1) 4, type := 0, pos := "law.go:139", after := #[{ on := 5, ground := Ground.gcOnly Departure.lateStores }], guard := none }) (v := ?_) rfl (by kernel_rfl) (by kernel_rfl) (by kernel_rfl) (fun _ _ _ h => h) (Or.inl ⟨by rfl, ?_⟩) (by assumption) ?_
  case refine_2 => (intro w hSw; (try dsimp only at hSw); go_simp; (try with_reducible rfl))
  try simp only [Act.put, List.setIfInBounds_toArray, List.set_cons_zero, List.set_cons_succ]
  refine wpAnyH_take (i := 3) (oi := { dst := some 14, op := Op.load 33 (Operand.tmp 13), type := 33, pos := "law.go:139", after := #[{ on := 2, ground := Ground.data }, { on := 5, ground := Ground.gcOnly Departure.lateStores }], guard := none }) (v := ?_) rfl (by kernel_rfl) (by kernel_rfl) (by kernel_rfl) (fun _ _ _ h => h) (Or.inl ⟨by rfl, ?_⟩) (by assumption) ?_
  case refine_2 => (intro w hSw; (try dsimp only at hSw); go_simp; (try with_reducible rfl))
  try simp only [Act.put, List.setIfInBounds_toArray, List.set_cons_zero, List.set_cons_succ]
  refine wpAnyH_take (i := 4) (oi := { dst := some 15, op := Op.fieldAddr 42 (Operand.tmp 3) 3, type := 0, pos := "law.go:139", after := #[{ on := 0, ground := Ground.phase }, { on := 1, ground := Ground.phase }, { on := 2, ground := Ground.textOnly Departure.lateStores }, { on := 3, ground := Ground.textOnly Departure.lateStores }], guard := none }) (v := ?_) rfl (by kernel_rfl) (by kernel_rfl) (by kernel_rfl) (fun _ _ _ h => h) (Or.inl ⟨by rfl, ?_⟩) (by assumption) ?_
  case refine_2 => (intro w hSw; (try dsimp only at hSw); go_simp; (try with_reducible rfl))
  try simp only [Act.put, List.setIfInBounds_toArray, List.set_cons_zero, List.set_cons_succ]
  obtain ⟨⟨c0', c1', c2', c3', c4', c5', c6', c7', c8', c9', c10', c11', c12'⟩, f0, f1, f2, f3, f4, f5, f6, f7, f8, f9, f10, f11, f12⟩ := sq_cells HP.out
  refine wpAnyH_ready (rs := [5]) (by kernel_rfl) (by simp) ?_
  refine AllReadyH.cons (o := { dst := none, op := Op.store 32 (Operand.tmp 15) (Operand.tmp 12), type := 0, pos := "law.go:139", after := #[{ on := 4, ground := Ground.data }, { on := 1, ground := Ground.data }, { on := 0, ground := Ground.phase }, { on := 1, ground := Ground.phase }, { on := 2, ground := Ground.textOnly Departure.lateStores }, { on := 3, ground := Ground.textOnly Departure.lateStores }], guard := none }) rfl (fun K hK => ?_) AllReadyH.nil
  go_simp
  refine hK.out _ _ (⟨((((HB.out).other (p := ⟨w.heap.size + 2, 6, none⟩) (by show w.heap.size + 2 ≠ w.heap.size; omega) _).other (p := ⟨w.heap.size + 2, 7, none⟩) (by show w.heap.size + 2 ≠ w.heap.size; omega) _).ext ((Ext.refl _).drew)).cell rfl, ((((HB.out).other (p := ⟨w.heap.size + 2, 6, none⟩) (by show w.heap.size + 2 ≠ w.heap.size; omega) _).other (p := ⟨w.heap.size + 2, 7, none⟩) (by show w.heap.size + 2 ≠ w.heap.size; omega) _).ext ((Ext.refl _).drew)).cell rfl, ((((HB.out).other (p := ⟨w.heap.size + 2, 6, none⟩) (by show w.heap.size + 2 ≠ w.heap.size; omega) _).other (p := ⟨w.heap.size + 2, 7, none⟩) (by show w.heap.size + 2 ≠ w.heap.size; omega) _).ext ((Ext.refl _).drew)).cell rfl⟩) (fun hHeld => ?_)
  clear hK K
  try simp only [Act.put, List.setIfInBounds_toArray, List.set_cons_zero, List.set_cons_succ]
  refine wpAnyH_take (i := 6) (oi := { dst := some 16, op := Op.fieldAddr 42 (Operand.tmp 3) 4, type := 0, pos := "law.go:139", after := #[{ on := 0, ground := Ground.phase }, { on := 1, ground := Ground.phase }, { on := 2, ground := Ground.phase }, { on := 3, ground := Ground.phase }, { on := 4, ground := Ground.phase }, { on := 5, ground := Ground.phase }], guard := none }) (v := ?_) rfl (by kernel_rfl) (by kernel_rfl) (by kernel_rfl) (fun _ _ _ h => h) (Or.inl ⟨by rfl, ?_⟩) (by assumption) ?_
  case refine_2 => (intro w hSw; (try dsimp only at hSw); go_simp; (try with_reducible rfl))
  try simp only [Act.put, List.setIfInBounds_toArray, List.set_cons_zero, List.set_cons_succ]
  refine wpAnyH_ready (rs := [7]) (by kernel_rfl) (by simp) ?_
  refine AllReadyH.cons (o := { dst := none, op := Op.store 33 (Operand.tmp 16) (Operand.tmp 14), type := 0, pos := "law.go:139", after := #[{ on := 6, ground := Ground.data }, { on := 3, ground := Ground.data }, { on := 5, ground := Ground.chain }, { on := 0, ground := Ground.phase }, { on := 1, ground := Ground.phase }, { on := 2, ground := Ground.phase }, { on := 3, ground := Ground.phase }, { on := 4, ground := Ground.phase }, { on := 5, ground := Ground.phase }], guard := none }) rfl (fun K hK => ?_) AllReadyH.nil
  go_simp
  refine hK.out _ _ (⟨(((((HB.out).other (p := ⟨w.heap.size + 2, 6, none⟩) (by show w.heap.size + 2 ≠ w.heap.size; omega) _).other (p := ⟨w.heap.size + 2, 7, none⟩) (by show w.heap.size + 2 ≠ w.heap.size; omega) _).other (p := ⟨w.heap.size + 2, 8, none⟩) (by show w.heap.size + 2 ≠ w.heap.size; omega) _).ext ((Ext.refl _).drew)).cell rfl, (((((HB.out).other (p := ⟨w.heap.size + 2, 6, none⟩) (by show w.heap.size + 2 ≠ w.heap.size; omega) _).other (p := ⟨w.heap.size + 2, 7, none⟩) (by show w.heap.size + 2 ≠ w.heap.size; omega) _).other (p := ⟨w.heap.size + 2, 8, none⟩) (by show w.heap.size + 2 ≠ w.heap.size; omega) _).ext ((Ext.refl _).drew)).cell rfl, (((((HB.out).other (p := ⟨w.heap.size + 2, 6, none⟩) (by show w.heap.size + 2 ≠ w.heap.size; omega) _).other (p := ⟨w.heap.size + 2, 7, none⟩) (by show w.heap.size + 2 ≠ w.heap.size; omega) _).other (p := ⟨w.heap.size + 2, 8, none⟩) (by show w.heap.size + 2 ≠ w.heap.size; omega) _).ext ((Ext.refl _).drew)).cell rfl⟩) (fun hHeld => ?_)
  clear hK K
  try simp only [Act.put, List.setIfInBounds_toArray, List.set_cons_zero, List.set_cons_succ]
  refine wpAnyH_done (by kernel_rfl) ?_ _
  clear c0' c1' c2' c3' c4' c5' c6' c7' c8' c9' c10' c11' c12' f0 f1 f2 f3 f4 f5 f6 f7 f8 f9 f10 f11 f12
  have q0 : BoxIs (u.setCell ⟨w.heap.size + 2, 6, none⟩ (.int .i64 gx)) (w.heap.size + 2) #[.int .i64 1, .int .i64 0, .int .i64 0, .int .i64 0, .int .i64 0, .int .i64 0, .int .i64 gx, .int .i64 0, .slice none 0 0, .slice none 0 0, .slice none 0 0, .slice none 0 0, .slice none 0 0] 42 := HP.out.set (i := 6) (.int .i64 gx)
  have r0 := HR.out.other (p := ⟨w.heap.size + 2, 6, none⟩) (by show w.heap.size + 2 ≠ w.heap.size + 1; omega) (.int .i64 gx)
  have t0 := HE.out.setCell (p := ⟨w.heap.size + 2, 6, none⟩) (by show w.heap.size ≤ w.heap.size + 2; omega) (.int .i64 gx)
  have q1 : BoxIs ((u.setCell ⟨w.heap.size + 2, 6, none⟩ (.int .i64 gx)).setCell ⟨w.heap.size + 2, 7, none⟩ (.int .i64 gy)) (w.heap.size + 2) #[.int .i64 1, .int .i64 0, .int .i64 0, .int .i64 0, .int .i64 0, .int .i64 0, .int .i64 gx, .int .i64 gy, .slice none 0 0, .slice none 0 0, .slice none 0 0, .slice none 0 0, .slice none 0 0] 42 := q0.set (i := 7) (.int .i64 gy)
  have r1 := r0.other (p := ⟨w.heap.size + 2, 7, none⟩) (by show w.heap.size + 2 ≠ w.heap.size + 1; omega) (.int .i64 gy)
  have t1 := t0.setCell (p := ⟨w.heap.size + 2, 7, none⟩) (by show w.heap.size ≤ w.heap.size + 2; omega) (.int .i64 gy)
  have q2 : BoxIs (((u.setCell ⟨w.heap.size + 2, 6, none⟩ (.int .i64 gx)).setCell ⟨w.heap.size + 2, 7, none⟩ (.int .i64 gy)).setCell ⟨w.heap.size + 2, 8, none⟩ (.slice aL lL cL)) (w.heap.size + 2) #[.int .i64 1, .int .i64 0, .int .i64 0, .int .i64 0, .int .i64 0, .int .i64 0, .int .i64 gx, .int .i64 gy, .slice aL lL cL, .slice none 0 0, .slice none 0 0, .slice none 0 0, .slice none 0 0] 42 := q1.set (i := 8) (.slice aL lL cL)
  have r2 := r1.other (p := ⟨w.heap.size + 2, 8, none⟩) (by show w.heap.size + 2 ≠ w.heap.size + 1; omega) (.slice aL lL cL)
  have t2 := t1.setCell (p := ⟨w.heap.size + 2, 8, none⟩) (by show w.heap.size ≤ w.heap.size + 2; omega) (.slice aL lL cL)
  have Q9 := q2.ext ((Ext.refl _).drew)
  have R9 := r2.ext ((Ext.refl _).drew)
  have T9 := t2.trans ((Ext.refl _).drew)
  generalize World.drew _ = wz at Q9 R9 T9 ⊢
  obtain ⟨⟨k0, k1, k2, k3, k4, k5, k6, k7, k8, k9, k10, k11, k12⟩, -⟩ := sq_cells Q9
  obtain ⟨⟨e0, e1, e2, e3, e4, e5, e6, e7, e8, e9, e10, e11, e12⟩, f0, f1, f2, f3, f4, f5, f6, f7, f8, f9, f10, f11, f12⟩ := sq_cells R9
  go_wp2
  obtain ⟨⟨g0, g1, g2, g3, g4, g5, g6, g7, g8, g9, g10, g11, g12⟩, -⟩ := sq_cells (sq_put (v0 := .int .i64 1) (v1 := .int .i64 0) (v2 := .int .i64 0) (v3 := .int .i64 0) (v4 := .int .i64 0) (v5 := .int .i64 0) (v6 := .int .i64 gx) (v7 := .int .i64 gy) (v8 := .slice aL lL cL) (v9 := .slice none 0 0) (v10 := .slice none 0 0) (v11 := .slice none 0 0) (v12 := .slice none 0 0) R9)
  exact bodyPost_ret (v := .agg #[.int .i64 1, .int .i64 0, .int .i64 0, .int .i64 0, .int .i64 0, .int .i64 0, .int .i64 gx, .int .i64 gy, .slice aL lL cL, .slice none 0 0, .slice none 0 0, .slice none 0 0, .slice none 0 0]) (by simp [results, Tryz.results24, go_sem, g0, g1, g2, g3, g4, g5, g6, g7, g8, g9, g10, g11, g12]) rfl ⟨rfl, by
    repeat refine Ext.setCell ?_ (by show w.heap.size ≤ w.heap.size + 1; exact Nat.le_succ _) _
    exact T9⟩
set_option maxRecDepth 20000 in
set_option maxHeartbeats 4000000 in
theorem prt_2 (gm ga gb gc gd gx gy : Int) (vL v0 v1 v2 v3 : Value) (w : World) (hL : SlF vL) (h0 : SlF v0) (h1 : SlF v1) (h2 : SlF v2) (h3 : SlF v3) : Calls Tryz.prog 24 #[sqV 2 gm ga gb gc gd gx gy vL v0 v1 v2 v3] w fun e w' => e = .returned (sqV 2 gm 0 0 0 0 0 0 vL nilS nilS nilS nilS) ∧ Ext w w' := by
  obtain ⟨aL, lL, cL, rfl⟩ := hL
  obtain ⟨a0, l0, c0, rfl⟩ := h0
  obtain ⟨a1, l1, c1, rfl⟩ := h1
  obtain ⟨a2, l2, c2, rfl⟩ := h2
  obtain ⟨a3, l3, c3, rfl⟩ := h3
  have A0 := (BoxIs.new w #[.int .i64 2, .int .i64 gm, .int .i64 ga, .int .i64 gb, .int .i64 gc, .int .i64 gd, .int .i64 gx, .int .i64 gy, .slice aL lL cL, .slice a0 l0 c0, .slice a1 l1 c1, .slice a2 l2 c2, .slice a3 l3 c3] 36).ext ((Ext.refl _).alloc (.cells #[.int .i64 0, .int .i64 0, .int .i64 0, .int .i64 0, .int .i64 0, .int .i64 0, .int .i64 0, .int .i64 0, .slice none 0 0, .slice none 0 0, .slice none 0 0, .slice none 0 0, .slice none 0 0] 42))
  have A1 := BoxIs.new (w.alloc (.cells #[.int .i64 2, .int .i64 gm, .int .i64 ga, .int .i64 gb, .int .i64 gc, .int .i64 gd, .int .i64 gx, .int .i64 gy, .slice aL lL cL, .slice a0 l0 c0, .slice a1 l1 c1, .slice a2 l2 c2, .slice a3 l3 c3] 36)) #[.int .i64 0, .int .i64 0, .int .i64 0, .int .i64 0, .int .i64 0, .int .i64 0, .int .i64 0, .int .i64 0, .slice none 0 0, .slice none 0 0, .slice none 0 0, .slice none 0 0, .slice none 0 0] 42
  have hs : (w.alloc (.cells #[.int .i64 2, .int .i64 gm, .int .i64 ga, .int .i64 gb, .int .i64 gc, .int .i64 gd, .int .i64 gx, .int .i64 gy, .slice aL lL cL, .slice a0 l0 c0, .slice a1 l1 c1, .slice a2 l2 c2, .slice a3 l3 c3] 36)).heap.size = w.heap.size + 1 := by simp
  rw [hs] at A1
  have E2 := ((Ext.refl w).alloc (.cells #[.int .i64 2, .int .i64 gm, .int .i64 ga, .int .i64 gb, .int .i64 gc, .int .i64 gd, .int .i64 gx, .int .i64 gy, .slice aL lL cL, .slice a0 l0 c0, .slice a1 l1 c1, .slice a2 l2 c2, .slice a3 l3 c3] 36)).alloc (.cells #[.int .i64 0, .int .i64 0, .int .i64 0, .int .i64 0, .int .i64 0, .int .i64 0, .int .i64 0, .int .i64 0, .slice none 0 0, .slice none 0 0, .slice none 0 0, .slice none 0 0, .slice none 0 0] 42)
  have hs2 : ((w.alloc (.cells #[.int .i64 2, .int .i64 gm, .int .i64 ga, .int .i64 gb, .int .i64 gc, .int .i64 gd, .int .i64 gx, .int .i64 gy, .slice aL lL cL, .slice a0 l0 c0, .slice a1 l1 c1, .slice a2 l2 c2, .slice a3 l3 c3] 36)).alloc (.cells #[.int .i64 0, .int .i64 0, .int .i64 0, .int .i64 0, .int .i64 0, .int .i64 0, .int .i64 0, .int .i64 0, .slice none 0 0, .slice none 0 0, .slice none 0 0, .slice none 0 0, .slice none 0 0] 42)).heap.size = w.heap.size + 2 := by simp
  have N2 := BoxIs.new ((w.alloc (.cells #[.int .i64 2, .int .i64 gm, .int .i64 ga, .int .i64 gb, .int .i64 gc, .int .i64 gd, .int .i64 gx, .int .i64 gy, .slice aL lL cL, .slice a0 l0 c0, .slice a1 l1 c1, .slice a2 l2 c2, .slice a3 l3 c3] 36)).alloc (.cells #[.int .i64 0, .int .i64 0, .int .i64 0, .int .i64 0, .int .i64 0, .int .i64 0, .int .i64 0, .int .i64 0, .slice none 0 0, .slice none 0 0, .slice none 0 0, .slice none 0 0, .slice none 0 0] 42)) #[.int .i64 2, .int .i64 0, .int .i64 0, .int .i64 0, .int .i64 0, .int .i64 0, .int .i64 0, .int .i64 0, .slice none 0 0, .slice none 0 0, .slice none 0 0, .slice none 0 0, .slice none 0 0] 42
  rw [hs2] at N2
  have X2 := (Ext.refl ((w.alloc (.cells #[.int .i64 2, .int .i64 gm, .int .i64 ga, .int .i64 gb, .int .i64 gc, .int .i64 gd, .int .i64 gx, .int .i64 gy, .slice aL lL cL, .slice a0 l0 c0, .slice a1 l1 c1, .slice a2 l2 c2, .slice a3 l3 c3] 36)).alloc (.cells #[.int .i64 0, .int .i64 0, .int .i64 0, .int .i64 0, .int .i64 0, .int .i64 0, .int .i64 0, .int .i64 0, .slice none 0 0, .slice none 0 0, .slice none 0 0, .slice none 0 0, .slice none 0 0] 42))).alloc (.cells #[.int .i64 2, .int .i64 0, .int .i64 0, .int .i64 0, .int .i64 0, .int .i64 0, .int .i64 0, .int .i64 0, .slice none 0 0, .slice none 0 0, .slice none 0 0, .slice none 0 0, .slice none 0 0] 42)
  obtain ⟨⟨k0, k1, k2, k3, k4, k5, k6, k7, k8, k9, k10, k11, k12⟩, -⟩ := sq_cells A0
  obtain ⟨u, hu⟩ : ∃ z, ((w.alloc (.cells #[.int .i64 2, .int .i64 gm, .int .i64 ga, .int .i64 gb, .int .i64 gc, .int .i64 gd, .int .i64 gx, .int .i64 gy, .slice aL lL cL, .slice a0 l0 c0, .slice a1 l1 c1, .slice a2 l2 c2, .slice a3 l3 c3] 36)).alloc (.cells #[.int .i64 0, .int .i64 0, .int .i64 0, .int .i64 0, .int .i64 0, .int .i64 0, .int .i64 0, .int .i64 0, .slice none 0 0, .slice none 0 0, .slice none 0 0, .slice none 0 0, .slice none 0 0] 42)).alloc (.cells #[.int .i64 2, .int .i64 0, .int .i64 0, .int .i64 0, .int .i64 0, .int .i64 0, .int .i64 0, .int .i64 0, .slice none 0 0, .slice none 0 0, .slice none 0 0, .slice none 0 0, .slice none 0 0] 42) = z := ⟨_, rfl⟩
  rw [hu] at N2 X2
  have HB := Lib.hid (A0.ext X2)
  have HR := Lib.hid (A1.ext X2)
  have HE := Lib.hid (E2.trans X2)
  have HP := Lib.hid N2
  have HU := Lib.hid hu
  clear hu hs hs2 A0 A1 E2 N2 X2
  unfold sqV
  go_enter Tryz.func24, Tryz.ntmps24
  go_wp2_with fail
  rw [HU.out]
  clear HU k0 k1 k2 k3 k4 k5 k6 k7 k8 k9 k10 k11 k12
  refine wp_region_held_drew (S := fun w' => w'.cell? ⟨w.heap.size, 1, none⟩ = some (.int .i64 gm) ∧ w'.cell? ⟨w.heap.size, 8, none⟩ = some (.slice aL lL cL)) (by kernel_rfl) (⟨(HB.out.ext ((Ext.refl _).drew)).cell rfl, (HB.out.ext ((Ext.refl _).drew)).cell rfl⟩) (fun hHeld => ?_)
  refine wpAnyH_take (i := 0) (oi := { dst := some 19, op := Op.fieldAddr 36 (Operand.tmp 1) 1, type := 0, pos := "law.go:141", after := #[], guard := none }) (v := ?_) rfl (by kernel_rfl) (by kernel_rfl) (by kernel_rfl) (fun _ _ _ h => h) (Or.inl ⟨by rfl, ?_⟩) (by assumption) ?_
  case refine_2 => (intro w hSw; (try dsimp only at hSw); go_simp; (try with_reducible rfl))
  try simp only [Act.put, List.setIfInBounds_toArray, List.set_cons_zero, List.set_cons_succ]
  refine wpAnyH_take (i := 1) (oi := { dst := some 20, op := Op.load 3 (Operand.tmp 19), type := 3, pos := "law.go:141", after := #[{ on := 0, ground := Ground.data }], guard := none }) (v := ?_) rfl (by kernel_rfl) (by kernel_rfl) (by kernel_rfl) (fun _ _ _ h => h) (Or.inl ⟨by rfl, ?_⟩) (by assumption) ?_
  case refine_2 => (intro w hSw; (try dsimp only at hSw); go_simp; (try with_reducible rfl))
  try simp only [Act.put, List.setIfInBounds_toArray, List.set_cons_zero, List.set_cons_succ]
  refine wpAnyH_take (i := 2) (oi := { dst := some 21, op := Op.fieldAddr 36 (Operand.tmp 1) 4, type := 0, pos := "law.go:141", after := #[{ on := 5, ground := Ground.gcOnly Departure.lateStores }], guard := none }) (v := ?_) rfl (by kernel_rfl) (by kernel_rfl) (by kernel_rfl) (fun _ _ _ h => h) (Or.inl ⟨by rfl, ?_⟩) (by assumption) ?_
  case refine_2 => (intro w hSw; (try dsimp only at hSw); go_simp; (try with_reducible rfl))
  try simp only [Act.put, List.setIfInBounds_toArray, List.set_cons_zero, List.set_cons_succ]
  refine wpAnyH_take (i := 3) (oi := { dst := some 22, op := Op.load 33 (Operand.tmp 21), type := 33, pos := "law.go:141", after := #[{ on := 2, ground := Ground.data }, { on := 5, ground := Ground.gcOnly Departure.lateStores }], guard := none }) (v := ?_) rfl (by kernel_rfl) (by kernel_rfl) (by kernel_rfl) (fun _ _ _ h => h) (Or.inl ⟨by rfl, ?_⟩) (by assumption) ?_
  case refine_2 => (intro w hSw; (try dsimp only at hSw); go_simp; (try with_reducible rfl))
  try simp only [Act.put, List.setIfInBounds_toArray, List.set_cons_zero, List.set_cons_succ]
  refine wpAnyH_take (i := 4) (oi := { dst := some 23, op := Op.fieldAddr 42 (Operand.tmp 3) 1, type := 0, pos := "law.go:141", after := #[{ on := 0, ground := Ground.phase }, { on := 1, ground := Ground.phase }, { on := 2, ground := Ground.textOnly Departure.lateStores }, { on := 3, ground := Ground.textOnly Departure.lateStores }], guard := none }) (v := ?_) rfl (by kernel_rfl) (by kernel_rfl) (by kernel_rfl) (fun _ _ _ h => h) (Or.inl ⟨by rfl, ?_⟩) (by assumption) ?_
  case refine_2 => (intro w hSw; (try dsimp only at hSw); go_simp; (try with_reducible rfl))
  try simp only [Act.put, List.setIfInBounds_toArray, List.set_cons_zero, List.set_cons_succ]
  obtain ⟨⟨c0', c1', c2', c3', c4', c5', c6', c7', c8', c9', c10', c11', c12'⟩, f0, f1, f2, f3, f4, f5, f6, f7, f8, f9, f10, f11, f12⟩ := sq_cells HP.out
  refine wpAnyH_ready (rs := [5]) (by kernel_rfl) (by simp) ?_
  refine AllReadyH.cons (o := { dst := none, op := Op.store 3 (Operand.tmp 23) (Operand.tmp 20), type := 0, pos := "law.go:141", after := #[{ on := 4, ground := Ground.data }, { on := 1, ground := Ground.data }, { on := 0, ground := Ground.phase }, { on := 1, ground := Ground.phase }, { on := 2, ground := Ground.textOnly Departure.lateStores }, { on := 3, ground := Ground.textOnly Departure.lateStores }], guard := none }) rfl (fun K hK => ?_) AllReadyH.nil
  go_simp
  refine hK.out _ _ (⟨(((HB.out).other (p := ⟨w.heap.size + 2, 1, none⟩) (by show w.heap.size + 2 ≠ w.heap.size; omega) _).ext ((Ext.refl _).drew)).cell rfl, (((HB.out).other (p := ⟨w.heap.size + 2, 1, none⟩) (by show w.heap.size + 2 ≠ w.heap.size; omega) _).ext ((Ext.refl _).drew)).cell rfl⟩) (fun hHeld => ?_)
  clear hK K
  try simp only [Act.put, List.setIfInBounds_toArray, List.set_cons_zero, List.set_cons_succ]
  refine wpAnyH_take (i := 6) (oi := { dst := some 24, op := Op.fieldAddr 42 (Operand.tmp 3) 4, type := 0, pos := "law.go:141", after := #[{ on := 0, ground := Ground.phase }, { on := 1, ground := Ground.phase }, { on := 2, ground := Ground.phase }, { on := 3, ground := Ground.phase }, { on := 4, ground := Ground.phase }, { on := 5, ground := Ground.phase }], guard := none }) (v := ?_) rfl (by kernel_rfl) (by kernel_rfl) (by kernel_rfl) (fun _ _ _ h => h) (Or.inl ⟨by rfl, ?_⟩) (by assumption) ?_
  case refine_2 => (intro w hSw; (try dsimp only at hSw); go_simp; (try with_reducible rfl))
  try simp only [Act.put, List.setIfInBounds_toArray, List.set_cons_zero, List.set_cons_succ]
  refine wpAnyH_ready (rs := [7]) (by kernel_rfl) (by simp) ?_
  refine AllReadyH.cons (o := { dst := none, op := Op.store 33 (Operand.tmp 24) (Operand.tmp 22), type := 0, pos := "law.go:141", after := #[{ on := 6, ground := Ground.data }, { on := 3, ground := Ground.data }, { on := 5, ground := Ground.chain }, { on := 0, ground := Ground.phase }, { on := 1, ground := Ground.phase }, { on := 2, ground := Ground.phase }, { on := 3, ground := Ground.phase }, { on := 4, ground := Ground.phase }, { on := 5, ground := Ground.phase }], guard := none }) rfl (fun K hK => ?_) AllReadyH.nil
  go_simp
  refine hK.out _ _ (⟨((((HB.out).other (p := ⟨w.heap.size + 2, 1, none⟩) (by show w.heap.size + 2 ≠ w.heap.size; omega) _).other (p := ⟨w.heap.size + 2, 8, none⟩) (by show w.heap.size + 2 ≠ w.heap.size; omega) _).ext ((Ext.refl _).drew)).cell rfl, ((((HB.out).other (p := ⟨w.heap.size + 2, 1, none⟩) (by show w.heap.size + 2 ≠ w.heap.size; omega) _).other (p := ⟨w.heap.size + 2, 8, none⟩) (by show w.heap.size + 2 ≠ w.heap.size; omega) _).ext ((Ext.refl _).drew)).cell rfl⟩) (fun hHeld => ?_)
  clear hK K
  try simp only [Act.put, List.setIfInBounds_toArray, List.set_cons_zero, List.set_cons_succ]
  refine wpAnyH_done (by kernel_rfl) ?_ _
  clear c0' c1' c2' c3' c4' c5' c6' c7' c8' c9' c10' c11' c12' f0 f1 f2 f3 f4 f5 f6 f7 f8 f9 f10 f11 f12
  have q0 : BoxIs (u.setCell ⟨w.heap.size + 2, 1, none⟩ (.int .i64 gm)) (w.heap.size + 2) #[.int .i64 2, .int .i64 gm, .int .i64 0, .int .i64 0, .int .i64 0, .int .i64 0, .int .i64 0, .int .i64 0, .slice none 0 0, .slice none 0 0, .slice none 0 0, .slice none 0 0, .slice none 0 0] 42 := HP.out.set (i := 1) (.int .i64 gm)
  have r0 := HR.out.other (p := ⟨w.heap.size + 2, 1, none⟩) (by show w.heap.size + 2 ≠ w.heap.size + 1; omega) (.int .i64 gm)
  have t0 := HE.out.setCell (p := ⟨w.heap.size + 2, 1, none⟩) (by show w.heap.size ≤ w.heap.size + 2; omega) (.int .i64 gm)
  have q1 : BoxIs ((u.setCell ⟨w.heap.size + 2, 1, none⟩ (.int .i64 gm)).setCell ⟨w.heap.size + 2, 8, none⟩ (.slice aL lL cL)) (w.heap.size + 2) #[.int .i64 2, .int .i64 gm, .int .i64 0, .int .i64 0, .int .i64 0, .int .i64 0, .int .i64 0, .int .i64 0, .slice aL lL cL, .slice none 0 0, .slice none 0 0, .slice none 0 0, .slice none 0 0] 42 := q0.set (i := 8) (.slice aL lL cL)
  have r1 := r0.other (p := ⟨w.heap.size + 2, 8, none⟩) (by show w.heap.size + 2 ≠ w.heap.size + 1; omega) (.slice aL lL cL)
  have t1 := t0.setCell (p := ⟨w.heap.size + 2, 8, none⟩) (by show w.heap.size ≤ w.heap.size + 2; omega) (.slice aL lL cL)
  have Q9 := q1.ext ((Ext.refl _).drew)
  have R9 := r1.ext ((Ext.refl _).drew)
  have T9 := t1.trans ((Ext.refl _).drew)
  generalize World.drew _ = wz at Q9 R9 T9 ⊢
  obtain ⟨⟨k0, k1, k2, k3, k4, k5, k6, k7, k8, k9, k10, k11, k12⟩, -⟩ := sq_cells Q9
  obtain ⟨⟨e0, e1, e2, e3, e4, e5, e6, e7, e8, e9, e10, e11, e12⟩, f0, f1, f2, f3, f4, f5, f6, f7, f8, f9, f10, f11, f12⟩ := sq_cells R9
  go_wp2
  obtain ⟨⟨g0, g1, g2, g3, g4, g5, g6, g7, g8, g9, g10, g11, g12⟩, -⟩ := sq_cells (sq_put (v0 := .int .i64 2) (v1 := .int .i64 gm) (v2 := .int .i64 0) (v3 := .int .i64 0) (v4 := .int .i64 0) (v5 := .int .i64 0) (v6 := .int .i64 0) (v7 := .int .i64 0) (v8 := .slice aL lL cL) (v9 := .slice none 0 0) (v10 := .slice none 0 0) (v11 := .slice none 0 0) (v12 := .slice none 0 0) R9)
  exact bodyPost_ret (v := .agg #[.int .i64 2, .int .i64 gm, .int .i64 0, .int .i64 0, .int .i64 0, .int .i64 0, .int .i64 0, .int .i64 0, .slice aL lL cL, .slice none 0 0, .slice none 0 0, .slice none 0 0, .slice none 0 0]) (by simp [results, Tryz.results24, go_sem, g0, g1, g2, g3, g4, g5, g6, g7, g8, g9, g10, g11, g12]) rfl ⟨rfl, by
    repeat refine Ext.setCell ?_ (by show w.heap.size ≤ w.heap.size + 1; exact Nat.le_succ _) _
    exact T9⟩
set_option maxRecDepth 20000 in
set_option maxHeartbeats 4000000 in
theorem prt_3 (gm ga gb gc gd gx gy : Int) (vL v0 v1 v2 v3 : Value) (w : World) (hL : SlF vL) (h0 : SlF v0) (h1 : SlF v1) (h2 : SlF v2) (h3 : SlF v3) : Calls Tryz.prog 24 #[sqV 3 gm ga gb gc gd gx gy vL v0 v1 v2 v3] w fun e w' => e = .returned (sqV 3 0 ga gb gc gd 0 0 nilS v0 v1 v2 v3) ∧ Ext w w' := by
  obtain ⟨aL, lL, cL, rfl⟩ := hL
  obtain ⟨a0, l0, c0, rfl⟩ := h0
  obtain ⟨a1, l1, c1, rfl⟩ := h1
  obtain ⟨a2, l2, c2, rfl⟩ := h2
  obtain ⟨a3, l3, c3, rfl⟩ := h3
  have A0 := (BoxIs.new w #[.int .i64 3, .int .i64 gm, .int .i64 ga, .int .i64 gb, .int .i64 gc, .int .i64 gd, .int .i64 gx, .int .i64 gy, .slice aL lL cL, .slice a0 l0 c0, .slice a1 l1 c1, .slice a2 l2 c2, .slice a3 l3 c3] 36).ext ((Ext.refl _).alloc (.cells #[.int .i64 0, .int .i64 0, .int .i64 0, .int .i64 0, .int .i64 0, .int .i64 0, .int .i64 0, .int .i64 0, .slice none 0 0, .slice none 0 0, .slice none 0 0, .slice none 0 0, .slice none 0 0] 42))
  have A1 := BoxIs.new (w.alloc (.cells #[.int .i64 3, .int .i64 gm, .int .i64 ga, .int .i64 gb, .int .i64 gc, .int .i64 gd, .int .i64 gx, .int .i64 gy, .slice aL lL cL, .slice a0 l0 c0, .slice a1 l1 c1, .slice a2 l2 c2, .slice a3 l3 c3] 36)) #[.int .i64 0, .int .i64 0, .int .i64 0, .int .i64 0, .int .i64 0, .int .i64 0, .int .i64 0, .int .i64 0, .slice none 0 0, .slice none 0 0, .slice none 0 0, .slice none 0 0, .slice none 0 0] 42
  have hs : (w.alloc (.cells #[.int .i64 3, .int .i64 gm, .int .i64 ga, .int .i64 gb, .int .i64 gc, .int .i64 gd, .int .i64 gx, .int .i64 gy, .slice aL lL cL, .slice a0 l0 c0, .slice a1 l1 c1, .slice a2 l2 c2, .slice a3 l3 c3] 36)).heap.size = w.heap.size + 1 := by simp
  rw [hs] at A1
  have E2 := ((Ext.refl w).alloc (.cells #[.int .i64 3, .int .i64 gm, .int .i64 ga, .int .i64 gb, .int .i64 gc, .int .i64 gd, .int .i64 gx, .int .i64 gy, .slice aL lL cL, .slice a0 l0 c0, .slice a1 l1 c1, .slice a2 l2 c2, .slice a3 l3 c3] 36)).alloc (.cells #[.int .i64 0, .int .i64 0, .int .i64 0, .int .i64 0, .int .i64 0, .int .i64 0, .int .i64 0, .int .i64 0, .slice none 0 0, .slice none 0 0, .slice none 0 0, .slice none 0 0, .slice none 0 0] 42)
  have hs2 : ((w.alloc (.cells #[.int .i64 3, .int .i64 gm, .int .i64 ga, .int .i64 gb, .int .i64 gc, .int .i64 gd, .int .i64 gx, .int .i64 gy, .slice aL lL cL, .slice a0 l0 c0, .slice a1 l1 c1, .slice a2 l2 c2, .slice a3 l3 c3] 36)).alloc (.cells #[.int .i64 0, .int .i64 0, .int .i64 0, .int .i64 0, .int .i64 0, .int .i64 0, .int .i64 0, .int .i64 0, .slice none 0 0, .slice none 0 0, .slice none 0 0, .slice none 0 0, .slice none 0 0] 42)).heap.size = w.heap.size + 2 := by simp
  have N2 := BoxIs.new ((w.alloc (.cells #[.int .i64 3, .int .i64 gm, .int .i64 ga, .int .i64 gb, .int .i64 gc, .int .i64 gd, .int .i64 gx, .int .i64 gy, .slice aL lL cL, .slice a0 l0 c0, .slice a1 l1 c1, .slice a2 l2 c2, .slice a3 l3 c3] 36)).alloc (.cells #[.int .i64 0, .int .i64 0, .int .i64 0, .int .i64 0, .int .i64 0, .int .i64 0, .int .i64 0, .int .i64 0, .slice none 0 0, .slice none 0 0, .slice none 0 0, .slice none 0 0, .slice none 0 0] 42)) #[.int .i64 3, .int .i64 0, .int .i64 0, .int .i64 0, .int .i64 0, .int .i64 0, .int .i64 0, .int .i64 0, .slice none 0 0, .slice none 0 0, .slice none 0 0, .slice none 0 0, .slice none 0 0] 42
  rw [hs2] at N2
  have X2 := (Ext.refl ((w.alloc (.cells #[.int .i64 3, .int .i64 gm, .int .i64 ga, .int .i64 gb, .int .i64 gc, .int .i64 gd, .int .i64 gx, .int .i64 gy, .slice aL lL cL, .slice a0 l0 c0, .slice a1 l1 c1, .slice a2 l2 c2, .slice a3 l3 c3] 36)).alloc (.cells #[.int .i64 0, .int .i64 0, .int .i64 0, .int .i64 0, .int .i64 0, .int .i64 0, .int .i64 0, .int .i64 0, .slice none 0 0, .slice none 0 0, .slice none 0 0, .slice none 0 0, .slice none 0 0] 42))).alloc (.cells #[.int .i64 3, .int .i64 0, .int .i64 0, .int .i64 0, .int .i64 0, .int .i64 0, .int .i64 0, .int .i64 0, .slice none 0 0, .slice none 0 0, .slice none 0 0, .slice none 0 0, .slice none 0 0] 42)
  obtain ⟨⟨k0, k1, k2, k3, k4, k5, k6, k7, k8, k9, k10, k11, k12⟩, -⟩ := sq_cells A0
  obtain ⟨u, hu⟩ : ∃ z, ((w.alloc (.cells #[.int .i64 3, .int .i64 gm, .int .i64 ga, .int .i64 gb, .int .i64 gc, .int .i64 gd, .int .i64 gx, .int .i64 gy, .slice aL lL cL, .slice a0 l0 c0, .slice a1 l1 c1, .slice a2 l2 c2, .slice a3 l3 c3] 36)).alloc (.cells #[.int .i64 0, .int .i64 0, .int .i64 0, .int .i64 0, .int .i64 0, .int .i64 0, .int .i64 0, .int .i64 0, .slice none 0 0, .slice none 0 0, .slice none 0 0, .slice none 0 0, .slice none 0 0] 42)).alloc (.cells #[.int .i64 3, .int .i64 0, .int .i64 0, .int .i64 0, .int .i64 0, .int .i64 0, .int .i64 0, .int .i64 0, .slice none 0 0, .slice none 0 0, .slice none 0 0, .slice none 0 0, .slice none 0 0] 42) = z := ⟨_, rfl⟩
  rw [hu] at N2 X2
  have HB := Lib.hid (A0.ext X2)
  have HR := Lib.hid (A1.ext X2)
  have HE := Lib.hid (E2.trans X2)
  have HP := Lib.hid N2
  have HU := Lib.hid hu
  clear hu hs hs2 A0 A1 E2 N2 X2
  unfold sqV
  go_enter Tryz.func24, Tryz.ntmps24
  go_wp2_with fail
  rw [HU.out]
  clear HU k0 k1 k2 k3 k4 k5 k6 k7 k8 k9 k10 k11 k12
  refine wp_region_held_drew (S := fun w' => w'.cell? ⟨w.heap.size, 2, none⟩ = some (.int .i64 ga) ∧ w'.cell? ⟨w.heap.size, 3, none⟩ = some (.int .i64 gb) ∧ w'.cell? ⟨w.heap.size, 4, none⟩ = some (.int .i64 gc) ∧ w'.cell? ⟨w.heap.size, 5, none⟩ = some (.int .i64 gd) ∧ w'.cell? ⟨w.heap.size, 9, none⟩ = some (.slice a0 l0 c0) ∧ w'.cell? ⟨w.heap.size, 10, none⟩ = some (.slice a1 l1 c1) ∧ w'.cell? ⟨w.heap.size, 11, none⟩ = some (.slice a2 l2 c2) ∧ w'.cell? ⟨w.heap.size, 12, none⟩ = some (.slice a3 l3 c3)) (by kernel_rfl) (⟨(HB.out.ext ((Ext.refl _).drew)).cell rfl, (HB.out.ext ((Ext.refl _).drew)).cell rfl, (HB.out.ext ((Ext.refl _).drew)).cell rfl, (HB.out.ext ((Ext.refl _).drew)).cell rfl, (HB.out.ext ((Ext.refl _).drew)).cell rfl, (HB.out.ext ((Ext.refl _).drew)).cell rfl, (HB.out.ext ((Ext.refl _).drew)).cell rfl, (HB.out.ext ((Ext.refl _).drew)).cell rfl⟩) (fun hHeld => ?_)
  refine wpAnyH_take (i := 0) (oi := { dst := some 27, op := Op.fieldAddr 36 (Operand.tmp 1) 2, type := 0, pos := "law.go:143", after := #[], guard := none }) (v := ?_) rfl (by kernel_rfl) (by kernel_rfl) (by kernel_rfl) (fun _ _ _ h => h) (Or.inl ⟨by rfl, ?_⟩) (by assumption) ?_
  case refine_2 => (intro w hSw; (try dsimp only at hSw); go_simp; (try with_reducible rfl))
  try simp only [Act.put, List.setIfInBounds_toArray, List.set_cons_zero, List.set_cons_succ]
  refine wpAnyH_take (i := 1) (oi := { dst := some 28, op := Op.load 30 (Operand.tmp 27), type := 30, pos := "law.go:143", after := #[{ on := 0, ground := Ground.data }], guard := none }) (v := ?_) rfl (by kernel_rfl) (by kernel_rfl) (by kernel_rfl) (fun _ _ _ h => h) (Or.inl ⟨by rfl, ?_⟩) (by assumption) ?_
  case refine_2 => (intro w hSw; (try dsimp only at hSw); go_simp; (try with_reducible rfl))
  try simp only [Act.put, List.setIfInBounds_toArray, List.set_cons_zero, List.set_cons_succ]
  refine wpAnyH_take (i := 2) (oi := { dst := some 29, op := Op.fieldAddr 36 (Operand.tmp 1) 5, type := 0, pos := "law.go:143", after := #[{ on := 5, ground := Ground.gcOnly Departure.lateStores }], guard := none }) (v := ?_) rfl (by kernel_rfl) (by kernel_rfl) (by kernel_rfl) (fun _ _ _ h => h) (Or.inl ⟨by rfl, ?_⟩) (by assumption) ?_
  case refine_2 => (intro w hSw; (try dsimp only at hSw); go_simp; (try with_reducible rfl))
  try simp only [Act.put, List.setIfInBounds_toArray, List.set_cons_zero, List.set_cons_succ]
  refine wpAnyH_take (i := 3) (oi := { dst := some 30, op := Op.load 34 (Operand.tmp 29), type := 34, pos := "law.go:143", after := #[{ on := 2, ground := Ground.data }, { on := 5, ground := Ground.gcOnly Departure.lateStores }], guard := none }) (v := ?_) rfl (by kernel_rfl) (by kernel_rfl) (by kernel_rfl) (fun _ _ _ h => h) (Or.inl ⟨by rfl, ?_⟩) (by assumption) ?_
  case refine_2 => (intro w hSw; (try dsimp only at hSw); go_simp; (try with_reducible rfl))
  try simp only [Act.put, List.setIfInBounds_toArray, List.set_cons_zero, List.set_cons_succ]
  refine wpAnyH_take (i := 4) (oi := { dst := some 31, op := Op.fieldAddr 42 (Operand.tmp 3) 2, type := 0, pos := "law.go:143", after := #[{ on := 0, ground := Ground.phase }, { on := 1, ground := Ground.phase }, { on := 2, ground := Ground.textOnly Departure.lateStores }, { on := 3, ground := Ground.textOnly Departure.lateStores }], guard := none }) (v := ?_) rfl (by kernel_rfl) (by kernel_rfl) (by kernel_rfl) (fun _ _ _ h => h) (Or.inl ⟨by rfl, ?_⟩) (by assumption) ?_
  case refine_2 => (intro w hSw; (try dsimp only at hSw); go_simp; (try with_reducible rfl))
  try simp only [Act.put, List.setIfInBounds_toArray, List.set_cons_zero, List.set_cons_succ]
  obtain ⟨⟨c0', c1', c2', c3', c4', c5', c6', c7', c8', c9', c10', c11', c12'⟩, f0, f1, f2, f3, f4, f5, f6, f7, f8, f9, f10, f11, f12⟩ := sq_cells HP.out
  refine wpAnyH_ready (rs := [5]) (by kernel_rfl) (by simp) ?_
  refine AllReadyH.cons (o := { dst := none, op := Op.store 30 (Operand.tmp 31) (Operand.tmp 28), type := 0, pos := "law.go:143", after := #[{ on := 4, ground := Ground.data }, { on := 1, ground := Ground.data }, { on := 0, ground := Ground.phase }, { on := 1, ground := Ground.phase }, { on := 2, ground := Ground.textOnly Departure.lateStores }, { on := 3, ground := Ground.textOnly Departure.lateStores }], guard := none }) rfl (fun K hK => ?_) AllReadyH.nil
  go_simp
  refine hK.out _ _ (⟨((((((HB.out).other (p := ⟨w.heap.size + 2, 2, none⟩) (by show w.heap.size + 2 ≠ w.heap.size; omega) _).other (p := ⟨w.heap.size + 2, 3, none⟩) (by show w.heap.size + 2 ≠ w.heap.size; omega) _).other (p := ⟨w.heap.size + 2, 4, none⟩) (by show w.heap.size + 2 ≠ w.heap.size; omega) _).other (p := ⟨w.heap.size + 2, 5, none⟩) (by show w.heap.size + 2 ≠ w.heap.size; omega) _).ext ((Ext.refl _).drew)).cell rfl, ((((((HB.out).other (p := ⟨w.heap.size + 2, 2, none⟩) (by show w.heap.size + 2 ≠ w.heap.size; omega) _).other (p := ⟨w.heap.size + 2, 3, none⟩) (by show w.heap.size + 2 ≠ w.heap.size; omega) _).other (p := ⟨w.heap.size + 2, 4, none⟩) (by show w.heap.size + 2 ≠ w.heap.size; omega) _).other (p := ⟨w.heap.size + 2, 5, none⟩) (by show w.heap.size + 2 ≠ w.heap.size; omega) _).ext ((Ext.refl _).drew)).cell rfl, ((((((HB.out).other (p := ⟨w.heap.size + 2, 2, none⟩) (by show w.heap.size + 2 ≠ w.heap.size; omega) _).other (p := ⟨w.heap.size + 2, 3, none⟩) (by show w.heap.size + 2 ≠ w.heap.size; omega) _).other (p := ⟨w.heap.size + 2, 4, none⟩) (by show w.heap.size + 2 ≠ w.heap.size; omega) _).other (p := ⟨w.heap.size + 2, 5, none⟩) (by show w.heap.size + 2 ≠ w.heap.size; omega) _).ext ((Ext.refl _).drew)).cell rfl, ((((((HB.out).other (p := ⟨w.heap.size + 2, 2, none⟩) (by show w.heap.size + 2 ≠ w.heap.size; omega) _).other (p := ⟨w.heap.size + 2, 3, none⟩) (by show w.heap.size + 2 ≠ w.heap.size; omega) _).other (p := ⟨w.heap.size + 2, 4, none⟩) (by show w.heap.size + 2 ≠ w.heap.size; omega) _).other (p := ⟨w.heap.size + 2, 5, none⟩) (by show w.heap.size + 2 ≠ w.heap.size; omega) _).ext ((Ext.refl _).drew)).cell rfl, ((((((HB.out).other (p := ⟨w.heap.size + 2, 2, none⟩) (by show w.heap.size + 2 ≠ w.heap.size; omega) _).other (p := ⟨w.heap.size + 2, 3, none⟩) (by show w.heap.size + 2 ≠ w.heap.size; omega) _).other (p := ⟨w.heap.size + 2, 4, none⟩) (by show w.heap.size + 2 ≠ w.heap.size; omega) _).other (p := ⟨w.heap.size + 2, 5, none⟩) (by show w.heap.size + 2 ≠ w.heap.size; omega) _).ext ((Ext.refl _).drew)).cell rfl, ((((((HB.out).other (p := ⟨w.heap.size + 2, 2, none⟩) (by show w.heap.size + 2 ≠ w.heap.size; omega) _).other (p := ⟨w.heap.size + 2, 3, none⟩) (by show w.heap.size + 2 ≠ w.heap.size; omega) _).other (p := ⟨w.heap.size + 2, 4, none⟩) (by show w.heap.size + 2 ≠ w.heap.size; omega) _).other (p := ⟨w.heap.size + 2, 5, none⟩) (by show w.heap.size + 2 ≠ w.heap.size; omega) _).ext ((Ext.refl _).drew)).cell rfl, ((((((HB.out).other (p := ⟨w.heap.size + 2, 2, none⟩) (by show w.heap.size + 2 ≠ w.heap.size; omega) _).other (p := ⟨w.heap.size + 2, 3, none⟩) (by show w.heap.size + 2 ≠ w.heap.size; omega) _).other (p := ⟨w.heap.size + 2, 4, none⟩) (by show w.heap.size + 2 ≠ w.heap.size; omega) _).other (p := ⟨w.heap.size + 2, 5, none⟩) (by show w.heap.size + 2 ≠ w.heap.size; omega) _).ext ((Ext.refl _).drew)).cell rfl, ((((((HB.out).other (p := ⟨w.heap.size + 2, 2, none⟩) (by show w.heap.size + 2 ≠ w.heap.size; omega) _).other (p := ⟨w.heap.size + 2, 3, none⟩) (by show w.heap.size + 2 ≠ w.heap.size; omega) _).other (p := ⟨w.heap.size + 2, 4, none⟩) (by show w.heap.size + 2 ≠ w.heap.size; omega) _).other (p := ⟨w.heap.size + 2, 5, none⟩) (by show w.heap.size + 2 ≠ w.heap.size; omega) _).ext ((Ext.refl _).drew)).cell rfl⟩) (fun hHeld => ?_)
  clear hK K
  try simp only [Act.put, List.setIfInBounds_toArray, List.set_cons_zero, List.set_cons_succ]
  refine wpAnyH_take (i := 6) (oi := { dst := some 32, op := Op.fieldAddr 42 (Operand.tmp 3) 5, type := 0, pos := "law.go:143", after := #[{ on := 0, ground := Ground.phase }, { on := 1, ground := Ground.phase }, { on := 2, ground := Ground.phase }, { on := 3, ground := Ground.phase }, { on := 4, ground := Ground.phase }, { on := 5, ground := Ground.phase }], guard := none }) (v := ?_) rfl (by kernel_rfl) (by kernel_rfl) (by kernel_rfl) (fun _ _ _ h => h) (Or.inl ⟨by rfl, ?_⟩) (by assumption) ?_
  case refine_2 => (intro w hSw; (try dsimp only at hSw); go_simp; (try with_reducible rfl))
  try simp only [Act.put, List.setIfInBounds_toArray, List.set_cons_zero, List.set_cons_succ]
  refine wpAnyH_ready (rs := [7]) (by kernel_rfl) (by simp) ?_
  refine AllReadyH.cons (o := { dst := none, op := Op.store 34 (Operand.tmp 32) (Operand.tmp 30), type := 0, pos := "law.go:143", after := #[{ on := 6, ground := Ground.data }, { on := 3, ground := Ground.data }, { on := 5, ground := Ground.chain }, { on := 0, ground := Ground.phase }, { on := 1, ground := Ground.phase }, { on := 2, ground := Ground.phase }, { on := 3, ground := Ground.phase }, { on := 4, ground := Ground.phase }, { on := 5, ground := Ground.phase }], guard := none }) rfl (fun K hK => ?_) AllReadyH.nil
  go_simp
  refine hK.out _ _ (⟨((((((((((HB.out).other (p := ⟨w.heap.size + 2, 2, none⟩) (by show w.heap.size + 2 ≠ w.heap.size; omega) _).other (p := ⟨w.heap.size + 2, 3, none⟩) (by show w.heap.size + 2 ≠ w.heap.size; omega) _).other (p := ⟨w.heap.size + 2, 4, none⟩) (by show w.heap.size + 2 ≠ w.heap.size; omega) _).other (p := ⟨w.heap.size + 2, 5, none⟩) (by show w.heap.size + 2 ≠ w.heap.size; omega) _).other (p := ⟨w.heap.size + 2, 9, none⟩) (by show w.heap.size + 2 ≠ w.heap.size; omega) _).other (p := ⟨w.heap.size + 2, 10, none⟩) (by show w.heap.size + 2 ≠ w.heap.size; omega) _).other (p := ⟨w.heap.size + 2, 11, none⟩) (by show w.heap.size + 2 ≠ w.heap.size; omega) _).other (p := ⟨w.heap.size + 2, 12, none⟩) (by show w.heap.size + 2 ≠ w.heap.size; omega) _).ext ((Ext.refl _).drew)).cell rfl, ((((((((((HB.out).other (p := ⟨w.heap.size + 2, 2, none⟩) (by show w.heap.size + 2 ≠ w.heap.size; omega) _).other (p := ⟨w.heap.size + 2, 3, none⟩) (by show w.heap.size + 2 ≠ w.heap.size; omega) _).other (p := ⟨w.heap.size + 2, 4, none⟩) (by show w.heap.size + 2 ≠ w.heap.size; omega) _).other (p := ⟨w.heap.size + 2, 5, none⟩) (by show w.heap.size + 2 ≠ w.heap.size; omega) _).other (p := ⟨w.heap.size + 2, 9, none⟩) (by show w.heap.size + 2 ≠ w.heap.size; omega) _).other (p := ⟨w.heap.size + 2, 10, none⟩) (by show w.heap.size + 2 ≠ w.heap.size; omega) _).other (p := ⟨w.heap.size + 2, 11, none⟩) (by show w.heap.size + 2 ≠ w.heap.size; omega) _).other (p := ⟨w.heap.size + 2, 12, none⟩) (by show w.heap.size + 2 ≠ w.heap.size; omega) _).ext ((Ext.refl _).drew)).cell rfl, ((((((((((HB.out).other (p := ⟨w.heap.size + 2, 2, none⟩) (by show w.heap.size + 2 ≠ w.heap.size; omega) _).other (p := ⟨w.heap.size + 2, 3, none⟩) (by show w.heap.size + 2 ≠ w.heap.size; omega) _).other (p := ⟨w.heap.size + 2, 4, none⟩) (by show w.heap.size + 2 ≠ w.heap.size; omega) _).other (p := ⟨w.heap.size + 2, 5, none⟩) (by show w.heap.size + 2 ≠ w.heap.size; omega) _).other (p := ⟨w.heap.size + 2, 9, none⟩) (by show w.heap.size + 2 ≠ w.heap.size; omega) _).other (p := ⟨w.heap.size + 2, 10, none⟩) (by show w.heap.size + 2 ≠ w.heap.size; omega) _).other (p := ⟨w.heap.size + 2, 11, none⟩) (by show w.heap.size + 2 ≠ w.heap.size; omega) _).other (p := ⟨w.heap.size + 2, 12, none⟩) (by show w.heap.size + 2 ≠ w.heap.size; omega) _).ext ((Ext.refl _).drew)).cell rfl, ((((((((((HB.out).other (p := ⟨w.heap.size + 2, 2, none⟩) (by show w.heap.size + 2 ≠ w.heap.size; omega) _).other (p := ⟨w.heap.size + 2, 3, none⟩) (by show w.heap.size + 2 ≠ w.heap.size; omega) _).other (p := ⟨w.heap.size + 2, 4, none⟩) (by show w.heap.size + 2 ≠ w.heap.size; omega) _).other (p := ⟨w.heap.size + 2, 5, none⟩) (by show w.heap.size + 2 ≠ w.heap.size; omega) _).other (p := ⟨w.heap.size + 2, 9, none⟩) (by show w.heap.size + 2 ≠ w.heap.size; omega) _).other (p := ⟨w.heap.size + 2, 10, none⟩) (by show w.heap.size + 2 ≠ w.heap.size; omega) _).other (p := ⟨w.heap.size + 2, 11, none⟩) (by show w.heap.size + 2 ≠ w.heap.size; omega) _).other (p := ⟨w.heap.size + 2, 12, none⟩) (by show w.heap.size + 2 ≠ w.heap.size; omega) _).ext ((Ext.refl _).drew)).cell rfl, ((((((((((HB.out).other (p := ⟨w.heap.size + 2, 2, none⟩) (by show w.heap.size + 2 ≠ w.heap.size; omega) _).other (p := ⟨w.heap.size + 2, 3, none⟩) (by show w.heap.size + 2 ≠ w.heap.size; omega) _).other (p := ⟨w.heap.size + 2, 4, none⟩) (by show w.heap.size + 2 ≠ w.heap.size; omega) _).other (p := ⟨w.heap.size + 2, 5, none⟩) (by show w.heap.size + 2 ≠ w.heap.size; omega) _).other (p := ⟨w.heap.size + 2, 9, none⟩) (by show w.heap.size + 2 ≠ w.heap.size; omega) _).other (p := ⟨w.heap.size + 2, 10, none⟩) (by show w.heap.size + 2 ≠ w.heap.size; omega) _).other (p := ⟨w.heap.size + 2, 11, none⟩) (by show w.heap.size + 2 ≠ w.heap.size; omega) _).other (p := ⟨w.heap.size + 2, 12, none⟩) (by show w.heap.size + 2 ≠ w.heap.size; omega) _).ext ((Ext.refl _).drew)).cell rfl, ((((((((((HB.out).other (p := ⟨w.heap.size + 2, 2, none⟩) (by show w.heap.size + 2 ≠ w.heap.size; omega) _).other (p := ⟨w.heap.size + 2, 3, none⟩) (by show w.heap.size + 2 ≠ w.heap.size; omega) _).other (p := ⟨w.heap.size + 2, 4, none⟩) (by show w.heap.size + 2 ≠ w.heap.size; omega) _).other (p := ⟨w.heap.size + 2, 5, none⟩) (by show w.heap.size + 2 ≠ w.heap.size; omega) _).other (p := ⟨w.heap.size + 2, 9, none⟩) (by show w.heap.size + 2 ≠ w.heap.size; omega) _).other (p := ⟨w.heap.size + 2, 10, none⟩) (by show w.heap.size + 2 ≠ w.heap.size; omega) _).other (p := ⟨w.heap.size + 2, 11, none⟩) (by show w.heap.size + 2 ≠ w.heap.size; omega) _).other (p := ⟨w.heap.size + 2, 12, none⟩) (by show w.heap.size + 2 ≠ w.heap.size; omega) _).ext ((Ext.refl _).drew)).cell rfl, ((((((((((HB.out).other (p := ⟨w.heap.size + 2, 2, none⟩) (by show w.heap.size + 2 ≠ w.heap.size; omega) _).other (p := ⟨w.heap.size + 2, 3, none⟩) (by show w.heap.size + 2 ≠ w.heap.size; omega) _).other (p := ⟨w.heap.size + 2, 4, none⟩) (by show w.heap.size + 2 ≠ w.heap.size; omega) _).other (p := ⟨w.heap.size + 2, 5, none⟩) (by show w.heap.size + 2 ≠ w.heap.size; omega) _).other (p := ⟨w.heap.size + 2, 9, none⟩) (by show w.heap.size + 2 ≠ w.heap.size; omega) _).other (p := ⟨w.heap.size + 2, 10, none⟩) (by show w.heap.size + 2 ≠ w.heap.size; omega) _).other (p := ⟨w.heap.size + 2, 11, none⟩) (by show w.heap.size + 2 ≠ w.heap.size; omega) _).other (p := ⟨w.heap.size + 2, 12, none⟩) (by show w.heap.size + 2 ≠ w.heap.size; omega) _).ext ((Ext.refl _).drew)).cell rfl, ((((((((((HB.out).other (p := ⟨w.heap.size + 2, 2, none⟩) (by show w.heap.size + 2 ≠ w.heap.size; omega) _).other (p := ⟨w.heap.size + 2, 3, none⟩) (by show w.heap.size + 2 ≠ w.heap.size; omega) _).other (p := ⟨w.heap.size + 2, 4, none⟩) (by show w.heap.size + 2 ≠ w.heap.size; omega) _).other (p := ⟨w.heap.size + 2, 5, none⟩) (by show w.heap.size + 2 ≠ w.heap.size; omega) _).other (p := ⟨w.heap.size + 2, 9, none⟩) (by show w.heap.size + 2 ≠ w.heap.size; omega) _).other (p := ⟨w.heap.size + 2, 10, none⟩) (by show w.heap.size + 2 ≠ w.heap.size; omega) _).other (p := ⟨w.heap.size + 2, 11, none⟩) (by show w.heap.size + 2 ≠ w.heap.size; omega) _).other (p := ⟨w.heap.size + 2, 12, none⟩) (by show w.heap.size + 2 ≠ w.heap.size; omega) _).ext ((Ext.refl _).drew)).cell rfl⟩) (fun hHeld => ?_)
  clear hK K
  try simp only [Act.put, List.setIfInBounds_toArray, List.set_cons_zero, List.set_cons_succ]
  refine wpAnyH_done (by kernel_rfl) ?_ _
  clear c0' c1' c2' c3' c4' c5' c6' c7' c8' c9' c10' c11' c12' f0 f1 f2 f3 f4 f5 f6 f7 f8 f9 f10 f11 f12
  have q0 : BoxIs (u.setCell ⟨w.heap.size + 2, 2, none⟩ (.int .i64 ga)) (w.heap.size + 2) #[.int .i64 3, .int .i64 0, .int .i64 ga, .int .i64 0, .int .i64 0, .int .i64 0, .int .i64 0, .int .i64 0, .slice none 0 0, .slice none 0 0, .slice none 0 0, .slice none 0 0, .slice none 0 0] 42 := HP.out.set (i := 2) (.int .i64 ga)
  have r0 := HR.out.other (p := ⟨w.heap.size + 2, 2, none⟩) (by show w.heap.size + 2 ≠ w.heap.size + 1; omega) (.int .i64 ga)
  have t0 := HE.out.setCell (p := ⟨w.heap.size + 2, 2, none⟩) (by show w.heap.size ≤ w.heap.size + 2; omega) (.int .i64 ga)
  have q1 : BoxIs ((u.setCell ⟨w.heap.size + 2, 2, none⟩ (.int .i64 ga)).setCell ⟨w.heap.size + 2, 3, none⟩ (.int .i64 gb)) (w.heap.size + 2) #[.int .i64 3, .int .i64 0, .int .i64 ga, .int .i64 gb, .int .i64 0, .int .i64 0, .int .i64 0, .int .i64 0, .slice none 0 0, .slice none 0 0, .slice none 0 0, .slice none 0 0, .slice none 0 0] 42 := q0.set (i := 3) (.int .i64 gb)
  have r1 := r0.other (p := ⟨w.heap.size + 2, 3, none⟩) (by show w.heap.size + 2 ≠ w.heap.size + 1; omega) (.int .i64 gb)
  have t1 := t0.setCell (p := ⟨w.heap.size + 2, 3, none⟩) (by show w.heap.size ≤ w.heap.size + 2; omega) (.int .i64 gb)
  have q2 : BoxIs (((u.setCell ⟨w.heap.size + 2, 2, none⟩ (.int .i64 ga)).setCell ⟨w.heap.size + 2, 3, none⟩ (.int .i64 gb)).setCell ⟨w.heap.size + 2, 4, none⟩ (.int .i64 gc)) (w.heap.size + 2) #[.int .i64 3, .int .i64 0, .int .i64 ga, .int .i64 gb, .int .i64 gc, .int .i64 0, .int .i64 0, .int .i64 0, .slice none 0 0, .slice none 0 0, .slice none 0 0, .slice none 0 0, .slice none 0 0] 42 := q1.set (i := 4) (.int .i64 gc)
  have r2 := r1.other (p := ⟨w.heap.size + 2, 4, none⟩) (by show w.heap.size + 2 ≠ w.heap.size + 1; omega) (.int .i64 gc)
  have t2 := t1.setCell (p := ⟨w.heap.size + 2, 4, none⟩) (by show w.heap.size ≤ w.heap.size + 2; omega) (.int .i64 gc)
  have q3 : BoxIs ((((u.setCell ⟨w.heap.size + 2, 2, none⟩ (.int .i64 ga)).setCell ⟨w.heap.size + 2, 3, none⟩ (.int .i64 gb)).setCell ⟨w.heap.size + 2, 4, none⟩ (.int .i64 gc)).setCell ⟨w.heap.size + 2, 5, none⟩ (.int .i64 gd)) (w.heap.size + 2) #[.int .i64 3, .int .i64 0, .int .i64 ga, .int .i64 gb, .int .i64 gc, .int .i64 gd, .int .i64 0, .int .i64 0, .slice none 0 0, .slice none 0 0, .slice none 0 0, .slice none 0 0, .slice none 0 0] 42 := q2.set (i := 5) (.int .i64 gd)
  have r3 := r2.other (p := ⟨w.heap.size + 2, 5, none⟩) (by show w.heap.size + 2 ≠ w.heap.size + 1; omega) (.int .i64 gd)
  have t3 := t2.setCell (p := ⟨w.heap.size + 2, 5, none⟩) (by show w.heap.size ≤ w.heap.size + 2; omega) (.int .i64 gd)
  have q4 : BoxIs (((((u.setCell ⟨w.heap.size + 2, 2, none⟩ (.int .i64 ga)).setCell ⟨w.heap.size + 2, 3, none⟩ (.int .i64 gb)).setCell ⟨w.heap.size + 2, 4, none⟩ (.int .i64 gc)).setCell ⟨w.heap.size + 2, 5, none⟩ (.int .i64 gd)).setCell ⟨w.heap.size + 2, 9, none⟩ (.slice a0 l0 c0)) (w.heap.size + 2) #[.int .i64 3, .int .i64 0, .int .i64 ga, .int .i64 gb, .int .i64 gc, .int .i64 gd, .int .i64 0, .int .i64 0, .slice none 0 0, .slice a0 l0 c0, .slice none 0 0, .slice none 0 0, .slice none 0 0] 42 := q3.set (i := 9) (.slice a0 l0 c0)
  have r4 := r3.other (p := ⟨w.heap.size + 2, 9, none⟩) (by show w.heap.size + 2 ≠ w.heap.size + 1; omega) (.slice a0 l0 c0)
  have t4 := t3.setCell (p := ⟨w.heap.size + 2, 9, none⟩) (by show w.heap.size ≤ w.heap.size + 2; omega) (.slice a0 l0 c0)
  have q5 : BoxIs ((((((u.setCell ⟨w.heap.size + 2, 2, none⟩ (.int .i64 ga)).setCell ⟨w.heap.size + 2, 3, none⟩ (.int .i64 gb)).setCell ⟨w.heap.size + 2, 4, none⟩ (.int .i64 gc)).setCell ⟨w.heap.size + 2, 5, none⟩ (.int .i64 gd)).setCell ⟨w.heap.size + 2, 9, none⟩ (.slice a0 l0 c0)).setCell ⟨w.heap.size + 2, 10, none⟩ (.slice a1 l1 c1)) (w.heap.size + 2) #[.int .i64 3, .int .i64 0, .int .i64 ga, .int .i64 gb, .int .i64 gc, .int .i64 gd, .int .i64 0, .int .i64 0, .slice none 0 0, .slice a0 l0 c0, .slice a1 l1 c1, .slice none 0 0, .slice none 0 0] 42 := q4.set (i := 10) (.slice a1 l1 c1)
  have r5 := r4.other (p := ⟨w.heap.size + 2, 10, none⟩) (by show w.heap.size + 2 ≠ w.heap.size + 1; omega) (.slice a1 l1 c1)
  have t5 := t4.setCell (p := ⟨w.heap.size + 2, 10, none⟩) (by show w.heap.size ≤ w.heap.size + 2; omega) (.slice a1 l1 c1)
  have q6 : BoxIs (((((((u.setCell ⟨w.heap.size + 2, 2, none⟩ (.int .i64 ga)).setCell ⟨w.heap.size + 2, 3, none⟩ (.int .i64 gb)).setCell ⟨w.heap.size + 2, 4, none⟩ (.int .i64 gc)).setCell ⟨w.heap.size + 2, 5, none⟩ (.int .i64 gd)).setCell ⟨w.heap.size + 2, 9, none⟩ (.slice a0 l0 c0)).setCell ⟨w.heap.size + 2, 10, none⟩ (.slice a1 l1 c1)).setCell ⟨w.heap.size + 2, 11, none⟩ (.slice a2 l2 c2)) (w.heap.size + 2) #[.int .i64 3, .int .i64 0, .int .i64 ga, .int .i64 gb, .int .i64 gc, .int .i64 gd, .int .i64 0, .int .i64 0, .slice none 0 0, .slice a0 l0 c0, .slice a1 l1 c1, .slice a2 l2 c2, .slice none 0 0] 42 := q5.set (i := 11) (.slice a2 l2 c2)
  have r6 := r5.other (p := ⟨w.heap.size + 2, 11, none⟩) (by show w.heap.size + 2 ≠ w.heap.size + 1; omega) (.slice a2 l2 c2)
  have t6 := t5.setCell (p := ⟨w.heap.size + 2, 11, none⟩) (by show w.heap.size ≤ w.heap.size + 2; omega) (.slice a2 l2 c2)
  have q7 : BoxIs ((((((((u.setCell ⟨w.heap.size + 2, 2, none⟩ (.int .i64 ga)).setCell ⟨w.heap.size + 2, 3, none⟩ (.int .i64 gb)).setCell ⟨w.heap.size + 2, 4, none⟩ (.int .i64 gc)).setCell ⟨w.heap.size + 2, 5, none⟩ (.int .i64 gd)).setCell ⟨w.heap.size + 2, 9, none⟩ (.slice a0 l0 c0)).setCell ⟨w.heap.size + 2, 10, none⟩ (.slice a1 l1 c1)).setCell ⟨w.heap.size + 2, 11, none⟩ (.slice a2 l2 c2)).setCell ⟨w.heap.size + 2, 12, none⟩ (.slice a3 l3 c3)) (w.heap.size + 2) #[.int .i64 3, .int .i64 0, .int .i64 ga, .int .i64 gb, .int .i64 gc, .int .i64 gd, .int .i64 0, .int .i64 0, .slice none 0 0, .slice a0 l0 c0, .slice a1 l1 c1, .slice a2 l2 c2, .slice a3 l3 c3] 42 := q6.set (i := 12) (.slice a3 l3 c3)
  have r7 := r6.other (p := ⟨w.heap.size + 2, 12, none⟩) (by show w.heap.size + 2 ≠ w.heap.size + 1; omega) (.slice a3 l3 c3)
  have t7 := t6.setCell (p := ⟨w.heap.size + 2, 12, none⟩) (by show w.heap.size ≤ w.heap.size + 2; omega) (.slice a3 l3 c3)
  have Q9 := q7.ext ((Ext.refl _).drew)
  have R9 := r7.ext ((Ext.refl _).drew)
  have T9 := t7.trans ((Ext.refl _).drew)
  generalize World.drew _ = wz at Q9 R9 T9 ⊢
  obtain ⟨⟨k0, k1, k2, k3, k4, k5, k6, k7, k8, k9, k10, k11, k12⟩, -⟩ := sq_cells Q9
  obtain ⟨⟨e0, e1, e2, e3, e4, e5, e6, e7, e8, e9, e10, e11, e12⟩, f0, f1, f2, f3, f4, f5, f6, f7, f8, f9, f10, f11, f12⟩ := sq_cells R9
  go_wp2
  obtain ⟨⟨g0, g1, g2, g3, g4, g5, g6, g7, g8, g9, g10, g11, g12⟩, -⟩ := sq_cells (sq_put (v0 := .int .i64 3) (v1 := .int .i64 0) (v2 := .int .i64 ga) (v3 := .int .i64 gb) (v4 := .int .i64 gc) (v5 := .int .i64 gd) (v6 := .int .i64 0) (v7 := .int .i64 0) (v8 := .slice none 0 0) (v9 := .slice a0 l0 c0) (v10 := .slice a1 l1 c1) (v11 := .slice a2 l2 c2) (v12 := .slice a3 l3 c3) R9)
  exact bodyPost_ret (v := .agg #[.int .i64 3, .int .i64 0, .int .i64 ga, .int .i64 gb, .int .i64 gc, .int .i64 gd, .int .i64 0, .int .i64 0, .slice none 0 0, .slice a0 l0 c0, .slice a1 l1 c1, .slice a2 l2 c2, .slice a3 l3 c3]) (by simp [results, Tryz.results24, go_sem, g0, g1, g2, g3, g4, g5, g6, g7, g8, g9, g10, g11, g12]) rfl ⟨rfl, by
    repeat refine Ext.setCell ?_ (by show w.heap.size ≤ w.heap.size + 1; exact Nat.le_succ _) _
    exact T9⟩
set_option maxRecDepth 20000 in
set_option maxHeartbeats 4000000 in
theorem prt_0 (gm ga gb gc gd gx gy : Int) (vL v0 v1 v2 v3 : Value) (w : World) (hL : SlF vL) (h0 : SlF v0) (h1 : SlF v1) (h2 : SlF v2) (h3 : SlF v3) : Calls Tryz.prog 24 #[sqV 0 gm ga gb gc gd gx gy vL v0 v1 v2 v3] w fun e w' => e = .returned (sqV 0 0 0 0 0 0 0 0 nilS nilS nilS nilS nilS) ∧ Ext w w' := by
  obtain ⟨aL, lL, cL, rfl⟩ := hL
  obtain ⟨a0, l0, c0, rfl⟩ := h0
  obtain ⟨a1, l1, c1, rfl⟩ := h1
  obtain ⟨a2, l2, c2, rfl⟩ := h2
  obtain ⟨a3, l3, c3, rfl⟩ := h3
  have A1 := (BoxIs.new (w.alloc (.cells #[.int .i64 0, .int .i64 gm, .int .i64 ga, .int .i64 gb, .int .i64 gc, .int .i64 gd, .int .i64 gx, .int .i64 gy, .slice aL lL cL, .slice a0 l0 c0, .slice a1 l1 c1, .slice a2 l2 c2, .slice a3 l3 c3] 36)) #[.int .i64 0, .int .i64 0, .int .i64 0, .int .i64 0, .int .i64 0, .int .i64 0, .int .i64 0, .int .i64 0, .slice none 0 0, .slice none 0 0, .slice none 0 0, .slice none 0 0, .slice none 0 0] 42).ext ((Ext.refl _).alloc (.cells #[.int .i64 0, .int .i64 0, .int .i64 0, .int .i64 0, .int .i64 0, .int .i64 0, .int .i64 0, .int .i64 0, .slice none 0 0, .slice none 0 0, .slice none 0 0, .slice none 0 0, .slice none 0 0] 42))
  have hs : (w.alloc (.cells #[.int .i64 0, .int .i64 gm, .int .i64 ga, .int .i64 gb, .int .i64 gc, .int .i64 gd, .int .i64 gx, .int .i64 gy, .slice aL lL cL, .slice a0 l0 c0, .slice a1 l1 c1, .slice a2 l2 c2, .slice a3 l3 c3] 36)).heap.size = w.heap.size + 1 := by simp
  rw [hs] at A1
  have E2 := (((Ext.refl w).alloc (.cells #[.int .i64 0, .int .i64 gm, .int .i64 ga, .int .i64 gb, .int .i64 gc, .int .i64 gd, .int .i64 gx, .int .i64 gy, .slice aL lL cL, .slice a0 l0 c0, .slice a1 l1 c1, .slice a2 l2 c2, .slice a3 l3 c3] 36)).alloc (.cells #[.int .i64 0, .int .i64 0, .int .i64 0, .int .i64 0, .int .i64 0, .int .i64 0, .int .i64 0, .int .i64 0, .slice none 0 0, .slice none 0 0, .slice none 0 0, .slice none 0 0, .slice none 0 0] 42)).alloc (.cells #[.int .i64 0, .int .i64 0, .int .i64 0, .int .i64 0, .int .i64 0, .int .i64 0, .int .i64 0, .int .i64 0, .slice none 0 0, .slice none 0 0, .slice none 0 0, .slice none 0 0, .slice none 0 0] 42)
  obtain ⟨⟨e0, e1, e2, e3, e4, e5, e6, e7, e8, e9, e10, e11, e12⟩, f0, f1, f2, f3, f4, f5, f6, f7, f8, f9, f10, f11, f12⟩ := sq_cells A1
  unfold sqV
  go_enter Tryz.func24, Tryz.ntmps24
  go_wp2
  obtain ⟨⟨g0, g1, g2, g3, g4, g5, g6, g7, g8, g9, g10, g11, g12⟩, -⟩ := sq_cells (sq_put (v0 := .int .i64 0) (v1 := .int .i64 0) (v2 := .int .i64 0) (v3 := .int .i64 0) (v4 := .int .i64 0) (v5 := .int .i64 0) (v6 := .int .i64 0) (v7 := .int .i64 0) (v8 := .slice none 0 0) (v9 := .slice none 0 0) (v10 := .slice none 0 0) (v11 := .slice none 0 0) (v12 := .slice none 0 0) A1)
  exact bodyPost_ret (v := .agg #[.int .i64 0, .int .i64 0, .int .i64 0, .int .i64 0, .int .i64 0, .int .i64 0, .int .i64 0, .int .i64 0, .slice none 0 0, .slice none 0 0, .slice none 0 0, .slice none 0 0, .slice none 0 0]) (by simp [results, Tryz.results24, go_sem, g0, g1, g2, g3, g4, g5, g6, g7, g8, g9, g10, g11, g12]) rfl ⟨rfl, by
    repeat refine Ext.setCell ?_ (by show w.heap.size ≤ w.heap.size + 1; exact Nat.le_succ _) _
    exact E2⟩
theorem prts_any (q : Sq) (vL v0 v1 v2 v3 : Value) (w : World) (h : SqIs w q vL v0 v1 v2 v3) (hk : 0 ≤ q.k ∧ q.k ≤ 3) : Calls Tryz.prog 24 #[sqQ q vL v0 v1 v2 v3] w fun e w' => ∃ L' s0 s1 s2 s3, e = .returned (sqQ (partS q) L' s0 s1 s2 s3) ∧ Ext w w' ∧ ∀ W, SqIs W q vL v0 v1 v2 v3 → SqIs W (partS q) L' s0 s1 s2 s3 := by
  obtain ⟨hL, h0, h1, h2, h3⟩ := h
  obtain ⟨k, m, a, b, c, d, x, y, l, l0, l1, l2, l3⟩ := q
  unfold sqQ
  dsimp only at *
  rcases (by omega : k = 0 ∨ k = 1 ∨ k = 2 ∨ k = 3) with rfl | rfl | rfl | rfl
  · refine (prt_0 m a b c d x y _ _ _ _ _ w hL.slf h0.slf h1.slf h2.slf h3.slf).mono ?_
    rintro e w' ⟨rfl, hx⟩
    exact ⟨nilS, nilS, nilS, nilS, nilS, rfl, hx, fun W _ => SqIs.nil W 0⟩
  · refine (prt_1 m a b c d x y _ _ _ _ _ w hL.slf h0.slf h1.slf h2.slf h3.slf).mono ?_
    rintro e w' ⟨rfl, hx⟩
    exact ⟨vL, nilS, nilS, nilS, nilS, rfl, hx, fun W g => ⟨g.1, Ints.nil W, Ints.nil W, Ints.nil W, Ints.nil W⟩⟩
  · refine (prt_2 m a b c d x y _ _ _ _ _ w hL.slf h0.slf h1.slf h2.slf h3.slf).mono ?_
    rintro e w' ⟨rfl, hx⟩
    exact ⟨vL, nilS, nilS, nilS, nilS, rfl, hx, fun W g => ⟨g.1, Ints.nil W, Ints.nil W, Ints.nil W, Ints.nil W⟩⟩
  · refine (prt_3 m a b c d x y _ _ _ _ _ w hL.slf h0.slf h1.slf h2.slf h3.slf).mono ?_
    rintro e w' ⟨rfl, hx⟩
    exact ⟨nilS, v0, v1, v2, v3, rfl, hx, fun W g => ⟨Ints.nil W, g.2⟩⟩
set_option maxRecDepth 20000 in
set_option maxHeartbeats 8000000 in
theorem same_sq (q : Sq) (vL v0 v1 v2 v3 uL u0 u1 u2 u3 : Value) (w : World) (h : SqIs w q vL v0 v1 v2 v3) (k : SqIs w q uL u0 u1 u2 u3) : Calls Tryz.prog 14 #[sqQ q vL v0 v1 v2 v3, sqQ q uL u0 u1 u2 u3] w fun e w' => e = .returned (.bool true) ∧ Ext w w' := by
  have UL := Lib.hid (fun w' (x : Ext w w') => by have := ints_same _ _ _ _ w' (h.1.ext x) (k.1.ext x); rwa [decide_eq_true rfl] at this)
  have U0 := Lib.hid (fun w' (x : Ext w w') => by have := ints_same _ _ _ _ w' (h.2.1.ext x) (k.2.1.ext x); rwa [decide_eq_true rfl] at this)
  have U1 := Lib.hid (fun w' (x : Ext w w') => by have := ints_same _ _ _ _ w' (h.2.2.1.ext x) (k.2.2.1.ext x); rwa [decide_eq_true rfl] at this)
  have U2 := Lib.hid (fun w' (x : Ext w w') => by have := ints_same _ _ _ _ w' (h.2.2.2.1.ext x) (k.2.2.2.1.ext x); rwa [decide_eq_true rfl] at this)
  have U3 := Lib.hid (fun w' (x : Ext w w') => by have := ints_same _ _ _ _ w' (h.2.2.2.2.ext x) (k.2.2.2.2.ext x); rwa [decide_eq_true rfl] at this)
  obtain ⟨aL, lL, cL, rfl⟩ := h.1.slf
  obtain ⟨a0, l0, c0, rfl⟩ := h.2.1.slf
  obtain ⟨a1, l1, c1, rfl⟩ := h.2.2.1.slf
  obtain ⟨a2, l2, c2, rfl⟩ := h.2.2.2.1.slf
  obtain ⟨a3, l3, c3, rfl⟩ := h.2.2.2.2.slf
  obtain ⟨bL, nL, dL, rfl⟩ := k.1.slf
  obtain ⟨b0, n0, d0, rfl⟩ := k.2.1.slf
  obtain ⟨b1, n1, d1, rfl⟩ := k.2.2.1.slf
  obtain ⟨b2, n2, d2, rfl⟩ := k.2.2.2.1.slf
  obtain ⟨b3, n3, d3, rfl⟩ := k.2.2.2.2.slf
  obtain ⟨gk, gm, ga, gb, gc, gd, gx, gy, L, s0, s1, s2, s3⟩ := q
  clear h k
  have A0 := (BoxIs.new w #[.int .i64 gk, .int .i64 gm, .int .i64 ga, .int .i64 gb, .int .i64 gc, .int .i64 gd, .int .i64 gx, .int .i64 gy, .slice aL lL cL, .slice a0 l0 c0, .slice a1 l1 c1, .slice a2 l2 c2, .slice a3 l3 c3] 36).ext ((Ext.refl _).alloc (.cells #[.int .i64 gk, .int .i64 gm, .int .i64 ga, .int .i64 gb, .int .i64 gc, .int .i64 gd, .int .i64 gx, .int .i64 gy, .slice bL nL dL, .slice b0 n0 d0, .slice b1 n1 d1, .slice b2 n2 d2, .slice b3 n3 d3] 42))
  have A1 := BoxIs.new (w.alloc (.cells #[.int .i64 gk, .int .i64 gm, .int .i64 ga, .int .i64 gb, .int .i64 gc, .int .i64 gd, .int .i64 gx, .int .i64 gy, .slice aL lL cL, .slice a0 l0 c0, .slice a1 l1 c1, .slice a2 l2 c2, .slice a3 l3 c3] 36)) #[.int .i64 gk, .int .i64 gm, .int .i64 ga, .int .i64 gb, .int .i64 gc, .int .i64 gd, .int .i64 gx, .int .i64 gy, .slice bL nL dL, .slice b0 n0 d0, .slice b1 n1 d1, .slice b2 n2 d2, .slice b3 n3 d3] 42
  have hs : (w.alloc (.cells #[.int .i64 gk, .int .i64 gm, .int .i64 ga, .int .i64 gb, .int .i64 gc, .int .i64 gd, .int .i64 gx, .int .i64 gy, .slice aL lL cL, .slice a0 l0 c0, .slice a1 l1 c1, .slice a2 l2 c2, .slice a3 l3 c3] 36)).heap.size = w.heap.size + 1 := by simp
  rw [hs] at A1
  have E2 := ((Ext.refl w).alloc (.cells #[.int .i64 gk, .int .i64 gm, .int .i64 ga, .int .i64 gb, .int .i64 gc, .int .i64 gd, .int .i64 gx, .int .i64 gy, .slice aL lL cL, .slice a0 l0 c0, .slice a1 l1 c1, .slice a2 l2 c2, .slice a3 l3 c3] 36)).alloc (.cells #[.int .i64 gk, .int .i64 gm, .int .i64 ga, .int .i64 gb, .int .i64 gc, .int .i64 gd, .int .i64 gx, .int .i64 gy, .slice bL nL dL, .slice b0 n0 d0, .slice b1 n1 d1, .slice b2 n2 d2, .slice b3 n3 d3] 42)
  obtain ⟨u, hu⟩ : ∃ z, (w.alloc (.cells #[.int .i64 gk, .int .i64 gm, .int .i64 ga, .int .i64 gb, .int .i64 gc, .int .i64 gd, .int .i64 gx, .int .i64 gy, .slice aL lL cL, .slice a0 l0 c0, .slice a1 l1 c1, .slice a2 l2 c2, .slice a3 l3 c3] 36)).alloc (.cells #[.int .i64 gk, .int .i64 gm, .int .i64 ga, .int .i64 gb, .int .i64 gc, .int .i64 gd, .int .i64 gx, .int .i64 gy, .slice bL nL dL, .slice b0 n0 d0, .slice b1 n1 d1, .slice b2 n2 d2, .slice b3 n3 d3] 42) = z := ⟨_, rfl⟩
  rw [hu] at A0 A1 E2
  have HA := Lib.hid A0
  have HB := Lib.hid A1
  have HE := Lib.hid E2
  have HU := Lib.hid hu
  clear A0 A1 E2 hu hs
  unfold sqQ sqV
  go_enter Tryz.func14, Tryz.ntmps14
  go_wp2_with fail
  rw [HU.out]
  clear HU
  refine wp_loop_rounds 5 ?_
  rw [rounds_succ]
  go_wp2_with fail
  refine wp_region_held_drew (S := fun w' => w'.cell? ⟨w.heap.size, 2, none⟩ = some (.int .i64 ga) ∧ w'.cell? ⟨w.heap.size + 1, 2, none⟩ = some (.int .i64 ga) ∧ w'.cell? ⟨w.heap.size, 9, none⟩ = some (.slice a0 l0 c0) ∧ w'.cell? ⟨w.heap.size + 1, 9, none⟩ = some (.slice b0 n0 d0)) (by kernel_rfl) (⟨(HA.out.ext ((Ext.refl u).drew)).cell rfl, (HB.out.ext ((Ext.refl u).drew)).cell rfl, (HA.out.ext ((Ext.refl u).drew)).cell rfl, (HB.out.ext ((Ext.refl u).drew)).cell rfl⟩) (fun hHeld => ?_)
  refine wpAnyH_take (i := 0) (oi := { dst := some 10, op := Op.move (Operand.tmp 5), type := 3, pos := "law.go:39", after := #[], guard := none }) (v := ?_) rfl (by kernel_rfl) (by kernel_rfl) (by kernel_rfl) (fun _ _ _ h => h) (Or.inl ⟨by rfl, ?_⟩) (by assumption) ?_
  case refine_2 => (intro w hSw; (try dsimp only at hSw); go_simp; (try with_reducible rfl))
  try simp only [Act.put, List.setIfInBounds_toArray, List.set_cons_zero, List.set_cons_succ]
  refine wpAnyH_take (i := 1) (oi := { dst := some 11, op := Op.fieldAddr 36 (Operand.tmp 2) 2, type := 0, pos := "law.go:39", after := #[], guard := none }) (v := ?_) rfl (by kernel_rfl) (by kernel_rfl) (by kernel_rfl) (fun _ _ _ h => h) (Or.inl ⟨by rfl, ?_⟩) (by assumption) ?_
  case refine_2 => (intro w hSw; (try dsimp only at hSw); go_simp; (try with_reducible rfl))
  try simp only [Act.put, List.setIfInBounds_toArray, List.set_cons_zero, List.set_cons_succ]
  refine wpAnyH_take (i := 2) (oi := { dst := some 12, op := Op.indexAddr 30 (Operand.tmp 11) (Operand.tmp 10), type := 0, pos := "law.go:39", after := #[{ on := 1, ground := Ground.data }, { on := 0, ground := Ground.data }], guard := none }) (v := ?_) rfl (by kernel_rfl) (by kernel_rfl) (by kernel_rfl) (fun _ _ _ h => h) (Or.inl ⟨by rfl, ?_⟩) (by assumption) ?_
  case refine_2 => (intro w hSw; (try dsimp only at hSw); go_simp; (try with_reducible rfl))
  try simp only [Act.put, List.setIfInBounds_toArray, List.set_cons_zero, List.set_cons_succ]
  refine wpAnyH_take (i := 3) (oi := { dst := some 13, op := Op.load 3 (Operand.tmp 12), type := 3, pos := "law.go:39", after := #[{ on := 2, ground := Ground.data }], guard := none }) (v := ?_) rfl (by kernel_rfl) (by kernel_rfl) (by kernel_rfl) (fun _ _ _ h => h) (Or.inl ⟨by rfl, ?_⟩) (by assumption) ?_
  case refine_2 => (intro w hSw; (try dsimp only at hSw); go_simp; (try with_reducible rfl))
  try simp only [Act.put, List.setIfInBounds_toArray, List.set_cons_zero, List.set_cons_succ]
  refine wpAnyH_take (i := 4) (oi := { dst := some 14, op := Op.move (Operand.tmp 5), type := 3, pos := "law.go:39", after := #[], guard := none }) (v := ?_) rfl (by kernel_rfl) (by kernel_rfl) (by kernel_rfl) (fun _ _ _ h => h) (Or.inl ⟨by rfl, ?_⟩) (by assumption) ?_
  case refine_2 => (intro w hSw; (try dsimp only at hSw); go_simp; (try with_reducible rfl))
  try simp only [Act.put, List.setIfInBounds_toArray, List.set_cons_zero, List.set_cons_succ]
  refine wpAnyH_take (i := 5) (oi := { dst := some 15, op := Op.fieldAddr 42 (Operand.tmp 3) 2, type := 0, pos := "law.go:39", after := #[], guard := none }) (v := ?_) rfl (by kernel_rfl) (by kernel_rfl) (by kernel_rfl) (fun _ _ _ h => h) (Or.inl ⟨by rfl, ?_⟩) (by assumption) ?_
  case refine_2 => (intro w hSw; (try dsimp only at hSw); go_simp; (try with_reducible rfl))
  try simp only [Act.put, List.setIfInBounds_toArray, List.set_cons_zero, List.set_cons_succ]
  refine wpAnyH_take (i := 6) (oi := { dst := some 16, op := Op.indexAddr 30 (Operand.tmp 15) (Operand.tmp 14), type := 0, pos := "law.go:39", after := #[{ on := 5, ground := Ground.data }, { on := 4, ground := Ground.data }], guard := none }) (v := ?_) rfl (by kernel_rfl) (by kernel_rfl) (by kernel_rfl) (fun _ _ _ h => h) (Or.inl ⟨by rfl, ?_⟩) (by assumption) ?_
  case refine_2 => (intro w hSw; (try dsimp only at hSw); go_simp; (try with_reducible rfl))
  try simp only [Act.put, List.setIfInBounds_toArray, List.set_cons_zero, List.set_cons_succ]
  refine wpAnyH_take (i := 7) (oi := { dst := some 17, op := Op.load 3 (Operand.tmp 16), type := 3, pos := "law.go:39", after := #[{ on := 6, ground := Ground.data }], guard := none }) (v := ?_) rfl (by kernel_rfl) (by kernel_rfl) (by kernel_rfl) (fun _ _ _ h => h) (Or.inl ⟨by rfl, ?_⟩) (by assumption) ?_
  case refine_2 => (intro w hSw; (try dsimp only at hSw); go_simp; (try with_reducible rfl))
  try simp only [Act.put, List.setIfInBounds_toArray, List.set_cons_zero, List.set_cons_succ]
  refine wpAnyH_take (i := 8) (oi := { dst := some 18, op := Op.binOp BinOp.neq 3 (Operand.tmp 13) (Operand.tmp 17) 3, type := 4, pos := "law.go:39", after := #[{ on := 3, ground := Ground.data }, { on := 7, ground := Ground.data }], guard := none }) (v := ?_) rfl (by kernel_rfl) (by kernel_rfl) (by kernel_rfl) (fun _ _ _ h => h) (Or.inl ⟨by rfl, ?_⟩) (by assumption) ?_
  case refine_2 => (intro w hSw; (try dsimp only at hSw); go_simp; (try with_reducible rfl))
  try simp only [Act.put, List.setIfInBounds_toArray, List.set_cons_zero, List.set_cons_succ]
  refine wpAnyH_take (i := 9) (oi := { dst := some 19, op := Op.move (Operand.tmp 18), type := 4, pos := "law.go:39", after := #[{ on := 8, ground := Ground.data }], guard := none }) (v := ?_) rfl (by kernel_rfl) (by kernel_rfl) (by kernel_rfl) (fun _ _ _ h => h) (Or.inl ⟨by rfl, ?_⟩) (by assumption) ?_
  case refine_2 => (intro w hSw; (try dsimp only at hSw); go_simp; (try with_reducible rfl))
  try simp only [Act.put, List.setIfInBounds_toArray, List.set_cons_zero, List.set_cons_succ]
  refine wpAnyH_take (i := 10) (oi := { dst := some 20, op := Op.move (Operand.tmp 5), type := 3, pos := "law.go:39", after := #[{ on := 9, ground := Ground.guard }], guard := some (9, false) }) (v := ?_) rfl (by kernel_rfl) (by kernel_rfl) (by kernel_rfl) (fun _ _ _ h => h) (Or.inl ⟨by rfl, ?_⟩) (by assumption) ?_
  case refine_2 => (intro w hSw; (try dsimp only at hSw); go_simp; (try with_reducible rfl))
  try simp only [Act.put, List.setIfInBounds_toArray, List.set_cons_zero, List.set_cons_succ]
  refine wpAnyH_take (i := 11) (oi := { dst := some 21, op := Op.fieldAddr 36 (Operand.tmp 2) 5, type := 0, pos := "law.go:39", after := #[{ on := 9, ground := Ground.guard }], guard := some (9, false) }) (v := ?_) rfl (by kernel_rfl) (by kernel_rfl) (by kernel_rfl) (fun _ _ _ h => h) (Or.inl ⟨by rfl, ?_⟩) (by assumption) ?_
  case refine_2 => (intro w hSw; (try dsimp only at hSw); go_simp; (try with_reducible rfl))
  try simp only [Act.put, List.setIfInBounds_toArray, List.set_cons_zero, List.set_cons_succ]
  refine wpAnyH_take (i := 12) (oi := { dst := some 22, op := Op.indexAddr 34 (Operand.tmp 21) (Operand.tmp 20), type := 0, pos := "law.go:39", after := #[{ on := 11, ground := Ground.data }, { on := 10, ground := Ground.data }, { on := 9, ground := Ground.guard }], guard := some (9, false) }) (v := ?_) rfl (by kernel_rfl) (by kernel_rfl) (by kernel_rfl) (fun _ _ _ h => h) (Or.inl ⟨by rfl, ?_⟩) (by assumption) ?_
  case refine_2 => (intro w hSw; (try dsimp only at hSw); go_simp; (try with_reducible rfl))
  try simp only [Act.put, List.setIfInBounds_toArray, List.set_cons_zero, List.set_cons_succ]
  refine wpAnyH_take (i := 13) (oi := { dst := some 23, op := Op.load 33 (Operand.tmp 22), type := 33, pos := "law.go:39", after := #[{ on := 12, ground := Ground.data }, { on := 9, ground := Ground.guard }], guard := some (9, false) }) (v := ?_) rfl (by kernel_rfl) (by kernel_rfl) (by kernel_rfl) (fun _ _ _ h => h) (Or.inl ⟨by rfl, ?_⟩) (by assumption) ?_
  case refine_2 => (intro w hSw; (try dsimp only at hSw); go_simp; (try with_reducible rfl))
  try simp only [Act.put, List.setIfInBounds_toArray, List.set_cons_zero, List.set_cons_succ]
  refine wpAnyH_take (i := 14) (oi := { dst := some 24, op := Op.move (Operand.tmp 5), type := 3, pos := "law.go:39", after := #[{ on := 9, ground := Ground.guard }], guard := some (9, false) }) (v := ?_) rfl (by kernel_rfl) (by kernel_rfl) (by kernel_rfl) (fun _ _ _ h => h) (Or.inl ⟨by rfl, ?_⟩) (by assumption) ?_
  case refine_2 => (intro w hSw; (try dsimp only at hSw); go_simp; (try with_reducible rfl))
  try simp only [Act.put, List.setIfInBounds_toArray, List.set_cons_zero, List.set_cons_succ]
  refine wpAnyH_take (i := 15) (oi := { dst := some 25, op := Op.fieldAddr 42 (Operand.tmp 3) 5, type := 0, pos := "law.go:39", after := #[{ on := 9, ground := Ground.guard }], guard := some (9, false) }) (v := ?_) rfl (by kernel_rfl) (by kernel_rfl) (by kernel_rfl) (fun _ _ _ h => h) (Or.inl ⟨by rfl, ?_⟩) (by assumption) ?_
  case refine_2 => (intro w hSw; (try dsimp only at hSw); go_simp; (try with_reducible rfl))
  try simp only [Act.put, List.setIfInBounds_toArray, List.set_cons_zero, List.set_cons_succ]
  refine wpAnyH_take (i := 16) (oi := { dst := some 26, op := Op.indexAddr 34 (Operand.tmp 25) (Operand.tmp 24), type := 0, pos := "law.go:39", after := #[{ on := 15, ground := Ground.data }, { on := 14, ground := Ground.data }, { on := 9, ground := Ground.guard }], guard := some (9, false) }) (v := ?_) rfl (by kernel_rfl) (by kernel_rfl) (by kernel_rfl) (fun _ _ _ h => h) (Or.inl ⟨by rfl, ?_⟩) (by assumption) ?_
  case refine_2 => (intro w hSw; (try dsimp only at hSw); go_simp; (try with_reducible rfl))
  try simp only [Act.put, List.setIfInBounds_toArray, List.set_cons_zero, List.set_cons_succ]
  refine wpAnyH_take (i := 17) (oi := { dst := some 27, op := Op.load 33 (Operand.tmp 26), type := 33, pos := "law.go:39", after := #[{ on := 16, ground := Ground.data }, { on := 9, ground := Ground.guard }], guard := some (9, false) }) (v := ?_) rfl (by kernel_rfl) (by kernel_rfl) (by kernel_rfl) (fun _ _ _ h => h) (Or.inl ⟨by rfl, ?_⟩) (by assumption) ?_
  case refine_2 => (intro w hSw; (try dsimp only at hSw); go_simp; (try with_reducible rfl))
  try simp only [Act.put, List.setIfInBounds_toArray, List.set_cons_zero, List.set_cons_succ]
  refine wpAnyH_ready (rs := [18]) (by kernel_rfl) (by simp) ?_
  refine AllReadyH.cons (o := { dst := some 28, op := Op.call { callee := Callee.value (Operand.func 48), args := #[Operand.tmp 23, Operand.tmp 27], argTypes := #[33, 33] }, type := 4, pos := "law.go:39", after := #[{ on := 13, ground := Ground.data }, { on := 17, ground := Ground.data }, { on := 9, ground := Ground.chain }, { on := 9, ground := Ground.guard }], guard := some (9, false) }) rfl (fun K hK => ?_) AllReadyH.nil
  go_simp
  go_at_call 48
  refine (U0.out _ (HE.out.trans ((Ext.refl u).drew))).mono ?_; rintro e w0' ⟨rfl, x0⟩
  have X1 := Lib.hid (((Ext.refl u).drew).trans x0)
  clear x0
  refine hK.out _ _ (⟨(HA.out.ext X1.out).cell rfl, (HB.out.ext X1.out).cell rfl, (HA.out.ext X1.out).cell rfl, (HB.out.ext X1.out).cell rfl⟩) (fun hHeld => ?_)
  clear hK K
  try simp only [Act.put, List.setIfInBounds_toArray, List.set_cons_zero, List.set_cons_succ]
  refine wpAnyH_take (i := 19) (oi := { dst := some 29, op := Op.unOp UnOp.not 4 (Operand.tmp 28), type := 4, pos := "law.go:39", after := #[{ on := 18, ground := Ground.data }, { on := 9, ground := Ground.guard }], guard := some (9, false) }) (v := ?_) rfl (by kernel_rfl) (by kernel_rfl) (by kernel_rfl) (fun _ _ _ h => h) (Or.inl ⟨by rfl, ?_⟩) (by assumption) ?_
  case refine_2 => (intro w hSw; (try dsimp only at hSw); go_simp; (try with_reducible rfl))
  try simp only [Act.put, List.setIfInBounds_toArray, List.set_cons_zero, List.set_cons_succ]
  refine wpAnyH_take (i := 20) (oi := { dst := some 30, op := Op.pick (Operand.tmp 19) (Operand.const (Value.bool true)) (Operand.tmp 29), type := 4, pos := "law.go:39", after := #[{ on := 9, ground := Ground.data }, { on := 19, ground := Ground.data }], guard := none }) (v := ?_) rfl (by kernel_rfl) (by kernel_rfl) (by kernel_rfl) (fun _ _ _ h => h) (Or.inl ⟨by rfl, ?_⟩) (by assumption) ?_
  case refine_2 => (intro w hSw; (try dsimp only at hSw); go_simp; (try with_reducible rfl))
  try simp only [Act.put, List.setIfInBounds_toArray, List.set_cons_zero, List.set_cons_succ]
  refine wpAnyH_done (by kernel_rfl) ?_ _
  go_wp2_with fail
  rw [rounds_succ]
  go_wp2_with fail
  refine wp_region_held_drew (S := fun w' => w'.cell? ⟨w.heap.size, 3, none⟩ = some (.int .i64 gb) ∧ w'.cell? ⟨w.heap.size + 1, 3, none⟩ = some (.int .i64 gb) ∧ w'.cell? ⟨w.heap.size, 10, none⟩ = some (.slice a1 l1 c1) ∧ w'.cell? ⟨w.heap.size + 1, 10, none⟩ = some (.slice b1 n1 d1)) (by kernel_rfl) (⟨(HA.out.ext (X1.out.drew)).cell rfl, (HB.out.ext (X1.out.drew)).cell rfl, (HA.out.ext (X1.out.drew)).cell rfl, (HB.out.ext (X1.out.drew)).cell rfl⟩) (fun hHeld => ?_)
  refine wpAnyH_take (i := 0) (oi := { dst := some 10, op := Op.move (Operand.tmp 5), type := 3, pos := "law.go:39", after := #[], guard := none }) (v := ?_) rfl (by kernel_rfl) (by kernel_rfl) (by kernel_rfl) (fun _ _ _ h => h) (Or.inl ⟨by rfl, ?_⟩) (by assumption) ?_
  case refine_2 => (intro w hSw; (try dsimp only at hSw); go_simp; (try with_reducible rfl))
  try simp only [Act.put, List.setIfInBounds_toArray, List.set_cons_zero, List.set_cons_succ]
  refine wpAnyH_take (i := 1) (oi := { dst := some 11, op := Op.fieldAddr 36 (Operand.tmp 2) 2, type := 0, pos := "law.go:39", after := #[], guard := none }) (v := ?_) rfl (by kernel_rfl) (by kernel_rfl) (by kernel_rfl) (fun _ _ _ h => h) (Or.inl ⟨by rfl, ?_⟩) (by assumption) ?_
  case refine_2 => (intro w hSw; (try dsimp only at hSw); go_simp; (try with_reducible rfl))
  try simp only [Act.put, List.setIfInBounds_toArray, List.set_cons_zero, List.set_cons_succ]
  refine wpAnyH_take (i := 2) (oi := { dst := some 12, op := Op.indexAddr 30 (Operand.tmp 11) (Operand.tmp 10), type := 0, pos := "law.go:39", after := #[{ on := 1, ground := Ground.data }, { on := 0, ground := Ground.data }], guard := none }) (v := ?_) rfl (by kernel_rfl) (by kernel_rfl) (by kernel_rfl) (fun _ _ _ h => h) (Or.inl ⟨by rfl, ?_⟩) (by assumption) ?_
  case refine_2 => (intro w hSw; (try dsimp only at hSw); go_simp; (try with_reducible rfl))
  try simp only [Act.put, List.setIfInBounds_toArray, List.set_cons_zero, List.set_cons_succ]
  refine wpAnyH_take (i := 3) (oi := { dst := some 13, op := Op.load 3 (Operand.tmp 12), type := 3, pos := "law.go:39", after := #[{ on := 2, ground := Ground.data }], guard := none }) (v := ?_) rfl (by kernel_rfl) (by kernel_rfl) (by kernel_rfl) (fun _ _ _ h => h) (Or.inl ⟨by rfl, ?_⟩) (by assumption) ?_
  case refine_2 => (intro w hSw; (try dsimp only at hSw); go_simp; (try with_reducible rfl))
  try simp only [Act.put, List.setIfInBounds_toArray, List.set_cons_zero, List.set_cons_succ]
  refine wpAnyH_take (i := 4) (oi := { dst := some 14, op := Op.move (Operand.tmp 5), type := 3, pos := "law.go:39", after := #[], guard := none }) (v := ?_) rfl (by kernel_rfl) (by kernel_rfl) (by kernel_rfl) (fun _ _ _ h => h) (Or.inl ⟨by rfl, ?_⟩) (by assumption) ?_
  case refine_2 => (intro w hSw; (try dsimp only at hSw); go_simp; (try with_reducible rfl))
  try simp only [Act.put, List.setIfInBounds_toArray, List.set_cons_zero, List.set_cons_succ]
  refine wpAnyH_take (i := 5) (oi := { dst := some 15, op := Op.fieldAddr 42 (Operand.tmp 3) 2, type := 0, pos := "law.go:39", after := #[], guard := none }) (v := ?_) rfl (by kernel_rfl) (by kernel_rfl) (by kernel_rfl) (fun _ _ _ h => h) (Or.inl ⟨by rfl, ?_⟩) (by assumption) ?_
  case refine_2 => (intro w hSw; (try dsimp only at hSw); go_simp; (try with_reducible rfl))
  try simp only [Act.put, List.setIfInBounds_toArray, List.set_cons_zero, List.set_cons_succ]
  refine wpAnyH_take (i := 6) (oi := { dst := some 16, op := Op.indexAddr 30 (Operand.tmp 15) (Operand.tmp 14), type := 0, pos := "law.go:39", after := #[{ on := 5, ground := Ground.data }, { on := 4, ground := Ground.data }], guard := none }) (v := ?_) rfl (by kernel_rfl) (by kernel_rfl) (by kernel_rfl) (fun _ _ _ h => h) (Or.inl ⟨by rfl, ?_⟩) (by assumption) ?_
  case refine_2 => (intro w hSw; (try dsimp only at hSw); go_simp; (try with_reducible rfl))
  try simp only [Act.put, List.setIfInBounds_toArray, List.set_cons_zero, List.set_cons_succ]
  refine wpAnyH_take (i := 7) (oi := { dst := some 17, op := Op.load 3 (Operand.tmp 16), type := 3, pos := "law.go:39", after := #[{ on := 6, ground := Ground.data }], guard := none }) (v := ?_) rfl (by kernel_rfl) (by kernel_rfl) (by kernel_rfl) (fun _ _ _ h => h) (Or.inl ⟨by rfl, ?_⟩) (by assumption) ?_
  case refine_2 => (intro w hSw; (try dsimp only at hSw); go_simp; (try with_reducible rfl))
  try simp only [Act.put, List.setIfInBounds_toArray, List.set_cons_zero, List.set_cons_succ]
  refine wpAnyH_take (i := 8) (oi := { dst := some 18, op := Op.binOp BinOp.neq 3 (Operand.tmp 13) (Operand.tmp 17) 3, type := 4, pos := "law.go:39", after := #[{ on := 3, ground := Ground.data }, { on := 7, ground := Ground.data }], guard := none }) (v := ?_) rfl (by kernel_rfl) (by kernel_rfl) (by kernel_rfl) (fun _ _ _ h => h) (Or.inl ⟨by rfl, ?_⟩) (by assumption) ?_
  case refine_2 => (intro w hSw; (try dsimp only at hSw); go_simp; (try with_reducible rfl))
  try simp only [Act.put, List.setIfInBounds_toArray, List.set_cons_zero, List.set_cons_succ]
  refine wpAnyH_take (i := 9) (oi := { dst := some 19, op := Op.move (Operand.tmp 18), type := 4, pos := "law.go:39", after := #[{ on := 8, ground := Ground.data }], guard := none }) (v := ?_) rfl (by kernel_rfl) (by kernel_rfl) (by kernel_rfl) (fun _ _ _ h => h) (Or.inl ⟨by rfl, ?_⟩) (by assumption) ?_
  case refine_2 => (intro w hSw; (try dsimp only at hSw); go_simp; (try with_reducible rfl))
  try simp only [Act.put, List.setIfInBounds_toArray, List.set_cons_zero, List.set_cons_succ]
  refine wpAnyH_take (i := 10) (oi := { dst := some 20, op := Op.move (Operand.tmp 5), type := 3, pos := "law.go:39", after := #[{ on := 9, ground := Ground.guard }], guard := some (9, false) }) (v := ?_) rfl (by kernel_rfl) (by kernel_rfl) (by kernel_rfl) (fun _ _ _ h => h) (Or.inl ⟨by rfl, ?_⟩) (by assumption) ?_
  case refine_2 => (intro w hSw; (try dsimp only at hSw); go_simp; (try with_reducible rfl))
  try simp only [Act.put, List.setIfInBounds_toArray, List.set_cons_zero, List.set_cons_succ]
  refine wpAnyH_take (i := 11) (oi := { dst := some 21, op := Op.fieldAddr 36 (Operand.tmp 2) 5, type := 0, pos := "law.go:39", after := #[{ on := 9, ground := Ground.guard }], guard := some (9, false) }) (v := ?_) rfl (by kernel_rfl) (by kernel_rfl) (by kernel_rfl) (fun _ _ _ h => h) (Or.inl ⟨by rfl, ?_⟩) (by assumption) ?_
  case refine_2 => (intro w hSw; (try dsimp only at hSw); go_simp; (try with_reducible rfl))
  try simp only [Act.put, List.setIfInBounds_toArray, List.set_cons_zero, List.set_cons_succ]
  refine wpAnyH_take (i := 12) (oi := { dst := some 22, op := Op.indexAddr 34 (Operand.tmp 21) (Operand.tmp 20), type := 0, pos := "law.go:39", after := #[{ on := 11, ground := Ground.data }, { on := 10, ground := Ground.data }, { on := 9, ground := Ground.guard }], guard := some (9, false) }) (v := ?_) rfl (by kernel_rfl) (by kernel_rfl) (by kernel_rfl) (fun _ _ _ h => h) (Or.inl ⟨by rfl, ?_⟩) (by assumption) ?_
  case refine_2 => (intro w hSw; (try dsimp only at hSw); go_simp; (try with_reducible rfl))
  try simp only [Act.put, List.setIfInBounds_toArray, List.set_cons_zero, List.set_cons_succ]
  refine wpAnyH_take (i := 13) (oi := { dst := some 23, op := Op.load 33 (Operand.tmp 22), type := 33, pos := "law.go:39", after := #[{ on := 12, ground := Ground.data }, { on := 9, ground := Ground.guard }], guard := some (9, false) }) (v := ?_) rfl (by kernel_rfl) (by kernel_rfl) (by kernel_rfl) (fun _ _ _ h => h) (Or.inl ⟨by rfl, ?_⟩) (by assumption) ?_
  case refine_2 => (intro w hSw; (try dsimp only at hSw); go_simp; (try with_reducible rfl))
  try simp only [Act.put, List.setIfInBounds_toArray, List.set_cons_zero, List.set_cons_succ]
  refine wpAnyH_take (i := 14) (oi := { dst := some 24, op := Op.move (Operand.tmp 5), type := 3, pos := "law.go:39", after := #[{ on := 9, ground := Ground.guard }], guard := some (9, false) }) (v := ?_) rfl (by kernel_rfl) (by kernel_rfl) (by kernel_rfl) (fun _ _ _ h => h) (Or.inl ⟨by rfl, ?_⟩) (by assumption) ?_
  case refine_2 => (intro w hSw; (try dsimp only at hSw); go_simp; (try with_reducible rfl))
  try simp only [Act.put, List.setIfInBounds_toArray, List.set_cons_zero, List.set_cons_succ]
  refine wpAnyH_take (i := 15) (oi := { dst := some 25, op := Op.fieldAddr 42 (Operand.tmp 3) 5, type := 0, pos := "law.go:39", after := #[{ on := 9, ground := Ground.guard }], guard := some (9, false) }) (v := ?_) rfl (by kernel_rfl) (by kernel_rfl) (by kernel_rfl) (fun _ _ _ h => h) (Or.inl ⟨by rfl, ?_⟩) (by assumption) ?_
  case refine_2 => (intro w hSw; (try dsimp only at hSw); go_simp; (try with_reducible rfl))
  try simp only [Act.put, List.setIfInBounds_toArray, List.set_cons_zero, List.set_cons_succ]
  refine wpAnyH_take (i := 16) (oi := { dst := some 26, op := Op.indexAddr 34 (Operand.tmp 25) (Operand.tmp 24), type := 0, pos := "law.go:39", after := #[{ on := 15, ground := Ground.data }, { on := 14, ground := Ground.data }, { on := 9, ground := Ground.guard }], guard := some (9, false) }) (v := ?_) rfl (by kernel_rfl) (by kernel_rfl) (by kernel_rfl) (fun _ _ _ h => h) (Or.inl ⟨by rfl, ?_⟩) (by assumption) ?_
  case refine_2 => (intro w hSw; (try dsimp only at hSw); go_simp; (try with_reducible rfl))
  try simp only [Act.put, List.setIfInBounds_toArray, List.set_cons_zero, List.set_cons_succ]
  refine wpAnyH_take (i := 17) (oi := { dst := some 27, op := Op.load 33 (Operand.tmp 26), type := 33, pos := "law.go:39", after := #[{ on := 16, ground := Ground.data }, { on := 9, ground := Ground.guard }], guard := some (9, false) }) (v := ?_) rfl (by kernel_rfl) (by kernel_rfl) (by kernel_rfl) (fun _ _ _ h => h) (Or.inl ⟨by rfl, ?_⟩) (by assumption) ?_
  case refine_2 => (intro w hSw; (try dsimp only at hSw); go_simp; (try with_reducible rfl))
  try simp only [Act.put, List.setIfInBounds_toArray, List.set_cons_zero, List.set_cons_succ]
  refine wpAnyH_ready (rs := [18]) (by kernel_rfl) (by simp) ?_
  refine AllReadyH.cons (o := { dst := some 28, op := Op.call { callee := Callee.value (Operand.func 48), args := #[Operand.tmp 23, Operand.tmp 27], argTypes := #[33, 33] }, type := 4, pos := "law.go:39", after := #[{ on := 13, ground := Ground.data }, { on := 17, ground := Ground.data }, { on := 9, ground := Ground.chain }, { on := 9, ground := Ground.guard }], guard := some (9, false) }) rfl (fun K hK => ?_) AllReadyH.nil
  go_simp
  go_at_call 48
  refine (U1.out _ (HE.out.trans (X1.out.drew))).mono ?_; rintro e w1' ⟨rfl, x1⟩
  have X2 := Lib.hid ((X1.out.drew).trans x1)
  clear x1
  refine hK.out _ _ (⟨(HA.out.ext X2.out).cell rfl, (HB.out.ext X2.out).cell rfl, (HA.out.ext X2.out).cell rfl, (HB.out.ext X2.out).cell rfl⟩) (fun hHeld => ?_)
  clear hK K
  try simp only [Act.put, List.setIfInBounds_toArray, List.set_cons_zero, List.set_cons_succ]
  refine wpAnyH_take (i := 19) (oi := { dst := some 29, op := Op.unOp UnOp.not 4 (Operand.tmp 28), type := 4, pos := "law.go:39", after := #[{ on := 18, ground := Ground.data }, { on := 9, ground := Ground.guard }], guard := some (9, false) }) (v := ?_) rfl (by kernel_rfl) (by kernel_rfl) (by kernel_rfl) (fun _ _ _ h => h) (Or.inl ⟨by rfl, ?_⟩) (by assumption) ?_
  case refine_2 => (intro w hSw; (try dsimp only at hSw); go_simp; (try with_reducible rfl))
  try simp only [Act.put, List.setIfInBounds_toArray, List.set_cons_zero, List.set_cons_succ]
  refine wpAnyH_take (i := 20) (oi := { dst := some 30, op := Op.pick (Operand.tmp 19) (Operand.const (Value.bool true)) (Operand.tmp 29), type := 4, pos := "law.go:39", after := #[{ on := 9, ground := Ground.data }, { on := 19, ground := Ground.data }], guard := none }) (v := ?_) rfl (by kernel_rfl) (by kernel_rfl) (by kernel_rfl) (fun _ _ _ h => h) (Or.inl ⟨by rfl, ?_⟩) (by assumption) ?_
  case refine_2 => (intro w hSw; (try dsimp only at hSw); go_simp; (try with_reducible rfl))
  try simp only [Act.put, List.setIfInBounds_toArray, List.set_cons_zero, List.set_cons_succ]
  refine wpAnyH_done (by kernel_rfl) ?_ _
  go_wp2_with fail
  rw [rounds_succ]
  go_wp2_with fail
  refine wp_region_held_drew (S := fun w' => w'.cell? ⟨w.heap.size, 4, none⟩ = some (.int .i64 gc) ∧ w'.cell? ⟨w.heap.size + 1, 4, none⟩ = some (.int .i64 gc) ∧ w'.cell? ⟨w.heap.size, 11, none⟩ = some (.slice a2 l2 c2) ∧ w'.cell? ⟨w.heap.size + 1, 11, none⟩ = some (.slice b2 n2 d2)) (by kernel_rfl) (⟨(HA.out.ext (X2.out.drew)).cell rfl, (HB.out.ext (X2.out.drew)).cell rfl, (HA.out.ext (X2.out.drew)).cell rfl, (HB.out.ext (X2.out.drew)).cell rfl⟩) (fun hHeld => ?_)
  refine wpAnyH_take (i := 0) (oi := { dst := some 10, op := Op.move (Operand.tmp 5), type := 3, pos := "law.go:39", after := #[], guard := none }) (v := ?_) rfl (by kernel_rfl) (by kernel_rfl) (by kernel_rfl) (fun _ _ _ h => h) (Or.inl ⟨by rfl, ?_⟩) (by assumption) ?_
  case refine_2 => (intro w hSw; (try dsimp only at hSw); go_simp; (try with_reducible rfl))
  try simp only [Act.put, List.setIfInBounds_toArray, List.set_cons_zero, List.set_cons_succ]
  refine wpAnyH_take (i := 1) (oi := { dst := some 11, op := Op.fieldAddr 36 (Operand.tmp 2) 2, type := 0, pos := "law.go:39", after := #[], guard := none }) (v := ?_) rfl (by kernel_rfl) (by kernel_rfl) (by kernel_rfl) (fun _ _ _ h => h) (Or.inl ⟨by rfl, ?_⟩) (by assumption) ?_
  case refine_2 => (intro w hSw; (try dsimp only at hSw); go_simp; (try with_reducible rfl))
  try simp only [Act.put, List.setIfInBounds_toArray, List.set_cons_zero, List.set_cons_succ]
  refine wpAnyH_take (i := 2) (oi := { dst := some 12, op := Op.indexAddr 30 (Operand.tmp 11) (Operand.tmp 10), type := 0, pos := "law.go:39", after := #[{ on := 1, ground := Ground.data }, { on := 0, ground := Ground.data }], guard := none }) (v := ?_) rfl (by kernel_rfl) (by kernel_rfl) (by kernel_rfl) (fun _ _ _ h => h) (Or.inl ⟨by rfl, ?_⟩) (by assumption) ?_
  case refine_2 => (intro w hSw; (try dsimp only at hSw); go_simp; (try with_reducible rfl))
  try simp only [Act.put, List.setIfInBounds_toArray, List.set_cons_zero, List.set_cons_succ]
  refine wpAnyH_take (i := 3) (oi := { dst := some 13, op := Op.load 3 (Operand.tmp 12), type := 3, pos := "law.go:39", after := #[{ on := 2, ground := Ground.data }], guard := none }) (v := ?_) rfl (by kernel_rfl) (by kernel_rfl) (by kernel_rfl) (fun _ _ _ h => h) (Or.inl ⟨by rfl, ?_⟩) (by assumption) ?_
  case refine_2 => (intro w hSw; (try dsimp only at hSw); go_simp; (try with_reducible rfl))
  try simp only [Act.put, List.setIfInBounds_toArray, List.set_cons_zero, List.set_cons_succ]
  refine wpAnyH_take (i := 4) (oi := { dst := some 14, op := Op.move (Operand.tmp 5), type := 3, pos := "law.go:39", after := #[], guard := none }) (v := ?_) rfl (by kernel_rfl) (by kernel_rfl) (by kernel_rfl) (fun _ _ _ h => h) (Or.inl ⟨by rfl, ?_⟩) (by assumption) ?_
  case refine_2 => (intro w hSw; (try dsimp only at hSw); go_simp; (try with_reducible rfl))
  try simp only [Act.put, List.setIfInBounds_toArray, List.set_cons_zero, List.set_cons_succ]
  refine wpAnyH_take (i := 5) (oi := { dst := some 15, op := Op.fieldAddr 42 (Operand.tmp 3) 2, type := 0, pos := "law.go:39", after := #[], guard := none }) (v := ?_) rfl (by kernel_rfl) (by kernel_rfl) (by kernel_rfl) (fun _ _ _ h => h) (Or.inl ⟨by rfl, ?_⟩) (by assumption) ?_
  case refine_2 => (intro w hSw; (try dsimp only at hSw); go_simp; (try with_reducible rfl))
  try simp only [Act.put, List.setIfInBounds_toArray, List.set_cons_zero, List.set_cons_succ]
  refine wpAnyH_take (i := 6) (oi := { dst := some 16, op := Op.indexAddr 30 (Operand.tmp 15) (Operand.tmp 14), type := 0, pos := "law.go:39", after := #[{ on := 5, ground := Ground.data }, { on := 4, ground := Ground.data }], guard := none }) (v := ?_) rfl (by kernel_rfl) (by kernel_rfl) (by kernel_rfl) (fun _ _ _ h => h) (Or.inl ⟨by rfl, ?_⟩) (by assumption) ?_
  case refine_2 => (intro w hSw; (try dsimp only at hSw); go_simp; (try with_reducible rfl))
  try simp only [Act.put, List.setIfInBounds_toArray, List.set_cons_zero, List.set_cons_succ]
  refine wpAnyH_take (i := 7) (oi := { dst := some 17, op := Op.load 3 (Operand.tmp 16), type := 3, pos := "law.go:39", after := #[{ on := 6, ground := Ground.data }], guard := none }) (v := ?_) rfl (by kernel_rfl) (by kernel_rfl) (by kernel_rfl) (fun _ _ _ h => h) (Or.inl ⟨by rfl, ?_⟩) (by assumption) ?_
  case refine_2 => (intro w hSw; (try dsimp only at hSw); go_simp; (try with_reducible rfl))
  try simp only [Act.put, List.setIfInBounds_toArray, List.set_cons_zero, List.set_cons_succ]
  refine wpAnyH_take (i := 8) (oi := { dst := some 18, op := Op.binOp BinOp.neq 3 (Operand.tmp 13) (Operand.tmp 17) 3, type := 4, pos := "law.go:39", after := #[{ on := 3, ground := Ground.data }, { on := 7, ground := Ground.data }], guard := none }) (v := ?_) rfl (by kernel_rfl) (by kernel_rfl) (by kernel_rfl) (fun _ _ _ h => h) (Or.inl ⟨by rfl, ?_⟩) (by assumption) ?_
  case refine_2 => (intro w hSw; (try dsimp only at hSw); go_simp; (try with_reducible rfl))
  try simp only [Act.put, List.setIfInBounds_toArray, List.set_cons_zero, List.set_cons_succ]
  refine wpAnyH_take (i := 9) (oi := { dst := some 19, op := Op.move (Operand.tmp 18), type := 4, pos := "law.go:39", after := #[{ on := 8, ground := Ground.data }], guard := none }) (v := ?_) rfl (by kernel_rfl) (by kernel_rfl) (by kernel_rfl) (fun _ _ _ h => h) (Or.inl ⟨by rfl, ?_⟩) (by assumption) ?_
  case refine_2 => (intro w hSw; (try dsimp only at hSw); go_simp; (try with_reducible rfl))
  try simp only [Act.put, List.setIfInBounds_toArray, List.set_cons_zero, List.set_cons_succ]
  refine wpAnyH_take (i := 10) (oi := { dst := some 20, op := Op.move (Operand.tmp 5), type := 3, pos := "law.go:39", after := #[{ on := 9, ground := Ground.guard }], guard := some (9, false) }) (v := ?_) rfl (by kernel_rfl) (by kernel_rfl) (by kernel_rfl) (fun _ _ _ h => h) (Or.inl ⟨by rfl, ?_⟩) (by assumption) ?_
  case refine_2 => (intro w hSw; (try dsimp only at hSw); go_simp; (try with_reducible rfl))
  try simp only [Act.put, List.setIfInBounds_toArray, List.set_cons_zero, List.set_cons_succ]
  refine wpAnyH_take (i := 11) (oi := { dst := some 21, op := Op.fieldAddr 36 (Operand.tmp 2) 5, type := 0, pos := "law.go:39", after := #[{ on := 9, ground := Ground.guard }], guard := some (9, false) }) (v := ?_) rfl (by kernel_rfl) (by kernel_rfl) (by kernel_rfl) (fun _ _ _ h => h) (Or.inl ⟨by rfl, ?_⟩) (by assumption) ?_
  case refine_2 => (intro w hSw; (try dsimp only at hSw); go_simp; (try with_reducible rfl))
  try simp only [Act.put, List.setIfInBounds_toArray, List.set_cons_zero, List.set_cons_succ]
  refine wpAnyH_take (i := 12) (oi := { dst := some 22, op := Op.indexAddr 34 (Operand.tmp 21) (Operand.tmp 20), type := 0, pos := "law.go:39", after := #[{ on := 11, ground := Ground.data }, { on := 10, ground := Ground.data }, { on := 9, ground := Ground.guard }], guard := some (9, false) }) (v := ?_) rfl (by kernel_rfl) (by kernel_rfl) (by kernel_rfl) (fun _ _ _ h => h) (Or.inl ⟨by rfl, ?_⟩) (by assumption) ?_
  case refine_2 => (intro w hSw; (try dsimp only at hSw); go_simp; (try with_reducible rfl))
  try simp only [Act.put, List.setIfInBounds_toArray, List.set_cons_zero, List.set_cons_succ]
  refine wpAnyH_take (i := 13) (oi := { dst := some 23, op := Op.load 33 (Operand.tmp 22), type := 33, pos := "law.go:39", after := #[{ on := 12, ground := Ground.data }, { on := 9, ground := Ground.guard }], guard := some (9, false) }) (v := ?_) rfl (by kernel_rfl) (by kernel_rfl) (by kernel_rfl) (fun _ _ _ h => h) (Or.inl ⟨by rfl, ?_⟩) (by assumption) ?_
  case refine_2 => (intro w hSw; (try dsimp only at hSw); go_simp; (try with_reducible rfl))
  try simp only [Act.put, List.setIfInBounds_toArray, List.set_cons_zero, List.set_cons_succ]
  refine wpAnyH_take (i := 14) (oi := { dst := some 24, op := Op.move (Operand.tmp 5), type := 3, pos := "law.go:39", after := #[{ on := 9, ground := Ground.guard }], guard := some (9, false) }) (v := ?_) rfl (by kernel_rfl) (by kernel_rfl) (by kernel_rfl) (fun _ _ _ h => h) (Or.inl ⟨by rfl, ?_⟩) (by assumption) ?_
  case refine_2 => (intro w hSw; (try dsimp only at hSw); go_simp; (try with_reducible rfl))
  try simp only [Act.put, List.setIfInBounds_toArray, List.set_cons_zero, List.set_cons_succ]
  refine wpAnyH_take (i := 15) (oi := { dst := some 25, op := Op.fieldAddr 42 (Operand.tmp 3) 5, type := 0, pos := "law.go:39", after := #[{ on := 9, ground := Ground.guard }], guard := some (9, false) }) (v := ?_) rfl (by kernel_rfl) (by kernel_rfl) (by kernel_rfl) (fun _ _ _ h => h) (Or.inl ⟨by rfl, ?_⟩) (by assumption) ?_
  case refine_2 => (intro w hSw; (try dsimp only at hSw); go_simp; (try with_reducible rfl))
  try simp only [Act.put, List.setIfInBounds_toArray, List.set_cons_zero, List.set_cons_succ]
  refine wpAnyH_take (i := 16) (oi := { dst := some 26, op := Op.indexAddr 34 (Operand.tmp 25) (Operand.tmp 24), type := 0, pos := "law.go:39", after := #[{ on := 15, ground := Ground.data }, { on := 14, ground := Ground.data }, { on := 9, ground := Ground.guard }], guard := some (9, false) }) (v := ?_) rfl (by kernel_rfl) (by kernel_rfl) (by kernel_rfl) (fun _ _ _ h => h) (Or.inl ⟨by rfl, ?_⟩) (by assumption) ?_
  case refine_2 => (intro w hSw; (try dsimp only at hSw); go_simp; (try with_reducible rfl))
  try simp only [Act.put, List.setIfInBounds_toArray, List.set_cons_zero, List.set_cons_succ]
  refine wpAnyH_take (i := 17) (oi := { dst := some 27, op := Op.load 33 (Operand.tmp 26), type := 33, pos := "law.go:39", after := #[{ on := 16, ground := Ground.data }, { on := 9, ground := Ground.guard }], guard := some (9, false) }) (v := ?_) rfl (by kernel_rfl) (by kernel_rfl) (by kernel_rfl) (fun _ _ _ h => h) (Or.inl ⟨by rfl, ?_⟩) (by assumption) ?_
  case refine_2 => (intro w hSw; (try dsimp only at hSw); go_simp; (try with_reducible rfl))
  try simp only [Act.put, List.setIfInBounds_toArray, List.set_cons_zero, List.set_cons_succ]
  refine wpAnyH_ready (rs := [18]) (by kernel_rfl) (by simp) ?_
  refine AllReadyH.cons (o := { dst := some 28, op := Op.call { callee := Callee.value (Operand.func 48), args := #[Operand.tmp 23, Operand.tmp 27], argTypes := #[33, 33] }, type := 4, pos := "law.go:39", after := #[{ on := 13, ground := Ground.data }, { on := 17, ground := Ground.data }, { on := 9, ground := Ground.chain }, { on := 9, ground := Ground.guard }], guard := some (9, false) }) rfl (fun K hK => ?_) AllReadyH.nil
  go_simp
  go_at_call 48
  refine (U2.out _ (HE.out.trans (X2.out.drew))).mono ?_; rintro e w2' ⟨rfl, x2⟩
  have X3 := Lib.hid ((X2.out.drew).trans x2)
  clear x2
  refine hK.out _ _ (⟨(HA.out.ext X3.out).cell rfl, (HB.out.ext X3.out).cell rfl, (HA.out.ext X3.out).cell rfl, (HB.out.ext X3.out).cell rfl⟩) (fun hHeld => ?_)
  clear hK K
  try simp only [Act.put, List.setIfInBounds_toArray, List.set_cons_zero, List.set_cons_succ]
  refine wpAnyH_take (i := 19) (oi := { dst := some 29, op := Op.unOp UnOp.not 4 (Operand.tmp 28), type := 4, pos := "law.go:39", after := #[{ on := 18, ground := Ground.data }, { on := 9, ground := Ground.guard }], guard := some (9, false) }) (v := ?_) rfl (by kernel_rfl) (by kernel_rfl) (by kernel_rfl) (fun _ _ _ h => h) (Or.inl ⟨by rfl, ?_⟩) (by assumption) ?_
  case refine_2 => (intro w hSw; (try dsimp only at hSw); go_simp; (try with_reducible rfl))
  try simp only [Act.put, List.setIfInBounds_toArray, List.set_cons_zero, List.set_cons_succ]
  refine wpAnyH_take (i := 20) (oi := { dst := some 30, op := Op.pick (Operand.tmp 19) (Operand.const (Value.bool true)) (Operand.tmp 29), type := 4, pos := "law.go:39", after := #[{ on := 9, ground := Ground.data }, { on := 19, ground := Ground.data }], guard := none }) (v := ?_) rfl (by kernel_rfl) (by kernel_rfl) (by kernel_rfl) (fun _ _ _ h => h) (Or.inl ⟨by rfl, ?_⟩) (by assumption) ?_
  case refine_2 => (intro w hSw; (try dsimp only at hSw); go_simp; (try with_reducible rfl))
  try simp only [Act.put, List.setIfInBounds_toArray, List.set_cons_zero, List.set_cons_succ]
  refine wpAnyH_done (by kernel_rfl) ?_ _
  go_wp2_with fail
  rw [rounds_succ]
  go_wp2_with fail
  refine wp_region_held_drew (S := fun w' => w'.cell? ⟨w.heap.size, 5, none⟩ = some (.int .i64 gd) ∧ w'.cell? ⟨w.heap.size + 1, 5, none⟩ = some (.int .i64 gd) ∧ w'.cell? ⟨w.heap.size, 12, none⟩ = some (.slice a3 l3 c3) ∧ w'.cell? ⟨w.heap.size + 1, 12, none⟩ = some (.slice b3 n3 d3)) (by kernel_rfl) (⟨(HA.out.ext (X3.out.drew)).cell rfl, (HB.out.ext (X3.out.drew)).cell rfl, (HA.out.ext (X3.out.drew)).cell rfl, (HB.out.ext (X3.out.drew)).cell rfl⟩) (fun hHeld => ?_)
  refine wpAnyH_take (i := 0) (oi := { dst := some 10, op := Op.move (Operand.tmp 5), type := 3, pos := "law.go:39", after := #[], guard := none }) (v := ?_) rfl (by kernel_rfl) (by kernel_rfl) (by kernel_rfl) (fun _ _ _ h => h) (Or.inl ⟨by rfl, ?_⟩) (by assumption) ?_
  case refine_2 => (intro w hSw; (try dsimp only at hSw); go_simp; (try with_reducible rfl))
  try simp only [Act.put, List.setIfInBounds_toArray, List.set_cons_zero, List.set_cons_succ]
  refine wpAnyH_take (i := 1) (oi := { dst := some 11, op := Op.fieldAddr 36 (Operand.tmp 2) 2, type := 0, pos := "law.go:39", after := #[], guard := none }) (v := ?_) rfl (by kernel_rfl) (by kernel_rfl) (by kernel_rfl) (fun _ _ _ h => h) (Or.inl ⟨by rfl, ?_⟩) (by assumption) ?_
  case refine_2 => (intro w hSw; (try dsimp only at hSw); go_simp; (try with_reducible rfl))
  try simp only [Act.put, List.setIfInBounds_toArray, List.set_cons_zero, List.set_cons_succ]
  refine wpAnyH_take (i := 2) (oi := { dst := some 12, op := Op.indexAddr 30 (Operand.tmp 11) (Operand.tmp 10), type := 0, pos := "law.go:39", after := #[{ on := 1, ground := Ground.data }, { on := 0, ground := Ground.data }], guard := none }) (v := ?_) rfl (by kernel_rfl) (by kernel_rfl) (by kernel_rfl) (fun _ _ _ h => h) (Or.inl ⟨by rfl, ?_⟩) (by assumption) ?_
  case refine_2 => (intro w hSw; (try dsimp only at hSw); go_simp; (try with_reducible rfl))
  try simp only [Act.put, List.setIfInBounds_toArray, List.set_cons_zero, List.set_cons_succ]
  refine wpAnyH_take (i := 3) (oi := { dst := some 13, op := Op.load 3 (Operand.tmp 12), type := 3, pos := "law.go:39", after := #[{ on := 2, ground := Ground.data }], guard := none }) (v := ?_) rfl (by kernel_rfl) (by kernel_rfl) (by kernel_rfl) (fun _ _ _ h => h) (Or.inl ⟨by rfl, ?_⟩) (by assumption) ?_
  case refine_2 => (intro w hSw; (try dsimp only at hSw); go_simp; (try with_reducible rfl))
  try simp only [Act.put, List.setIfInBounds_toArray, List.set_cons_zero, List.set_cons_succ]
  refine wpAnyH_take (i := 4) (oi := { dst := some 14, op := Op.move (Operand.tmp 5), type := 3, pos := "law.go:39", after := #[], guard := none }) (v := ?_) rfl (by kernel_rfl) (by kernel_rfl) (by kernel_rfl) (fun _ _ _ h => h) (Or.inl ⟨by rfl, ?_⟩) (by assumption) ?_
  case refine_2 => (intro w hSw; (try dsimp only at hSw); go_simp; (try with_reducible rfl))
  try simp only [Act.put, List.setIfInBounds_toArray, List.set_cons_zero, List.set_cons_succ]
  refine wpAnyH_take (i := 5) (oi := { dst := some 15, op := Op.fieldAddr 42 (Operand.tmp 3) 2, type := 0, pos := "law.go:39", after := #[], guard := none }) (v := ?_) rfl (by kernel_rfl) (by kernel_rfl) (by kernel_rfl) (fun _ _ _ h => h) (Or.inl ⟨by rfl, ?_⟩) (by assumption) ?_
  case refine_2 => (intro w hSw; (try dsimp only at hSw); go_simp; (try with_reducible rfl))
  try simp only [Act.put, List.setIfInBounds_toArray, List.set_cons_zero, List.set_cons_succ]
  refine wpAnyH_take (i := 6) (oi := { dst := some 16, op := Op.indexAddr 30 (Operand.tmp 15) (Operand.tmp 14), type := 0, pos := "law.go:39", after := #[{ on := 5, ground := Ground.data }, { on := 4, ground := Ground.data }], guard := none }) (v := ?_) rfl (by kernel_rfl) (by kernel_rfl) (by kernel_rfl) (fun _ _ _ h => h) (Or.inl ⟨by rfl, ?_⟩) (by assumption) ?_
  case refine_2 => (intro w hSw; (try dsimp only at hSw); go_simp; (try with_reducible rfl))
  try simp only [Act.put, List.setIfInBounds_toArray, List.set_cons_zero, List.set_cons_succ]
  refine wpAnyH_take (i := 7) (oi := { dst := some 17, op := Op.load 3 (Operand.tmp 16), type := 3, pos := "law.go:39", after := #[{ on := 6, ground := Ground.data }], guard := none }) (v := ?_) rfl (by kernel_rfl) (by kernel_rfl) (by kernel_rfl) (fun _ _ _ h => h) (Or.inl ⟨by rfl, ?_⟩) (by assumption) ?_
  case refine_2 => (intro w hSw; (try dsimp only at hSw); go_simp; (try with_reducible rfl))
  try simp only [Act.put, List.setIfInBounds_toArray, List.set_cons_zero, List.set_cons_succ]
  refine wpAnyH_take (i := 8) (oi := { dst := some 18, op := Op.binOp BinOp.neq 3 (Operand.tmp 13) (Operand.tmp 17) 3, type := 4, pos := "law.go:39", after := #[{ on := 3, ground := Ground.data }, { on := 7, ground := Ground.data }], guard := none }) (v := ?_) rfl (by kernel_rfl) (by kernel_rfl) (by kernel_rfl) (fun _ _ _ h => h) (Or.inl ⟨by rfl, ?_⟩) (by assumption) ?_
  case refine_2 => (intro w hSw; (try dsimp only at hSw); go_simp; (try with_reducible rfl))
  try simp only [Act.put, List.setIfInBounds_toArray, List.set_cons_zero, List.set_cons_succ]
  refine wpAnyH_take (i := 9) (oi := { dst := some 19, op := Op.move (Operand.tmp 18), type := 4, pos := "law.go:39", after := #[{ on := 8, ground := Ground.data }], guard := none }) (v := ?_) rfl (by kernel_rfl) (by kernel_rfl) (by kernel_rfl) (fun _ _ _ h => h) (Or.inl ⟨by rfl, ?_⟩) (by assumption) ?_
  case refine_2 => (intro w hSw; (try dsimp only at hSw); go_simp; (try with_reducible rfl))
  try simp only [Act.put, List.setIfInBounds_toArray, List.set_cons_zero, List.set_cons_succ]
  refine wpAnyH_take (i := 10) (oi := { dst := some 20, op := Op.move (Operand.tmp 5), type := 3, pos := "law.go:39", after := #[{ on := 9, ground := Ground.guard }], guard := some (9, false) }) (v := ?_) rfl (by kernel_rfl) (by kernel_rfl) (by kernel_rfl) (fun _ _ _ h => h) (Or.inl ⟨by rfl, ?_⟩) (by assumption) ?_
  case refine_2 => (intro w hSw; (try dsimp only at hSw); go_simp; (try with_reducible rfl))
  try simp only [Act.put, List.setIfInBounds_toArray, List.set_cons_zero, List.set_cons_succ]
  refine wpAnyH_take (i := 11) (oi := { dst := some 21, op := Op.fieldAddr 36 (Operand.tmp 2) 5, type := 0, pos := "law.go:39", after := #[{ on := 9, ground := Ground.guard }], guard := some (9, false) }) (v := ?_) rfl (by kernel_rfl) (by kernel_rfl) (by kernel_rfl) (fun _ _ _ h => h) (Or.inl ⟨by rfl, ?_⟩) (by assumption) ?_
  case refine_2 => (intro w hSw; (try dsimp only at hSw); go_simp; (try with_reducible rfl))
  try simp only [Act.put, List.setIfInBounds_toArray, List.set_cons_zero, List.set_cons_succ]
  refine wpAnyH_take (i := 12) (oi := { dst := some 22, op := Op.indexAddr 34 (Operand.tmp 21) (Operand.tmp 20), type := 0, pos := "law.go:39", after := #[{ on := 11, ground := Ground.data }, { on := 10, ground := Ground.data }, { on := 9, ground := Ground.guard }], guard := some (9, false) }) (v := ?_) rfl (by kernel_rfl) (by kernel_rfl) (by kernel_rfl) (fun _ _ _ h => h) (Or.inl ⟨by rfl, ?_⟩) (by assumption) ?_
  case refine_2 => (intro w hSw; (try dsimp only at hSw); go_simp; (try with_reducible rfl))
  try simp only [Act.put, List.setIfInBounds_toArray, List.set_cons_zero, List.set_cons_succ]
  refine wpAnyH_take (i := 13) (oi := { dst := some 23, op := Op.load 33 (Operand.tmp 22), type := 33, pos := "law.go:39", after := #[{ on := 12, ground := Ground.data }, { on := 9, ground := Ground.guard }], guard := some (9, false) }) (v := ?_) rfl (by kernel_rfl) (by kernel_rfl) (by kernel_rfl) (fun _ _ _ h => h) (Or.inl ⟨by rfl, ?_⟩) (by assumption) ?_
  case refine_2 => (intro w hSw; (try dsimp only at hSw); go_simp; (try with_reducible rfl))
  try simp only [Act.put, List.setIfInBounds_toArray, List.set_cons_zero, List.set_cons_succ]
  refine wpAnyH_take (i := 14) (oi := { dst := some 24, op := Op.move (Operand.tmp 5), type := 3, pos := "law.go:39", after := #[{ on := 9, ground := Ground.guard }], guard := some (9, false) }) (v := ?_) rfl (by kernel_rfl) (by kernel_rfl) (by kernel_rfl) (fun _ _ _ h => h) (Or.inl ⟨by rfl, ?_⟩) (by assumption) ?_
  case refine_2 => (intro w hSw; (try dsimp only at hSw); go_simp; (try with_reducible rfl))
  try simp only [Act.put, List.setIfInBounds_toArray, List.set_cons_zero, List.set_cons_succ]
  refine wpAnyH_take (i := 15) (oi := { dst := some 25, op := Op.fieldAddr 42 (Operand.tmp 3) 5, type := 0, pos := "law.go:39", after := #[{ on := 9, ground := Ground.guard }], guard := some (9, false) }) (v := ?_) rfl (by kernel_rfl) (by kernel_rfl) (by kernel_rfl) (fun _ _ _ h => h) (Or.inl ⟨by rfl, ?_⟩) (by assumption) ?_
  case refine_2 => (intro w hSw; (try dsimp only at hSw); go_simp; (try with_reducible rfl))
  try simp only [Act.put, List.setIfInBounds_toArray, List.set_cons_zero, List.set_cons_succ]
  refine wpAnyH_take (i := 16) (oi := { dst := some 26, op := Op.indexAddr 34 (Operand.tmp 25) (Operand.tmp 24), type := 0, pos := "law.go:39", after := #[{ on := 15, ground := Ground.data }, { on := 14, ground := Ground.data }, { on := 9, ground := Ground.guard }], guard := some (9, false) }) (v := ?_) rfl (by kernel_rfl) (by kernel_rfl) (by kernel_rfl) (fun _ _ _ h => h) (Or.inl ⟨by rfl, ?_⟩) (by assumption) ?_
  case refine_2 => (intro w hSw; (try dsimp only at hSw); go_simp; (try with_reducible rfl))
  try simp only [Act.put, List.setIfInBounds_toArray, List.set_cons_zero, List.set_cons_succ]
  refine wpAnyH_take (i := 17) (oi := { dst := some 27, op := Op.load 33 (Operand.tmp 26), type := 33, pos := "law.go:39", after := #[{ on := 16, ground := Ground.data }, { on := 9, ground := Ground.guard }], guard := some (9, false) }) (v := ?_) rfl (by kernel_rfl) (by kernel_rfl) (by kernel_rfl) (fun _ _ _ h => h) (Or.inl ⟨by rfl, ?_⟩) (by assumption) ?_
  case refine_2 => (intro w hSw; (try dsimp only at hSw); go_simp; (try with_reducible rfl))
  try simp only [Act.put, List.setIfInBounds_toArray, List.set_cons_zero, List.set_cons_succ]
  refine wpAnyH_ready (rs := [18]) (by kernel_rfl) (by simp) ?_
  refine AllReadyH.cons (o := { dst := some 28, op := Op.call { callee := Callee.value (Operand.func 48), args := #[Operand.tmp 23, Operand.tmp 27], argTypes := #[33, 33] }, type := 4, pos := "law.go:39", after := #[{ on := 13, ground := Ground.data }, { on := 17, ground := Ground.data }, { on := 9, ground := Ground.chain }, { on := 9, ground := Ground.guard }], guard := some (9, false) }) rfl (fun K hK => ?_) AllReadyH.nil
  go_simp
  go_at_call 48
  refine (U3.out _ (HE.out.trans (X3.out.drew))).mono ?_; rintro e w3' ⟨rfl, x3⟩
  have X4 := Lib.hid ((X3.out.drew).trans x3)
  clear x3
  refine hK.out _ _ (⟨(HA.out.ext X4.out).cell rfl, (HB.out.ext X4.out).cell rfl, (HA.out.ext X4.out).cell rfl, (HB.out.ext X4.out).cell rfl⟩) (fun hHeld => ?_)
  clear hK K
  try simp only [Act.put, List.setIfInBounds_toArray, List.set_cons_zero, List.set_cons_succ]
  refine wpAnyH_take (i := 19) (oi := { dst := some 29, op := Op.unOp UnOp.not 4 (Operand.tmp 28), type := 4, pos := "law.go:39", after := #[{ on := 18, ground := Ground.data }, { on := 9, ground := Ground.guard }], guard := some (9, false) }) (v := ?_) rfl (by kernel_rfl) (by kernel_rfl) (by kernel_rfl) (fun _ _ _ h => h) (Or.inl ⟨by rfl, ?_⟩) (by assumption) ?_
  case refine_2 => (intro w hSw; (try dsimp only at hSw); go_simp; (try with_reducible rfl))
  try simp only [Act.put, List.setIfInBounds_toArray, List.set_cons_zero, List.set_cons_succ]
  refine wpAnyH_take (i := 20) (oi := { dst := some 30, op := Op.pick (Operand.tmp 19) (Operand.const (Value.bool true)) (Operand.tmp 29), type := 4, pos := "law.go:39", after := #[{ on := 9, ground := Ground.data }, { on := 19, ground := Ground.data }], guard := none }) (v := ?_) rfl (by kernel_rfl) (by kernel_rfl) (by kernel_rfl) (fun _ _ _ h => h) (Or.inl ⟨by rfl, ?_⟩) (by assumption) ?_
  case refine_2 => (intro w hSw; (try dsimp only at hSw); go_simp; (try with_reducible rfl))
  try simp only [Act.put, List.setIfInBounds_toArray, List.set_cons_zero, List.set_cons_succ]
  refine wpAnyH_done (by kernel_rfl) ?_ _
  go_wp2_with fail
  rw [rounds_succ]
  obtain ⟨⟨k0, k1, k2, k3, k4, k5, k6, k7, k8, k9, k10, k11, k12⟩, -⟩ := sq_cells (HA.out.ext X4.out)
  obtain ⟨⟨e0, e1, e2, e3, e4, e5, e6, e7, e8, e9, e10, e11, e12⟩, -⟩ := sq_cells (HB.out.ext X4.out)
  go_wp2_with fail
  refine (UL.out _ (HE.out.trans X4.out)).mono ?_; rintro e w9 ⟨rfl, x9⟩
  have X9 := Lib.hid (X4.out.trans x9)
  go_wp2
  go_ret
  exact ⟨rfl, HE.out.trans X9.out⟩
end Go.Proofs.YtpofabebmeickaaGreatDoor

