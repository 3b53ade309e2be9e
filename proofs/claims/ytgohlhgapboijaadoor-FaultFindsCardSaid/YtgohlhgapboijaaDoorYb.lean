/- Contracts of this seat: Ffi. -/
import Derived.Test.YtgohlhgapboijaaDoorYa
import Derived.Deep.DeepCutAuto
import Derived.StillTailTactics
import Derived.RegionTactic
import Derived.Deep.RegionHeld3
/- kinlaw1.FaultFinds: the walk. -/
namespace Go.Proofs.YtgohlhgapboijaaDoor
set_option linter.unusedVariables false
set_option linter.unusedSimpArgs false
open Go.RowKit Go.Extern.Stop Go.Stop Go.Extern

/-- what is left of a region of any order, where it only reads, in the order of the text -/
theorem wpAny_still_rest {P : Program} {ops : Array Oper} {md : Region.Mode} {Q : Exit → Act → World → Prop} (k : Nat) {fuel : Nat} {listed : Array Bool} {a : Act} {w : World} (hs : Region.noSelect ops = true)
    (hf : (ops.toList.drop k).length = fuel) (hB : Region.lexFrom md ops fuel k listed = true) (h : wpStill P ops w (fun a' => Q .normal a' w) (ops.toList.drop k) a) : wpAny P md ops Q fuel listed a w := by
  subst hf
  exact wpAny_of_still (fun _ h => h) _ _ _ (wpAnyS_lex hs _ k listed a (fun j => by simp) hB h)
theorem wpStill_val {P : Program} {ops : Array Oper} {w : World} {Q : Act → Prop} {o : Oper} {rest : List Oper} {a : Act} (v : Value) (hw : Region.wanted o (yielded ops a.tmps) = true) (h : (execOp a.eval o).run P w = .ok (.value v) w) (k : wpStill P ops w Q rest (a.put o.dst v)) : wpStill P ops w Q (o :: rest) a := by
  unfold wpStill
  rw [hw]
  simp only [if_true, Oper.still, h, Oper.stillUpon]
  exact ⟨trivial, k⟩
theorem wpStill_skip {P : Program} {ops : Array Oper} {w : World} {Q : Act → Prop} {o : Oper} {rest : List Oper} {a : Act} (h : Region.wanted o (yielded ops a.tmps) = false) (k : wpStill P ops w Q rest (a.put o.dst undef)) : wpStill P ops w Q (o :: rest) a := by
  unfold wpStill
  rw [h]
  exact k
set_option maxHeartbeats 8000000 in
set_option maxRecDepth 100000 in
theorem finds_few (L : List (ByteArray × Int)) (c d : Int) (va : Value) (w : World) (hg : EtIs w) (hT : PwIs w) (ra : Row w va L.length (stepCells L)) (fl : L.length ≤ 400)
    (FL : ∀ W, Ext w W → Calls Tryd.prog 14 #[va] W fun e w' => e = .returned (.bool true) ∧ W = w') :
    Calls Tryd.prog 4 #[va, .int .i64 c, .int .i64 d] w fun e w' => e = .returned (.bool true) ∧ Ext w w' := by
  have WL := Lib.hid (fun (W : World) (x : Ext w W) (k : Int) => wrapped_any L k va W (ra.ext x) (by omega))
  have HG := Lib.hid hg
  have HT := Lib.hid hT
  have HFL := Lib.hid FL
  obtain ⟨n, hn⟩ : ∃ n, L.length = n := ⟨_, rfl⟩
  have HN := Lib.hid hn
  rw [hn] at ra fl
  obtain ⟨a, ca, rfl⟩ := ra.form
  have RA := Lib.hid ra
  clear hg hT FL ra hn
  obtain ⟨cd, hcd⟩ : ∃ cd, (c == d) = cd := ⟨_, rfl⟩
  have hcc : (c == c) = true := by simp
  have hbb : (cd != cd) = false := by simp
  have hbe : (cd == cd) = true := by simp
  go_enter Tryd.func4, Tryd.ntmps4
  go_wp2_with fail
  refine (first1_any _ HG.out HT.out).mono ?_; rintro e w1 ⟨rfl, x1⟩
  have HX1 := Lib.hid x1
  clear x1
  go_wp2_with fail
  refine (HFL.out _ HX1.out).mono ?_; rintro e w2 ⟨rfl, rfl⟩
  go_wp2_with fail
  refine (WL.out _ HX1.out c).mono ?_; rintro e w3 ⟨u3, rfl, x3, h3⟩
  have HX3 := Lib.hid (HX1.out.trans x3)
  have HE3 := Lib.hid h3
  clear x3 h3 HX1
  go_wp2_with fail
  refine (Is_code L c c _ _ HE3.out).mono ?_; rintro e w4 ⟨rfl, rfl⟩
  rw [hcc]
  go_wp2_with fail
  refine (Is_code L c d _ _ HE3.out).mono ?_; rintro e w4 ⟨rfl, rfl⟩
  rw [hcd]
  go_wp2_with fail
  refine (fis_any L c d _ _ HE3.out).mono ?_; rintro e w4 ⟨rfl, rfl⟩
  rw [hcd]
  go_wp2_with fail
  have HW4 := Lib.hid ((Ext.refl w3).alloc (.cells #[.pointer none] 38))
  have HF : Hid ((w3.alloc (.cells #[.pointer none] 38)).cell? ⟨w3.heap.size, 0, none⟩ = some (.pointer none)) := by show _ = _; simp
  have HFZ : Hid ((w3.alloc (.cells #[.pointer none] 38)).frozen? ⟨w3.heap.size, 0, none⟩ = false) := by show _ = _; simp
  revert HW4 HF HFZ
  generalize w3.alloc _ = w4
  intro HW4 HF HFZ
  have HG4 := Lib.hid (HG.out.ext (HX3.out.trans HW4.out))
  go_cut [76] (fun s76 wx => s76 = .bool false ∧ Ext w3 wx)
  case first =>
    by_cases h0 : 0 < n
    · obtain ⟨⟨s, z⟩, q, hL⟩ : ∃ y q, L = y :: q := by
        cases L with
        | nil => have := HN.out; simp at this; omega
        | cons y q => exact ⟨y, q, rfl⟩
      have he := HE3.out
      rw [hL] at he
      obtain ⟨b, u', rfl, k0, k1, -, -⟩ := he
      obtain ⟨g, off, rfl⟩ := row_had RA.out h0
      obtain ⟨x0, x1⟩ := stepCells_get L 0 s z (by rw [hL]; rfl)
      have R0 := Lib.hid (HX3.out.cell (RA.out.at x0))
      have R1 := Lib.hid (HX3.out.cell (RA.out.at x1))
      have K0' := Lib.hid k0
      have K1' := Lib.hid k1
      have t0 : (0 : Int) < (n : Int) := by omega
      have zz : (z != z) = false := by simp
      have sse : (s == s) = true := by rw [beq_toListBytes]; simp
      have ss : (s != s) = false := by unfold bne; rw [sse]; rfl
      clear k0 k1 x0 x1
      refine wp_region_any (by kernel_rfl) ?_
      change wpAny _ _ _ _ _ _ _ (World.drew _)
      refine wpAny_take (i := 0) (v := ?_) rfl (by kernel_rfl) (by kernel_rfl) (by kernel_rfl) (fun _ _ _ h => h) (Or.inl ⟨by rfl, ?_⟩) ?_
      rotate_left 1
      · (intro w; go_simp; try with_reducible rfl)
      refine wpAny_take (i := 1) (v := ?_) rfl (by kernel_rfl) (by kernel_rfl) (by kernel_rfl) (fun _ _ _ h => h) (Or.inl ⟨by rfl, ?_⟩) ?_
      rotate_left 1
      · (intro w; go_simp; try with_reducible rfl)
      refine wpAny_take (i := 3) (v := ?_) rfl (by kernel_rfl) (by kernel_rfl) (by kernel_rfl) (fun _ _ _ h => h) (Or.inl ⟨by rfl, ?_⟩) ?_
      rotate_left 1
      · (intro w; go_simp; try with_reducible rfl)
      refine wpAny_take (i := 4) (v := ?_) rfl (by kernel_rfl) (by kernel_rfl) (by kernel_rfl) (fun _ _ _ h => h) (Or.inl ⟨by rfl, ?_⟩) ?_
      rotate_left 1
      · (intro w; go_simp; try with_reducible rfl)
      refine wpAny_take (i := 5) (v := ?_) rfl (by kernel_rfl) (by kernel_rfl) (by kernel_rfl) (fun _ _ _ h => h) (Or.inl ⟨by rfl, ?_⟩) ?_
      rotate_left 1
      · (intro w; go_simp; try with_reducible rfl)
      refine wpAny_ready (rs := [2]) (by kernel_rfl) (by simp) ?_
      refine AllReady.cons rfl (fun K hK => ?_) AllReady.nil
      go_simp
      go_at_call 22
      refine (As_fault b (.pointer none) ⟨w3.heap.size, 0, none⟩ _ (HG4.out.ext (Ext.refl w4).drew) ((Ext.refl w4).drew.cell HF.out) (by simpa using HFZ.out)).mono ?_
      rintro e w' ⟨rfl, w5, hx, rfl⟩
      refine hK _ _ ?_
      clear hK K
      have HB := setCell_cell (hx.cell ((Ext.refl w4).drew.cell HF.out)) (.pointer (some ⟨b, 0, none⟩))
      have HX5 := Lib.hid ((HW4.out.drew.trans hx).setCell (p := ⟨w3.heap.size, 0, none⟩) (Nat.le_refl _) (.pointer (some ⟨b, 0, none⟩)))
      revert HB HX5
      generalize w5.setCell _ _ = w6
      intro HB HX5
      have c0 := HX5.out.cell K0'.out
      have c1 := HX5.out.cell K1'.out
      have r0 := HX5.out.cell R0.out
      have r1 := HX5.out.cell R1.out
      rw [show off + 0 * 2 = off by omega] at r0
      rw [show off + (0 * 2 + 1) = off + 1 by omega] at r1
      refine wpAny_still_rest 6 (by kernel_rfl) (by kernel_rfl) (by kernel_rfl) ?_
      simp only [List.drop_succ_cons, List.drop_zero]
      clear HG HT HN HF HFZ HG4 hL HE3 WL HFL RA R0 R1 K0' K1' hx hcd hcc hbb hbe
      repeat still_step
      refine wpStill_nil ?_
      go_wp2_with fail
      go_meet
      exact ⟨rfl, HX5.out⟩
    · obtain rfl : n = 0 := by omega
      have hL : L = [] := List.eq_nil_of_length_eq_zero HN.out
      have he := HE3.out
      rw [hL] at he
      have hu : u3 = Value.iface 23 (.int .i64 c) := he
      subst hu
      have HGX : Hid (∀ W, Ext w4 W → EtIs W) := fun W k => HG4.out.ext k
      clear he h0 HG HT HN HF HFZ HG4 hL HE3 WL HFL RA hcd hcc hbb hbe
      refine wp_region_held_drew (S := fun w' => Ext w4 w') (by kernel_rfl) ((Ext.refl _).drew) (fun hHeld => ?_)
      refine wpAnyH_take (i := 0) (oi := { dst := some 43, op := Op.move (Operand.tmp 7), type := 27, pos := "law.go:97", after := #[], guard := none }) (v := ?_) rfl (by kernel_rfl) (by kernel_rfl) (by kernel_rfl) (fun _ _ _ h => h) (Or.inl ⟨by rfl, ?_⟩) (by assumption) ?_
      case refine_2 => (intro w hSw; (try dsimp only at hSw); go_simp; (try with_reducible rfl))
      try simp only [Act.put, List.setIfInBounds_toArray, List.set_cons_zero, List.set_cons_succ]
      refine wpAnyH_take (i := 1) (oi := { dst := some 44, op := Op.makeInterface 40 (Operand.tmp 8), type := 20, pos := "law.go:97", after := #[], guard := none }) (v := ?_) rfl (by kernel_rfl) (by kernel_rfl) (by kernel_rfl) (fun _ _ _ h => h) (Or.inl ⟨by rfl, ?_⟩) (by assumption) ?_
      case refine_2 => (intro w hSw; (try dsimp only at hSw); go_simp; (try with_reducible rfl))
      try simp only [Act.put, List.setIfInBounds_toArray, List.set_cons_zero, List.set_cons_succ]
      refine wpAnyH_take (i := 3) (oi := { dst := some 46, op := Op.move (Operand.tmp 0), type := 22, pos := "law.go:97", after := #[], guard := none }) (v := ?_) rfl (by kernel_rfl) (by kernel_rfl) (by kernel_rfl) (fun _ _ _ h => h) (Or.inl ⟨by rfl, ?_⟩) (by assumption) ?_
      case refine_2 => (intro w hSw; (try dsimp only at hSw); go_simp; (try with_reducible rfl))
      try simp only [Act.put, List.setIfInBounds_toArray, List.set_cons_zero, List.set_cons_succ]
      refine wpAnyH_take (i := 4) (oi := { dst := some 47, op := Op.call { callee := Callee.builtin Builtin.len, args := #[Operand.tmp 46], argTypes := #[22] }, type := 3, pos := "law.go:97", after := #[{ on := 3, ground := Ground.data }], guard := none }) (v := ?_) rfl (by kernel_rfl) (by kernel_rfl) (by kernel_rfl) (fun _ _ _ h => h) (Or.inl ⟨by rfl, ?_⟩) (by assumption) ?_
      case refine_2 => (intro w hSw; (try dsimp only at hSw); go_simp; (try with_reducible rfl))
      try simp only [Act.put, List.setIfInBounds_toArray, List.set_cons_zero, List.set_cons_succ]
      refine wpAnyH_take (i := 5) (oi := { dst := some 48, op := Op.binOp BinOp.gtr 3 (Operand.tmp 47) (Operand.const (Value.int IntKind.i64 0)) 3, type := 4, pos := "law.go:97", after := #[{ on := 4, ground := Ground.data }], guard := none }) (v := ?_) rfl (by kernel_rfl) (by kernel_rfl) (by kernel_rfl) (fun _ _ _ h => h) (Or.inl ⟨by rfl, ?_⟩) (by assumption) ?_
      case refine_2 => (intro w hSw; (try dsimp only at hSw); go_simp; (try with_reducible rfl))
      try simp only [Act.put, List.setIfInBounds_toArray, List.set_cons_zero, List.set_cons_succ]
      refine wpAnyH_ready (rs := [2]) (by kernel_rfl) (by simp) ?_
      refine AllReadyH.cons (o := { dst := some 45, op := Op.call { callee := Callee.value (Operand.func 22), args := #[Operand.tmp 43, Operand.tmp 44], argTypes := #[27, 20] }, type := 4, pos := "law.go:97", after := #[{ on := 0, ground := Ground.data }, { on := 1, ground := Ground.data }], guard := none }) rfl (fun K hK => ?_) AllReadyH.nil
      go_simp
      go_at_call 22
      refine (As_fault_no c ⟨w3.heap.size, 0, none⟩ _ (HGX.out _ hHeld)).mono ?_; rintro e w6 ⟨rfl, x6⟩
      refine hK.out _ _ (hHeld.trans x6) (fun hHeld => ?_)
      clear hK K
      try simp only [Act.put, List.setIfInBounds_toArray, List.set_cons_zero, List.set_cons_succ]
      refine wpAnyH_take (i := 6) (oi := { dst := some 49, op := Op.binOp BinOp.neq 4 (Operand.tmp 45) (Operand.tmp 48) 4, type := 4, pos := "law.go:97", after := #[{ on := 2, ground := Ground.data }, { on := 5, ground := Ground.data }], guard := none }) (v := .bool false) rfl (by kernel_rfl) (by kernel_rfl) (by kernel_rfl) (fun _ _ _ h => h) (Or.inl ⟨by rfl, ?_⟩) (by assumption) ?_
      · (intro w hSw; (try dsimp only at hSw); go_simp; (try with_reducible rfl))
      try simp only [Act.put, List.setIfInBounds_toArray, List.set_cons_zero, List.set_cons_succ]
      refine wpAnyH_take (i := 7) (oi := { dst := some 50, op := Op.move (Operand.tmp 49), type := 4, pos := "law.go:97", after := #[{ on := 6, ground := Ground.data }, { on := 2, ground := Ground.chain }], guard := none }) (v := .bool false) rfl (by kernel_rfl) (by kernel_rfl) (by kernel_rfl) (fun _ _ _ h => h) (Or.inl ⟨by rfl, ?_⟩) (by assumption) ?_
      · (intro w hSw; (try dsimp only at hSw); go_simp; (try with_reducible rfl))
      try simp only [Act.put, List.setIfInBounds_toArray, List.set_cons_zero, List.set_cons_succ]
      refine wpAnyH_take (i := 8) (oi := { dst := some 51, op := Op.move (Operand.tmp 0), type := 22, pos := "law.go:97", after := #[{ on := 7, ground := Ground.guard }], guard := some (7, false) }) (v := .slice a 0 ca) rfl (by kernel_rfl) (by kernel_rfl) (by kernel_rfl) (fun _ _ _ h => h) (Or.inl ⟨by rfl, ?_⟩) (by assumption) ?_
      · (intro w hSw; (try dsimp only at hSw); go_simp; (try with_reducible rfl))
      try simp only [Act.put, List.setIfInBounds_toArray, List.set_cons_zero, List.set_cons_succ]
      refine wpAnyH_take (i := 9) (oi := { dst := some 52, op := Op.call { callee := Callee.builtin Builtin.len, args := #[Operand.tmp 51], argTypes := #[22] }, type := 3, pos := "law.go:97", after := #[{ on := 8, ground := Ground.data }, { on := 7, ground := Ground.guard }], guard := some (7, false) }) (v := .int .i64 0) rfl (by kernel_rfl) (by kernel_rfl) (by kernel_rfl) (fun _ _ _ h => h) (Or.inl ⟨by rfl, ?_⟩) (by assumption) ?_
      · (intro w hSw; (try dsimp only at hSw); go_simp; (try with_reducible rfl))
      try simp only [Act.put, List.setIfInBounds_toArray, List.set_cons_zero, List.set_cons_succ]
      refine wpAnyH_take (i := 10) (oi := { dst := some 53, op := Op.binOp BinOp.gtr 3 (Operand.tmp 52) (Operand.const (Value.int IntKind.i64 0)) 3, type := 4, pos := "law.go:97", after := #[{ on := 9, ground := Ground.data }, { on := 7, ground := Ground.guard }], guard := some (7, false) }) (v := .bool false) rfl (by kernel_rfl) (by kernel_rfl) (by kernel_rfl) (fun _ _ _ h => h) (Or.inl ⟨by rfl, ?_⟩) (by assumption) ?_
      · (intro w hSw; (try dsimp only at hSw); go_simp; (try with_reducible rfl))
      try simp only [Act.put, List.setIfInBounds_toArray, List.set_cons_zero, List.set_cons_succ]
      refine wpAnyH_take (i := 11) (oi := { dst := some 54, op := Op.move (Operand.tmp 53), type := 4, pos := "law.go:97", after := #[{ on := 10, ground := Ground.data }, { on := 7, ground := Ground.chain }, { on := 7, ground := Ground.guard }], guard := some (7, false) }) (v := .bool false) rfl (by kernel_rfl) (by kernel_rfl) (by kernel_rfl) (fun _ _ _ h => h) (Or.inl ⟨by rfl, ?_⟩) (by assumption) ?_
      · (intro w hSw; (try dsimp only at hSw); go_simp; (try with_reducible rfl))
      try simp only [Act.put, List.setIfInBounds_toArray, List.set_cons_zero, List.set_cons_succ]
      refine wpAnyH_take (i := 12) (oi := { dst := some 55, op := Op.load 38 (Operand.tmp 8), type := 38, pos := "law.go:97", after := #[{ on := 11, ground := Ground.guard }], guard := some (11, true) }) (v := undef) rfl (by kernel_rfl) (by kernel_rfl) (by kernel_rfl) (fun _ _ _ h => h) (Or.inr ⟨by rfl, rfl⟩) (by assumption) ?_
      try simp only [Act.put, List.setIfInBounds_toArray, List.set_cons_zero, List.set_cons_succ]
      refine wpAnyH_take (i := 13) (oi := { dst := some 56, op := Op.nilCheck (Operand.tmp 55), type := 0, pos := "law.go:97", after := #[{ on := 12, ground := Ground.data }, { on := 11, ground := Ground.guard }], guard := some (11, true) }) (v := undef) rfl (by kernel_rfl) (by kernel_rfl) (by kernel_rfl) (fun _ _ _ h => h) (Or.inr ⟨by rfl, rfl⟩) (by assumption) ?_
      try simp only [Act.put, List.setIfInBounds_toArray, List.set_cons_zero, List.set_cons_succ]
      refine wpAnyH_take (i := 14) (oi := { dst := some 57, op := Op.fieldAddr 42 (Operand.tmp 56) 0, type := 0, pos := "law.go:97", after := #[{ on := 13, ground := Ground.data }, { on := 11, ground := Ground.guard }], guard := some (11, true) }) (v := undef) rfl (by kernel_rfl) (by kernel_rfl) (by kernel_rfl) (fun _ _ _ h => h) (Or.inr ⟨by rfl, rfl⟩) (by assumption) ?_
      try simp only [Act.put, List.setIfInBounds_toArray, List.set_cons_zero, List.set_cons_succ]
      refine wpAnyH_take (i := 15) (oi := { dst := some 58, op := Op.load 9 (Operand.tmp 57), type := 9, pos := "law.go:97", after := #[{ on := 14, ground := Ground.data }, { on := 11, ground := Ground.guard }], guard := some (11, true) }) (v := undef) rfl (by kernel_rfl) (by kernel_rfl) (by kernel_rfl) (fun _ _ _ h => h) (Or.inr ⟨by rfl, rfl⟩) (by assumption) ?_
      try simp only [Act.put, List.setIfInBounds_toArray, List.set_cons_zero, List.set_cons_succ]
      refine wpAnyH_take (i := 16) (oi := { dst := some 59, op := Op.move (Operand.tmp 0), type := 22, pos := "law.go:97", after := #[{ on := 11, ground := Ground.guard }], guard := some (11, true) }) (v := undef) rfl (by kernel_rfl) (by kernel_rfl) (by kernel_rfl) (fun _ _ _ h => h) (Or.inr ⟨by rfl, rfl⟩) (by assumption) ?_
      try simp only [Act.put, List.setIfInBounds_toArray, List.set_cons_zero, List.set_cons_succ]
      refine wpAnyH_take (i := 17) (oi := { dst := some 60, op := Op.indexAddr 22 (Operand.tmp 59) (Operand.const (Value.int IntKind.i64 0)), type := 0, pos := "law.go:97", after := #[{ on := 16, ground := Ground.data }, { on := 11, ground := Ground.guard }], guard := some (11, true) }) (v := undef) rfl (by kernel_rfl) (by kernel_rfl) (by kernel_rfl) (fun _ _ _ h => h) (Or.inr ⟨by rfl, rfl⟩) (by assumption) ?_
      try simp only [Act.put, List.setIfInBounds_toArray, List.set_cons_zero, List.set_cons_succ]
      refine wpAnyH_take (i := 18) (oi := { dst := some 61, op := Op.fieldAddr 34 (Operand.tmp 60) 0, type := 0, pos := "law.go:97", after := #[{ on := 17, ground := Ground.data }, { on := 11, ground := Ground.guard }], guard := some (11, true) }) (v := undef) rfl (by kernel_rfl) (by kernel_rfl) (by kernel_rfl) (fun _ _ _ h => h) (Or.inr ⟨by rfl, rfl⟩) (by assumption) ?_
      try simp only [Act.put, List.setIfInBounds_toArray, List.set_cons_zero, List.set_cons_succ]
      refine wpAnyH_take (i := 19) (oi := { dst := some 62, op := Op.load 9 (Operand.tmp 61), type := 9, pos := "law.go:97", after := #[{ on := 18, ground := Ground.data }, { on := 11, ground := Ground.guard }], guard := some (11, true) }) (v := undef) rfl (by kernel_rfl) (by kernel_rfl) (by kernel_rfl) (fun _ _ _ h => h) (Or.inr ⟨by rfl, rfl⟩) (by assumption) ?_
      try simp only [Act.put, List.setIfInBounds_toArray, List.set_cons_zero, List.set_cons_succ]
      refine wpAnyH_take (i := 20) (oi := { dst := some 63, op := Op.binOp BinOp.neq 9 (Operand.tmp 58) (Operand.tmp 62) 9, type := 4, pos := "law.go:97", after := #[{ on := 15, ground := Ground.data }, { on := 19, ground := Ground.data }, { on := 11, ground := Ground.guard }], guard := some (11, true) }) (v := undef) rfl (by kernel_rfl) (by kernel_rfl) (by kernel_rfl) (fun _ _ _ h => h) (Or.inr ⟨by rfl, rfl⟩) (by assumption) ?_
      try simp only [Act.put, List.setIfInBounds_toArray, List.set_cons_zero, List.set_cons_succ]
      refine wpAnyH_take (i := 21) (oi := { dst := some 64, op := Op.move (Operand.tmp 63), type := 4, pos := "law.go:97", after := #[{ on := 20, ground := Ground.data }, { on := 11, ground := Ground.chain }, { on := 11, ground := Ground.guard }], guard := some (11, true) }) (v := undef) rfl (by kernel_rfl) (by kernel_rfl) (by kernel_rfl) (fun _ _ _ h => h) (Or.inr ⟨by rfl, rfl⟩) (by assumption) ?_
      try simp only [Act.put, List.setIfInBounds_toArray, List.set_cons_zero, List.set_cons_succ]
      refine wpAnyH_take (i := 22) (oi := { dst := some 65, op := Op.load 38 (Operand.tmp 8), type := 38, pos := "law.go:97", after := #[{ on := 21, ground := Ground.guard }], guard := some (21, false) }) (v := undef) rfl (by kernel_rfl) (by kernel_rfl) (by kernel_rfl) (fun _ _ _ h => h) (Or.inr ⟨by rfl, rfl⟩) (by assumption) ?_
      try simp only [Act.put, List.setIfInBounds_toArray, List.set_cons_zero, List.set_cons_succ]
      refine wpAnyH_take (i := 23) (oi := { dst := some 66, op := Op.nilCheck (Operand.tmp 65), type := 0, pos := "law.go:97", after := #[{ on := 22, ground := Ground.data }, { on := 21, ground := Ground.guard }], guard := some (21, false) }) (v := undef) rfl (by kernel_rfl) (by kernel_rfl) (by kernel_rfl) (fun _ _ _ h => h) (Or.inr ⟨by rfl, rfl⟩) (by assumption) ?_
      try simp only [Act.put, List.setIfInBounds_toArray, List.set_cons_zero, List.set_cons_succ]
      refine wpAnyH_take (i := 24) (oi := { dst := some 67, op := Op.fieldAddr 42 (Operand.tmp 66) 1, type := 0, pos := "law.go:97", after := #[{ on := 23, ground := Ground.data }, { on := 21, ground := Ground.guard }], guard := some (21, false) }) (v := undef) rfl (by kernel_rfl) (by kernel_rfl) (by kernel_rfl) (fun _ _ _ h => h) (Or.inr ⟨by rfl, rfl⟩) (by assumption) ?_
      try simp only [Act.put, List.setIfInBounds_toArray, List.set_cons_zero, List.set_cons_succ]
      refine wpAnyH_take (i := 25) (oi := { dst := some 68, op := Op.load 3 (Operand.tmp 67), type := 3, pos := "law.go:97", after := #[{ on := 24, ground := Ground.data }, { on := 21, ground := Ground.guard }], guard := some (21, false) }) (v := undef) rfl (by kernel_rfl) (by kernel_rfl) (by kernel_rfl) (fun _ _ _ h => h) (Or.inr ⟨by rfl, rfl⟩) (by assumption) ?_
      try simp only [Act.put, List.setIfInBounds_toArray, List.set_cons_zero, List.set_cons_succ]
      refine wpAnyH_take (i := 26) (oi := { dst := some 69, op := Op.move (Operand.tmp 0), type := 22, pos := "law.go:97", after := #[{ on := 21, ground := Ground.guard }], guard := some (21, false) }) (v := undef) rfl (by kernel_rfl) (by kernel_rfl) (by kernel_rfl) (fun _ _ _ h => h) (Or.inr ⟨by rfl, rfl⟩) (by assumption) ?_
      try simp only [Act.put, List.setIfInBounds_toArray, List.set_cons_zero, List.set_cons_succ]
      refine wpAnyH_take (i := 27) (oi := { dst := some 70, op := Op.indexAddr 22 (Operand.tmp 69) (Operand.const (Value.int IntKind.i64 0)), type := 0, pos := "law.go:97", after := #[{ on := 26, ground := Ground.data }, { on := 21, ground := Ground.guard }], guard := some (21, false) }) (v := undef) rfl (by kernel_rfl) (by kernel_rfl) (by kernel_rfl) (fun _ _ _ h => h) (Or.inr ⟨by rfl, rfl⟩) (by assumption) ?_
      try simp only [Act.put, List.setIfInBounds_toArray, List.set_cons_zero, List.set_cons_succ]
      refine wpAnyH_take (i := 28) (oi := { dst := some 71, op := Op.fieldAddr 34 (Operand.tmp 70) 1, type := 0, pos := "law.go:97", after := #[{ on := 27, ground := Ground.data }, { on := 21, ground := Ground.guard }], guard := some (21, false) }) (v := undef) rfl (by kernel_rfl) (by kernel_rfl) (by kernel_rfl) (fun _ _ _ h => h) (Or.inr ⟨by rfl, rfl⟩) (by assumption) ?_
      try simp only [Act.put, List.setIfInBounds_toArray, List.set_cons_zero, List.set_cons_succ]
      refine wpAnyH_take (i := 29) (oi := { dst := some 72, op := Op.load 3 (Operand.tmp 71), type := 3, pos := "law.go:97", after := #[{ on := 28, ground := Ground.data }, { on := 21, ground := Ground.guard }], guard := some (21, false) }) (v := undef) rfl (by kernel_rfl) (by kernel_rfl) (by kernel_rfl) (fun _ _ _ h => h) (Or.inr ⟨by rfl, rfl⟩) (by assumption) ?_
      try simp only [Act.put, List.setIfInBounds_toArray, List.set_cons_zero, List.set_cons_succ]
      refine wpAnyH_take (i := 30) (oi := { dst := some 73, op := Op.binOp BinOp.neq 3 (Operand.tmp 68) (Operand.tmp 72) 3, type := 4, pos := "law.go:97", after := #[{ on := 25, ground := Ground.data }, { on := 29, ground := Ground.data }, { on := 21, ground := Ground.guard }], guard := some (21, false) }) (v := undef) rfl (by kernel_rfl) (by kernel_rfl) (by kernel_rfl) (fun _ _ _ h => h) (Or.inr ⟨by rfl, rfl⟩) (by assumption) ?_
      try simp only [Act.put, List.setIfInBounds_toArray, List.set_cons_zero, List.set_cons_succ]
      refine wpAnyH_take (i := 31) (oi := { dst := some 74, op := Op.pick (Operand.tmp 64) (Operand.const (Value.bool true)) (Operand.tmp 73), type := 4, pos := "law.go:97", after := #[{ on := 21, ground := Ground.data }, { on := 30, ground := Ground.data }, { on := 11, ground := Ground.guard }], guard := some (11, true) }) (v := undef) rfl (by kernel_rfl) (by kernel_rfl) (by kernel_rfl) (fun _ _ _ h => h) (Or.inr ⟨by rfl, rfl⟩) (by assumption) ?_
      try simp only [Act.put, List.setIfInBounds_toArray, List.set_cons_zero, List.set_cons_succ]
      refine wpAnyH_take (i := 32) (oi := { dst := some 75, op := Op.pick (Operand.tmp 54) (Operand.tmp 74) (Operand.const (Value.bool false)), type := 4, pos := "law.go:97", after := #[{ on := 11, ground := Ground.data }, { on := 31, ground := Ground.data }, { on := 7, ground := Ground.guard }], guard := some (7, false) }) (v := .bool false) rfl (by kernel_rfl) (by kernel_rfl) (by kernel_rfl) (fun _ _ _ h => h) (Or.inl ⟨by rfl, ?_⟩) (by assumption) ?_
      · (intro w hSw; (try dsimp only at hSw); go_simp; (try with_reducible rfl))
      try simp only [Act.put, List.setIfInBounds_toArray, List.set_cons_zero, List.set_cons_succ]
      refine wpAnyH_take (i := 33) (oi := { dst := some 76, op := Op.pick (Operand.tmp 50) (Operand.const (Value.bool true)) (Operand.tmp 75), type := 4, pos := "law.go:97", after := #[{ on := 7, ground := Ground.data }, { on := 32, ground := Ground.data }], guard := none }) (v := .bool false) rfl (by kernel_rfl) (by kernel_rfl) (by kernel_rfl) (fun _ _ _ h => h) (Or.inl ⟨by rfl, ?_⟩) (by assumption) ?_
      · (intro w hSw; (try dsimp only at hSw); go_simp; (try with_reducible rfl))
      try simp only [Act.put, List.setIfInBounds_toArray, List.set_cons_zero, List.set_cons_succ]
      refine wpAnyH_done (by kernel_rfl) ?_ _
      go_wp2_with fail
      go_meet
      exact ⟨rfl, HW4.out.trans hHeld⟩
  obtain ⟨rfl, HC⟩ := hcut
  have HXc := Lib.hid (HX3.out.trans HC)
  have HEc := Lib.hid (HE3.out.ext HC)
  clear HX3 HE3 HW4 HF HFZ HG4 HC
  go_wp2_with fail
  go_loopw [7, 9] (fun ev iv wr => ∃ i : Nat, i ≤ n ∧ iv = .int .i64 (i : Int) ∧ Hid (IsErr wr (L.drop i) c ev) ∧ Hid (Ext w wr)) (fun _ iv _ => n - (intOf iv).toNat)
  case atStart => exact ⟨0, Nat.zero_le _, rfl, HEc, HXc⟩
  case round =>
    obtain ⟨i, hi, rfl, HE, HX⟩ := hrel
    by_cases hlt : i < n
    · have t2 : (i : Int) < (n : Int) := by omega
      have hcn : (c != c) = false := by simp
      obtain ⟨⟨s, z⟩, hy⟩ : ∃ y, L[i]? = some y := ⟨_, List.getElem?_eq_getElem (by rw [HN.out]; exact hlt)⟩
      have hdr : L.drop i = (s, z) :: L.drop (i + 1) := by
        obtain ⟨hj, hy'⟩ := List.getElem?_eq_some_iff.1 hy
        rw [List.drop_eq_getElem_cons hj, hy']
      have hdl : (L.drop i).length = n - i := by rw [List.length_drop, HN.out]
      have HDL := Lib.hid hdl
      have HDR := Lib.hid hdr
      have e5 : IntKind.i64.wrap ((n : Int) - (i : Int)) = ((n - i : Nat) : Int) := by rw [IntKind.wrap_i64]; omega
      have e6 : (((n - i : Nat) : Int) != ((n - i : Nat) : Int)) = false := by simp
      clear hdl hdr hy
      go_wp2_with fail
      refine (of_err _ c _ _ (HG.out.ext HX.out) HE.out).mono ?_; rintro e w5 ⟨rfl, x5⟩
      have HX5 := Lib.hid (HX.out.trans x5)
      have HE5 := Lib.hid (HE.out.ext x5)
      clear x5 HX HE
      go_wp2_with fail
      refine (path_err _ c _ _ (HG.out.ext HX5.out) HE5.out (by rw [HDL.out]; omega)).mono ?_; rintro e w6 ⟨u6, rfl, x6, o6⟩
      have HX6 := Lib.hid (HX5.out.trans x6)
      have HE6 := Lib.hid (HE5.out.ext x6)
      have R6 := Row.of_owns o6
      rw [HDL.out] at R6
      obtain ⟨ua, uc, rfl⟩ := R6.form
      have he := HE6.out
      rw [HDR.out] at he
      obtain ⟨b, u', rfl, -, -, k2, k3⟩ := he
      have HK3 := Lib.hid k3
      clear x6 o6 HX5 HE5 R6 HE6 k3
      go_wp2_with fail
      refine (Unwrap_fault b _ _ k2).mono ?_; rintro e w7 ⟨rfl, rfl⟩
      clear k2
      go_wp2
      exact ⟨⟨i + 1, by omega, by go_num, HK3, HX6⟩, by simp [intOf]; omega⟩
    · obtain rfl : i = n := by omega
      have t2 : ¬ (i : Int) < (i : Int) := by omega
      have hdr : L.drop i = [] := List.drop_of_length_le (by rw [HN.out]; exact Nat.le_refl _)
      have he := HE.out
      rw [hdr] at he
      have hu : u7 = Value.iface 23 (.int .i64 c) := he
      subst hu
      clear he hdr HE
      go_wp2_with fail
      refine (first1_any _ (HG.out.ext HX.out) (HT.out.ext HX.out)).mono ?_; rintro e w5 ⟨rfl, x5⟩
      go_wp2_with fail
      refine (Is_code [] c c _ _ rfl).mono ?_; rintro e w6 ⟨rfl, rfl⟩
      rw [hcc]
      go_wp2_with fail
      refine (Unwrap_code c _).mono ?_; rintro e w6 ⟨rfl, rfl⟩
      go_wp2
      go_ret
      exact ⟨rfl, HX.out.trans x5⟩
set_option maxHeartbeats 4000000 in
set_option maxRecDepth 100000 in
theorem finds_law (L : List (ByteArray × Int)) (c d : Int) (va : Value) (w : World) (hg : EtIs w) (hT : PwIs w) (ra : Row w va L.length (stepCells L)) :
    Calls Tryd.prog 4 #[va, .int .i64 c, .int .i64 d] w fun e w' => e = .returned (.bool true) ∧ Ext w w' := by
  by_cases fl : fewP L
  · exact finds_few L c d va w hg hT ra fl.1 (few_yes ra fl)
  · have FL := Lib.hid (few_no ra fl)
    have HG := Lib.hid hg
    have HT := Lib.hid hT
    clear hg hT ra fl
    go_enter Tryd.func4, Tryd.ntmps4
    go_wp2_with fail
    refine (first1_any _ HG.out HT.out).mono ?_; rintro e w1 ⟨rfl, x1⟩
    go_wp2_with fail
    refine (FL.out _ x1).mono ?_; rintro e w2 ⟨rfl, rfl⟩
    go_wp2_with fail
    refine (first1_any _ (HG.out.ext x1) (HT.out.ext x1)).mono ?_; rintro e w3 ⟨rfl, x3⟩
    go_wp2
    go_ret
    exact ⟨rfl, x1.trans x3⟩
end Go.Proofs.YtgohlhgapboijaaDoor
