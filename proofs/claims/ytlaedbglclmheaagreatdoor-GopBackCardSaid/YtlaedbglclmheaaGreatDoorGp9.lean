/- gop.check and gop.Encode of the chapter's example. -/
import Derived.Test.YtlaedbglclmheaaGreatDoorGp8
import Derived.Test.YtlaedbglclmheaaGreatDoorZc
import Derived.Deep.RegionLaw
import Derived.Deep.CutBlock
import Derived.Test.YtlaedbglclmheaaGreatDoorTm
namespace Go.Proofs.YtlaedbglclmheaaGreatDoor
set_option linter.unusedVariables false
set_option linter.unusedSimpArgs false
open Go.RowKit Go.Extern.Stop Go.Stop Go.Extern

theorem infoFr9 : (Tryz.prog.info? 99).map (fun i => (i.zero, i.size, i.bytes)) = some (some (.agg #[.int .i64 0, .int .i64 0, .slice none 0 0]), 3, 40) := by kernel_rfl
/-- one element appended to no slice -/
theorem step_push_nil {ops : Array Oper} {o : Oper} {a : Act} {K : Act → World → Prop} {Q : Exit → Act → World → Prop} {X : Prop} {W : World} (e : TypeId) {z : Value} {sz by' : Nat} (hinfo : (Tryz.prog.info? e).map (fun i => (i.zero, i.size, i.bytes)) = some (some z, sz, by')) (hzs : z.cells.size = sz) (hsz : 0 < sz) (hby : by' ≤ 1000) (hgd : o.guard = none) (s y : Operand) (t : TypeId)
    (ho : o.op = .call { callee := .builtin .append, args := #[s, y], argTypes := #[t, t] }) (ht : Tryz.prog.underlying t = some (.slice e))
    (cs : List Value) (b : Nat) (hcl : cs.length = sz) (hone : ∀ u ∈ cs, u.oneCell' = true) (hs : a.eval s = .slice none 0 0) (hx : a.eval y = .slice (some ⟨b, 0, none⟩) 1 1) (hB : BoxIs W b cs.toArray e)
    (h : ∀ g cap w', Ext W w' → w'.ownsRow W.heap.size e sz (.slice (some ⟨g, 0, none⟩) 1 cap) 1 cs → K (a.put o.dst (.slice (some ⟨g, 0, none⟩) 1 cap)) w') :
    if Region.wanted o (yielded ops a.tmps) = true then Oper.wp Tryz.prog o a W K Q else X := by
  obtain ⟨i0, hi, hz0, hz1, hz2⟩ := info_parts hinfo
  refine step_append_lies _ hgd s y t ho W.heap.size e i0 z sz by' ht hi hz0 hz1 hz2 hzs hsz (.slice none 0 0) 0 [] hs (World.ownsRow_nil _ _ _ _) ⟨b, 0, none⟩ 1 1 cs hx (by rw [hcl, Nat.one_mul]) (fun j u hj => by
    have := hB.cell (i := j) (v := u) (by simpa using hj)
    have e2 : (⟨b, 0, none⟩ : Addr).add j = ⟨b, j, none⟩ := by unfold Addr.add; split <;> simp_all
    rw [e2]
    exact this) hone (by decide) (by decide) (Nat.le_trans (Nat.mul_le_mul (Nat.le_refl (0 + 1)) hby) (by decide)) (Nat.le_refl _) W.heap.size rfl ?_
  intro g cap w' h1 h2 _ _
  exact h g cap w' (Below.grown (Ext.refl W) h2 (Nat.le_refl _) (fun k hk => by cases hk)) (by simpa using h1)
set_option maxRecDepth 20000 in
set_option maxHeartbeats 4000000 in
theorem gcheck8_any (zs : List Int) (a : Option Addr) (cap lb cb : Nat) (w : World) (h : Ints w (.slice a 64 cap) zs) (hm : may 8 8 zs) (hl : BoxIs w lb #[.int .i64 8, .int .i64 8, .slice a 64 cap] 99) (hc : BoxIs w cb #[.int .i64 8] 3) : Calls Tryz.prog 94 #[.agg #[.int .i64 0, .int .i64 3, .int .i64 0, .int .i64 0, .int .i64 4, .int .i64 8, .int .i64 8, .int .i64 8], .slice (some ⟨lb, 0, none⟩) 1 1, .slice (some ⟨cb, 0, none⟩) 1 1] w fun e w' => e = .returned .nilIface ∧ Ext w w' := by
  have UC := Lib.hid (fun W => Check_yes ⟨0, 3, 0, 0, 4, 8, 8, 8⟩ W goodT)
  have UM := Lib.hid (fun W (k : Ext w W) => by have := may_any 8 8 zs a 64 cap W (h.ext k); rw [decide_eq_true hm] at this; exact this)
  have X1 := (Ext.refl w).alloc (.cells #[.int .i64 0, .int .i64 3, .int .i64 0, .int .i64 0, .int .i64 4, .int .i64 8, .int .i64 8, .int .i64 8] 63)
  have HX := Lib.hid X1
  have HL := Lib.hid hl
  have HC := Lib.hid hc
  clear h hm X1 hl hc
  go_enter Tryz.func94, Tryz.ntmps94
  go_wp2_with fail
  refine (UC.out _).mono ?_; rintro e w1 ⟨rfl, hx1⟩
  have HX1 := Lib.hid (HX.out.trans hx1)
  have BL := HL.out.ext HX1.out
  have p0 := BL.cell (i := 0) (v := .int .i64 8) rfl
  have p1 := BL.cell (i := 1) (v := .int .i64 8) rfl
  have p2 := BL.cell (i := 2) (v := .slice a 64 cap) rfl
  clear hx1 BL HX
  go_wp2
  refine wp_loop_rounds 3 ?_
  rw [rounds_succ]
  have B2 := BoxIs.new w1 #[.int .i64 8, .int .i64 8, .slice a 64 cap] 99
  have X2 := HX1.out.alloc (.cells #[.int .i64 8, .int .i64 8, .slice a 64 cap] 99)
  have HX2 := Lib.hid X2
  clear B2 X2
  go_wp2_with fail
  refine (UM.out _ HX2.out).mono ?_; rintro e w3 ⟨rfl, hx3⟩
  have HX3 := Lib.hid (HX2.out.trans hx3)
  have BL := HL.out.ext HX3.out
  have q0 := BL.cell (i := 0) (v := .int .i64 8) rfl
  have q1 := BL.cell (i := 1) (v := .int .i64 8) rfl
  have q2 := BL.cell (i := 2) (v := .slice a 64 cap) rfl
  clear hx3 HX2 p0 p1 p2
  go_wp2
  rw [rounds_succ]
  go_wp2
  refine wp_loop_rounds 3 ?_
  rw [rounds_succ]
  have B4 := BoxIs.new w3 #[.int .i64 8, .int .i64 8, .slice a 64 cap] 99
  have X4 := (Ext.refl w3).alloc (.cells #[.int .i64 8, .int .i64 8, .slice a 64 cap] 99)
  have r0 := X4.cell q0
  have r1 := X4.cell q1
  have s0 := B4.cell (i := 0) (v := .int .i64 8) rfl
  have s1 := B4.cell (i := 1) (v := .int .i64 8) rfl
  have HX4 := Lib.hid ((HX3.out.trans X4).drew)
  clear B4 X4
  go_wp2_with fail
  go_region
  have CL := HC.out.ext HX4.out
  have t0 := CL.cell (i := 0) (v := .int .i64 8) rfl
  clear CL r0 r1 s0 s1 q0 q1 q2
  go_wp2
  rw [rounds_succ]
  go_wp2
  refine wp_loop_rounds 3 ?_
  rw [rounds_succ]
  go_wp2
  rw [rounds_succ]
  go_wp2
  go_ret
  exact ⟨rfl, HX4.out⟩
def GencP (w : World) (e : Ending) (w' : World) : Prop := ∃ g1 c1 g2 c2 na nc X, e = .returned (.tuple #[.slice (some ⟨g1, 0, none⟩) 1 c1, .slice (some ⟨g2, 0, none⟩) 1 c2, .nilIface]) ∧ w'.ownsRow w.heap.size 61 2 (.slice (some ⟨g1, 0, none⟩) 1 c1) 1 [.int .i64 4, .slice none 0 0] ∧ w'.ownsRow w.heap.size 99 3 (.slice (some ⟨g2, 0, none⟩) 1 c2) 1 [.int .i64 8, .int .i64 8, .slice (some ⟨na, 0, none⟩) 64 nc] ∧ HoF w' X (fun W => W.ownsRow w.heap.size 3 1 (.slice (some ⟨na, 0, none⟩) 64 nc) 64 ((z8 128).map (Value.int .i64))) ∧ Ext w w'
set_option maxRecDepth 20000 in
set_option maxHeartbeats 8000000 in
theorem genc8_any (zs : List Int) (a : Option Addr) (cap lb cb : Nat) (w : World) (h : Ints w (.slice a 64 cap) zs) (hm : may 8 8 zs) (hl : BoxIs w lb #[.int .i64 8, .int .i64 8, .slice a 64 cap] 99) (hc : BoxIs w cb #[.int .i64 8] 3) : Calls Tryz.prog 43 #[.agg #[.int .i64 0, .int .i64 3, .int .i64 0, .int .i64 0, .int .i64 4, .int .i64 8, .int .i64 8, .int .i64 8], .slice (some ⟨lb, 0, none⟩) 1 1, .slice (some ⟨cb, 0, none⟩) 1 1] w (GencP w) := by
  have B0 := BoxIs.new w #[.int .i64 0, .int .i64 3, .int .i64 0, .int .i64 0, .int .i64 4, .int .i64 8, .int .i64 8, .int .i64 8] 63
  have X1 := (Ext.refl w).alloc (.cells #[.int .i64 0, .int .i64 3, .int .i64 0, .int .i64 0, .int .i64 4, .int .i64 8, .int .i64 8, .int .i64 8] 63)
  have HX := Lib.hid X1
  have HB0 := Lib.hid B0
  have HL := Lib.hid hl
  have HC := Lib.hid hc
  have UK := Lib.hid (fun W (k : Ext w W) => gcheck8_any zs a cap lb cb W (h.ext k) hm (hl.ext k) (hc.ext k))
  have UF := Lib.hid (fun W (k : Ext w W) => efit8_any zs a cap W (h.ext k) hm)
  clear h hm hl hc B0 X1
  go_enter Tryz.func43, Tryz.ntmps43
  go_wp2_with fail
  refine (UK.out _ HX.out).mono ?_; rintro e w1 ⟨rfl, hx1⟩
  have HX1 := Lib.hid (HX.out.trans hx1)
  have HB1 := Lib.hid (HB0.out.ext hx1)
  have p0 := (HL.out.ext HX1.out).cell (i := 0) (v := .int .i64 8) rfl
  have p1 := (HL.out.ext HX1.out).cell (i := 1) (v := .int .i64 8) rfl
  have p2 := (HL.out.ext HX1.out).cell (i := 2) (v := .slice a 64 cap) rfl
  have Y1 := (Ext.refl w1).alloc (.cells #[.int .i64 0, .int .i64 0, .slice none 0 0] 99)
  have C1 := BoxIs.new w1 #[.int .i64 0, .int .i64 0, .slice none 0 0] 99
  have q0 := Y1.cell p0
  have q1 := Y1.cell p1
  have q2 := Y1.cell p2
  have HC1 := Lib.hid C1
  have HY1 := Lib.hid Y1
  clear hx1 HX HB0 p0 p1 p2 Y1 C1
  go_wp2_with fail
  refine wp_loop_rounds 3 ?_
  rw [rounds_succ]
  have D2 := BoxIs.new (w1.alloc (.cells #[.int .i64 0, .int .i64 0, .slice none 0 0] 99)) #[.int .i64 8, .int .i64 8, .slice a 64 cap] 99
  have Y2 := (Ext.refl (w1.alloc (.cells #[.int .i64 0, .int .i64 0, .slice none 0 0] 99))).alloc (.cells #[.int .i64 8, .int .i64 8, .slice a 64 cap] 99)
  rw [show (w1.alloc (.cells #[.int .i64 0, .int .i64 0, .slice none 0 0] 99)).heap.size = w1.heap.size + 1 by simp] at D2
  have HX2 := Lib.hid (HX1.out.trans (HY1.out.trans Y2))
  have HB2 := Lib.hid (HB1.out.ext (HY1.out.trans Y2))
  have HC2 := Lib.hid (HC1.out.ext Y2)
  obtain ⟨w2, hw2⟩ : ∃ z, (w1.alloc (.cells #[.int .i64 0, .int .i64 0, .slice none 0 0] 99)).alloc (.cells #[.int .i64 8, .int .i64 8, .slice a 64 cap] 99) = z := ⟨_, rfl⟩
  rw [hw2] at D2 HX2 HB2 HC2
  have HW2 := Lib.hid hw2
  have e0 := D2.cell (i := 0) (v := .int .i64 8) rfl
  have e1 := D2.cell (i := 1) (v := .int .i64 8) rfl
  have e2 := D2.cell (i := 2) (v := .slice a 64 cap) rfl
  have c0 := HC2.out.cell (i := 0) (v := .int .i64 0) rfl
  have c1 := HC2.out.cell (i := 1) (v := .int .i64 0) rfl
  have c2 := HC2.out.cell (i := 2) (v := .slice none 0 0) rfl
  have b0 := HB2.out.cell (i := 0) (v := .int .i64 0) rfl
  have b1 := HB2.out.cell (i := 1) (v := .int .i64 3) rfl
  have b2 := HB2.out.cell (i := 2) (v := .int .i64 0) rfl
  have b3 := HB2.out.cell (i := 3) (v := .int .i64 0) rfl
  have b4 := HB2.out.cell (i := 4) (v := .int .i64 4) rfl
  have b5 := HB2.out.cell (i := 5) (v := .int .i64 8) rfl
  have b6 := HB2.out.cell (i := 6) (v := .int .i64 8) rfl
  have b7 := HB2.out.cell (i := 7) (v := .int .i64 8) rfl
  have t0 := (HC.out.ext HX2.out).cell (i := 0) (v := .int .i64 8) rfl
  clear hw2 Y2 D2 HC1 HY1 HB1
  go_wp2_with fail
  rw [HW2.out]
  have KS : Hid (∀ w', Ext w2 w' → ((w'.cell? ⟨w1.heap.size + 1, 0, none⟩ = some (.int .i64 8) ∧ w'.cell? ⟨w1.heap.size + 1, 1, none⟩ = some (.int .i64 8) ∧ w'.cell? ⟨w1.heap.size + 1, 2, none⟩ = some (.slice a 64 cap)) ∧ (w'.cell? ⟨w1.heap.size, 0, none⟩ = some (.int .i64 0) ∧ w'.cell? ⟨w1.heap.size, 1, none⟩ = some (.int .i64 0) ∧ w'.cell? ⟨w1.heap.size, 2, none⟩ = some (.slice none 0 0)) ∧ (w'.cell? ⟨w.heap.size, 0, none⟩ = some (.int .i64 0) ∧ w'.cell? ⟨w.heap.size, 1, none⟩ = some (.int .i64 3) ∧ w'.cell? ⟨w.heap.size, 2, none⟩ = some (.int .i64 0) ∧ w'.cell? ⟨w.heap.size, 3, none⟩ = some (.int .i64 0) ∧ w'.cell? ⟨w.heap.size, 4, none⟩ = some (.int .i64 4) ∧ w'.cell? ⟨w.heap.size, 5, none⟩ = some (.int .i64 8) ∧ w'.cell? ⟨w.heap.size, 6, none⟩ = some (.int .i64 8) ∧ w'.cell? ⟨w.heap.size, 7, none⟩ = some (.int .i64 8)) ∧ w'.cell? ⟨cb, 0, none⟩ = some (.int .i64 8))) := fun w' x => ⟨⟨x.cell e0, x.cell e1, x.cell e2⟩, ⟨x.cell c0, x.cell c1, x.cell c2⟩, ⟨x.cell b0, x.cell b1, x.cell b2, x.cell b3, x.cell b4, x.cell b5, x.cell b6, x.cell b7⟩, x.cell t0⟩
  clear e0 e1 e2 c0 c1 c2 b0 b1 b2 b3 b4 b5 b6 b7 t0 q0 q1 q2
  go_wp2_with fail
  go_cut [15, 16, 17] from 32 to 45 (fun s15 s16 s17 wx => ∃ (B15 B16 na nc : Nat), s15 = .pointer (some ⟨B15, 0, none⟩) ∧ s16 = .pointer (some ⟨B16, 0, none⟩) ∧ s17 = .nilIface ∧ Hid (BoxIs wx B15 #[.int .i64 4, .slice none 0 0] 61) ∧ Hid (BoxIs wx B16 #[.int .i64 8, .int .i64 8, .slice (some ⟨na, 0, none⟩) 64 nc] 99) ∧ (B15 ≠ B16 ∧ w2.heap.size ≤ B15 ∧ w2.heap.size ≤ B16) ∧ Hid (HoF wx (fun k => (Value.slice (some ⟨na, 0, none⟩) 64 nc).ownBlock = some k) (fun W => W.ownsRow w2.heap.size 3 1 (.slice (some ⟨na, 0, none⟩) 64 nc) 64 ((z8 128).map (Value.int .i64)))) ∧ Hid (∀ k, (Value.slice (some ⟨na, 0, none⟩) 64 nc).ownBlock = some k → w2.heap.size ≤ k) ∧ Hid (Ext w2 wx))
  case first =>
    refine wp_region_held_drew (S := (fun w' => ((w'.cell? ⟨w1.heap.size + 1, 0, none⟩ = some (.int .i64 8) ∧ w'.cell? ⟨w1.heap.size + 1, 1, none⟩ = some (.int .i64 8) ∧ w'.cell? ⟨w1.heap.size + 1, 2, none⟩ = some (.slice a 64 cap)) ∧ (w'.cell? ⟨w1.heap.size, 0, none⟩ = some (.int .i64 0) ∧ w'.cell? ⟨w1.heap.size, 1, none⟩ = some (.int .i64 0) ∧ w'.cell? ⟨w1.heap.size, 2, none⟩ = some (.slice none 0 0)) ∧ (w'.cell? ⟨w.heap.size, 0, none⟩ = some (.int .i64 0) ∧ w'.cell? ⟨w.heap.size, 1, none⟩ = some (.int .i64 3) ∧ w'.cell? ⟨w.heap.size, 2, none⟩ = some (.int .i64 0) ∧ w'.cell? ⟨w.heap.size, 3, none⟩ = some (.int .i64 0) ∧ w'.cell? ⟨w.heap.size, 4, none⟩ = some (.int .i64 4) ∧ w'.cell? ⟨w.heap.size, 5, none⟩ = some (.int .i64 8) ∧ w'.cell? ⟨w.heap.size, 6, none⟩ = some (.int .i64 8) ∧ w'.cell? ⟨w.heap.size, 7, none⟩ = some (.int .i64 8)) ∧ w'.cell? ⟨cb, 0, none⟩ = some (.int .i64 8)))) (by kernel_rfl) (KS.out _ (Ext.refl _).drew) (fun hHeld => ?_)
    have E := (Ext.refl w2).drew
    obtain ⟨v0, hv⟩ : ∃ z, w2.drew = z := ⟨_, rfl⟩
    rw [hv] at E hHeld ⊢
    clear hv
    refine tkM 0 ?_
    try simp only [pA, pB, pC, pD]
    refine tkM 1 ?_
    try simp only [pA, pB, pC, pD]
    refine tkM 2 ?_
    try simp only [pA, pB, pC, pD]
    refine tkM 3 ?_
    try simp only [pA, pB, pC, pD]
    refine tkM 4 ?_
    try simp only [pA, pB, pC, pD]
    refine tkM 5 ?_
    try simp only [pA, pB, pC, pD]
    refine tkM 6 ?_
    try simp only [pA, pB, pC, pD]
    refine tkM 7 ?_
    try simp only [pA, pB, pC, pD]
    refine tkM 8 ?_
    try simp only [pA, pB, pC, pD]
    refine wpAnyH_ready (rs := [9, 14, 15]) (by kernel_rfl) (by simp) ?_
    refine AllReadyH.cons (o := _) rfl (fun K hK => ?_) (AllReadyH.cons (o := _) rfl (fun K hK => ?_) (AllReadyH.cons (o := _) rfl (fun K hK => ?_) AllReadyH.nil))
    · skip
      go_simp
      go_at_call 95
      refine (UF.out _ (HX2.out.trans E)).mono ?_; rintro e v1 ⟨na, nc, rfl, X1, ho⟩
      have HO := HoF.row (own_mono ho E.size)
      have nX : ∀ k, (Value.slice (some ⟨na, 0, none⟩) 64 nc).ownBlock = some k → w2.heap.size ≤ k := fun k hk => Nat.le_trans E.size (ho.lt k hk).1
      refine hK.out _ _ (KS.out _ (E.trans X1)) (fun hHeld => ?_)
      clear hK K
      try simp only [pA, pB, pC, pD]
      have E := E.trans X1; clear X1 ho
      refine tkM 10 ?_
      try simp only [pA, pB, pC, pD]
      refine tkM 11 ?_
      try simp only [pA, pB, pC, pD]
      refine tkM 12 ?_
      try simp only [pA, pB, pC, pD]
      refine tkM 13 ?_
      try simp only [pA, pB, pC, pD]
      refine wpAnyH_ready (rs := [14, 15]) (by kernel_rfl) (by simp) ?_
      refine AllReadyH.cons (o := _) rfl (fun K hK => ?_) (AllReadyH.cons (o := _) rfl (fun K hK => ?_) AllReadyH.nil)
      · skip
        go_simp
        have A15 := BoxIs.new v1 #[.int .i64 0, .slice none 0 0] 61
        have X1 := (Ext.refl v1).alloc (.cells #[.int .i64 0, .slice none 0 0] 61)
        refine hK.out _ _ (KS.out _ (E.trans X1)) (fun hHeld => ?_)
        clear hK K
        try simp only [pA, pB, pC, pD]
        have m15 : ¬ (Value.slice (some ⟨na, 0, none⟩) 64 nc).ownBlock = some v1.heap.size := fun hk => Nat.lt_irrefl _ (HO.1 _ hk)
        have HO := HO.ext X1
        have e15 : w2.heap.size ≤ v1.heap.size := E.size
        have E := E.trans X1; clear X1
        obtain ⟨B15, hB⟩ : ∃ z, v1.heap.size = z := ⟨_, rfl⟩
        obtain ⟨v2, hv⟩ : ∃ z, v1.alloc (.cells #[.int .i64 0, .slice none 0 0] 61) = z := ⟨_, rfl⟩
        rw [hv] at A15 E hHeld ⊢
        rw [hv] at HO
        rw [hB] at A15 e15 m15 ⊢
        clear hv hB
        refine wpAnyH_ready (rs := [15]) (by kernel_rfl) (by simp) ?_
        refine AllReadyH.cons (o := _) rfl (fun K hK => ?_) AllReadyH.nil
        go_simp
        have A16 := BoxIs.new v2 #[.int .i64 0, .int .i64 0, .slice none 0 0] 99
        have X1 := (Ext.refl v2).alloc (.cells #[.int .i64 0, .int .i64 0, .slice none 0 0] 99)
        refine hK.out _ _ (KS.out _ (E.trans X1)) (fun hHeld => ?_)
        clear hK K
        try simp only [pA, pB, pC, pD]
        have m16 : ¬ (Value.slice (some ⟨na, 0, none⟩) 64 nc).ownBlock = some v2.heap.size := fun hk => Nat.lt_irrefl _ (HO.1 _ hk)
        have HO := HO.ext X1
        have d1516 : B15 ≠ v2.heap.size := fun e => by have := A15.lt; omega
        have A15 := A15.ext X1
        have e16 : w2.heap.size ≤ v2.heap.size := E.size
        have E := E.trans X1; clear X1
        obtain ⟨B16, hB⟩ : ∃ z, v2.heap.size = z := ⟨_, rfl⟩
        obtain ⟨v3, hv⟩ : ∃ z, v2.alloc (.cells #[.int .i64 0, .int .i64 0, .slice none 0 0] 99) = z := ⟨_, rfl⟩
        rw [hv] at A16 E hHeld ⊢
        rw [hv] at HO
        rw [hv] at A15
        rw [hB] at A16 e16 m16 d1516 ⊢
        clear hv hB
        refine wpAnyH_ready (rs := [16]) (by kernel_rfl) (by simp) ?_
        refine AllReadyH.cons (o := _) rfl (fun K hK => ?_) AllReadyH.nil
        have c0 := A15.cell (i := 0) (v := .int .i64 0) rfl
        have f0 := A15.free (i := 0)
        have c1 := A15.cell (i := 1) (v := .slice none 0 0) rfl
        have f1 := A15.free (i := 1)
        go_simp
        have E := ((E.setCell (p := ⟨B15, 0, none⟩) e15 (.int .i64 4)).setCell (p := ⟨B15, 1, none⟩) e15 (.slice none 0 0))
        have A16 := ((A16.woth (p := ⟨B15, 0, none⟩) (by show B15 ≠ B16; omega) (.int .i64 4)).woth (p := ⟨B15, 1, none⟩) (by show B15 ≠ B16; omega) (.slice none 0 0))
        have A15 : BoxIs ((v3.setCell ⟨B15, 0, none⟩ (.int .i64 4)).setCell ⟨B15, 1, none⟩ (.slice none 0 0)) B15 #[.int .i64 4, .slice none 0 0] _ := ((A15.wset (i := 0) (.int .i64 4)).wset (i := 1) (.slice none 0 0))
        have HO := (HoF.setc (p := ⟨B15, 1, none⟩) (v := .slice none 0 0) (HoF.setc (p := ⟨B15, 0, none⟩) (v := .int .i64 4) HO m15) m15)
        refine hK.out _ _ (KS.out _ E) (fun hHeld => ?_)
        clear hK K
        try simp only [pA, pB, pC, pD]
        clear c0 f0 c1 f1
        obtain ⟨v4, hv⟩ : ∃ z, ((v3.setCell ⟨B15, 0, none⟩ (.int .i64 4)).setCell ⟨B15, 1, none⟩ (.slice none 0 0)) = z := ⟨_, rfl⟩
        rw [hv] at A15 E hHeld HO ⊢
        rw [hv] at A16
        clear hv
        refine wpAnyH_ready (rs := [17]) (by kernel_rfl) (by simp) ?_
        refine AllReadyH.cons (o := _) rfl (fun K hK => ?_) AllReadyH.nil
        have c0 := A16.cell (i := 0) (v := .int .i64 0) rfl
        have f0 := A16.free (i := 0)
        have c1 := A16.cell (i := 1) (v := .int .i64 0) rfl
        have f1 := A16.free (i := 1)
        have c2 := A16.cell (i := 2) (v := .slice none 0 0) rfl
        have f2 := A16.free (i := 2)
        go_simp
        have E := (((E.setCell (p := ⟨B16, 0, none⟩) e16 (.int .i64 8)).setCell (p := ⟨B16, 1, none⟩) e16 (.int .i64 8)).setCell (p := ⟨B16, 2, none⟩) e16 (.slice (some ⟨na, 0, none⟩) 64 nc))
        have A15 := (((A15.woth (p := ⟨B16, 0, none⟩) (by show B16 ≠ B15; omega) (.int .i64 8)).woth (p := ⟨B16, 1, none⟩) (by show B16 ≠ B15; omega) (.int .i64 8)).woth (p := ⟨B16, 2, none⟩) (by show B16 ≠ B15; omega) (.slice (some ⟨na, 0, none⟩) 64 nc))
        have A16 : BoxIs (((v4.setCell ⟨B16, 0, none⟩ (.int .i64 8)).setCell ⟨B16, 1, none⟩ (.int .i64 8)).setCell ⟨B16, 2, none⟩ (.slice (some ⟨na, 0, none⟩) 64 nc)) B16 #[.int .i64 8, .int .i64 8, .slice (some ⟨na, 0, none⟩) 64 nc] _ := (((A16.wset (i := 0) (.int .i64 8)).wset (i := 1) (.int .i64 8)).wset (i := 2) (.slice (some ⟨na, 0, none⟩) 64 nc))
        have HO := (HoF.setc (p := ⟨B16, 2, none⟩) (v := .slice (some ⟨na, 0, none⟩) 64 nc) (HoF.setc (p := ⟨B16, 1, none⟩) (v := .int .i64 8) (HoF.setc (p := ⟨B16, 0, none⟩) (v := .int .i64 8) HO m16) m16) m16)
        refine hK.out _ _ (KS.out _ E) (fun hHeld => ?_)
        clear hK K
        try simp only [pA, pB, pC, pD]
        clear c0 f0 c1 f1 c2 f2
        obtain ⟨v5, hv⟩ : ∃ z, (((v4.setCell ⟨B16, 0, none⟩ (.int .i64 8)).setCell ⟨B16, 1, none⟩ (.int .i64 8)).setCell ⟨B16, 2, none⟩ (.slice (some ⟨na, 0, none⟩) 64 nc)) = z := ⟨_, rfl⟩
        rw [hv] at A16 E hHeld HO ⊢
        rw [hv] at A15
        clear hv
        refine tkM 18 (oi := { dst := some 17, op := Op.assign (Operand.tmp 45), type := 32, pos := "gop.go:32", after := #[{ on := 13, ground := Ground.data }, { on := 17, ground := Ground.chain }, { on := 0, ground := Ground.phase }, { on := 1, ground := Ground.phase }, { on := 2, ground := Ground.phase }, { on := 3, ground := Ground.phase }, { on := 4, ground := Ground.phase }, { on := 5, ground := Ground.phase }, { on := 6, ground := Ground.phase }, { on := 7, ground := Ground.phase }, { on := 8, ground := Ground.phase }, { on := 9, ground := Ground.phase }, { on := 10, ground := Ground.phase }, { on := 11, ground := Ground.phase }, { on := 12, ground := Ground.phase }, { on := 13, ground := Ground.phase }, { on := 14, ground := Ground.phase }, { on := 15, ground := Ground.phase }, { on := 16, ground := Ground.phase }, { on := 17, ground := Ground.phase }], guard := none }) ?_
        try simp only [pA, pB, pC, pD]
        refine wpAnyH_done (by kernel_rfl) ?_ _
        go_wp2_with fail
        go_meet
        case rel => exact ⟨B15, B16, na, nc, rfl, rfl, rfl, A15, A16, by omega, HO, nX, E⟩
      · skip
        go_simp
        have A16 := BoxIs.new v1 #[.int .i64 0, .int .i64 0, .slice none 0 0] 99
        have X1 := (Ext.refl v1).alloc (.cells #[.int .i64 0, .int .i64 0, .slice none 0 0] 99)
        refine hK.out _ _ (KS.out _ (E.trans X1)) (fun hHeld => ?_)
        clear hK K
        try simp only [pA, pB, pC, pD]
        have m16 : ¬ (Value.slice (some ⟨na, 0, none⟩) 64 nc).ownBlock = some v1.heap.size := fun hk => Nat.lt_irrefl _ (HO.1 _ hk)
        have HO := HO.ext X1
        have e16 : w2.heap.size ≤ v1.heap.size := E.size
        have E := E.trans X1; clear X1
        obtain ⟨B16, hB⟩ : ∃ z, v1.heap.size = z := ⟨_, rfl⟩
        obtain ⟨v6, hv⟩ : ∃ z, v1.alloc (.cells #[.int .i64 0, .int .i64 0, .slice none 0 0] 99) = z := ⟨_, rfl⟩
        rw [hv] at A16 E hHeld ⊢
        rw [hv] at HO
        rw [hB] at A16 e16 m16 ⊢
        clear hv hB
        refine wpAnyH_ready (rs := [14]) (by kernel_rfl) (by simp) ?_
        refine AllReadyH.cons (o := _) rfl (fun K hK => ?_) AllReadyH.nil
        go_simp
        have A15 := BoxIs.new v6 #[.int .i64 0, .slice none 0 0] 61
        have X1 := (Ext.refl v6).alloc (.cells #[.int .i64 0, .slice none 0 0] 61)
        refine hK.out _ _ (KS.out _ (E.trans X1)) (fun hHeld => ?_)
        clear hK K
        try simp only [pA, pB, pC, pD]
        have m15 : ¬ (Value.slice (some ⟨na, 0, none⟩) 64 nc).ownBlock = some v6.heap.size := fun hk => Nat.lt_irrefl _ (HO.1 _ hk)
        have HO := HO.ext X1
        have d1615 : B16 ≠ v6.heap.size := fun e => by have := A16.lt; omega
        have A16 := A16.ext X1
        have e15 : w2.heap.size ≤ v6.heap.size := E.size
        have E := E.trans X1; clear X1
        obtain ⟨B15, hB⟩ : ∃ z, v6.heap.size = z := ⟨_, rfl⟩
        obtain ⟨v7, hv⟩ : ∃ z, v6.alloc (.cells #[.int .i64 0, .slice none 0 0] 61) = z := ⟨_, rfl⟩
        rw [hv] at A15 E hHeld ⊢
        rw [hv] at HO
        rw [hv] at A16
        rw [hB] at A15 e15 m15 d1615 ⊢
        clear hv hB
        refine wpAnyH_ready (rs := [16]) (by kernel_rfl) (by simp) ?_
        refine AllReadyH.cons (o := _) rfl (fun K hK => ?_) AllReadyH.nil
        have c0 := A15.cell (i := 0) (v := .int .i64 0) rfl
        have f0 := A15.free (i := 0)
        have c1 := A15.cell (i := 1) (v := .slice none 0 0) rfl
        have f1 := A15.free (i := 1)
        go_simp
        have E := ((E.setCell (p := ⟨B15, 0, none⟩) e15 (.int .i64 4)).setCell (p := ⟨B15, 1, none⟩) e15 (.slice none 0 0))
        have A16 := ((A16.woth (p := ⟨B15, 0, none⟩) (by show B15 ≠ B16; omega) (.int .i64 4)).woth (p := ⟨B15, 1, none⟩) (by show B15 ≠ B16; omega) (.slice none 0 0))
        have A15 : BoxIs ((v7.setCell ⟨B15, 0, none⟩ (.int .i64 4)).setCell ⟨B15, 1, none⟩ (.slice none 0 0)) B15 #[.int .i64 4, .slice none 0 0] _ := ((A15.wset (i := 0) (.int .i64 4)).wset (i := 1) (.slice none 0 0))
        have HO := (HoF.setc (p := ⟨B15, 1, none⟩) (v := .slice none 0 0) (HoF.setc (p := ⟨B15, 0, none⟩) (v := .int .i64 4) HO m15) m15)
        refine hK.out _ _ (KS.out _ E) (fun hHeld => ?_)
        clear hK K
        try simp only [pA, pB, pC, pD]
        clear c0 f0 c1 f1
        obtain ⟨v8, hv⟩ : ∃ z, ((v7.setCell ⟨B15, 0, none⟩ (.int .i64 4)).setCell ⟨B15, 1, none⟩ (.slice none 0 0)) = z := ⟨_, rfl⟩
        rw [hv] at A15 E hHeld HO ⊢
        rw [hv] at A16
        clear hv
        refine wpAnyH_ready (rs := [17]) (by kernel_rfl) (by simp) ?_
        refine AllReadyH.cons (o := _) rfl (fun K hK => ?_) AllReadyH.nil
        have c0 := A16.cell (i := 0) (v := .int .i64 0) rfl
        have f0 := A16.free (i := 0)
        have c1 := A16.cell (i := 1) (v := .int .i64 0) rfl
        have f1 := A16.free (i := 1)
        have c2 := A16.cell (i := 2) (v := .slice none 0 0) rfl
        have f2 := A16.free (i := 2)
        go_simp
        have E := (((E.setCell (p := ⟨B16, 0, none⟩) e16 (.int .i64 8)).setCell (p := ⟨B16, 1, none⟩) e16 (.int .i64 8)).setCell (p := ⟨B16, 2, none⟩) e16 (.slice (some ⟨na, 0, none⟩) 64 nc))
        have A15 := (((A15.woth (p := ⟨B16, 0, none⟩) (by show B16 ≠ B15; omega) (.int .i64 8)).woth (p := ⟨B16, 1, none⟩) (by show B16 ≠ B15; omega) (.int .i64 8)).woth (p := ⟨B16, 2, none⟩) (by show B16 ≠ B15; omega) (.slice (some ⟨na, 0, none⟩) 64 nc))
        have A16 : BoxIs (((v8.setCell ⟨B16, 0, none⟩ (.int .i64 8)).setCell ⟨B16, 1, none⟩ (.int .i64 8)).setCell ⟨B16, 2, none⟩ (.slice (some ⟨na, 0, none⟩) 64 nc)) B16 #[.int .i64 8, .int .i64 8, .slice (some ⟨na, 0, none⟩) 64 nc] _ := (((A16.wset (i := 0) (.int .i64 8)).wset (i := 1) (.int .i64 8)).wset (i := 2) (.slice (some ⟨na, 0, none⟩) 64 nc))
        have HO := (HoF.setc (p := ⟨B16, 2, none⟩) (v := .slice (some ⟨na, 0, none⟩) 64 nc) (HoF.setc (p := ⟨B16, 1, none⟩) (v := .int .i64 8) (HoF.setc (p := ⟨B16, 0, none⟩) (v := .int .i64 8) HO m16) m16) m16)
        refine hK.out _ _ (KS.out _ E) (fun hHeld => ?_)
        clear hK K
        try simp only [pA, pB, pC, pD]
        clear c0 f0 c1 f1 c2 f2
        obtain ⟨v9, hv⟩ : ∃ z, (((v8.setCell ⟨B16, 0, none⟩ (.int .i64 8)).setCell ⟨B16, 1, none⟩ (.int .i64 8)).setCell ⟨B16, 2, none⟩ (.slice (some ⟨na, 0, none⟩) 64 nc)) = z := ⟨_, rfl⟩
        rw [hv] at A16 E hHeld HO ⊢
        rw [hv] at A15
        clear hv
        refine tkM 18 (oi := { dst := some 17, op := Op.assign (Operand.tmp 45), type := 32, pos := "gop.go:32", after := #[{ on := 13, ground := Ground.data }, { on := 17, ground := Ground.chain }, { on := 0, ground := Ground.phase }, { on := 1, ground := Ground.phase }, { on := 2, ground := Ground.phase }, { on := 3, ground := Ground.phase }, { on := 4, ground := Ground.phase }, { on := 5, ground := Ground.phase }, { on := 6, ground := Ground.phase }, { on := 7, ground := Ground.phase }, { on := 8, ground := Ground.phase }, { on := 9, ground := Ground.phase }, { on := 10, ground := Ground.phase }, { on := 11, ground := Ground.phase }, { on := 12, ground := Ground.phase }, { on := 13, ground := Ground.phase }, { on := 14, ground := Ground.phase }, { on := 15, ground := Ground.phase }, { on := 16, ground := Ground.phase }, { on := 17, ground := Ground.phase }], guard := none }) ?_
        try simp only [pA, pB, pC, pD]
        refine wpAnyH_done (by kernel_rfl) ?_ _
        go_wp2_with fail
        go_meet
        case rel => exact ⟨B15, B16, na, nc, rfl, rfl, rfl, A15, A16, by omega, HO, nX, E⟩
    · skip
      go_simp
      have A15 := BoxIs.new v0 #[.int .i64 0, .slice none 0 0] 61
      have X1 := (Ext.refl v0).alloc (.cells #[.int .i64 0, .slice none 0 0] 61)
      refine hK.out _ _ (KS.out _ (E.trans X1)) (fun hHeld => ?_)
      clear hK K
      try simp only [pA, pB, pC, pD]
      have e15 : w2.heap.size ≤ v0.heap.size := E.size
      have E := E.trans X1; clear X1
      obtain ⟨B15, hB⟩ : ∃ z, v0.heap.size = z := ⟨_, rfl⟩
      obtain ⟨v10, hv⟩ : ∃ z, v0.alloc (.cells #[.int .i64 0, .slice none 0 0] 61) = z := ⟨_, rfl⟩
      rw [hv] at A15 E hHeld ⊢
      rw [hB] at A15 e15 ⊢
      clear hv hB
      refine wpAnyH_ready (rs := [9, 15]) (by kernel_rfl) (by simp) ?_
      refine AllReadyH.cons (o := _) rfl (fun K hK => ?_) (AllReadyH.cons (o := _) rfl (fun K hK => ?_) AllReadyH.nil)
      · skip
        go_simp
        go_at_call 95
        refine (UF.out _ (HX2.out.trans E)).mono ?_; rintro e v11 ⟨na, nc, rfl, X1, ho⟩
        have HO := HoF.row (own_mono ho E.size)
        have nX : ∀ k, (Value.slice (some ⟨na, 0, none⟩) 64 nc).ownBlock = some k → w2.heap.size ≤ k := fun k hk => Nat.le_trans E.size (ho.lt k hk).1
        have m15 : ¬ (Value.slice (some ⟨na, 0, none⟩) 64 nc).ownBlock = some B15 := fun hk => by have h1 := (ho.lt _ hk).1; have h2 := A15.lt; omega
        have A15 := A15.ext X1
        refine hK.out _ _ (KS.out _ (E.trans X1)) (fun hHeld => ?_)
        clear hK K
        try simp only [pA, pB, pC, pD]
        have E := E.trans X1; clear X1 ho
        refine tkM 10 ?_
        try simp only [pA, pB, pC, pD]
        refine tkM 11 ?_
        try simp only [pA, pB, pC, pD]
        refine tkM 12 ?_
        try simp only [pA, pB, pC, pD]
        refine tkM 13 ?_
        try simp only [pA, pB, pC, pD]
        refine wpAnyH_ready (rs := [15]) (by kernel_rfl) (by simp) ?_
        refine AllReadyH.cons (o := _) rfl (fun K hK => ?_) AllReadyH.nil
        go_simp
        have A16 := BoxIs.new v11 #[.int .i64 0, .int .i64 0, .slice none 0 0] 99
        have X1 := (Ext.refl v11).alloc (.cells #[.int .i64 0, .int .i64 0, .slice none 0 0] 99)
        refine hK.out _ _ (KS.out _ (E.trans X1)) (fun hHeld => ?_)
        clear hK K
        try simp only [pA, pB, pC, pD]
        have m16 : ¬ (Value.slice (some ⟨na, 0, none⟩) 64 nc).ownBlock = some v11.heap.size := fun hk => Nat.lt_irrefl _ (HO.1 _ hk)
        have HO := HO.ext X1
        have d1516 : B15 ≠ v11.heap.size := fun e => by have := A15.lt; omega
        have A15 := A15.ext X1
        have e16 : w2.heap.size ≤ v11.heap.size := E.size
        have E := E.trans X1; clear X1
        obtain ⟨B16, hB⟩ : ∃ z, v11.heap.size = z := ⟨_, rfl⟩
        obtain ⟨v12, hv⟩ : ∃ z, v11.alloc (.cells #[.int .i64 0, .int .i64 0, .slice none 0 0] 99) = z := ⟨_, rfl⟩
        rw [hv] at A16 E hHeld ⊢
        rw [hv] at HO
        rw [hv] at A15
        rw [hB] at A16 e16 m16 d1516 ⊢
        clear hv hB
        refine wpAnyH_ready (rs := [16]) (by kernel_rfl) (by simp) ?_
        refine AllReadyH.cons (o := _) rfl (fun K hK => ?_) AllReadyH.nil
        have c0 := A15.cell (i := 0) (v := .int .i64 0) rfl
        have f0 := A15.free (i := 0)
        have c1 := A15.cell (i := 1) (v := .slice none 0 0) rfl
        have f1 := A15.free (i := 1)
        go_simp
        have E := ((E.setCell (p := ⟨B15, 0, none⟩) e15 (.int .i64 4)).setCell (p := ⟨B15, 1, none⟩) e15 (.slice none 0 0))
        have A16 := ((A16.woth (p := ⟨B15, 0, none⟩) (by show B15 ≠ B16; omega) (.int .i64 4)).woth (p := ⟨B15, 1, none⟩) (by show B15 ≠ B16; omega) (.slice none 0 0))
        have A15 : BoxIs ((v12.setCell ⟨B15, 0, none⟩ (.int .i64 4)).setCell ⟨B15, 1, none⟩ (.slice none 0 0)) B15 #[.int .i64 4, .slice none 0 0] _ := ((A15.wset (i := 0) (.int .i64 4)).wset (i := 1) (.slice none 0 0))
        have HO := (HoF.setc (p := ⟨B15, 1, none⟩) (v := .slice none 0 0) (HoF.setc (p := ⟨B15, 0, none⟩) (v := .int .i64 4) HO m15) m15)
        refine hK.out _ _ (KS.out _ E) (fun hHeld => ?_)
        clear hK K
        try simp only [pA, pB, pC, pD]
        clear c0 f0 c1 f1
        obtain ⟨v13, hv⟩ : ∃ z, ((v12.setCell ⟨B15, 0, none⟩ (.int .i64 4)).setCell ⟨B15, 1, none⟩ (.slice none 0 0)) = z := ⟨_, rfl⟩
        rw [hv] at A15 E hHeld HO ⊢
        rw [hv] at A16
        clear hv
        refine wpAnyH_ready (rs := [17]) (by kernel_rfl) (by simp) ?_
        refine AllReadyH.cons (o := _) rfl (fun K hK => ?_) AllReadyH.nil
        have c0 := A16.cell (i := 0) (v := .int .i64 0) rfl
        have f0 := A16.free (i := 0)
        have c1 := A16.cell (i := 1) (v := .int .i64 0) rfl
        have f1 := A16.free (i := 1)
        have c2 := A16.cell (i := 2) (v := .slice none 0 0) rfl
        have f2 := A16.free (i := 2)
        go_simp
        have E := (((E.setCell (p := ⟨B16, 0, none⟩) e16 (.int .i64 8)).setCell (p := ⟨B16, 1, none⟩) e16 (.int .i64 8)).setCell (p := ⟨B16, 2, none⟩) e16 (.slice (some ⟨na, 0, none⟩) 64 nc))
        have A15 := (((A15.woth (p := ⟨B16, 0, none⟩) (by show B16 ≠ B15; omega) (.int .i64 8)).woth (p := ⟨B16, 1, none⟩) (by show B16 ≠ B15; omega) (.int .i64 8)).woth (p := ⟨B16, 2, none⟩) (by show B16 ≠ B15; omega) (.slice (some ⟨na, 0, none⟩) 64 nc))
        have A16 : BoxIs (((v13.setCell ⟨B16, 0, none⟩ (.int .i64 8)).setCell ⟨B16, 1, none⟩ (.int .i64 8)).setCell ⟨B16, 2, none⟩ (.slice (some ⟨na, 0, none⟩) 64 nc)) B16 #[.int .i64 8, .int .i64 8, .slice (some ⟨na, 0, none⟩) 64 nc] _ := (((A16.wset (i := 0) (.int .i64 8)).wset (i := 1) (.int .i64 8)).wset (i := 2) (.slice (some ⟨na, 0, none⟩) 64 nc))
        have HO := (HoF.setc (p := ⟨B16, 2, none⟩) (v := .slice (some ⟨na, 0, none⟩) 64 nc) (HoF.setc (p := ⟨B16, 1, none⟩) (v := .int .i64 8) (HoF.setc (p := ⟨B16, 0, none⟩) (v := .int .i64 8) HO m16) m16) m16)
        refine hK.out _ _ (KS.out _ E) (fun hHeld => ?_)
        clear hK K
        try simp only [pA, pB, pC, pD]
        clear c0 f0 c1 f1 c2 f2
        obtain ⟨v14, hv⟩ : ∃ z, (((v13.setCell ⟨B16, 0, none⟩ (.int .i64 8)).setCell ⟨B16, 1, none⟩ (.int .i64 8)).setCell ⟨B16, 2, none⟩ (.slice (some ⟨na, 0, none⟩) 64 nc)) = z := ⟨_, rfl⟩
        rw [hv] at A16 E hHeld HO ⊢
        rw [hv] at A15
        clear hv
        refine tkM 18 (oi := { dst := some 17, op := Op.assign (Operand.tmp 45), type := 32, pos := "gop.go:32", after := #[{ on := 13, ground := Ground.data }, { on := 17, ground := Ground.chain }, { on := 0, ground := Ground.phase }, { on := 1, ground := Ground.phase }, { on := 2, ground := Ground.phase }, { on := 3, ground := Ground.phase }, { on := 4, ground := Ground.phase }, { on := 5, ground := Ground.phase }, { on := 6, ground := Ground.phase }, { on := 7, ground := Ground.phase }, { on := 8, ground := Ground.phase }, { on := 9, ground := Ground.phase }, { on := 10, ground := Ground.phase }, { on := 11, ground := Ground.phase }, { on := 12, ground := Ground.phase }, { on := 13, ground := Ground.phase }, { on := 14, ground := Ground.phase }, { on := 15, ground := Ground.phase }, { on := 16, ground := Ground.phase }, { on := 17, ground := Ground.phase }], guard := none }) ?_
        try simp only [pA, pB, pC, pD]
        refine wpAnyH_done (by kernel_rfl) ?_ _
        go_wp2_with fail
        go_meet
        case rel => exact ⟨B15, B16, na, nc, rfl, rfl, rfl, A15, A16, by omega, HO, nX, E⟩
      · skip
        go_simp
        have A16 := BoxIs.new v10 #[.int .i64 0, .int .i64 0, .slice none 0 0] 99
        have X1 := (Ext.refl v10).alloc (.cells #[.int .i64 0, .int .i64 0, .slice none 0 0] 99)
        refine hK.out _ _ (KS.out _ (E.trans X1)) (fun hHeld => ?_)
        clear hK K
        try simp only [pA, pB, pC, pD]
        have d1516 : B15 ≠ v10.heap.size := fun e => by have := A15.lt; omega
        have A15 := A15.ext X1
        have e16 : w2.heap.size ≤ v10.heap.size := E.size
        have E := E.trans X1; clear X1
        obtain ⟨B16, hB⟩ : ∃ z, v10.heap.size = z := ⟨_, rfl⟩
        obtain ⟨v15, hv⟩ : ∃ z, v10.alloc (.cells #[.int .i64 0, .int .i64 0, .slice none 0 0] 99) = z := ⟨_, rfl⟩
        rw [hv] at A16 E hHeld ⊢
        rw [hv] at A15
        rw [hB] at A16 e16 d1516 ⊢
        clear hv hB
        refine wpAnyH_ready (rs := [9]) (by kernel_rfl) (by simp) ?_
        refine AllReadyH.cons (o := _) rfl (fun K hK => ?_) AllReadyH.nil
        go_simp
        go_at_call 95
        refine (UF.out _ (HX2.out.trans E)).mono ?_; rintro e v16 ⟨na, nc, rfl, X1, ho⟩
        have HO := HoF.row (own_mono ho E.size)
        have nX : ∀ k, (Value.slice (some ⟨na, 0, none⟩) 64 nc).ownBlock = some k → w2.heap.size ≤ k := fun k hk => Nat.le_trans E.size (ho.lt k hk).1
        have m15 : ¬ (Value.slice (some ⟨na, 0, none⟩) 64 nc).ownBlock = some B15 := fun hk => by have h1 := (ho.lt _ hk).1; have h2 := A15.lt; omega
        have m16 : ¬ (Value.slice (some ⟨na, 0, none⟩) 64 nc).ownBlock = some B16 := fun hk => by have h1 := (ho.lt _ hk).1; have h2 := A16.lt; omega
        have A15 := A15.ext X1
        have A16 := A16.ext X1
        refine hK.out _ _ (KS.out _ (E.trans X1)) (fun hHeld => ?_)
        clear hK K
        try simp only [pA, pB, pC, pD]
        have E := E.trans X1; clear X1 ho
        refine tkM 10 ?_
        try simp only [pA, pB, pC, pD]
        refine tkM 11 ?_
        try simp only [pA, pB, pC, pD]
        refine tkM 12 ?_
        try simp only [pA, pB, pC, pD]
        refine tkM 13 ?_
        try simp only [pA, pB, pC, pD]
        refine wpAnyH_ready (rs := [16]) (by kernel_rfl) (by simp) ?_
        refine AllReadyH.cons (o := _) rfl (fun K hK => ?_) AllReadyH.nil
        have c0 := A15.cell (i := 0) (v := .int .i64 0) rfl
        have f0 := A15.free (i := 0)
        have c1 := A15.cell (i := 1) (v := .slice none 0 0) rfl
        have f1 := A15.free (i := 1)
        go_simp
        have E := ((E.setCell (p := ⟨B15, 0, none⟩) e15 (.int .i64 4)).setCell (p := ⟨B15, 1, none⟩) e15 (.slice none 0 0))
        have A16 := ((A16.woth (p := ⟨B15, 0, none⟩) (by show B15 ≠ B16; omega) (.int .i64 4)).woth (p := ⟨B15, 1, none⟩) (by show B15 ≠ B16; omega) (.slice none 0 0))
        have A15 : BoxIs ((v16.setCell ⟨B15, 0, none⟩ (.int .i64 4)).setCell ⟨B15, 1, none⟩ (.slice none 0 0)) B15 #[.int .i64 4, .slice none 0 0] _ := ((A15.wset (i := 0) (.int .i64 4)).wset (i := 1) (.slice none 0 0))
        have HO := (HoF.setc (p := ⟨B15, 1, none⟩) (v := .slice none 0 0) (HoF.setc (p := ⟨B15, 0, none⟩) (v := .int .i64 4) HO m15) m15)
        refine hK.out _ _ (KS.out _ E) (fun hHeld => ?_)
        clear hK K
        try simp only [pA, pB, pC, pD]
        clear c0 f0 c1 f1
        obtain ⟨v17, hv⟩ : ∃ z, ((v16.setCell ⟨B15, 0, none⟩ (.int .i64 4)).setCell ⟨B15, 1, none⟩ (.slice none 0 0)) = z := ⟨_, rfl⟩
        rw [hv] at A15 E hHeld HO ⊢
        rw [hv] at A16
        clear hv
        refine wpAnyH_ready (rs := [17]) (by kernel_rfl) (by simp) ?_
        refine AllReadyH.cons (o := _) rfl (fun K hK => ?_) AllReadyH.nil
        have c0 := A16.cell (i := 0) (v := .int .i64 0) rfl
        have f0 := A16.free (i := 0)
        have c1 := A16.cell (i := 1) (v := .int .i64 0) rfl
        have f1 := A16.free (i := 1)
        have c2 := A16.cell (i := 2) (v := .slice none 0 0) rfl
        have f2 := A16.free (i := 2)
        go_simp
        have E := (((E.setCell (p := ⟨B16, 0, none⟩) e16 (.int .i64 8)).setCell (p := ⟨B16, 1, none⟩) e16 (.int .i64 8)).setCell (p := ⟨B16, 2, none⟩) e16 (.slice (some ⟨na, 0, none⟩) 64 nc))
        have A15 := (((A15.woth (p := ⟨B16, 0, none⟩) (by show B16 ≠ B15; omega) (.int .i64 8)).woth (p := ⟨B16, 1, none⟩) (by show B16 ≠ B15; omega) (.int .i64 8)).woth (p := ⟨B16, 2, none⟩) (by show B16 ≠ B15; omega) (.slice (some ⟨na, 0, none⟩) 64 nc))
        have A16 : BoxIs (((v17.setCell ⟨B16, 0, none⟩ (.int .i64 8)).setCell ⟨B16, 1, none⟩ (.int .i64 8)).setCell ⟨B16, 2, none⟩ (.slice (some ⟨na, 0, none⟩) 64 nc)) B16 #[.int .i64 8, .int .i64 8, .slice (some ⟨na, 0, none⟩) 64 nc] _ := (((A16.wset (i := 0) (.int .i64 8)).wset (i := 1) (.int .i64 8)).wset (i := 2) (.slice (some ⟨na, 0, none⟩) 64 nc))
        have HO := (HoF.setc (p := ⟨B16, 2, none⟩) (v := .slice (some ⟨na, 0, none⟩) 64 nc) (HoF.setc (p := ⟨B16, 1, none⟩) (v := .int .i64 8) (HoF.setc (p := ⟨B16, 0, none⟩) (v := .int .i64 8) HO m16) m16) m16)
        refine hK.out _ _ (KS.out _ E) (fun hHeld => ?_)
        clear hK K
        try simp only [pA, pB, pC, pD]
        clear c0 f0 c1 f1 c2 f2
        obtain ⟨v18, hv⟩ : ∃ z, (((v17.setCell ⟨B16, 0, none⟩ (.int .i64 8)).setCell ⟨B16, 1, none⟩ (.int .i64 8)).setCell ⟨B16, 2, none⟩ (.slice (some ⟨na, 0, none⟩) 64 nc)) = z := ⟨_, rfl⟩
        rw [hv] at A16 E hHeld HO ⊢
        rw [hv] at A15
        clear hv
        refine tkM 18 (oi := { dst := some 17, op := Op.assign (Operand.tmp 45), type := 32, pos := "gop.go:32", after := #[{ on := 13, ground := Ground.data }, { on := 17, ground := Ground.chain }, { on := 0, ground := Ground.phase }, { on := 1, ground := Ground.phase }, { on := 2, ground := Ground.phase }, { on := 3, ground := Ground.phase }, { on := 4, ground := Ground.phase }, { on := 5, ground := Ground.phase }, { on := 6, ground := Ground.phase }, { on := 7, ground := Ground.phase }, { on := 8, ground := Ground.phase }, { on := 9, ground := Ground.phase }, { on := 10, ground := Ground.phase }, { on := 11, ground := Ground.phase }, { on := 12, ground := Ground.phase }, { on := 13, ground := Ground.phase }, { on := 14, ground := Ground.phase }, { on := 15, ground := Ground.phase }, { on := 16, ground := Ground.phase }, { on := 17, ground := Ground.phase }], guard := none }) ?_
        try simp only [pA, pB, pC, pD]
        refine wpAnyH_done (by kernel_rfl) ?_ _
        go_wp2_with fail
        go_meet
        case rel => exact ⟨B15, B16, na, nc, rfl, rfl, rfl, A15, A16, by omega, HO, nX, E⟩
    · skip
      go_simp
      have A16 := BoxIs.new v0 #[.int .i64 0, .int .i64 0, .slice none 0 0] 99
      have X1 := (Ext.refl v0).alloc (.cells #[.int .i64 0, .int .i64 0, .slice none 0 0] 99)
      refine hK.out _ _ (KS.out _ (E.trans X1)) (fun hHeld => ?_)
      clear hK K
      try simp only [pA, pB, pC, pD]
      have e16 : w2.heap.size ≤ v0.heap.size := E.size
      have E := E.trans X1; clear X1
      obtain ⟨B16, hB⟩ : ∃ z, v0.heap.size = z := ⟨_, rfl⟩
      obtain ⟨v19, hv⟩ : ∃ z, v0.alloc (.cells #[.int .i64 0, .int .i64 0, .slice none 0 0] 99) = z := ⟨_, rfl⟩
      rw [hv] at A16 E hHeld ⊢
      rw [hB] at A16 e16 ⊢
      clear hv hB
      refine wpAnyH_ready (rs := [9, 14]) (by kernel_rfl) (by simp) ?_
      refine AllReadyH.cons (o := _) rfl (fun K hK => ?_) (AllReadyH.cons (o := _) rfl (fun K hK => ?_) AllReadyH.nil)
      · skip
        go_simp
        go_at_call 95
        refine (UF.out _ (HX2.out.trans E)).mono ?_; rintro e v20 ⟨na, nc, rfl, X1, ho⟩
        have HO := HoF.row (own_mono ho E.size)
        have nX : ∀ k, (Value.slice (some ⟨na, 0, none⟩) 64 nc).ownBlock = some k → w2.heap.size ≤ k := fun k hk => Nat.le_trans E.size (ho.lt k hk).1
        have m16 : ¬ (Value.slice (some ⟨na, 0, none⟩) 64 nc).ownBlock = some B16 := fun hk => by have h1 := (ho.lt _ hk).1; have h2 := A16.lt; omega
        have A16 := A16.ext X1
        refine hK.out _ _ (KS.out _ (E.trans X1)) (fun hHeld => ?_)
        clear hK K
        try simp only [pA, pB, pC, pD]
        have E := E.trans X1; clear X1 ho
        refine tkM 10 ?_
        try simp only [pA, pB, pC, pD]
        refine tkM 11 ?_
        try simp only [pA, pB, pC, pD]
        refine tkM 12 ?_
        try simp only [pA, pB, pC, pD]
        refine tkM 13 ?_
        try simp only [pA, pB, pC, pD]
        refine wpAnyH_ready (rs := [14]) (by kernel_rfl) (by simp) ?_
        refine AllReadyH.cons (o := _) rfl (fun K hK => ?_) AllReadyH.nil
        go_simp
        have A15 := BoxIs.new v20 #[.int .i64 0, .slice none 0 0] 61
        have X1 := (Ext.refl v20).alloc (.cells #[.int .i64 0, .slice none 0 0] 61)
        refine hK.out _ _ (KS.out _ (E.trans X1)) (fun hHeld => ?_)
        clear hK K
        try simp only [pA, pB, pC, pD]
        have m15 : ¬ (Value.slice (some ⟨na, 0, none⟩) 64 nc).ownBlock = some v20.heap.size := fun hk => Nat.lt_irrefl _ (HO.1 _ hk)
        have HO := HO.ext X1
        have d1615 : B16 ≠ v20.heap.size := fun e => by have := A16.lt; omega
        have A16 := A16.ext X1
        have e15 : w2.heap.size ≤ v20.heap.size := E.size
        have E := E.trans X1; clear X1
        obtain ⟨B15, hB⟩ : ∃ z, v20.heap.size = z := ⟨_, rfl⟩
        obtain ⟨v21, hv⟩ : ∃ z, v20.alloc (.cells #[.int .i64 0, .slice none 0 0] 61) = z := ⟨_, rfl⟩
        rw [hv] at A15 E hHeld ⊢
        rw [hv] at HO
        rw [hv] at A16
        rw [hB] at A15 e15 m15 d1615 ⊢
        clear hv hB
        refine wpAnyH_ready (rs := [16]) (by kernel_rfl) (by simp) ?_
        refine AllReadyH.cons (o := _) rfl (fun K hK => ?_) AllReadyH.nil
        have c0 := A15.cell (i := 0) (v := .int .i64 0) rfl
        have f0 := A15.free (i := 0)
        have c1 := A15.cell (i := 1) (v := .slice none 0 0) rfl
        have f1 := A15.free (i := 1)
        go_simp
        have E := ((E.setCell (p := ⟨B15, 0, none⟩) e15 (.int .i64 4)).setCell (p := ⟨B15, 1, none⟩) e15 (.slice none 0 0))
        have A16 := ((A16.woth (p := ⟨B15, 0, none⟩) (by show B15 ≠ B16; omega) (.int .i64 4)).woth (p := ⟨B15, 1, none⟩) (by show B15 ≠ B16; omega) (.slice none 0 0))
        have A15 : BoxIs ((v21.setCell ⟨B15, 0, none⟩ (.int .i64 4)).setCell ⟨B15, 1, none⟩ (.slice none 0 0)) B15 #[.int .i64 4, .slice none 0 0] _ := ((A15.wset (i := 0) (.int .i64 4)).wset (i := 1) (.slice none 0 0))
        have HO := (HoF.setc (p := ⟨B15, 1, none⟩) (v := .slice none 0 0) (HoF.setc (p := ⟨B15, 0, none⟩) (v := .int .i64 4) HO m15) m15)
        refine hK.out _ _ (KS.out _ E) (fun hHeld => ?_)
        clear hK K
        try simp only [pA, pB, pC, pD]
        clear c0 f0 c1 f1
        obtain ⟨v22, hv⟩ : ∃ z, ((v21.setCell ⟨B15, 0, none⟩ (.int .i64 4)).setCell ⟨B15, 1, none⟩ (.slice none 0 0)) = z := ⟨_, rfl⟩
        rw [hv] at A15 E hHeld HO ⊢
        rw [hv] at A16
        clear hv
        refine wpAnyH_ready (rs := [17]) (by kernel_rfl) (by simp) ?_
        refine AllReadyH.cons (o := _) rfl (fun K hK => ?_) AllReadyH.nil
        have c0 := A16.cell (i := 0) (v := .int .i64 0) rfl
        have f0 := A16.free (i := 0)
        have c1 := A16.cell (i := 1) (v := .int .i64 0) rfl
        have f1 := A16.free (i := 1)
        have c2 := A16.cell (i := 2) (v := .slice none 0 0) rfl
        have f2 := A16.free (i := 2)
        go_simp
        have E := (((E.setCell (p := ⟨B16, 0, none⟩) e16 (.int .i64 8)).setCell (p := ⟨B16, 1, none⟩) e16 (.int .i64 8)).setCell (p := ⟨B16, 2, none⟩) e16 (.slice (some ⟨na, 0, none⟩) 64 nc))
        have A15 := (((A15.woth (p := ⟨B16, 0, none⟩) (by show B16 ≠ B15; omega) (.int .i64 8)).woth (p := ⟨B16, 1, none⟩) (by show B16 ≠ B15; omega) (.int .i64 8)).woth (p := ⟨B16, 2, none⟩) (by show B16 ≠ B15; omega) (.slice (some ⟨na, 0, none⟩) 64 nc))
        have A16 : BoxIs (((v22.setCell ⟨B16, 0, none⟩ (.int .i64 8)).setCell ⟨B16, 1, none⟩ (.int .i64 8)).setCell ⟨B16, 2, none⟩ (.slice (some ⟨na, 0, none⟩) 64 nc)) B16 #[.int .i64 8, .int .i64 8, .slice (some ⟨na, 0, none⟩) 64 nc] _ := (((A16.wset (i := 0) (.int .i64 8)).wset (i := 1) (.int .i64 8)).wset (i := 2) (.slice (some ⟨na, 0, none⟩) 64 nc))
        have HO := (HoF.setc (p := ⟨B16, 2, none⟩) (v := .slice (some ⟨na, 0, none⟩) 64 nc) (HoF.setc (p := ⟨B16, 1, none⟩) (v := .int .i64 8) (HoF.setc (p := ⟨B16, 0, none⟩) (v := .int .i64 8) HO m16) m16) m16)
        refine hK.out _ _ (KS.out _ E) (fun hHeld => ?_)
        clear hK K
        try simp only [pA, pB, pC, pD]
        clear c0 f0 c1 f1 c2 f2
        obtain ⟨v23, hv⟩ : ∃ z, (((v22.setCell ⟨B16, 0, none⟩ (.int .i64 8)).setCell ⟨B16, 1, none⟩ (.int .i64 8)).setCell ⟨B16, 2, none⟩ (.slice (some ⟨na, 0, none⟩) 64 nc)) = z := ⟨_, rfl⟩
        rw [hv] at A16 E hHeld HO ⊢
        rw [hv] at A15
        clear hv
        refine tkM 18 (oi := { dst := some 17, op := Op.assign (Operand.tmp 45), type := 32, pos := "gop.go:32", after := #[{ on := 13, ground := Ground.data }, { on := 17, ground := Ground.chain }, { on := 0, ground := Ground.phase }, { on := 1, ground := Ground.phase }, { on := 2, ground := Ground.phase }, { on := 3, ground := Ground.phase }, { on := 4, ground := Ground.phase }, { on := 5, ground := Ground.phase }, { on := 6, ground := Ground.phase }, { on := 7, ground := Ground.phase }, { on := 8, ground := Ground.phase }, { on := 9, ground := Ground.phase }, { on := 10, ground := Ground.phase }, { on := 11, ground := Ground.phase }, { on := 12, ground := Ground.phase }, { on := 13, ground := Ground.phase }, { on := 14, ground := Ground.phase }, { on := 15, ground := Ground.phase }, { on := 16, ground := Ground.phase }, { on := 17, ground := Ground.phase }], guard := none }) ?_
        try simp only [pA, pB, pC, pD]
        refine wpAnyH_done (by kernel_rfl) ?_ _
        go_wp2_with fail
        go_meet
        case rel => exact ⟨B15, B16, na, nc, rfl, rfl, rfl, A15, A16, by omega, HO, nX, E⟩
      · skip
        go_simp
        have A15 := BoxIs.new v19 #[.int .i64 0, .slice none 0 0] 61
        have X1 := (Ext.refl v19).alloc (.cells #[.int .i64 0, .slice none 0 0] 61)
        refine hK.out _ _ (KS.out _ (E.trans X1)) (fun hHeld => ?_)
        clear hK K
        try simp only [pA, pB, pC, pD]
        have d1615 : B16 ≠ v19.heap.size := fun e => by have := A16.lt; omega
        have A16 := A16.ext X1
        have e15 : w2.heap.size ≤ v19.heap.size := E.size
        have E := E.trans X1; clear X1
        obtain ⟨B15, hB⟩ : ∃ z, v19.heap.size = z := ⟨_, rfl⟩
        obtain ⟨v24, hv⟩ : ∃ z, v19.alloc (.cells #[.int .i64 0, .slice none 0 0] 61) = z := ⟨_, rfl⟩
        rw [hv] at A15 E hHeld ⊢
        rw [hv] at A16
        rw [hB] at A15 e15 d1615 ⊢
        clear hv hB
        refine wpAnyH_ready (rs := [9]) (by kernel_rfl) (by simp) ?_
        refine AllReadyH.cons (o := _) rfl (fun K hK => ?_) AllReadyH.nil
        go_simp
        go_at_call 95
        refine (UF.out _ (HX2.out.trans E)).mono ?_; rintro e v25 ⟨na, nc, rfl, X1, ho⟩
        have HO := HoF.row (own_mono ho E.size)
        have nX : ∀ k, (Value.slice (some ⟨na, 0, none⟩) 64 nc).ownBlock = some k → w2.heap.size ≤ k := fun k hk => Nat.le_trans E.size (ho.lt k hk).1
        have m15 : ¬ (Value.slice (some ⟨na, 0, none⟩) 64 nc).ownBlock = some B15 := fun hk => by have h1 := (ho.lt _ hk).1; have h2 := A15.lt; omega
        have m16 : ¬ (Value.slice (some ⟨na, 0, none⟩) 64 nc).ownBlock = some B16 := fun hk => by have h1 := (ho.lt _ hk).1; have h2 := A16.lt; omega
        have A15 := A15.ext X1
        have A16 := A16.ext X1
        refine hK.out _ _ (KS.out _ (E.trans X1)) (fun hHeld => ?_)
        clear hK K
        try simp only [pA, pB, pC, pD]
        have E := E.trans X1; clear X1 ho
        refine tkM 10 ?_
        try simp only [pA, pB, pC, pD]
        refine tkM 11 ?_
        try simp only [pA, pB, pC, pD]
        refine tkM 12 ?_
        try simp only [pA, pB, pC, pD]
        refine tkM 13 ?_
        try simp only [pA, pB, pC, pD]
        refine wpAnyH_ready (rs := [16]) (by kernel_rfl) (by simp) ?_
        refine AllReadyH.cons (o := _) rfl (fun K hK => ?_) AllReadyH.nil
        have c0 := A15.cell (i := 0) (v := .int .i64 0) rfl
        have f0 := A15.free (i := 0)
        have c1 := A15.cell (i := 1) (v := .slice none 0 0) rfl
        have f1 := A15.free (i := 1)
        go_simp
        have E := ((E.setCell (p := ⟨B15, 0, none⟩) e15 (.int .i64 4)).setCell (p := ⟨B15, 1, none⟩) e15 (.slice none 0 0))
        have A16 := ((A16.woth (p := ⟨B15, 0, none⟩) (by show B15 ≠ B16; omega) (.int .i64 4)).woth (p := ⟨B15, 1, none⟩) (by show B15 ≠ B16; omega) (.slice none 0 0))
        have A15 : BoxIs ((v25.setCell ⟨B15, 0, none⟩ (.int .i64 4)).setCell ⟨B15, 1, none⟩ (.slice none 0 0)) B15 #[.int .i64 4, .slice none 0 0] _ := ((A15.wset (i := 0) (.int .i64 4)).wset (i := 1) (.slice none 0 0))
        have HO := (HoF.setc (p := ⟨B15, 1, none⟩) (v := .slice none 0 0) (HoF.setc (p := ⟨B15, 0, none⟩) (v := .int .i64 4) HO m15) m15)
        refine hK.out _ _ (KS.out _ E) (fun hHeld => ?_)
        clear hK K
        try simp only [pA, pB, pC, pD]
        clear c0 f0 c1 f1
        obtain ⟨v26, hv⟩ : ∃ z, ((v25.setCell ⟨B15, 0, none⟩ (.int .i64 4)).setCell ⟨B15, 1, none⟩ (.slice none 0 0)) = z := ⟨_, rfl⟩
        rw [hv] at A15 E hHeld HO ⊢
        rw [hv] at A16
        clear hv
        refine wpAnyH_ready (rs := [17]) (by kernel_rfl) (by simp) ?_
        refine AllReadyH.cons (o := _) rfl (fun K hK => ?_) AllReadyH.nil
        have c0 := A16.cell (i := 0) (v := .int .i64 0) rfl
        have f0 := A16.free (i := 0)
        have c1 := A16.cell (i := 1) (v := .int .i64 0) rfl
        have f1 := A16.free (i := 1)
        have c2 := A16.cell (i := 2) (v := .slice none 0 0) rfl
        have f2 := A16.free (i := 2)
        go_simp
        have E := (((E.setCell (p := ⟨B16, 0, none⟩) e16 (.int .i64 8)).setCell (p := ⟨B16, 1, none⟩) e16 (.int .i64 8)).setCell (p := ⟨B16, 2, none⟩) e16 (.slice (some ⟨na, 0, none⟩) 64 nc))
        have A15 := (((A15.woth (p := ⟨B16, 0, none⟩) (by show B16 ≠ B15; omega) (.int .i64 8)).woth (p := ⟨B16, 1, none⟩) (by show B16 ≠ B15; omega) (.int .i64 8)).woth (p := ⟨B16, 2, none⟩) (by show B16 ≠ B15; omega) (.slice (some ⟨na, 0, none⟩) 64 nc))
        have A16 : BoxIs (((v26.setCell ⟨B16, 0, none⟩ (.int .i64 8)).setCell ⟨B16, 1, none⟩ (.int .i64 8)).setCell ⟨B16, 2, none⟩ (.slice (some ⟨na, 0, none⟩) 64 nc)) B16 #[.int .i64 8, .int .i64 8, .slice (some ⟨na, 0, none⟩) 64 nc] _ := (((A16.wset (i := 0) (.int .i64 8)).wset (i := 1) (.int .i64 8)).wset (i := 2) (.slice (some ⟨na, 0, none⟩) 64 nc))
        have HO := (HoF.setc (p := ⟨B16, 2, none⟩) (v := .slice (some ⟨na, 0, none⟩) 64 nc) (HoF.setc (p := ⟨B16, 1, none⟩) (v := .int .i64 8) (HoF.setc (p := ⟨B16, 0, none⟩) (v := .int .i64 8) HO m16) m16) m16)
        refine hK.out _ _ (KS.out _ E) (fun hHeld => ?_)
        clear hK K
        try simp only [pA, pB, pC, pD]
        clear c0 f0 c1 f1 c2 f2
        obtain ⟨v27, hv⟩ : ∃ z, (((v26.setCell ⟨B16, 0, none⟩ (.int .i64 8)).setCell ⟨B16, 1, none⟩ (.int .i64 8)).setCell ⟨B16, 2, none⟩ (.slice (some ⟨na, 0, none⟩) 64 nc)) = z := ⟨_, rfl⟩
        rw [hv] at A16 E hHeld HO ⊢
        rw [hv] at A15
        clear hv
        refine tkM 18 (oi := { dst := some 17, op := Op.assign (Operand.tmp 45), type := 32, pos := "gop.go:32", after := #[{ on := 13, ground := Ground.data }, { on := 17, ground := Ground.chain }, { on := 0, ground := Ground.phase }, { on := 1, ground := Ground.phase }, { on := 2, ground := Ground.phase }, { on := 3, ground := Ground.phase }, { on := 4, ground := Ground.phase }, { on := 5, ground := Ground.phase }, { on := 6, ground := Ground.phase }, { on := 7, ground := Ground.phase }, { on := 8, ground := Ground.phase }, { on := 9, ground := Ground.phase }, { on := 10, ground := Ground.phase }, { on := 11, ground := Ground.phase }, { on := 12, ground := Ground.phase }, { on := 13, ground := Ground.phase }, { on := 14, ground := Ground.phase }, { on := 15, ground := Ground.phase }, { on := 16, ground := Ground.phase }, { on := 17, ground := Ground.phase }], guard := none }) ?_
        try simp only [pA, pB, pC, pD]
        refine wpAnyH_done (by kernel_rfl) ?_ _
        go_wp2_with fail
        go_meet
        case rel => exact ⟨B15, B16, na, nc, rfl, rfl, rfl, A15, A16, by omega, HO, nX, E⟩
  case rest =>
    obtain ⟨B15, B16, na, nc, rfl, rfl, rfl, HA15, HA16, ⟨hne, h15, h16⟩, HOI, HNX, HEC⟩ := hcut
    have hp12 := HC2.out.lt
    have HP := Lib.hid (HC2.out.ext HEC.out)
    have HPL := Lib.hid HP.out.lt
    have HPW : Hid (w.heap.size ≤ w1.heap.size) := HX1.out.size
    have HPX : Hid (¬ (Value.slice (some ⟨na, 0, none⟩) 64 nc).ownBlock = some w1.heap.size) := fun h => by have := HNX.out _ h; omega
    have HXC := Lib.hid (HX2.out.trans HEC.out)
    have k15 : w1.heap.size ≠ B15 := by omega
    have k16 : w1.heap.size ≠ B16 := by omega
    have e0 := HA15.out.cell (i := 0) (v := .int .i64 4) rfl
    have e1 := HA15.out.cell (i := 1) (v := .slice none 0 0) rfl
    have b0 := HA16.out.cell (i := 0) (v := .int .i64 8) rfl
    have b1 := HA16.out.cell (i := 1) (v := .int .i64 8) rfl
    have b2 := HA16.out.cell (i := 2) (v := .slice (some ⟨na, 0, none⟩) 64 nc) rfl
    have KS : Hid (∀ w', Ext wc w' → (fun w' : World => (w'.cell? ⟨B15, 0, none⟩ = some (.int .i64 4) ∧ w'.cell? ⟨B15, 1, none⟩ = some (.slice none 0 0)) ∧ (w'.cell? ⟨B16, 0, none⟩ = some (.int .i64 8) ∧ w'.cell? ⟨B16, 1, none⟩ = some (.int .i64 8) ∧ w'.cell? ⟨B16, 2, none⟩ = some (.slice (some ⟨na, 0, none⟩) 64 nc))) w') := fun w' x => ⟨⟨x.cell e0, x.cell e1⟩, x.cell b0, x.cell b1, x.cell b2⟩
    have KL : Hid (∀ w', (fun w' : World => (w'.cell? ⟨B15, 0, none⟩ = some (.int .i64 4) ∧ w'.cell? ⟨B15, 1, none⟩ = some (.slice none 0 0)) ∧ (w'.cell? ⟨B16, 0, none⟩ = some (.int .i64 8) ∧ w'.cell? ⟨B16, 1, none⟩ = some (.int .i64 8) ∧ w'.cell? ⟨B16, 2, none⟩ = some (.slice (some ⟨na, 0, none⟩) 64 nc))) w' → ∀ v0 v1 v2, (fun w' : World => (w'.cell? ⟨B15, 0, none⟩ = some (.int .i64 4) ∧ w'.cell? ⟨B15, 1, none⟩ = some (.slice none 0 0)) ∧ (w'.cell? ⟨B16, 0, none⟩ = some (.int .i64 8) ∧ w'.cell? ⟨B16, 1, none⟩ = some (.int .i64 8) ∧ w'.cell? ⟨B16, 2, none⟩ = some (.slice (some ⟨na, 0, none⟩) 64 nc))) (((w'.setCell ⟨w1.heap.size, 0, none⟩ v0).setCell ⟨w1.heap.size, 1, none⟩ v1).setCell ⟨w1.heap.size, 2, none⟩ v2)) := fun w' h v0 v1 v2 => ⟨⟨cell3_other h.1.1 k15 v0 v1 v2, cell3_other h.1.2 k15 v0 v1 v2⟩, cell3_other h.2.1 k16 v0 v1 v2, cell3_other h.2.2.1 k16 v0 v1 v2, cell3_other h.2.2.2 k16 v0 v1 v2⟩
    clear e0 e1 b0 b1 b2 k15 k16 HC2 HA15 HA16 h15 h16 hne HNX HEC UK UF HW2 hp12
    go_wp2_with fail
    have HWC : Hid (w.heap.size ≤ wc.heap.size) := HXC.out.size
    refine wp_region_held_drew (S := (fun w' : World => (w'.cell? ⟨B15, 0, none⟩ = some (.int .i64 4) ∧ w'.cell? ⟨B15, 1, none⟩ = some (.slice none 0 0)) ∧ (w'.cell? ⟨B16, 0, none⟩ = some (.int .i64 8) ∧ w'.cell? ⟨B16, 1, none⟩ = some (.int .i64 8) ∧ w'.cell? ⟨B16, 2, none⟩ = some (.slice (some ⟨na, 0, none⟩) 64 nc)))) (by kernel_rfl) (KS.out _ (Ext.refl _).drew) (fun hHeld => ?_)
    have E := (Ext.refl wc).drew
    obtain ⟨v0, hv⟩ : ∃ z, wc.drew = z := ⟨_, rfl⟩
    rw [hv] at E hHeld ⊢
    clear hv
    refine tkM 0 ?_
    try simp only [pA, pB, pC, pD]
    refine tkM 1 ?_
    try simp only [pA, pB, pC, pD]
    refine tkM 4 ?_
    try simp only [pA, pB, pC, pD]
    refine tkM 5 ?_
    try simp only [pA, pB, pC, pD]
    refine tkM 8 ?_
    try simp only [pA, pB, pC, pD]
    refine wpAnyH_ready (rs := [2, 6]) (by kernel_rfl) (by simp) ?_
    refine AllReadyH.cons (o := _) rfl (fun K hK => ?_) (AllReadyH.cons (o := _) rfl (fun K hK => ?_) AllReadyH.nil)
    · skip
      go_simp
      have N15 := BoxIs.new v0 #[.int .i64 4, .slice none 0 0] 61
      have X1 := (Ext.refl v0).alloc (.cells #[.int .i64 4, .slice none 0 0] 61)
      refine hK.out _ _ (KS.out _ (E.trans X1)) (fun hHeld => ?_)
      clear hK K
      try simp only [pA, pB, pC, pD]
      have E := E.trans X1; clear X1
      obtain ⟨M15, hB⟩ : ∃ z, v0.heap.size = z := ⟨_, rfl⟩
      obtain ⟨v1, hv⟩ : ∃ z, v0.alloc (.cells #[.int .i64 4, .slice none 0 0] 61) = z := ⟨_, rfl⟩
      rw [hv] at N15 E hHeld ⊢
      rw [hB] at N15 ⊢
      clear hv hB
      refine wpAnyH_ready (rs := [3, 6]) (by kernel_rfl) (by simp) ?_
      refine AllReadyH.cons (o := _) rfl (fun K hK => ?_) (AllReadyH.cons (o := _) rfl (fun K hK => ?_) AllReadyH.nil)
      · skip
        refine step_push_nil 61 infoCg rfl (by decide) (by decide) (by rfl) _ _ 24 (by rfl) Tryz.underlying24 [.int .i64 4, .slice none 0 0] M15 rfl (fun u hu => by simp only [List.mem_cons, List.not_mem_nil, or_false] at hu; rcases hu with rfl | rfl <;> rfl) (by rfl) (by rfl) N15 ?_; intro g15 k15 v2 X1 o1
        have N15 := N15.ext X1
        have O15 := own_mono o1 (show wc.heap.size ≤ _ from E.size)
        refine hK.out _ _ (KS.out _ (E.trans X1)) (fun hHeld => ?_)
        clear hK K
        try simp only [pA, pB, pC, pD]
        have E := E.trans X1; clear X1 o1
        refine wpAnyH_ready (rs := [6]) (by kernel_rfl) (by simp) ?_
        refine AllReadyH.cons (o := _) rfl (fun K hK => ?_) AllReadyH.nil
        go_simp
        have N16 := BoxIs.new v2 #[.int .i64 8, .int .i64 8, .slice (some ⟨na, 0, none⟩) 64 nc] 99
        have X1 := (Ext.refl v2).alloc (.cells #[.int .i64 8, .int .i64 8, .slice (some ⟨na, 0, none⟩) 64 nc] 99)
        refine hK.out _ _ (KS.out _ (E.trans X1)) (fun hHeld => ?_)
        clear hK K
        try simp only [pA, pB, pC, pD]
        have N15 := N15.ext X1
        have O15 := own_extl O15 X1
        have E := E.trans X1; clear X1
        obtain ⟨M16, hB⟩ : ∃ z, v2.heap.size = z := ⟨_, rfl⟩
        obtain ⟨v3, hv⟩ : ∃ z, v2.alloc (.cells #[.int .i64 8, .int .i64 8, .slice (some ⟨na, 0, none⟩) 64 nc] 99) = z := ⟨_, rfl⟩
        rw [hv] at N16 E hHeld ⊢
        rw [hv] at N15
        rw [hv] at O15
        rw [hB] at N16 ⊢
        clear hv hB
        refine wpAnyH_ready (rs := [7]) (by kernel_rfl) (by simp) ?_
        refine AllReadyH.cons (o := _) rfl (fun K hK => ?_) AllReadyH.nil
        refine step_push_nil 99 infoFr9 rfl (by decide) (by decide) (by rfl) _ _ 86 (by rfl) Tryz.underlying86 [.int .i64 8, .int .i64 8, .slice (some ⟨na, 0, none⟩) 64 nc] M16 rfl (fun u hu => by simp only [List.mem_cons, List.not_mem_nil, or_false] at hu; rcases hu with rfl | rfl | rfl <;> rfl) (by rfl) (by rfl) N16 ?_; intro g16 k16 v4 X1 o1
        have N16 := N16.ext X1
        have N15 := N15.ext X1
        have O15 := own_extl O15 X1
        have O16 := own_mono o1 (show wc.heap.size ≤ _ from E.size)
        refine hK.out _ _ (KS.out _ (E.trans X1)) (fun hHeld => ?_)
        clear hK K
        try simp only [pA, pB, pC, pD]
        have E := E.trans X1; clear X1 o1
        refine tkM 9 (oi := { dst := some 11, op := Op.assign (Operand.tmp 52), type := 24, pos := "gop.go:36", after := #[{ on := 3, ground := Ground.data }, { on := 7, ground := Ground.chain }, { on := 0, ground := Ground.phase }, { on := 1, ground := Ground.phase }, { on := 2, ground := Ground.phase }, { on := 3, ground := Ground.phase }, { on := 4, ground := Ground.textOnly Departure.lateStores }, { on := 5, ground := Ground.textOnly Departure.lateStores }, { on := 6, ground := Ground.textOnly Departure.lateStores }, { on := 7, ground := Ground.textOnly Departure.lateStoresUnsure }, { on := 8, ground := Ground.textOnly Departure.lateStores }], guard := none }) ?_
        try simp only [pA, pB, pC, pD]
        refine tkM 10 (oi := { dst := some 12, op := Op.assign (Operand.tmp 56), type := 86, pos := "gop.go:36", after := #[{ on := 7, ground := Ground.data }, { on := 9, ground := Ground.chain }, { on := 0, ground := Ground.phase }, { on := 1, ground := Ground.phase }, { on := 2, ground := Ground.phase }, { on := 3, ground := Ground.phase }, { on := 4, ground := Ground.phase }, { on := 5, ground := Ground.phase }, { on := 6, ground := Ground.phase }, { on := 7, ground := Ground.phase }, { on := 8, ground := Ground.textOnly Departure.lateStores }, { on := 9, ground := Ground.phase }], guard := none }) ?_
        try simp only [pA, pB, pC, pD]
        refine wpAnyH_ready (rs := [11]) (by kernel_rfl) (by simp) ?_
        refine AllReadyH.cons (o := _) rfl (fun K hK => ?_) AllReadyH.nil
        have P9 := HP.out.ext E
        have c0 := P9.cell (i := 0) (v := .int .i64 0) rfl
        have f0 := P9.free (i := 0)
        have c1 := P9.cell (i := 1) (v := .int .i64 0) rfl
        have f1 := P9.free (i := 1)
        have c2 := P9.cell (i := 2) (v := .slice none 0 0) rfl
        have f2 := P9.free (i := 2)
        go_simp
        have EW := ((((HXC.out.trans E).setCell (p := ⟨w1.heap.size, 0, none⟩) HPW.out (.int .i64 8)).setCell (p := ⟨w1.heap.size, 1, none⟩) HPW.out (.int .i64 8)).setCell (p := ⟨w1.heap.size, 2, none⟩) HPW.out (.slice (some ⟨na, 0, none⟩) 64 nc))
        have O15 := ownsRow_setCell_below (ownsRow_setCell_below (ownsRow_setCell_below O15 (a := ⟨w1.heap.size, 0, none⟩) HPL.out (.int .i64 8)) (a := ⟨w1.heap.size, 1, none⟩) HPL.out (.int .i64 8)) (a := ⟨w1.heap.size, 2, none⟩) HPL.out (.slice (some ⟨na, 0, none⟩) 64 nc)
        have O16 := ownsRow_setCell_below (ownsRow_setCell_below (ownsRow_setCell_below O16 (a := ⟨w1.heap.size, 0, none⟩) HPL.out (.int .i64 8)) (a := ⟨w1.heap.size, 1, none⟩) HPL.out (.int .i64 8)) (a := ⟨w1.heap.size, 2, none⟩) HPL.out (.slice (some ⟨na, 0, none⟩) 64 nc)
        have OI := ((HOI.out.ext E).setc (p := ⟨w1.heap.size, 0, none⟩) (v := .int .i64 8) HPX.out).setc (p := ⟨w1.heap.size, 1, none⟩) (v := .int .i64 8) HPX.out |>.setc (p := ⟨w1.heap.size, 2, none⟩) (v := .slice (some ⟨na, 0, none⟩) 64 nc) HPX.out
        refine hK.out _ _ (KL.out _ (KS.out _ E) _ _ _) (fun hHeld => ?_)
        clear hK K
        try simp only [pA, pB, pC, pD]
        have E := EW
        refine wpAnyH_done (by kernel_rfl) ?_ _
        have P15 := Lib.hid O15
        have P16 := Lib.hid O16
        have PI := Lib.hid OI
        have PE := Lib.hid E
        clear O15 O16 OI E EW P9 hHeld N15 N16 c0 c1 c2 f0 f1 f2
        go_wp2
        rw [rounds_succ]
        go_wp2
        exact bodyPost_ret (v := .tuple #[.slice (some ⟨g15, 0, none⟩) 1 k15, .slice (some ⟨g16, 0, none⟩) 1 k16, .nilIface]) (by simp [results, Tryz.results43, go_sem]) rfl ⟨_, _, _, _, _, _, _, rfl, own_mono P15.out HWC.out, own_mono P16.out HWC.out, PI.out.imp (fun W h => own_mono h HX2.out.size), PE.out⟩
      · skip
        go_simp
        have N16 := BoxIs.new v1 #[.int .i64 8, .int .i64 8, .slice (some ⟨na, 0, none⟩) 64 nc] 99
        have X1 := (Ext.refl v1).alloc (.cells #[.int .i64 8, .int .i64 8, .slice (some ⟨na, 0, none⟩) 64 nc] 99)
        refine hK.out _ _ (KS.out _ (E.trans X1)) (fun hHeld => ?_)
        clear hK K
        try simp only [pA, pB, pC, pD]
        have N15 := N15.ext X1
        have E := E.trans X1; clear X1
        obtain ⟨M16, hB⟩ : ∃ z, v1.heap.size = z := ⟨_, rfl⟩
        obtain ⟨v6, hv⟩ : ∃ z, v1.alloc (.cells #[.int .i64 8, .int .i64 8, .slice (some ⟨na, 0, none⟩) 64 nc] 99) = z := ⟨_, rfl⟩
        rw [hv] at N16 E hHeld ⊢
        rw [hv] at N15
        rw [hB] at N16 ⊢
        clear hv hB
        refine wpAnyH_ready (rs := [3]) (by kernel_rfl) (by simp) ?_
        refine AllReadyH.cons (o := _) rfl (fun K hK => ?_) AllReadyH.nil
        refine step_push_nil 61 infoCg rfl (by decide) (by decide) (by rfl) _ _ 24 (by rfl) Tryz.underlying24 [.int .i64 4, .slice none 0 0] M15 rfl (fun u hu => by simp only [List.mem_cons, List.not_mem_nil, or_false] at hu; rcases hu with rfl | rfl <;> rfl) (by rfl) (by rfl) N15 ?_; intro g15 k15 v7 X1 o1
        have N16 := N16.ext X1
        have N15 := N15.ext X1
        have O15 := own_mono o1 (show wc.heap.size ≤ _ from E.size)
        refine hK.out _ _ (KS.out _ (E.trans X1)) (fun hHeld => ?_)
        clear hK K
        try simp only [pA, pB, pC, pD]
        have E := E.trans X1; clear X1 o1
        refine wpAnyH_ready (rs := [7]) (by kernel_rfl) (by simp) ?_
        refine AllReadyH.cons (o := _) rfl (fun K hK => ?_) AllReadyH.nil
        refine step_push_nil 99 infoFr9 rfl (by decide) (by decide) (by rfl) _ _ 86 (by rfl) Tryz.underlying86 [.int .i64 8, .int .i64 8, .slice (some ⟨na, 0, none⟩) 64 nc] M16 rfl (fun u hu => by simp only [List.mem_cons, List.not_mem_nil, or_false] at hu; rcases hu with rfl | rfl | rfl <;> rfl) (by rfl) (by rfl) N16 ?_; intro g16 k16 v8 X1 o1
        have N16 := N16.ext X1
        have N15 := N15.ext X1
        have O15 := own_extl O15 X1
        have O16 := own_mono o1 (show wc.heap.size ≤ _ from E.size)
        refine hK.out _ _ (KS.out _ (E.trans X1)) (fun hHeld => ?_)
        clear hK K
        try simp only [pA, pB, pC, pD]
        have E := E.trans X1; clear X1 o1
        refine tkM 9 (oi := { dst := some 11, op := Op.assign (Operand.tmp 52), type := 24, pos := "gop.go:36", after := #[{ on := 3, ground := Ground.data }, { on := 7, ground := Ground.chain }, { on := 0, ground := Ground.phase }, { on := 1, ground := Ground.phase }, { on := 2, ground := Ground.phase }, { on := 3, ground := Ground.phase }, { on := 4, ground := Ground.textOnly Departure.lateStores }, { on := 5, ground := Ground.textOnly Departure.lateStores }, { on := 6, ground := Ground.textOnly Departure.lateStores }, { on := 7, ground := Ground.textOnly Departure.lateStoresUnsure }, { on := 8, ground := Ground.textOnly Departure.lateStores }], guard := none }) ?_
        try simp only [pA, pB, pC, pD]
        refine tkM 10 (oi := { dst := some 12, op := Op.assign (Operand.tmp 56), type := 86, pos := "gop.go:36", after := #[{ on := 7, ground := Ground.data }, { on := 9, ground := Ground.chain }, { on := 0, ground := Ground.phase }, { on := 1, ground := Ground.phase }, { on := 2, ground := Ground.phase }, { on := 3, ground := Ground.phase }, { on := 4, ground := Ground.phase }, { on := 5, ground := Ground.phase }, { on := 6, ground := Ground.phase }, { on := 7, ground := Ground.phase }, { on := 8, ground := Ground.textOnly Departure.lateStores }, { on := 9, ground := Ground.phase }], guard := none }) ?_
        try simp only [pA, pB, pC, pD]
        refine wpAnyH_ready (rs := [11]) (by kernel_rfl) (by simp) ?_
        refine AllReadyH.cons (o := _) rfl (fun K hK => ?_) AllReadyH.nil
        have P9 := HP.out.ext E
        have c0 := P9.cell (i := 0) (v := .int .i64 0) rfl
        have f0 := P9.free (i := 0)
        have c1 := P9.cell (i := 1) (v := .int .i64 0) rfl
        have f1 := P9.free (i := 1)
        have c2 := P9.cell (i := 2) (v := .slice none 0 0) rfl
        have f2 := P9.free (i := 2)
        go_simp
        have EW := ((((HXC.out.trans E).setCell (p := ⟨w1.heap.size, 0, none⟩) HPW.out (.int .i64 8)).setCell (p := ⟨w1.heap.size, 1, none⟩) HPW.out (.int .i64 8)).setCell (p := ⟨w1.heap.size, 2, none⟩) HPW.out (.slice (some ⟨na, 0, none⟩) 64 nc))
        have O15 := ownsRow_setCell_below (ownsRow_setCell_below (ownsRow_setCell_below O15 (a := ⟨w1.heap.size, 0, none⟩) HPL.out (.int .i64 8)) (a := ⟨w1.heap.size, 1, none⟩) HPL.out (.int .i64 8)) (a := ⟨w1.heap.size, 2, none⟩) HPL.out (.slice (some ⟨na, 0, none⟩) 64 nc)
        have O16 := ownsRow_setCell_below (ownsRow_setCell_below (ownsRow_setCell_below O16 (a := ⟨w1.heap.size, 0, none⟩) HPL.out (.int .i64 8)) (a := ⟨w1.heap.size, 1, none⟩) HPL.out (.int .i64 8)) (a := ⟨w1.heap.size, 2, none⟩) HPL.out (.slice (some ⟨na, 0, none⟩) 64 nc)
        have OI := ((HOI.out.ext E).setc (p := ⟨w1.heap.size, 0, none⟩) (v := .int .i64 8) HPX.out).setc (p := ⟨w1.heap.size, 1, none⟩) (v := .int .i64 8) HPX.out |>.setc (p := ⟨w1.heap.size, 2, none⟩) (v := .slice (some ⟨na, 0, none⟩) 64 nc) HPX.out
        refine hK.out _ _ (KL.out _ (KS.out _ E) _ _ _) (fun hHeld => ?_)
        clear hK K
        try simp only [pA, pB, pC, pD]
        have E := EW
        refine wpAnyH_done (by kernel_rfl) ?_ _
        have P15 := Lib.hid O15
        have P16 := Lib.hid O16
        have PI := Lib.hid OI
        have PE := Lib.hid E
        clear O15 O16 OI E EW P9 hHeld N15 N16 c0 c1 c2 f0 f1 f2
        go_wp2
        rw [rounds_succ]
        go_wp2
        exact bodyPost_ret (v := .tuple #[.slice (some ⟨g15, 0, none⟩) 1 k15, .slice (some ⟨g16, 0, none⟩) 1 k16, .nilIface]) (by simp [results, Tryz.results43, go_sem]) rfl ⟨_, _, _, _, _, _, _, rfl, own_mono P15.out HWC.out, own_mono P16.out HWC.out, PI.out.imp (fun W h => own_mono h HX2.out.size), PE.out⟩
    · skip
      go_simp
      have N16 := BoxIs.new v0 #[.int .i64 8, .int .i64 8, .slice (some ⟨na, 0, none⟩) 64 nc] 99
      have X1 := (Ext.refl v0).alloc (.cells #[.int .i64 8, .int .i64 8, .slice (some ⟨na, 0, none⟩) 64 nc] 99)
      refine hK.out _ _ (KS.out _ (E.trans X1)) (fun hHeld => ?_)
      clear hK K
      try simp only [pA, pB, pC, pD]
      have E := E.trans X1; clear X1
      obtain ⟨M16, hB⟩ : ∃ z, v0.heap.size = z := ⟨_, rfl⟩
      obtain ⟨v10, hv⟩ : ∃ z, v0.alloc (.cells #[.int .i64 8, .int .i64 8, .slice (some ⟨na, 0, none⟩) 64 nc] 99) = z := ⟨_, rfl⟩
      rw [hv] at N16 E hHeld ⊢
      rw [hB] at N16 ⊢
      clear hv hB
      refine wpAnyH_ready (rs := [2]) (by kernel_rfl) (by simp) ?_
      refine AllReadyH.cons (o := _) rfl (fun K hK => ?_) AllReadyH.nil
      go_simp
      have N15 := BoxIs.new v10 #[.int .i64 4, .slice none 0 0] 61
      have X1 := (Ext.refl v10).alloc (.cells #[.int .i64 4, .slice none 0 0] 61)
      refine hK.out _ _ (KS.out _ (E.trans X1)) (fun hHeld => ?_)
      clear hK K
      try simp only [pA, pB, pC, pD]
      have N16 := N16.ext X1
      have E := E.trans X1; clear X1
      obtain ⟨M15, hB⟩ : ∃ z, v10.heap.size = z := ⟨_, rfl⟩
      obtain ⟨v11, hv⟩ : ∃ z, v10.alloc (.cells #[.int .i64 4, .slice none 0 0] 61) = z := ⟨_, rfl⟩
      rw [hv] at N15 E hHeld ⊢
      rw [hv] at N16
      rw [hB] at N15 ⊢
      clear hv hB
      refine wpAnyH_ready (rs := [3]) (by kernel_rfl) (by simp) ?_
      refine AllReadyH.cons (o := _) rfl (fun K hK => ?_) AllReadyH.nil
      refine step_push_nil 61 infoCg rfl (by decide) (by decide) (by rfl) _ _ 24 (by rfl) Tryz.underlying24 [.int .i64 4, .slice none 0 0] M15 rfl (fun u hu => by simp only [List.mem_cons, List.not_mem_nil, or_false] at hu; rcases hu with rfl | rfl <;> rfl) (by rfl) (by rfl) N15 ?_; intro g15 k15 v12 X1 o1
      have N16 := N16.ext X1
      have N15 := N15.ext X1
      have O15 := own_mono o1 (show wc.heap.size ≤ _ from E.size)
      refine hK.out _ _ (KS.out _ (E.trans X1)) (fun hHeld => ?_)
      clear hK K
      try simp only [pA, pB, pC, pD]
      have E := E.trans X1; clear X1 o1
      refine wpAnyH_ready (rs := [7]) (by kernel_rfl) (by simp) ?_
      refine AllReadyH.cons (o := _) rfl (fun K hK => ?_) AllReadyH.nil
      refine step_push_nil 99 infoFr9 rfl (by decide) (by decide) (by rfl) _ _ 86 (by rfl) Tryz.underlying86 [.int .i64 8, .int .i64 8, .slice (some ⟨na, 0, none⟩) 64 nc] M16 rfl (fun u hu => by simp only [List.mem_cons, List.not_mem_nil, or_false] at hu; rcases hu with rfl | rfl | rfl <;> rfl) (by rfl) (by rfl) N16 ?_; intro g16 k16 v13 X1 o1
      have N16 := N16.ext X1
      have N15 := N15.ext X1
      have O15 := own_extl O15 X1
      have O16 := own_mono o1 (show wc.heap.size ≤ _ from E.size)
      refine hK.out _ _ (KS.out _ (E.trans X1)) (fun hHeld => ?_)
      clear hK K
      try simp only [pA, pB, pC, pD]
      have E := E.trans X1; clear X1 o1
      refine tkM 9 (oi := { dst := some 11, op := Op.assign (Operand.tmp 52), type := 24, pos := "gop.go:36", after := #[{ on := 3, ground := Ground.data }, { on := 7, ground := Ground.chain }, { on := 0, ground := Ground.phase }, { on := 1, ground := Ground.phase }, { on := 2, ground := Ground.phase }, { on := 3, ground := Ground.phase }, { on := 4, ground := Ground.textOnly Departure.lateStores }, { on := 5, ground := Ground.textOnly Departure.lateStores }, { on := 6, ground := Ground.textOnly Departure.lateStores }, { on := 7, ground := Ground.textOnly Departure.lateStoresUnsure }, { on := 8, ground := Ground.textOnly Departure.lateStores }], guard := none }) ?_
      try simp only [pA, pB, pC, pD]
      refine tkM 10 (oi := { dst := some 12, op := Op.assign (Operand.tmp 56), type := 86, pos := "gop.go:36", after := #[{ on := 7, ground := Ground.data }, { on := 9, ground := Ground.chain }, { on := 0, ground := Ground.phase }, { on := 1, ground := Ground.phase }, { on := 2, ground := Ground.phase }, { on := 3, ground := Ground.phase }, { on := 4, ground := Ground.phase }, { on := 5, ground := Ground.phase }, { on := 6, ground := Ground.phase }, { on := 7, ground := Ground.phase }, { on := 8, ground := Ground.textOnly Departure.lateStores }, { on := 9, ground := Ground.phase }], guard := none }) ?_
      try simp only [pA, pB, pC, pD]
      refine wpAnyH_ready (rs := [11]) (by kernel_rfl) (by simp) ?_
      refine AllReadyH.cons (o := _) rfl (fun K hK => ?_) AllReadyH.nil
      have P9 := HP.out.ext E
      have c0 := P9.cell (i := 0) (v := .int .i64 0) rfl
      have f0 := P9.free (i := 0)
      have c1 := P9.cell (i := 1) (v := .int .i64 0) rfl
      have f1 := P9.free (i := 1)
      have c2 := P9.cell (i := 2) (v := .slice none 0 0) rfl
      have f2 := P9.free (i := 2)
      go_simp
      have EW := ((((HXC.out.trans E).setCell (p := ⟨w1.heap.size, 0, none⟩) HPW.out (.int .i64 8)).setCell (p := ⟨w1.heap.size, 1, none⟩) HPW.out (.int .i64 8)).setCell (p := ⟨w1.heap.size, 2, none⟩) HPW.out (.slice (some ⟨na, 0, none⟩) 64 nc))
      have O15 := ownsRow_setCell_below (ownsRow_setCell_below (ownsRow_setCell_below O15 (a := ⟨w1.heap.size, 0, none⟩) HPL.out (.int .i64 8)) (a := ⟨w1.heap.size, 1, none⟩) HPL.out (.int .i64 8)) (a := ⟨w1.heap.size, 2, none⟩) HPL.out (.slice (some ⟨na, 0, none⟩) 64 nc)
      have O16 := ownsRow_setCell_below (ownsRow_setCell_below (ownsRow_setCell_below O16 (a := ⟨w1.heap.size, 0, none⟩) HPL.out (.int .i64 8)) (a := ⟨w1.heap.size, 1, none⟩) HPL.out (.int .i64 8)) (a := ⟨w1.heap.size, 2, none⟩) HPL.out (.slice (some ⟨na, 0, none⟩) 64 nc)
      have OI := ((HOI.out.ext E).setc (p := ⟨w1.heap.size, 0, none⟩) (v := .int .i64 8) HPX.out).setc (p := ⟨w1.heap.size, 1, none⟩) (v := .int .i64 8) HPX.out |>.setc (p := ⟨w1.heap.size, 2, none⟩) (v := .slice (some ⟨na, 0, none⟩) 64 nc) HPX.out
      refine hK.out _ _ (KL.out _ (KS.out _ E) _ _ _) (fun hHeld => ?_)
      clear hK K
      try simp only [pA, pB, pC, pD]
      have E := EW
      refine wpAnyH_done (by kernel_rfl) ?_ _
      have P15 := Lib.hid O15
      have P16 := Lib.hid O16
      have PI := Lib.hid OI
      have PE := Lib.hid E
      clear O15 O16 OI E EW P9 hHeld N15 N16 c0 c1 c2 f0 f1 f2
      go_wp2
      rw [rounds_succ]
      go_wp2
      exact bodyPost_ret (v := .tuple #[.slice (some ⟨g15, 0, none⟩) 1 k15, .slice (some ⟨g16, 0, none⟩) 1 k16, .nilIface]) (by simp [results, Tryz.results43, go_sem]) rfl ⟨_, _, _, _, _, _, _, rfl, own_mono P15.out HWC.out, own_mono P16.out HWC.out, PI.out.imp (fun W h => own_mono h HX2.out.size), PE.out⟩
end Go.Proofs.YtlaedbglclmheaaGreatDoor
