/- kinref14.Code: contracts over this seat's translation. -/
import Derived.Test.YtpofabebmeickaaGreatDoorVwZt
import Derived.Test.YtpofabebmeickaaGreatDoorVwZq
import Derived.Test.YtpofabebmeickaaGreatDoorVwZb
import Derived.Test.YtpofabebmeickaaGreatDoorVwZk
import Derived.Test.YtpofabebmeickaaGreatDoorVwZa
namespace Go.Proofs.YtpofabebmeickaaGreatDoor
set_option linter.unusedVariables false
set_option linter.unusedSimpArgs false
open Go.RowKit Go.Extern.Stop Go.Stop Go.Extern

theorem rzero_any (xs : List Int) (v : Value) (w : World) (ha : Ints w v xs) :
    Calls Tryz.prog 75 #[v] w fun e w' => e = .returned (.bool (!xs.any nzB)) ∧ Ext w w' := by
  have H := Lib.hid (within_any xs 0 0 v w ha)
  have e : decide (within 0 0 xs) = !xs.any nzB := by
    cases hp : xs.any nzB with
    | true =>
      obtain ⟨x, hx, h1⟩ := List.any_eq_true.1 hp
      rw [decide_eq_false (fun h => by have := h x hx; unfold nzB at h1; simp at h1; omega)]
      rfl
    | false =>
      rw [decide_eq_true (p := within 0 0 xs) (fun x hx => ?_)]
      · rfl
      · cases h1 : nzB x with
        | true => rw [List.any_eq_true.2 ⟨x, hx, h1⟩] at hp; cases hp
        | false =>
          unfold nzB at h1
          simp at h1
          omega
  rw [e] at H
  clear e ha
  go_enter Tryz.func75, Tryz.ntmps75
  go_wp2_with fail
  refine (H.out).mono ?_; rintro e w1 ⟨rfl, hx1⟩
  go_wp2
  go_ret
  exact ⟨rfl, hx1⟩
theorem rorder_own {q : Nat} (hq : q = 16 ∨ q = 64) (w : World) : Calls Tryz.prog 74 #[.int .i64 ((sqN q : Nat) : Int)] w fun e w' => ∃ u, e = .returned u ∧ Ext w w' ∧ HoF w' (fun k => u.ownBlock = some k) (fun W => Ints W u ((sqO q).map fun (x : Nat) => (x : Int))) ∧ ∀ k, u.ownBlock = some k → w.heap.size ≤ k := by
  rcases hq with rfl | rfl
  · refine (rordown_4 w).mono ?_
    rintro e w' ⟨u, rfl, hx, h⟩
    rw [natC_ints] at h
    obtain ⟨h1, h2⟩ := TlF.new (n := (zigPre 4 7).length) (by simp [intsOf]) h
    exact ⟨u, rfl, hx, h1.ho (by have := zig_len.1; simp only [intsOf, List.length_map]; omega), h2⟩
  · refine (rordown_8 w).mono ?_
    rintro e w' ⟨u, rfl, hx, h⟩
    rw [natC_ints] at h
    obtain ⟨h1, h2⟩ := TlF.new (n := (zigPre 8 15).length) (by simp [intsOf]) h
    exact ⟨u, rfl, hx, h1.ho (by have := zig_len.2; simp only [intsOf, List.length_map]; omega), h2⟩
theorem rbase_4 (w : World) : Calls Tryz.prog 73 #[.int .i64 4] w fun e w' => e = .returned (.int .i64 ((sqB 16 : Nat) : Int)) ∧ w = w' := by
  go_enter Tryz.func73, Tryz.ntmps73
  go_wp2
  go_ret
  exact ⟨rfl, rfl⟩
theorem rbase_8 (w : World) : Calls Tryz.prog 73 #[.int .i64 8] w fun e w' => e = .returned (.int .i64 ((sqB 64 : Nat) : Int)) ∧ w = w' := by
  go_enter Tryz.func73, Tryz.ntmps73
  go_wp2
  go_ret
  exact ⟨rfl, rfl⟩
theorem within_lv (xs : List Int) : decide (within (-16320) 16320 xs) = !xs.any noLv := by
  cases h : xs.any noLv
  · exact decide_eq_true (fun x hx => by
      have := lv_of_any h x hx
      unfold isLv at this
      rw [Bool.and_eq_true, decide_eq_true_iff, decide_eq_true_iff] at this
      exact this)
  · refine decide_eq_false (fun hw => ?_)
    obtain ⟨x, hx, h1⟩ := List.any_eq_true.1 h
    have := hw x hx
    unfold noLv isLv at h1
    rw [decide_eq_true this.1, decide_eq_true this.2] at h1
    simp at h1
theorem lvl_z {x : Int} (h0 : -16320 ≤ x) (h1 : x ≤ 16320) : ∃ z, (x.natAbs : Int) - 1 = z ∧ -20 ≤ z ∧ z ≤ 17000 ∧ IntKind.i64.wrap (max x (-x) - 1) = z ∧ IntKind.i64.wrap (-x) = -x := by
  refine ⟨(x.natAbs : Int) - 1, rfl, by omega, by omega, ?_, ?_⟩
  · rw [IntKind.wrap_i64]; omega
  · rw [IntKind.wrap_i64]; omega
theorem lvl_b {R : Nat} {V7 : Bool} {V2 : Int} (h : (if V7 = true then -((R : Int) + 1) else (R : Int) + 1) = V2) : isLv V2 = decide (R + 1 ≤ 16320) := by
  rw [← h]
  unfold isLv
  by_cases hr : R + 1 ≤ 16320
  · rw [decide_eq_true hr]
    cases V7
    · show (decide ((-16320 : Int) ≤ (R : Int) + 1) && decide ((R : Int) + 1 ≤ 16320)) = true
      rw [decide_eq_true (by omega), decide_eq_true (by omega)]; rfl
    · show (decide ((-16320 : Int) ≤ -((R : Int) + 1)) && decide (-((R : Int) + 1) ≤ 16320)) = true
      rw [decide_eq_true (by omega), decide_eq_true (by omega)]; rfl
  · rw [decide_eq_false hr]
    cases V7
    · show (decide ((-16320 : Int) ≤ (R : Int) + 1) && decide ((R : Int) + 1 ≤ 16320)) = false
      rw [decide_eq_false (p := (R : Int) + 1 ≤ 16320) (by omega), Bool.and_false]
    · show (decide ((-16320 : Int) ≤ -((R : Int) + 1)) && decide (-((R : Int) + 1) ≤ 16320)) = false
      rw [decide_eq_false (p := (-16320 : Int) ≤ -((R : Int) + 1)) (by omega), Bool.false_and]
theorem wr_i {i : Nat} {B D : Nat} (hB : B ≤ 40) (hi : i ≤ 64) (hD : B + min i 7 = D) : IntKind.i64.wrap ((B : Int) + 1) = (B : Int) + 1 ∧ IntKind.i64.wrap ((B : Int) + 9) = (B : Int) + 9 ∧ IntKind.i64.wrap ((B : Int) + 1 + min (i : Int) 7) = ((D + 1 : Nat) : Int) ∧ IntKind.i64.wrap ((B : Int) + 9 + min (i : Int) 7) = ((D + 9 : Nat) : Int) ∧ IntKind.i64.wrap ((i : Int) + 1) = (i : Int) + 1 ∧ D ≤ 47 := by
  refine ⟨?_, ?_, ?_, ?_, ?_, by omega⟩
  all_goals (rw [IntKind.wrap_i64]; omega)
theorem y_up {R : Nat} (h : ¬ R + 1 ≤ 16320) : 16320 < R + 1 ∧ (16320 : Int) < (R : Int) + 1 := by omega
theorem y_dn {R : Nat} (h : R + 1 ≤ 16320) : ¬ 16320 < R + 1 ∧ ¬ (16320 : Int) < (R : Int) + 1 := by omega
/-- the variable of the document's error -/
def RsF (b : Nat) (w : World) (F : Nat → Prop) (_ : Unit) : Prop := ResAt w b ∧ ∀ k, F k ↔ k = b
theorem RsF.obj (b : Nat) : Obj (RsF b) := ⟨fun h k hk => by rw [(h.2 k).1 hk]; exact Ext.lt h.1.1, fun h k => by
  have e := k b ((h.2 b).2 rfl)
  obtain ⟨⟨h0, h1, h2, h3⟩, h4⟩ := h
  exact ⟨⟨(World.cell?_of_block (a := ⟨b, 0, none⟩) e).trans h0, (World.cell?_of_block (a := ⟨b, 1, none⟩) e).trans h1, (World.frozen?_of_block (a := ⟨b, 0, none⟩) e).trans h2, (World.frozen?_of_block (a := ⟨b, 1, none⟩) e).trans h3⟩, h4⟩⟩
theorem fin_rs {σ τ : Type} {A : World → (Nat → Prop) → σ → Prop} {C : World → (Nat → Prop) → τ → Prop} (oa : Obj A) (oc : Obj C) {b : Nat} {c : Int} {y : Value} {w v0 : World} {F F0 : Nat → Prop} {s : σ} {t : τ} (h : Sep (Sep A (RsF b)) C w F ((s, ()), t)) (st : Step F0 v0 F w) :
    (∃ G, Sep A C ((w.setCell ⟨b, 0, none⟩ (.int .i64 c)).setCell ⟨b, 1, none⟩ y) G (s, t) ∧ Step F0 v0 G ((w.setCell ⟨b, 0, none⟩ (.int .i64 c)).setCell ⟨b, 1, none⟩ y)) ∧ (((w.setCell ⟨b, 0, none⟩ (.int .i64 c)).setCell ⟨b, 1, none⟩ y).cell? ⟨b, 0, none⟩ = some (.int .i64 c) ∧ ((w.setCell ⟨b, 0, none⟩ (.int .i64 c)).setCell ⟨b, 1, none⟩ y).cell? ⟨b, 1, none⟩ = some y) := by
  obtain ⟨F12, F3, ⟨F1, F2, g1, g2, g3, g4⟩, h2, h3, h4⟩ := h
  have hb2 : F2 b := (g2.2 b).2 rfl
  have hb : F b := (h4 b).2 (.inl ((g4 b).2 (.inr hb2)))
  have e1 : ∀ i, i ≠ b → ((w.setCell ⟨b, 0, none⟩ (.int .i64 c)).setCell ⟨b, 1, none⟩ y).heap[i]? = w.heap[i]? := fun i hi => (Below.heap_setCell _ _ _ _ hi).trans (Below.heap_setCell _ _ _ _ hi)
  have st2 := st.trans (Step.of_kp (((Kp.refl b w).set 0 (.int .i64 c)).set 1 y) hb)
  refine ⟨⟨fun i => F1 i ∨ F3 i, ⟨F1, F3, oa.same g1 (fun i hi => e1 i (fun e => g3 b hb2 (by rw [← e]; exact hi))), oc.same h2 (fun i hi => e1 i (fun e => h3 i hi (by rw [e]; exact (g4 b).2 (.inr hb2)))), fun i hi hf => h3 i hi ((g4 i).2 (.inl hf)), fun _ => Iff.rfl⟩, ⟨st2.1, fun i hi => ?_⟩⟩, ?_⟩
  · refine st2.2 i ((h4 i).2 ?_)
    exact hi.imp (fun h => (g4 i).2 (.inl h)) id
  · exact res_cells g2.1.1 g2.1.2.1 y
theorem rs_at {σ τ : Type} {A : World → (Nat → Prop) → σ → Prop} {C : World → (Nat → Prop) → τ → Prop} {b : Nat} {w : World} {F : Nat → Prop} {s : σ} {t : τ} (h : Sep (Sep A (RsF b)) C w F ((s, ()), t)) : ResAt w b := by
  obtain ⟨F12, F3, ⟨F1, F2, g1, g2, g3, g4⟩, h2, h3, h4⟩ := h
  exact g2.1
theorem zsL_made' (n : Nat) : (madeCells (Value.int .i64 0).cells (n * 1)).toList = (zsL n).map (Value.int .i64) := by
  rw [zeros_rowb]
  congr 1
  unfold rowL zsL
  exact List.eq_replicate_iff.2 ⟨by simp, by simp⟩
theorem zs_facts' (n : Nat) : (zsL n).length = n := by simp [zsL]
theorem DwF.objD (a : Nat) : Obj (DwF a) := ⟨fun h => h.lt, fun h => h.same⟩
/-- what the document's coef.Code tells -/
def RCodR {σ : Type} (r : (Fall × List Int) × Ms σ) (e : Ending) (p : Ms σ × (World → Prop)) : Prop := ∃ u c ra rn rk, e = .returned (.tuple #[u, .agg #[.int .i64 c, .slice ra rn rk]]) ∧ p = (r.2, fun W => Ints W u r.1.2 ∧ RErrIs W r.1.1 c (.slice ra rn rk))
theorem RCodR.done {σ : Type} {A : World → (Nat → Prop) → Ms σ → Prop} {F G : Nat → Prop} {w w' : World} {r : (Fall × List Int) × Ms σ} {u : Value} {c : Int} {ra : Option Addr} {rn rk : Nat} {ys : List Int} {f : Fall} {t : Ms σ} {P : World → Prop} (hr : r = ((f, ys), t)) (h : Sep A HoF w' G (t, P)) (hp : ∀ W, P W → Ints W u ys ∧ RErrIs W f c (.slice ra rn rk)) (st : Step F w G w') : QPost (Sep A HoF) (RCodR r) F w (.returned (.tuple #[u, .agg #[.int .i64 c, .slice ra rn rk]])) w' := by
  subst hr
  exact ⟨(t, fun W => Ints W u ys ∧ RErrIs W f c (.slice ra rn rk)), G, ⟨u, c, ra, rn, rk, rfl, rfl⟩, h.imp (fun _ k => k.imp hp), st⟩
set_option maxRecDepth 20000 in
set_option maxHeartbeats 8000000 in
theorem dwcode16 (a N : Nat)  (xs : List Int) (v : Value) (X : Nat → Prop) (s : Ms Xe) (F : Nat → Prop) (w : World) (h : (DwF a) w F s) (hk : okS okXm N s) (hN : N ≤ 3900000) (hv : HoF w X (fun W => Ints W v xs)) (hd : ∀ k, X k → ¬ F k) (hn : xs.length = 16) (hb0 : xs.any noLv = false) : Calls Tryz.prog 46 #[.pointer (some ⟨a, 0, none⟩), v] w (QPost (Sep (DwF a) HoF) (RCodR ((codP xs).run mX s)) F w) := by
  obtain ⟨i0, hi, hz0, hz1, hz2⟩ := info_parts infoInt
  have r1m := mx2
  have r2m := mn2
  have hvw := hv.get
  obtain ⟨va, voff, vc, rfl, c1, c2⟩ := hvw.addr (by omega)
  obtain ⟨nz, hnz⟩ : ∃ b, xs.any nzB = b := ⟨_, rfl⟩
  obtain ⟨⟨V1, s1⟩, e1⟩ : ∃ r, bitM mX s ((sqB xs.length : Nat) : Int) (xs.any nzB) = r := ⟨_, rfl⟩
  have HR := Lib.hid (cod_yes (by rw [hn]; decide) hb0 e1)
  have k1 := bit_ok mkX ((sqB xs.length : Nat) : Int) (xs.any nzB) hk
  rw [e1] at k1
  rw [hn] at hv hvw c1 e1 HR ⊢
  obtain ⟨B, hB⟩ : ∃ B, sqB 16 = B := ⟨_, rfl⟩
  have hB9 : B ≤ 40 := by rw [← hB]; decide
  have UBA := Lib.hid (fun w => rbase_4 w)
  rw [hB] at e1 HR UBA
  rw [hnz] at e1
  have HVW := Lib.hid (fun G w' (st : Step F w G w') => hv.step hd st)
  have UW := Lib.hid (fun w' (h : Ints w' (.slice (some ⟨va, voff, none⟩) 16 vc) xs) => within_any xs (-16320) 16320 _ w' h)
  rw [within_lv, hb0] at UW
  have UZ := Lib.hid (fun w' (h : Ints w' (.slice (some ⟨va, voff, none⟩) 16 vc) xs) => rzero_any xs _ w' h)
  rw [hnz] at UZ
  have UBT := Lib.hid (fun F w' (h : (DwF a) w' F s) => ((fun N c up s F w h hk hN => dwbit_any a N c up s F w h hk hN)) N ((B : Nat) : Int) nz s F w' h hk (by omega))
  rw [e1] at UBT
  have A1 := (Ext.refl w).alloc (.cells #[.int .i64 0, .slice none 0 0] 46)
  obtain ⟨hS0, hG0⟩ := Sep.new (DwF.objD a) h A1 (B := RsF w.heap.size) (t := ()) ⟨ResAt.new w, fun _ => Iff.rfl⟩ (fun k hk => by rw [hk]; exact Nat.le_refl _)
  have HS0 := Lib.hid hS0
  have HG0 := Lib.hid hG0
  have UW0 := Lib.hid (UW.out _ (HVW.out _ _ hG0))
  have HN := Lib.hid hn
  have HLV := Lib.hid (lv_of_any hb0)
  have HK1 := Lib.hid k1
  clear h hv hvw hn hb0 hnz e1 hk k1 hB hd hS0 hG0 A1 UW
  go_enter Tryz.func46, Tryz.ntmps46
  go_wp2_with fail
  refine (UW0.out).mono ?_; rintro e w1 ⟨rfl, hx1⟩
  have HS1 := Lib.hid (Obj.ext ((DwF.objD a).sep (RsF.obj w.heap.size)) HS0.out hx1)
  have HGa := Lib.hid (HG0.out.ext hx1)
  clear hx1 HS0 HG0 UW0
  go_wp2_with fail
  refine (UBA.out _).mono ?_; rintro e w9 ⟨rfl, rfl⟩
  go_wp2_with fail
  refine (rorder_own (q := 16) (by decide) _).mono ?_; rintro e w2 ⟨ou, rfl, hx2, ho2, hf2⟩
  obtain ⟨G1, hG1⟩ : ∃ G, Sep (DwF a) (RsF w.heap.size) w2 G (s, ()) ∧ Step F w G w2 ∧ ∀ k, ou.ownBlock = some k → ¬ G k := ⟨_, Obj.ext ((DwF.objD a).sep (RsF.obj w.heap.size)) HS1.out hx2, HGa.out.ext hx2, fun k hk hg => by
    have h1 := hf2 k hk
    have h2 := ((DwF.objD a).sep (RsF.obj w.heap.size)).lt HS1.out k hg
    omega⟩
  have HS2 := Lib.hid hG1.1
  have HG1 := Lib.hid hG1.2.1
  have HOD := Lib.hid (fun G w' (st : Step G1 w2 G w') => ho2.step hG1.2.2 st)
  have hol : ((sqO 16).map fun (x : Nat) => (x : Int)).length = 16 := by rw [List.length_map]; exact sqO_len (by decide)
  obtain ⟨og, ooff, oc, rfl, oc1, oc2⟩ := ho2.get.addr (by rw [hol]; decide)
  rw [hol] at oc1
  have HOD : Hid (∀ G w', Step G1 w2 G w' → Ints w' (.slice (some ⟨og, ooff, none⟩) 16 oc) ((sqO 16).map fun (x : Nat) => (x : Int))) := by
    have := HOD.out
    rw [hol] at this
    exact this
  rw [hol]
  clear hx2 ho2 hf2 hG1 hol HS1 HGa
  go_wp2_with (at_make; refine wpList_make_full _ rfl _ _ 33 rfl w2.heap.size 3 i0 (.int .i64 0) 1 Tryz.underlying33 hi hz0 hz1 .i64 .i64 _ _ 16 rfl rfl rfl rfl (by rw [hz2]; decide) (by decide) (Nat.le_refl _) ?_; intro w3 hown hgrow)
  have hE3 : Ext w2 w3 := Below.grown (Ext.refl w2) hgrow (Nat.le_refl _) (fun k hk => by cases hk)
  rw [zsL_made'] at hown
  obtain ⟨hT, hTf⟩ := TlF.new (n := 16) (by simp [zsL]) hown
  obtain ⟨hS, hSt⟩ := Sep.new ((DwF.objD a).sep (RsF.obj w.heap.size)) HS2.out hE3 hT hTf
  have HS3 := Lib.hid hS
  have HG3 := Lib.hid hSt
  have HY3 : Hid ((zsL 16).length = 16) := (zs_facts' 16)
  clear hS hSt hT hTf hE3 hown hgrow hi hz0 hz1 hz2 HS2
  refine (UZ.out w3 (HVW.out _ _ (HG1.out.trans HG3.out))).mono ?_; rintro e w4 ⟨rfl, hx4⟩
  have HS4 := Lib.hid (Obj.ext (((DwF.objD a).sep (RsF.obj w.heap.size)).sep TlF.obj) HS3.out hx4)
  have HG4 := Lib.hid (HG3.out.ext hx4)
  clear HS3 HG3 UZ hx4
  have U1 := Lib.hid (sep_l TlF.obj HS4.out (fun G h => sep_l (RsF.obj w.heap.size) h (fun G h => UBT.out G w4 h)))
  clear UBT
  go_wp2_with fail
  refine (U1.out).mono ?_; rintro e w5 ⟨rfl, G5, h5, g5⟩
  have HS5 := Lib.hid h5
  have HG5 := Lib.hid (HG4.out.trans g5)
  clear h5 g5 HS4 HG4 U1
  cases V1
  · have HRz : Hid ((codP xs).run mX s = ((none, zsL 16), s1)) := HR.out
    have HSz := HS5
    have HGz := Lib.hid (HG1.out.trans HG5.out)
    have HYz := HY3
    -- in hand: the world wz, HSz : Sep (Sep O RsF) TlF wz Gz ((t, ()), (cv, ys)), HGz : Step F w Gz wz, HRz
    obtain ⟨r0, r1, f0, f1⟩ := (rs_at HSz.out)
    obtain ⟨⟨Gq, hS, hG⟩, e0, e1⟩ := fin_rs (c := 0) (y := .slice none 0 0) (DwF.objD a) TlF.obj HSz.out HGz.out
    have HSq := Lib.hid hS
    have HGq := Lib.hid hG
    clear hS hG HSz HGz
    go_wp2
    exact bodyPost_ret (v := .tuple #[.slice (some ⟨w2.heap.size, 0, none⟩) 16 16, .agg #[.int .i64 0, .slice none 0 0]]) (by simp [results, Tryz.results46, go_sem, e0, e1]) rfl (RCodR.done HRz.out (HSq.out.imp fun _ h => h.ho (by rw [HYz.out]; decide)) (fun W hW => ⟨hW, RErrIs.zero⟩) HGq.out)
  · obtain ⟨fin, hfin⟩ : ∃ fin, lastP xs (sqO 16) (16 - 1) = fin := ⟨_, rfl⟩
    have HR2 : Hid ((codP xs).run mX s = (cdR (cdM mX B xs fin (sqO 16) 0 (zsL 16) s1).1, (cdM mX B xs fin (sqO 16) 0 (zsL 16) s1).2)) := by
      have := HR.out
      rw [hfin] at this
      exact this
    have HFIN := Lib.hid hfin
    clear hfin HR
    go_wp2_with fail
    go_loopw [10] (fun iv wq => ∃ (i : Nat) (tl : List Nat) (ys : List Int) (t : Ms Xe) (G : Nat → Prop), i + tl.length = 16 ∧ iv = .int .i64 (i : Int) ∧ Hid ((sqO 16).drop i = tl) ∧ Hid (ys.length = 16) ∧ Hid ((codP xs).run mX s = (cdR (cdM mX B xs fin tl i ys t).1, (cdM mX B xs fin tl i ys t).2)) ∧ Hid (okS okXm (N + 4 + 172 * i) t) ∧ Hid (Sep (Sep (DwF a) (RsF w.heap.size)) TlF wq G ((t, ()), (.slice (some ⟨w2.heap.size, 0, none⟩) 16 16, ys))) ∧ Hid (Step G1 w2 G wq)) (fun iv _ => 16 - (intOf iv).toNat)
    case atStart => exact ⟨0, sqO 16, zsL 16, s1, G5, by rw [sqO_len (by decide)], rfl, rfl, HY3.out, HR2.out, HK1.out, HS5.out, HG5.out⟩
    case round =>
      clear HR2 HK1 HS5 HY3 HG5
      obtain ⟨i, tl, ys, t, G, hi, rfl, HD, HY, HRc, HK, HS, HG⟩ := hrel
      cases tl with
      | nil =>
        obtain rfl : i = 16 := by simp only [List.length_nil] at hi; omega
        have x2 : ¬ ((16 : Nat) : Int) < 16 := by decide
        have HRz : Hid ((codP xs).run mX s = ((none, ys), t)) := HRc.out
        have HSz := HS
        have HGz := Lib.hid (HG1.out.trans HG.out)
        have HYz := HY
        clear HRc HK HS HG HD
        -- in hand: the world wz, HSz : Sep (Sep O RsF) TlF wz Gz ((t, ()), (cv, ys)), HGz : Step F w Gz wz, HRz
        obtain ⟨r0, r1, f0, f1⟩ := (rs_at HSz.out)
        obtain ⟨⟨Gq, hS, hG⟩, e0, e1⟩ := fin_rs (c := 0) (y := .slice none 0 0) (DwF.objD a) TlF.obj HSz.out HGz.out
        have HSq := Lib.hid hS
        have HGq := Lib.hid hG
        clear hS hG HSz HGz
        go_wp2
        exact bodyPost_ret (v := .tuple #[.slice (some ⟨w2.heap.size, 0, none⟩) 16 16, .agg #[.int .i64 0, .slice none 0 0]]) (by simp [results, Tryz.results46, go_sem, e0, e1]) rfl (RCodR.done HRz.out (HSq.out.imp fun _ h => h.ho (by rw [HYz.out]; decide)) (fun W hW => ⟨hW, RErrIs.zero⟩) HGq.out)
      | cons k tl =>
        rw [List.length_cons] at hi
        have hk : (sqO 16)[i]? = some k := by
          have := HD.out
          have e := congrArg (fun l => l[0]?) this
          simp only [List.getElem?_drop, Nat.add_zero] at e
          exact e
        have hkn : k < 16 := (sqO_all (n := 16) (by decide)).2.1 k (List.mem_of_getElem? hk)
        obtain ⟨x, hx⟩ : ∃ x, xs[k]? = some x := ⟨_, List.getElem?_eq_getElem (by rw [HN.out]; exact hkn)⟩
        have hxg : xs.getD k 0 = x := by rw [List.getD_eq_getElem?_getD, hx]; rfl
        have hxl := HLV.out x (List.mem_of_getElem? hx)
        unfold isLv at hxl
        rw [Bool.and_eq_true, decide_eq_true_iff, decide_eq_true_iff] at hxl
        have hok : ((sqO 16).map fun (x : Nat) => (x : Int))[i]? = some (k : Int) := by rw [List.getElem?_map, hk]; rfl
        have HOK := Lib.hid hok
        have c5 := (HOD.out G _ HG.out).at (j := i) (x := (k : Int)) hok
        have c6 := (HVW.out G _ (HG1.out.trans HG.out)).at hx
        have HD2 : Hid ((sqO 16).drop (i + 1) = tl) := by
          show _ = _
          rw [← List.drop_drop, HD.out]
          rfl
        have x1 : (0 : Int) ≤ (i : Int) := by omega
        have x2 : (i : Int) < 16 := by omega
        have x3 : (0 : Int) ≤ (k : Int) := by omega
        have x4 : (k : Int) < 16 := by omega
        obtain ⟨D, hD⟩ : ∃ D, B + min i 7 = D := ⟨_, rfl⟩
        have hi64 : i ≤ 64 := by omega
        obtain ⟨q0, q0', q1, q1', q3, hD47⟩ := wr_i hB9 hi64 hD
        have HX := Lib.hid hx
        have HXG := Lib.hid hxg
        have HKN := Lib.hid hkn
        have HKa : Hid (okS okXm (N + 4 + 172 * i + 4) t) := HK.out.mono mkX (by omega)
        clear hk hx hxg hkn HD hok
        by_cases ht : tl = []
        · subst ht
          have ei : i = 15 := by simp only [List.length_nil] at hi; omega
          have x5 : ¬ (i : Int) < 15 := by omega
          have x6 : ¬ i < 15 := by omega
          have HEI := Lib.hid ei
          have HXQ := Lib.hid (decide_eq_false x5)
          clear ei HK hi hD
          obtain ⟨ta, hta⟩ : ∃ z, z = t := ⟨_, rfl⟩
          subst hta
          have HSa := HS
          have HGb := HG
          clear HS HG
          obtain ⟨z, hz, hz0', hz1', qz3, qz1⟩ := lvl_z hxl.1 hxl.2
          obtain ⟨b7, hb7⟩ : ∃ b, decide (x < 0) = b := ⟨_, rfl⟩
          obtain ⟨⟨V7, s7⟩, e7⟩ : ∃ r, flaM mX ta b7 = r := ⟨_, rfl⟩
          obtain ⟨⟨R, t2⟩, e8⟩ : ∃ r, csM mX (B + 17) z 14 0 s7 = r := ⟨_, rfl⟩
          have hR : R ≤ 16396 := by have := cs_le (M := mX) (C := B + 17) (z := z) 14 0 s7 (by omega); rw [e8] at this; exact this
          have hlv : lvM mX (B + 17) x ta = (if V7 then -((R : Int) + 1) else (R : Int) + 1, t2) := by
            unfold lvM
            rw [hb7, e7, hz]
            show (if V7 = true then -(((csM mX (B + 17) z 14 0 s7).1 : Int) + 1) else ((csM mX (B + 17) z 14 0 s7).1 : Int) + 1, (csM mX (B + 17) z 14 0 s7).2) = _
            rw [e8]
          clear hz
          have HLVR := Lib.hid hlv
          have kf := fla_ok mkX b7 HKa.out
          rw [e7] at kf
          have kl := lv_ok mkX (C := B + 17) (v := x) HKa.out
          rw [hlv] at kl
          have HK2 : Hid (okS okXm (N + 4 + 172 * i + 4 + 164) t2) := kl
          have qr1 := wrap_up1 R hR
          have qr2 := wrap_down1 R hR
          have U7 := Lib.hid (fun G w' (h : Sep (Sep (DwF a) (RsF w.heap.size)) TlF w' G ((ta, ()), (.slice (some ⟨w2.heap.size, 0, none⟩) 16 16, ys))) => sep_l TlF.obj h (fun G h => sep_l (RsF.obj w.heap.size) h (fun G h => ((fun N up s F w h hk hN => dwflat_any a N up s F w h hk hN)) (N + 4 + 172 * i + 4) b7 ta G w' h HKa.out (by omega))))
          rw [e7] at U7
          have U8 := Lib.hid (fun G w' (h : Sep (Sep (DwF a) (RsF w.heap.size)) TlF w' G ((s7, ()), (.slice (some ⟨w2.heap.size, 0, none⟩) 16 16, ys))) => sep_l TlF.obj h (fun G h => sep_l (RsF.obj w.heap.size) h (fun G h => dwsize_any a (N + 4 + 172 * i + 4 + 4)  B (by omega) z hz0' hz1' s7 G w' h kf (by omega))))
          rw [e8] at U8
          clear hz0' hz1' e7 e8 hlv kf kl HKa
          go_wp2_with fail
          refine (U7.out _ _ HSa.out).mono ?_; rintro e w6 ⟨rfl, G6, h6, g6⟩
          have HS6 := Lib.hid h6
          have HGb6 := Lib.hid (HGb.out.trans g6)
          clear h6 g6 U7 HSa HGb
          go_wp2_with fail
          refine (U8.out _ _ HS6.out).mono ?_; rintro e w8 ⟨rfl, G8, h8, g8⟩
          have HS8 := Lib.hid h8
          have HGb8 := Lib.hid (HGb6.out.trans g8)
          clear h8 g8 U8 HS6 HGb6 hb7
          obtain ⟨V2, hV2⟩ : ∃ V, (if V7 = true then -((R : Int) + 1) else (R : Int) + 1) = V := ⟨_, rfl⟩
          have HV2 := Lib.hid hV2
          have hlb : isLv V2 = decide (R + 1 ≤ 16320) := lvl_b hV2
          have HLB := Lib.hid hlb
          clear hlb hV2
          have e2 : lvM mX (B + 17) x ta = (V2, t2) := by rw [HLVR.out, HV2.out]
          have hrl := HRc.out
          rw [cd_end (M := mX) (B := B) (xs := xs) (fin := fin) (k := k) (i := i) (ys := ys) (s := ta) (s1 := t2) (v := V2) (by rw [HXG.out]; exact e2)] at hrl
          have HRb : Hid (isLv V2 = false → (codP xs).run mX s = ((some ([(coefS, (i : Int))], 3), []), t2)) := fun h => by rw [hrl, if_neg (by rw [h]; decide)]; rfl
          have HRg : Hid (isLv V2 = true → (codP xs).run mX s = ((none, ys.set k V2), t2)) := fun h => by rw [hrl, if_pos h]; rfl
          clear e2 hrl HRc HLVR
          by_cases hr : R + 1 ≤ 16320
          · have HRy := Lib.hid (HRg.out (by rw [HLB.out]; exact decide_eq_true hr))
            have yq : decide ((16320 : Int) < (R : Int) + 1) = false := decide_eq_false (y_dn hr).2
            obtain ⟨y, hy⟩ : ∃ y, ys[k]? = some y := ⟨_, List.getElem?_eq_getElem (by rw [HY.out]; exact HKN.out)⟩
            obtain ⟨c8, c9⟩ := sep_at HS8.out hy
            have c5 := (HOD.out G8 _ HGb8.out).at (j := i) (x := (k : Int)) HOK.out
            obtain ⟨hS, hG⟩ := sep_set (x := V2) ((DwF.objD a).sep (RsF.obj w.heap.size)) HS8.out (k := k) (by rw [HY.out]; exact HKN.out)
            have HS9 := Lib.hid hS
            have HGb9 := Lib.hid (HGb8.out.trans hG)
            have HY9 : Hid ((ys.set k V2).length = 16) := by show _ = _; rw [List.length_set]; exact HY.out
            have hv2 := HV2.out
            clear hy hS hG HS8 HGb8 HRb HRg hr HLB
            have HRz : Hid ((codP xs).run mX s = (cdR (cdM mX B xs fin [] (i + 1) (ys.set k V2) t2).1, (cdM mX B xs fin [] (i + 1) (ys.set k V2) t2).2)) := HRy.out
            have HK9 : Hid (okS okXm (N + 4 + 172 * (i + 1)) t2) := HK2.out.mono mkX (by omega)
            clear HRy x5 x6
            have xq := HXQ.out
            cases V7
            · have hv3 : (R : Int) + 1 = V2 := hv2
              clear hv2 HV2
              subst hv3
              go_wp2_with fail
              generalize w8.setCell _ _ = w9 at HS9 HGb9 ⊢
              go_roundw
              case rel => exact ⟨i + 1, [], _, t2, G8, by simp only [List.length_nil]; have := HEI.out; omega, by go_num, HD2.out, HY9.out, HRz.out, HK9.out, HS9.out, HGb9.out⟩
              case measure => simp [intOf] <;> omega
            · have hv3 : -((R : Int) + 1) = V2 := hv2
              clear hv2 HV2
              subst hv3
              go_wp2_with fail
              generalize w8.setCell _ _ = w9 at HS9 HGb9 ⊢
              go_roundw
              case rel => exact ⟨i + 1, [], _, t2, G8, by simp only [List.length_nil]; have := HEI.out; omega, by go_num, HD2.out, HY9.out, HRz.out, HK9.out, HS9.out, HGb9.out⟩
              case measure => simp [intOf] <;> omega
          · have HRz : Hid ((codP xs).run mX s = ((some ([(coefS, (i : Int))], 3), []), t2)) := HRb.out (by rw [HLB.out]; exact decide_eq_false hr)
            obtain ⟨y9, y8⟩ := y_up hr
            clear HRb HRg
            go_wp2_with fail
            refine (wrap_any coefS (i : Int) 3 _ (by decide)).mono ?_; rintro e w9 ⟨u9, rfl, ho9, hx9⟩
            obtain ⟨ga, gc, rfl⟩ := (Row.of_owns ho9).form
            obtain ⟨G9, h9, g9⟩ := Sep.other ((DwF.objD a).sep (RsF.obj w.heap.size)) HS8.out hx9 (HoF.row ho9) (fun k hk => (ho9.lt k hk).1) (HG1.out.trans HGb8.out)
            have h9 := h9.imp (fun _ h => h.imp (fun W h => Row.of_owns h))
            obtain ⟨r0, r1, f0, f1⟩ := (rs_at h9)
            obtain ⟨⟨Gq, hS, hG⟩, e0, e1⟩ := fin_rs (c := 3) (y := .slice ga 1 gc) (DwF.objD a) HoF.obj h9 g9
            have HSq := Lib.hid hS
            have HGq := Lib.hid hG
            clear hS hG h9 g9 hx9 ho9 HS8 HGb8
            go_wp2
            exact bodyPost_ret (v := .tuple #[.slice none 0 0, .agg #[.int .i64 3, .slice ga 1 gc]]) (by simp [results, Tryz.results46, go_sem, e0, e1]) rfl (RCodR.done HRz.out HSq.out (fun W hW => ⟨Ints.nil W, rfl, by decide, hW⟩) HGq.out)
        · have hne : i < 15 := by
            have : 0 < tl.length := List.length_pos_iff.2 ht
            omega
          have x5 : (i : Int) < 15 := by omega
          obtain ⟨bx, hbx⟩ : ∃ b, decide (x ≠ 0) = b := ⟨_, rfl⟩
          have hbx2 : (x != 0) = bx := by
            rw [← hbx]
            by_cases h0 : x = 0
            · rw [decide_eq_false (by simpa using h0), h0]; rfl
            · rw [decide_eq_true h0]; simpa using h0
          obtain ⟨⟨V3, ta⟩, e3⟩ : ∃ r, bitM mX t ((D + 1 : Nat) : Int) bx = r := ⟨_, rfl⟩
          have k3 := bit_ok mkX ((D + 1 : Nat) : Int) bx HK.out
          rw [e3] at k3
          have HK3 : Hid (okS okXm (N + 4 + 172 * i + 4) ta) := k3
          have HBI : Hid (bitM mX t ((B + min i 7 + 1 : Nat) : Int) (decide (xs.getD k 0 ≠ 0)) = (V3, ta)) := by show _ = _; rw [hD, HXG.out, hbx]; exact e3
          have HRs : Hid (V3 = false → (codP xs).run mX s = (cdR (cdM mX B xs fin tl (i + 1) ys ta).1, (cdM mX B xs fin tl (i + 1) ys ta).2)) := fun h => by
            subst h
            have := HRc.out
            rw [cd_skip ht HBI.out] at this
            exact this
          have HK3n : Hid (okS okXm (N + 4 + 172 * (i + 1)) ta) := k3.mono mkX (by omega)
          have U1 := Lib.hid (sep_l TlF.obj HS.out (fun G h => sep_l (RsF.obj w.heap.size) h (fun G h => ((fun N c up s F w h hk hN => dwbit_any a N c up s F w h hk hN)) (N + 4 + 172 * i) ((D + 1 : Nat) : Int) bx t G wr h HK.out (by omega))))
          rw [e3] at U1
          have HI9 := Lib.hid hi
          have HDD := Lib.hid hD
          clear e3 k3 HK hbx HKa hi hD
          go_wp2_with fail
          refine (U1.out).mono ?_; rintro e wz ⟨rfl, Ga, ha, ga⟩
          have HSa := Lib.hid ha
          have HGb := Lib.hid (HG.out.trans ga)
          clear ha ga U1 HS HG c5 c6
          cases V3
          · have HRz := Lib.hid (HRs.out rfl)
            clear HRs HBI HRc
            go_wp2
            go_roundw
            case rel => exact ⟨i + 1, tl, ys, ta, Ga, by have := HI9.out; omega, by go_num, HD2.out, HY.out, HRz.out, HK3n.out, HSa.out, HGb.out⟩
            case measure => simp [intOf] <;> omega
          · have HKa := HK3
            clear HRs
            obtain ⟨z, hz, hz0', hz1', qz3, qz1⟩ := lvl_z hxl.1 hxl.2
            obtain ⟨b7, hb7⟩ : ∃ b, decide (x < 0) = b := ⟨_, rfl⟩
            obtain ⟨⟨V7, s7⟩, e7⟩ : ∃ r, flaM mX ta b7 = r := ⟨_, rfl⟩
            obtain ⟨⟨R, t2⟩, e8⟩ : ∃ r, csM mX (B + 17) z 14 0 s7 = r := ⟨_, rfl⟩
            have hR : R ≤ 16396 := by have := cs_le (M := mX) (C := B + 17) (z := z) 14 0 s7 (by omega); rw [e8] at this; exact this
            have hlv : lvM mX (B + 17) x ta = (if V7 then -((R : Int) + 1) else (R : Int) + 1, t2) := by
              unfold lvM
              rw [hb7, e7, hz]
              show (if V7 = true then -(((csM mX (B + 17) z 14 0 s7).1 : Int) + 1) else ((csM mX (B + 17) z 14 0 s7).1 : Int) + 1, (csM mX (B + 17) z 14 0 s7).2) = _
              rw [e8]
            clear hz
            have HLVR := Lib.hid hlv
            have kf := fla_ok mkX b7 HKa.out
            rw [e7] at kf
            have kl := lv_ok mkX (C := B + 17) (v := x) HKa.out
            rw [hlv] at kl
            have HK2 : Hid (okS okXm (N + 4 + 172 * i + 4 + 164) t2) := kl
            have qr1 := wrap_up1 R hR
            have qr2 := wrap_down1 R hR
            have U7 := Lib.hid (fun G w' (h : Sep (Sep (DwF a) (RsF w.heap.size)) TlF w' G ((ta, ()), (.slice (some ⟨w2.heap.size, 0, none⟩) 16 16, ys))) => sep_l TlF.obj h (fun G h => sep_l (RsF.obj w.heap.size) h (fun G h => ((fun N up s F w h hk hN => dwflat_any a N up s F w h hk hN)) (N + 4 + 172 * i + 4) b7 ta G w' h HKa.out (by omega))))
            rw [e7] at U7
            have U8 := Lib.hid (fun G w' (h : Sep (Sep (DwF a) (RsF w.heap.size)) TlF w' G ((s7, ()), (.slice (some ⟨w2.heap.size, 0, none⟩) 16 16, ys))) => sep_l TlF.obj h (fun G h => sep_l (RsF.obj w.heap.size) h (fun G h => dwsize_any a (N + 4 + 172 * i + 4 + 4)  B (by omega) z hz0' hz1' s7 G w' h kf (by omega))))
            rw [e8] at U8
            clear hz0' hz1' e7 e8 hlv kf kl HKa
            go_wp2_with fail
            refine (U7.out _ _ HSa.out).mono ?_; rintro e w6 ⟨rfl, G6, h6, g6⟩
            have HS6 := Lib.hid h6
            have HGb6 := Lib.hid (HGb.out.trans g6)
            clear h6 g6 U7 HSa HGb
            go_wp2_with fail
            refine (U8.out _ _ HS6.out).mono ?_; rintro e w8 ⟨rfl, G8, h8, g8⟩
            have HS8 := Lib.hid h8
            have HGb8 := Lib.hid (HGb6.out.trans g8)
            clear h8 g8 U8 HS6 HGb6 hb7
            obtain ⟨V2, hV2⟩ : ∃ V, (if V7 = true then -((R : Int) + 1) else (R : Int) + 1) = V := ⟨_, rfl⟩
            have HV2 := Lib.hid hV2
            have hlb : isLv V2 = decide (R + 1 ≤ 16320) := lvl_b hV2
            have HLB := Lib.hid hlb
            clear hlb hV2
            have e2 : lvM mX (B + 17) (xs.getD k 0) ta = (V2, t2) := by rw [HXG.out, HLVR.out, HV2.out]
            have HRb : Hid (isLv V2 = false → (codP xs).run mX s = ((some ([(coefS, (i : Int))], 3), []), t2)) := fun h2 => by
              have := HRc.out
              rw [cd_bad ht HBI.out e2 h2] at this
              exact this
            obtain ⟨bf, hbf⟩ : ∃ b, decide (fin ≤ i) = b := ⟨_, rfl⟩
            obtain ⟨⟨V4, t4⟩, e4⟩ : ∃ r, bitM mX t2 ((D + 9 : Nat) : Int) bf = r := ⟨_, rfl⟩
            have HRg : Hid (isLv V2 = true → (codP xs).run mX s = if V4 then ((none, ys.set k V2), t4) else (cdR (cdM mX B xs fin tl (i + 1) (ys.set k V2) t4).1, (cdM mX B xs fin tl (i + 1) (ys.set k V2) t4).2)) := fun h2 => by
              have := HRc.out
              rw [cd_on ht HBI.out e2 h2 (b := V4) (s3 := t4) (by rw [HDD.out, hbf]; exact e4)] at this
              cases V4
              · exact this
              · exact this
            have k4 := bit_ok mkX ((D + 9 : Nat) : Int) bf HK2.out
            rw [e4] at k4
            have HK9 : Hid (okS okXm (N + 4 + 172 * (i + 1)) t4) := k4.mono mkX (by omega)
            have UB2 := Lib.hid (fun w' G' (h : (DwF a) w' G' t2) => ((fun N c up s F w h hk hN => dwbit_any a N c up s F w h hk hN)) (N + 4 + 172 * i + 4 + 164) ((D + 9 : Nat) : Int) bf t2 G' w' h HK2.out (by omega))
            rw [e4] at UB2
            have HBF := Lib.hid hbf
            clear e2 e4 k4 hbf HRc HLVR HBI
            by_cases hr : R + 1 ≤ 16320
            · have HRy := Lib.hid (HRg.out (by rw [HLB.out]; exact decide_eq_true hr))
              have yq : decide ((16320 : Int) < (R : Int) + 1) = false := decide_eq_false (y_dn hr).2
              obtain ⟨y, hy⟩ : ∃ y, ys[k]? = some y := ⟨_, List.getElem?_eq_getElem (by rw [HY.out]; exact HKN.out)⟩
              obtain ⟨c8, c9⟩ := sep_at HS8.out hy
              have c5 := (HOD.out G8 _ HGb8.out).at (j := i) (x := (k : Int)) HOK.out
              obtain ⟨hS, hG⟩ := sep_set (x := V2) ((DwF.objD a).sep (RsF.obj w.heap.size)) HS8.out (k := k) (by rw [HY.out]; exact HKN.out)
              have HS9 := Lib.hid hS
              have HGb9 := Lib.hid (HGb8.out.trans hG)
              have HY9 : Hid ((ys.set k V2).length = 16) := by show _ = _; rw [List.length_set]; exact HY.out
              have hv2 := HV2.out
              clear hy hS hG HS8 HGb8 HRb HRg hr HLB
              cases V7
              · have hv3 : (R : Int) + 1 = V2 := hv2
                clear hv2 HV2
                subst hv3
                go_wp2_with fail
                generalize w8.setCell _ _ = w9 at HS9 HGb9 ⊢
                have URS := Lib.hid (rest_any (.slice (some ⟨va, voff, none⟩) 16 vc) (.slice (some ⟨og, ooff, none⟩) 16 oc) xs (sqO 16) (16 - 1) i (by omega) (by decide) w9 (HVW.out _ _ (HG1.out.trans HGb9.out)) (HOD.out _ _ HGb9.out) (sqO_len (by decide)) (fun i hi => by rw [HN.out]; exact (sqO_all (n := 16) (by decide)).2.1 i hi))
                rw [HFIN.out, HBF.out] at URS
                have U5 := Lib.hid (sep_l TlF.obj HS9.out (fun G h => sep_l (RsF.obj w.heap.size) h (fun G h => UB2.out w9 G h)))
                clear UB2 c8 c9 c5
                refine (URS.out).mono ?_; rintro e w10 ⟨rfl, rfl⟩
                go_wp2_with fail
                refine (U5.out).mono ?_; rintro e wv ⟨rfl, Gv, hv, gv⟩
                have HSz := Lib.hid hv
                have HGbz := Lib.hid (HGb9.out.trans gv)
                clear hv gv U5 HS9 HGb9 URS
                cases V4
                · have HRz := Lib.hid HRy.out
                  go_wp2
                  go_roundw
                  case rel => exact ⟨i + 1, tl, _, t4, Gv, by have := HI9.out; omega, by go_num, HD2.out, HY9.out, HRz.out, HK9.out, HSz.out, HGbz.out⟩
                  case measure => simp [intOf] <;> omega
                · have HRz := Lib.hid HRy.out
                  have HGz := Lib.hid (HG1.out.trans HGbz.out)
                  have HYz := HY9
                  -- in hand: the world wz, HSz : Sep (Sep O RsF) TlF wz Gz ((t, ()), (cv, ys)), HGz : Step F w Gz wz, HRz
                  obtain ⟨r0, r1, f0, f1⟩ := (rs_at HSz.out)
                  obtain ⟨⟨Gq, hS, hG⟩, e0, e1⟩ := fin_rs (c := 0) (y := .slice none 0 0) (DwF.objD a) TlF.obj HSz.out HGz.out
                  have HSq := Lib.hid hS
                  have HGq := Lib.hid hG
                  clear hS hG HSz HGz
                  go_wp2
                  exact bodyPost_ret (v := .tuple #[.slice (some ⟨w2.heap.size, 0, none⟩) 16 16, .agg #[.int .i64 0, .slice none 0 0]]) (by simp [results, Tryz.results46, go_sem, e0, e1]) rfl (RCodR.done HRz.out (HSq.out.imp fun _ h => h.ho (by rw [HYz.out]; decide)) (fun W hW => ⟨hW, RErrIs.zero⟩) HGq.out)
              · have hv3 : -((R : Int) + 1) = V2 := hv2
                clear hv2 HV2
                subst hv3
                go_wp2_with fail
                generalize w8.setCell _ _ = w9 at HS9 HGb9 ⊢
                have URS := Lib.hid (rest_any (.slice (some ⟨va, voff, none⟩) 16 vc) (.slice (some ⟨og, ooff, none⟩) 16 oc) xs (sqO 16) (16 - 1) i (by omega) (by decide) w9 (HVW.out _ _ (HG1.out.trans HGb9.out)) (HOD.out _ _ HGb9.out) (sqO_len (by decide)) (fun i hi => by rw [HN.out]; exact (sqO_all (n := 16) (by decide)).2.1 i hi))
                rw [HFIN.out, HBF.out] at URS
                have U5 := Lib.hid (sep_l TlF.obj HS9.out (fun G h => sep_l (RsF.obj w.heap.size) h (fun G h => UB2.out w9 G h)))
                clear UB2 c8 c9 c5
                refine (URS.out).mono ?_; rintro e w10 ⟨rfl, rfl⟩
                go_wp2_with fail
                refine (U5.out).mono ?_; rintro e wv ⟨rfl, Gv, hv, gv⟩
                have HSz := Lib.hid hv
                have HGbz := Lib.hid (HGb9.out.trans gv)
                clear hv gv U5 HS9 HGb9 URS
                cases V4
                · have HRz := Lib.hid HRy.out
                  go_wp2
                  go_roundw
                  case rel => exact ⟨i + 1, tl, _, t4, Gv, by have := HI9.out; omega, by go_num, HD2.out, HY9.out, HRz.out, HK9.out, HSz.out, HGbz.out⟩
                  case measure => simp [intOf] <;> omega
                · have HRz := Lib.hid HRy.out
                  have HGz := Lib.hid (HG1.out.trans HGbz.out)
                  have HYz := HY9
                  -- in hand: the world wz, HSz : Sep (Sep O RsF) TlF wz Gz ((t, ()), (cv, ys)), HGz : Step F w Gz wz, HRz
                  obtain ⟨r0, r1, f0, f1⟩ := (rs_at HSz.out)
                  obtain ⟨⟨Gq, hS, hG⟩, e0, e1⟩ := fin_rs (c := 0) (y := .slice none 0 0) (DwF.objD a) TlF.obj HSz.out HGz.out
                  have HSq := Lib.hid hS
                  have HGq := Lib.hid hG
                  clear hS hG HSz HGz
                  go_wp2
                  exact bodyPost_ret (v := .tuple #[.slice (some ⟨w2.heap.size, 0, none⟩) 16 16, .agg #[.int .i64 0, .slice none 0 0]]) (by simp [results, Tryz.results46, go_sem, e0, e1]) rfl (RCodR.done HRz.out (HSq.out.imp fun _ h => h.ho (by rw [HYz.out]; decide)) (fun W hW => ⟨hW, RErrIs.zero⟩) HGq.out)
            · have HRz : Hid ((codP xs).run mX s = ((some ([(coefS, (i : Int))], 3), []), t2)) := HRb.out (by rw [HLB.out]; exact decide_eq_false hr)
              obtain ⟨y9, y8⟩ := y_up hr
              clear HRb HRg
              go_wp2_with fail
              refine (wrap_any coefS (i : Int) 3 _ (by decide)).mono ?_; rintro e w9 ⟨u9, rfl, ho9, hx9⟩
              obtain ⟨ga, gc, rfl⟩ := (Row.of_owns ho9).form
              obtain ⟨G9, h9, g9⟩ := Sep.other ((DwF.objD a).sep (RsF.obj w.heap.size)) HS8.out hx9 (HoF.row ho9) (fun k hk => (ho9.lt k hk).1) (HG1.out.trans HGb8.out)
              have h9 := h9.imp (fun _ h => h.imp (fun W h => Row.of_owns h))
              obtain ⟨r0, r1, f0, f1⟩ := (rs_at h9)
              obtain ⟨⟨Gq, hS, hG⟩, e0, e1⟩ := fin_rs (c := 3) (y := .slice ga 1 gc) (DwF.objD a) HoF.obj h9 g9
              have HSq := Lib.hid hS
              have HGq := Lib.hid hG
              clear hS hG h9 g9 hx9 ho9 HS8 HGb8
              go_wp2
              exact bodyPost_ret (v := .tuple #[.slice none 0 0, .agg #[.int .i64 3, .slice ga 1 gc]]) (by simp [results, Tryz.results46, go_sem, e0, e1]) rfl (RCodR.done HRz.out HSq.out (fun W hW => ⟨Ints.nil W, rfl, by decide, hW⟩) HGq.out)
set_option maxRecDepth 20000 in
set_option maxHeartbeats 8000000 in
theorem dwcode64 (a N : Nat)  (xs : List Int) (v : Value) (X : Nat → Prop) (s : Ms Xe) (F : Nat → Prop) (w : World) (h : (DwF a) w F s) (hk : okS okXm N s) (hN : N ≤ 3900000) (hv : HoF w X (fun W => Ints W v xs)) (hd : ∀ k, X k → ¬ F k) (hn : xs.length = 64) (hb0 : xs.any noLv = false) : Calls Tryz.prog 46 #[.pointer (some ⟨a, 0, none⟩), v] w (QPost (Sep (DwF a) HoF) (RCodR ((codP xs).run mX s)) F w) := by
  obtain ⟨i0, hi, hz0, hz1, hz2⟩ := info_parts infoInt
  have r1m := mx2
  have r2m := mn2
  have hvw := hv.get
  obtain ⟨va, voff, vc, rfl, c1, c2⟩ := hvw.addr (by omega)
  obtain ⟨nz, hnz⟩ : ∃ b, xs.any nzB = b := ⟨_, rfl⟩
  obtain ⟨⟨V1, s1⟩, e1⟩ : ∃ r, bitM mX s ((sqB xs.length : Nat) : Int) (xs.any nzB) = r := ⟨_, rfl⟩
  have HR := Lib.hid (cod_yes (by rw [hn]; decide) hb0 e1)
  have k1 := bit_ok mkX ((sqB xs.length : Nat) : Int) (xs.any nzB) hk
  rw [e1] at k1
  rw [hn] at hv hvw c1 e1 HR ⊢
  obtain ⟨B, hB⟩ : ∃ B, sqB 64 = B := ⟨_, rfl⟩
  have hB9 : B ≤ 40 := by rw [← hB]; decide
  have UBA := Lib.hid (fun w => rbase_8 w)
  rw [hB] at e1 HR UBA
  rw [hnz] at e1
  have HVW := Lib.hid (fun G w' (st : Step F w G w') => hv.step hd st)
  have UW := Lib.hid (fun w' (h : Ints w' (.slice (some ⟨va, voff, none⟩) 64 vc) xs) => within_any xs (-16320) 16320 _ w' h)
  rw [within_lv, hb0] at UW
  have UZ := Lib.hid (fun w' (h : Ints w' (.slice (some ⟨va, voff, none⟩) 64 vc) xs) => rzero_any xs _ w' h)
  rw [hnz] at UZ
  have UBT := Lib.hid (fun F w' (h : (DwF a) w' F s) => ((fun N c up s F w h hk hN => dwbit_any a N c up s F w h hk hN)) N ((B : Nat) : Int) nz s F w' h hk (by omega))
  rw [e1] at UBT
  have A1 := (Ext.refl w).alloc (.cells #[.int .i64 0, .slice none 0 0] 46)
  obtain ⟨hS0, hG0⟩ := Sep.new (DwF.objD a) h A1 (B := RsF w.heap.size) (t := ()) ⟨ResAt.new w, fun _ => Iff.rfl⟩ (fun k hk => by rw [hk]; exact Nat.le_refl _)
  have HS0 := Lib.hid hS0
  have HG0 := Lib.hid hG0
  have UW0 := Lib.hid (UW.out _ (HVW.out _ _ hG0))
  have HN := Lib.hid hn
  have HLV := Lib.hid (lv_of_any hb0)
  have HK1 := Lib.hid k1
  clear h hv hvw hn hb0 hnz e1 hk k1 hB hd hS0 hG0 A1 UW
  go_enter Tryz.func46, Tryz.ntmps46
  go_wp2_with fail
  refine (UW0.out).mono ?_; rintro e w1 ⟨rfl, hx1⟩
  have HS1 := Lib.hid (Obj.ext ((DwF.objD a).sep (RsF.obj w.heap.size)) HS0.out hx1)
  have HGa := Lib.hid (HG0.out.ext hx1)
  clear hx1 HS0 HG0 UW0
  go_wp2_with fail
  refine (UBA.out _).mono ?_; rintro e w9 ⟨rfl, rfl⟩
  go_wp2_with fail
  refine (rorder_own (q := 64) (by decide) _).mono ?_; rintro e w2 ⟨ou, rfl, hx2, ho2, hf2⟩
  obtain ⟨G1, hG1⟩ : ∃ G, Sep (DwF a) (RsF w.heap.size) w2 G (s, ()) ∧ Step F w G w2 ∧ ∀ k, ou.ownBlock = some k → ¬ G k := ⟨_, Obj.ext ((DwF.objD a).sep (RsF.obj w.heap.size)) HS1.out hx2, HGa.out.ext hx2, fun k hk hg => by
    have h1 := hf2 k hk
    have h2 := ((DwF.objD a).sep (RsF.obj w.heap.size)).lt HS1.out k hg
    omega⟩
  have HS2 := Lib.hid hG1.1
  have HG1 := Lib.hid hG1.2.1
  have HOD := Lib.hid (fun G w' (st : Step G1 w2 G w') => ho2.step hG1.2.2 st)
  have hol : ((sqO 64).map fun (x : Nat) => (x : Int)).length = 64 := by rw [List.length_map]; exact sqO_len (by decide)
  obtain ⟨og, ooff, oc, rfl, oc1, oc2⟩ := ho2.get.addr (by rw [hol]; decide)
  rw [hol] at oc1
  have HOD : Hid (∀ G w', Step G1 w2 G w' → Ints w' (.slice (some ⟨og, ooff, none⟩) 64 oc) ((sqO 64).map fun (x : Nat) => (x : Int))) := by
    have := HOD.out
    rw [hol] at this
    exact this
  rw [hol]
  clear hx2 ho2 hf2 hG1 hol HS1 HGa
  go_wp2_with (at_make; refine wpList_make_full _ rfl _ _ 33 rfl w2.heap.size 3 i0 (.int .i64 0) 1 Tryz.underlying33 hi hz0 hz1 .i64 .i64 _ _ 64 rfl rfl rfl rfl (by rw [hz2]; decide) (by decide) (Nat.le_refl _) ?_; intro w3 hown hgrow)
  have hE3 : Ext w2 w3 := Below.grown (Ext.refl w2) hgrow (Nat.le_refl _) (fun k hk => by cases hk)
  rw [zsL_made'] at hown
  obtain ⟨hT, hTf⟩ := TlF.new (n := 64) (by simp [zsL]) hown
  obtain ⟨hS, hSt⟩ := Sep.new ((DwF.objD a).sep (RsF.obj w.heap.size)) HS2.out hE3 hT hTf
  have HS3 := Lib.hid hS
  have HG3 := Lib.hid hSt
  have HY3 : Hid ((zsL 64).length = 64) := (zs_facts' 64)
  clear hS hSt hT hTf hE3 hown hgrow hi hz0 hz1 hz2 HS2
  refine (UZ.out w3 (HVW.out _ _ (HG1.out.trans HG3.out))).mono ?_; rintro e w4 ⟨rfl, hx4⟩
  have HS4 := Lib.hid (Obj.ext (((DwF.objD a).sep (RsF.obj w.heap.size)).sep TlF.obj) HS3.out hx4)
  have HG4 := Lib.hid (HG3.out.ext hx4)
  clear HS3 HG3 UZ hx4
  have U1 := Lib.hid (sep_l TlF.obj HS4.out (fun G h => sep_l (RsF.obj w.heap.size) h (fun G h => UBT.out G w4 h)))
  clear UBT
  go_wp2_with fail
  refine (U1.out).mono ?_; rintro e w5 ⟨rfl, G5, h5, g5⟩
  have HS5 := Lib.hid h5
  have HG5 := Lib.hid (HG4.out.trans g5)
  clear h5 g5 HS4 HG4 U1
  cases V1
  · have HRz : Hid ((codP xs).run mX s = ((none, zsL 64), s1)) := HR.out
    have HSz := HS5
    have HGz := Lib.hid (HG1.out.trans HG5.out)
    have HYz := HY3
    -- in hand: the world wz, HSz : Sep (Sep O RsF) TlF wz Gz ((t, ()), (cv, ys)), HGz : Step F w Gz wz, HRz
    obtain ⟨r0, r1, f0, f1⟩ := (rs_at HSz.out)
    obtain ⟨⟨Gq, hS, hG⟩, e0, e1⟩ := fin_rs (c := 0) (y := .slice none 0 0) (DwF.objD a) TlF.obj HSz.out HGz.out
    have HSq := Lib.hid hS
    have HGq := Lib.hid hG
    clear hS hG HSz HGz
    go_wp2
    exact bodyPost_ret (v := .tuple #[.slice (some ⟨w2.heap.size, 0, none⟩) 64 64, .agg #[.int .i64 0, .slice none 0 0]]) (by simp [results, Tryz.results46, go_sem, e0, e1]) rfl (RCodR.done HRz.out (HSq.out.imp fun _ h => h.ho (by rw [HYz.out]; decide)) (fun W hW => ⟨hW, RErrIs.zero⟩) HGq.out)
  · obtain ⟨fin, hfin⟩ : ∃ fin, lastP xs (sqO 64) (64 - 1) = fin := ⟨_, rfl⟩
    have HR2 : Hid ((codP xs).run mX s = (cdR (cdM mX B xs fin (sqO 64) 0 (zsL 64) s1).1, (cdM mX B xs fin (sqO 64) 0 (zsL 64) s1).2)) := by
      have := HR.out
      rw [hfin] at this
      exact this
    have HFIN := Lib.hid hfin
    clear hfin HR
    go_wp2_with fail
    go_loopw [10] (fun iv wq => ∃ (i : Nat) (tl : List Nat) (ys : List Int) (t : Ms Xe) (G : Nat → Prop), i + tl.length = 64 ∧ iv = .int .i64 (i : Int) ∧ Hid ((sqO 64).drop i = tl) ∧ Hid (ys.length = 64) ∧ Hid ((codP xs).run mX s = (cdR (cdM mX B xs fin tl i ys t).1, (cdM mX B xs fin tl i ys t).2)) ∧ Hid (okS okXm (N + 4 + 172 * i) t) ∧ Hid (Sep (Sep (DwF a) (RsF w.heap.size)) TlF wq G ((t, ()), (.slice (some ⟨w2.heap.size, 0, none⟩) 64 64, ys))) ∧ Hid (Step G1 w2 G wq)) (fun iv _ => 64 - (intOf iv).toNat)
    case atStart => exact ⟨0, sqO 64, zsL 64, s1, G5, by rw [sqO_len (by decide)], rfl, rfl, HY3.out, HR2.out, HK1.out, HS5.out, HG5.out⟩
    case round =>
      clear HR2 HK1 HS5 HY3 HG5
      obtain ⟨i, tl, ys, t, G, hi, rfl, HD, HY, HRc, HK, HS, HG⟩ := hrel
      cases tl with
      | nil =>
        obtain rfl : i = 64 := by simp only [List.length_nil] at hi; omega
        have x2 : ¬ ((64 : Nat) : Int) < 64 := by decide
        have HRz : Hid ((codP xs).run mX s = ((none, ys), t)) := HRc.out
        have HSz := HS
        have HGz := Lib.hid (HG1.out.trans HG.out)
        have HYz := HY
        clear HRc HK HS HG HD
        -- in hand: the world wz, HSz : Sep (Sep O RsF) TlF wz Gz ((t, ()), (cv, ys)), HGz : Step F w Gz wz, HRz
        obtain ⟨r0, r1, f0, f1⟩ := (rs_at HSz.out)
        obtain ⟨⟨Gq, hS, hG⟩, e0, e1⟩ := fin_rs (c := 0) (y := .slice none 0 0) (DwF.objD a) TlF.obj HSz.out HGz.out
        have HSq := Lib.hid hS
        have HGq := Lib.hid hG
        clear hS hG HSz HGz
        go_wp2
        exact bodyPost_ret (v := .tuple #[.slice (some ⟨w2.heap.size, 0, none⟩) 64 64, .agg #[.int .i64 0, .slice none 0 0]]) (by simp [results, Tryz.results46, go_sem, e0, e1]) rfl (RCodR.done HRz.out (HSq.out.imp fun _ h => h.ho (by rw [HYz.out]; decide)) (fun W hW => ⟨hW, RErrIs.zero⟩) HGq.out)
      | cons k tl =>
        rw [List.length_cons] at hi
        have hk : (sqO 64)[i]? = some k := by
          have := HD.out
          have e := congrArg (fun l => l[0]?) this
          simp only [List.getElem?_drop, Nat.add_zero] at e
          exact e
        have hkn : k < 64 := (sqO_all (n := 64) (by decide)).2.1 k (List.mem_of_getElem? hk)
        obtain ⟨x, hx⟩ : ∃ x, xs[k]? = some x := ⟨_, List.getElem?_eq_getElem (by rw [HN.out]; exact hkn)⟩
        have hxg : xs.getD k 0 = x := by rw [List.getD_eq_getElem?_getD, hx]; rfl
        have hxl := HLV.out x (List.mem_of_getElem? hx)
        unfold isLv at hxl
        rw [Bool.and_eq_true, decide_eq_true_iff, decide_eq_true_iff] at hxl
        have hok : ((sqO 64).map fun (x : Nat) => (x : Int))[i]? = some (k : Int) := by rw [List.getElem?_map, hk]; rfl
        have HOK := Lib.hid hok
        have c5 := (HOD.out G _ HG.out).at (j := i) (x := (k : Int)) hok
        have c6 := (HVW.out G _ (HG1.out.trans HG.out)).at hx
        have HD2 : Hid ((sqO 64).drop (i + 1) = tl) := by
          show _ = _
          rw [← List.drop_drop, HD.out]
          rfl
        have x1 : (0 : Int) ≤ (i : Int) := by omega
        have x2 : (i : Int) < 64 := by omega
        have x3 : (0 : Int) ≤ (k : Int) := by omega
        have x4 : (k : Int) < 64 := by omega
        obtain ⟨D, hD⟩ : ∃ D, B + min i 7 = D := ⟨_, rfl⟩
        have hi64 : i ≤ 64 := by omega
        obtain ⟨q0, q0', q1, q1', q3, hD47⟩ := wr_i hB9 hi64 hD
        have HX := Lib.hid hx
        have HXG := Lib.hid hxg
        have HKN := Lib.hid hkn
        have HKa : Hid (okS okXm (N + 4 + 172 * i + 4) t) := HK.out.mono mkX (by omega)
        clear hk hx hxg hkn HD hok
        by_cases ht : tl = []
        · subst ht
          have ei : i = 63 := by simp only [List.length_nil] at hi; omega
          have x5 : ¬ (i : Int) < 63 := by omega
          have x6 : ¬ i < 63 := by omega
          have HEI := Lib.hid ei
          have HXQ := Lib.hid (decide_eq_false x5)
          clear ei HK hi hD
          obtain ⟨ta, hta⟩ : ∃ z, z = t := ⟨_, rfl⟩
          subst hta
          have HSa := HS
          have HGb := HG
          clear HS HG
          obtain ⟨z, hz, hz0', hz1', qz3, qz1⟩ := lvl_z hxl.1 hxl.2
          obtain ⟨b7, hb7⟩ : ∃ b, decide (x < 0) = b := ⟨_, rfl⟩
          obtain ⟨⟨V7, s7⟩, e7⟩ : ∃ r, flaM mX ta b7 = r := ⟨_, rfl⟩
          obtain ⟨⟨R, t2⟩, e8⟩ : ∃ r, csM mX (B + 17) z 14 0 s7 = r := ⟨_, rfl⟩
          have hR : R ≤ 16396 := by have := cs_le (M := mX) (C := B + 17) (z := z) 14 0 s7 (by omega); rw [e8] at this; exact this
          have hlv : lvM mX (B + 17) x ta = (if V7 then -((R : Int) + 1) else (R : Int) + 1, t2) := by
            unfold lvM
            rw [hb7, e7, hz]
            show (if V7 = true then -(((csM mX (B + 17) z 14 0 s7).1 : Int) + 1) else ((csM mX (B + 17) z 14 0 s7).1 : Int) + 1, (csM mX (B + 17) z 14 0 s7).2) = _
            rw [e8]
          clear hz
          have HLVR := Lib.hid hlv
          have kf := fla_ok mkX b7 HKa.out
          rw [e7] at kf
          have kl := lv_ok mkX (C := B + 17) (v := x) HKa.out
          rw [hlv] at kl
          have HK2 : Hid (okS okXm (N + 4 + 172 * i + 4 + 164) t2) := kl
          have qr1 := wrap_up1 R hR
          have qr2 := wrap_down1 R hR
          have U7 := Lib.hid (fun G w' (h : Sep (Sep (DwF a) (RsF w.heap.size)) TlF w' G ((ta, ()), (.slice (some ⟨w2.heap.size, 0, none⟩) 64 64, ys))) => sep_l TlF.obj h (fun G h => sep_l (RsF.obj w.heap.size) h (fun G h => ((fun N up s F w h hk hN => dwflat_any a N up s F w h hk hN)) (N + 4 + 172 * i + 4) b7 ta G w' h HKa.out (by omega))))
          rw [e7] at U7
          have U8 := Lib.hid (fun G w' (h : Sep (Sep (DwF a) (RsF w.heap.size)) TlF w' G ((s7, ()), (.slice (some ⟨w2.heap.size, 0, none⟩) 64 64, ys))) => sep_l TlF.obj h (fun G h => sep_l (RsF.obj w.heap.size) h (fun G h => dwsize_any a (N + 4 + 172 * i + 4 + 4)  B (by omega) z hz0' hz1' s7 G w' h kf (by omega))))
          rw [e8] at U8
          clear hz0' hz1' e7 e8 hlv kf kl HKa
          go_wp2_with fail
          refine (U7.out _ _ HSa.out).mono ?_; rintro e w6 ⟨rfl, G6, h6, g6⟩
          have HS6 := Lib.hid h6
          have HGb6 := Lib.hid (HGb.out.trans g6)
          clear h6 g6 U7 HSa HGb
          go_wp2_with fail
          refine (U8.out _ _ HS6.out).mono ?_; rintro e w8 ⟨rfl, G8, h8, g8⟩
          have HS8 := Lib.hid h8
          have HGb8 := Lib.hid (HGb6.out.trans g8)
          clear h8 g8 U8 HS6 HGb6 hb7
          obtain ⟨V2, hV2⟩ : ∃ V, (if V7 = true then -((R : Int) + 1) else (R : Int) + 1) = V := ⟨_, rfl⟩
          have HV2 := Lib.hid hV2
          have hlb : isLv V2 = decide (R + 1 ≤ 16320) := lvl_b hV2
          have HLB := Lib.hid hlb
          clear hlb hV2
          have e2 : lvM mX (B + 17) x ta = (V2, t2) := by rw [HLVR.out, HV2.out]
          have hrl := HRc.out
          rw [cd_end (M := mX) (B := B) (xs := xs) (fin := fin) (k := k) (i := i) (ys := ys) (s := ta) (s1 := t2) (v := V2) (by rw [HXG.out]; exact e2)] at hrl
          have HRb : Hid (isLv V2 = false → (codP xs).run mX s = ((some ([(coefS, (i : Int))], 3), []), t2)) := fun h => by rw [hrl, if_neg (by rw [h]; decide)]; rfl
          have HRg : Hid (isLv V2 = true → (codP xs).run mX s = ((none, ys.set k V2), t2)) := fun h => by rw [hrl, if_pos h]; rfl
          clear e2 hrl HRc HLVR
          by_cases hr : R + 1 ≤ 16320
          · have HRy := Lib.hid (HRg.out (by rw [HLB.out]; exact decide_eq_true hr))
            have yq : decide ((16320 : Int) < (R : Int) + 1) = false := decide_eq_false (y_dn hr).2
            obtain ⟨y, hy⟩ : ∃ y, ys[k]? = some y := ⟨_, List.getElem?_eq_getElem (by rw [HY.out]; exact HKN.out)⟩
            obtain ⟨c8, c9⟩ := sep_at HS8.out hy
            have c5 := (HOD.out G8 _ HGb8.out).at (j := i) (x := (k : Int)) HOK.out
            obtain ⟨hS, hG⟩ := sep_set (x := V2) ((DwF.objD a).sep (RsF.obj w.heap.size)) HS8.out (k := k) (by rw [HY.out]; exact HKN.out)
            have HS9 := Lib.hid hS
            have HGb9 := Lib.hid (HGb8.out.trans hG)
            have HY9 : Hid ((ys.set k V2).length = 64) := by show _ = _; rw [List.length_set]; exact HY.out
            have hv2 := HV2.out
            clear hy hS hG HS8 HGb8 HRb HRg hr HLB
            have HRz : Hid ((codP xs).run mX s = (cdR (cdM mX B xs fin [] (i + 1) (ys.set k V2) t2).1, (cdM mX B xs fin [] (i + 1) (ys.set k V2) t2).2)) := HRy.out
            have HK9 : Hid (okS okXm (N + 4 + 172 * (i + 1)) t2) := HK2.out.mono mkX (by omega)
            clear HRy x5 x6
            have xq := HXQ.out
            cases V7
            · have hv3 : (R : Int) + 1 = V2 := hv2
              clear hv2 HV2
              subst hv3
              go_wp2_with fail
              generalize w8.setCell _ _ = w9 at HS9 HGb9 ⊢
              go_roundw
              case rel => exact ⟨i + 1, [], _, t2, G8, by simp only [List.length_nil]; have := HEI.out; omega, by go_num, HD2.out, HY9.out, HRz.out, HK9.out, HS9.out, HGb9.out⟩
              case measure => simp [intOf] <;> omega
            · have hv3 : -((R : Int) + 1) = V2 := hv2
              clear hv2 HV2
              subst hv3
              go_wp2_with fail
              generalize w8.setCell _ _ = w9 at HS9 HGb9 ⊢
              go_roundw
              case rel => exact ⟨i + 1, [], _, t2, G8, by simp only [List.length_nil]; have := HEI.out; omega, by go_num, HD2.out, HY9.out, HRz.out, HK9.out, HS9.out, HGb9.out⟩
              case measure => simp [intOf] <;> omega
          · have HRz : Hid ((codP xs).run mX s = ((some ([(coefS, (i : Int))], 3), []), t2)) := HRb.out (by rw [HLB.out]; exact decide_eq_false hr)
            obtain ⟨y9, y8⟩ := y_up hr
            clear HRb HRg
            go_wp2_with fail
            refine (wrap_any coefS (i : Int) 3 _ (by decide)).mono ?_; rintro e w9 ⟨u9, rfl, ho9, hx9⟩
            obtain ⟨ga, gc, rfl⟩ := (Row.of_owns ho9).form
            obtain ⟨G9, h9, g9⟩ := Sep.other ((DwF.objD a).sep (RsF.obj w.heap.size)) HS8.out hx9 (HoF.row ho9) (fun k hk => (ho9.lt k hk).1) (HG1.out.trans HGb8.out)
            have h9 := h9.imp (fun _ h => h.imp (fun W h => Row.of_owns h))
            obtain ⟨r0, r1, f0, f1⟩ := (rs_at h9)
            obtain ⟨⟨Gq, hS, hG⟩, e0, e1⟩ := fin_rs (c := 3) (y := .slice ga 1 gc) (DwF.objD a) HoF.obj h9 g9
            have HSq := Lib.hid hS
            have HGq := Lib.hid hG
            clear hS hG h9 g9 hx9 ho9 HS8 HGb8
            go_wp2
            exact bodyPost_ret (v := .tuple #[.slice none 0 0, .agg #[.int .i64 3, .slice ga 1 gc]]) (by simp [results, Tryz.results46, go_sem, e0, e1]) rfl (RCodR.done HRz.out HSq.out (fun W hW => ⟨Ints.nil W, rfl, by decide, hW⟩) HGq.out)
        · have hne : i < 63 := by
            have : 0 < tl.length := List.length_pos_iff.2 ht
            omega
          have x5 : (i : Int) < 63 := by omega
          obtain ⟨bx, hbx⟩ : ∃ b, decide (x ≠ 0) = b := ⟨_, rfl⟩
          have hbx2 : (x != 0) = bx := by
            rw [← hbx]
            by_cases h0 : x = 0
            · rw [decide_eq_false (by simpa using h0), h0]; rfl
            · rw [decide_eq_true h0]; simpa using h0
          obtain ⟨⟨V3, ta⟩, e3⟩ : ∃ r, bitM mX t ((D + 1 : Nat) : Int) bx = r := ⟨_, rfl⟩
          have k3 := bit_ok mkX ((D + 1 : Nat) : Int) bx HK.out
          rw [e3] at k3
          have HK3 : Hid (okS okXm (N + 4 + 172 * i + 4) ta) := k3
          have HBI : Hid (bitM mX t ((B + min i 7 + 1 : Nat) : Int) (decide (xs.getD k 0 ≠ 0)) = (V3, ta)) := by show _ = _; rw [hD, HXG.out, hbx]; exact e3
          have HRs : Hid (V3 = false → (codP xs).run mX s = (cdR (cdM mX B xs fin tl (i + 1) ys ta).1, (cdM mX B xs fin tl (i + 1) ys ta).2)) := fun h => by
            subst h
            have := HRc.out
            rw [cd_skip ht HBI.out] at this
            exact this
          have HK3n : Hid (okS okXm (N + 4 + 172 * (i + 1)) ta) := k3.mono mkX (by omega)
          have U1 := Lib.hid (sep_l TlF.obj HS.out (fun G h => sep_l (RsF.obj w.heap.size) h (fun G h => ((fun N c up s F w h hk hN => dwbit_any a N c up s F w h hk hN)) (N + 4 + 172 * i) ((D + 1 : Nat) : Int) bx t G wr h HK.out (by omega))))
          rw [e3] at U1
          have HI9 := Lib.hid hi
          have HDD := Lib.hid hD
          clear e3 k3 HK hbx HKa hi hD
          go_wp2_with fail
          refine (U1.out).mono ?_; rintro e wz ⟨rfl, Ga, ha, ga⟩
          have HSa := Lib.hid ha
          have HGb := Lib.hid (HG.out.trans ga)
          clear ha ga U1 HS HG c5 c6
          cases V3
          · have HRz := Lib.hid (HRs.out rfl)
            clear HRs HBI HRc
            go_wp2
            go_roundw
            case rel => exact ⟨i + 1, tl, ys, ta, Ga, by have := HI9.out; omega, by go_num, HD2.out, HY.out, HRz.out, HK3n.out, HSa.out, HGb.out⟩
            case measure => simp [intOf] <;> omega
          · have HKa := HK3
            clear HRs
            obtain ⟨z, hz, hz0', hz1', qz3, qz1⟩ := lvl_z hxl.1 hxl.2
            obtain ⟨b7, hb7⟩ : ∃ b, decide (x < 0) = b := ⟨_, rfl⟩
            obtain ⟨⟨V7, s7⟩, e7⟩ : ∃ r, flaM mX ta b7 = r := ⟨_, rfl⟩
            obtain ⟨⟨R, t2⟩, e8⟩ : ∃ r, csM mX (B + 17) z 14 0 s7 = r := ⟨_, rfl⟩
            have hR : R ≤ 16396 := by have := cs_le (M := mX) (C := B + 17) (z := z) 14 0 s7 (by omega); rw [e8] at this; exact this
            have hlv : lvM mX (B + 17) x ta = (if V7 then -((R : Int) + 1) else (R : Int) + 1, t2) := by
              unfold lvM
              rw [hb7, e7, hz]
              show (if V7 = true then -(((csM mX (B + 17) z 14 0 s7).1 : Int) + 1) else ((csM mX (B + 17) z 14 0 s7).1 : Int) + 1, (csM mX (B + 17) z 14 0 s7).2) = _
              rw [e8]
            clear hz
            have HLVR := Lib.hid hlv
            have kf := fla_ok mkX b7 HKa.out
            rw [e7] at kf
            have kl := lv_ok mkX (C := B + 17) (v := x) HKa.out
            rw [hlv] at kl
            have HK2 : Hid (okS okXm (N + 4 + 172 * i + 4 + 164) t2) := kl
            have qr1 := wrap_up1 R hR
            have qr2 := wrap_down1 R hR
            have U7 := Lib.hid (fun G w' (h : Sep (Sep (DwF a) (RsF w.heap.size)) TlF w' G ((ta, ()), (.slice (some ⟨w2.heap.size, 0, none⟩) 64 64, ys))) => sep_l TlF.obj h (fun G h => sep_l (RsF.obj w.heap.size) h (fun G h => ((fun N up s F w h hk hN => dwflat_any a N up s F w h hk hN)) (N + 4 + 172 * i + 4) b7 ta G w' h HKa.out (by omega))))
            rw [e7] at U7
            have U8 := Lib.hid (fun G w' (h : Sep (Sep (DwF a) (RsF w.heap.size)) TlF w' G ((s7, ()), (.slice (some ⟨w2.heap.size, 0, none⟩) 64 64, ys))) => sep_l TlF.obj h (fun G h => sep_l (RsF.obj w.heap.size) h (fun G h => dwsize_any a (N + 4 + 172 * i + 4 + 4)  B (by omega) z hz0' hz1' s7 G w' h kf (by omega))))
            rw [e8] at U8
            clear hz0' hz1' e7 e8 hlv kf kl HKa
            go_wp2_with fail
            refine (U7.out _ _ HSa.out).mono ?_; rintro e w6 ⟨rfl, G6, h6, g6⟩
            have HS6 := Lib.hid h6
            have HGb6 := Lib.hid (HGb.out.trans g6)
            clear h6 g6 U7 HSa HGb
            go_wp2_with fail
            refine (U8.out _ _ HS6.out).mono ?_; rintro e w8 ⟨rfl, G8, h8, g8⟩
            have HS8 := Lib.hid h8
            have HGb8 := Lib.hid (HGb6.out.trans g8)
            clear h8 g8 U8 HS6 HGb6 hb7
            obtain ⟨V2, hV2⟩ : ∃ V, (if V7 = true then -((R : Int) + 1) else (R : Int) + 1) = V := ⟨_, rfl⟩
            have HV2 := Lib.hid hV2
            have hlb : isLv V2 = decide (R + 1 ≤ 16320) := lvl_b hV2
            have HLB := Lib.hid hlb
            clear hlb hV2
            have e2 : lvM mX (B + 17) (xs.getD k 0) ta = (V2, t2) := by rw [HXG.out, HLVR.out, HV2.out]
            have HRb : Hid (isLv V2 = false → (codP xs).run mX s = ((some ([(coefS, (i : Int))], 3), []), t2)) := fun h2 => by
              have := HRc.out
              rw [cd_bad ht HBI.out e2 h2] at this
              exact this
            obtain ⟨bf, hbf⟩ : ∃ b, decide (fin ≤ i) = b := ⟨_, rfl⟩
            obtain ⟨⟨V4, t4⟩, e4⟩ : ∃ r, bitM mX t2 ((D + 9 : Nat) : Int) bf = r := ⟨_, rfl⟩
            have HRg : Hid (isLv V2 = true → (codP xs).run mX s = if V4 then ((none, ys.set k V2), t4) else (cdR (cdM mX B xs fin tl (i + 1) (ys.set k V2) t4).1, (cdM mX B xs fin tl (i + 1) (ys.set k V2) t4).2)) := fun h2 => by
              have := HRc.out
              rw [cd_on ht HBI.out e2 h2 (b := V4) (s3 := t4) (by rw [HDD.out, hbf]; exact e4)] at this
              cases V4
              · exact this
              · exact this
            have k4 := bit_ok mkX ((D + 9 : Nat) : Int) bf HK2.out
            rw [e4] at k4
            have HK9 : Hid (okS okXm (N + 4 + 172 * (i + 1)) t4) := k4.mono mkX (by omega)
            have UB2 := Lib.hid (fun w' G' (h : (DwF a) w' G' t2) => ((fun N c up s F w h hk hN => dwbit_any a N c up s F w h hk hN)) (N + 4 + 172 * i + 4 + 164) ((D + 9 : Nat) : Int) bf t2 G' w' h HK2.out (by omega))
            rw [e4] at UB2
            have HBF := Lib.hid hbf
            clear e2 e4 k4 hbf HRc HLVR HBI
            by_cases hr : R + 1 ≤ 16320
            · have HRy := Lib.hid (HRg.out (by rw [HLB.out]; exact decide_eq_true hr))
              have yq : decide ((16320 : Int) < (R : Int) + 1) = false := decide_eq_false (y_dn hr).2
              obtain ⟨y, hy⟩ : ∃ y, ys[k]? = some y := ⟨_, List.getElem?_eq_getElem (by rw [HY.out]; exact HKN.out)⟩
              obtain ⟨c8, c9⟩ := sep_at HS8.out hy
              have c5 := (HOD.out G8 _ HGb8.out).at (j := i) (x := (k : Int)) HOK.out
              obtain ⟨hS, hG⟩ := sep_set (x := V2) ((DwF.objD a).sep (RsF.obj w.heap.size)) HS8.out (k := k) (by rw [HY.out]; exact HKN.out)
              have HS9 := Lib.hid hS
              have HGb9 := Lib.hid (HGb8.out.trans hG)
              have HY9 : Hid ((ys.set k V2).length = 64) := by show _ = _; rw [List.length_set]; exact HY.out
              have hv2 := HV2.out
              clear hy hS hG HS8 HGb8 HRb HRg hr HLB
              cases V7
              · have hv3 : (R : Int) + 1 = V2 := hv2
                clear hv2 HV2
                subst hv3
                go_wp2_with fail
                generalize w8.setCell _ _ = w9 at HS9 HGb9 ⊢
                have URS := Lib.hid (rest_any (.slice (some ⟨va, voff, none⟩) 64 vc) (.slice (some ⟨og, ooff, none⟩) 64 oc) xs (sqO 64) (64 - 1) i (by omega) (by decide) w9 (HVW.out _ _ (HG1.out.trans HGb9.out)) (HOD.out _ _ HGb9.out) (sqO_len (by decide)) (fun i hi => by rw [HN.out]; exact (sqO_all (n := 64) (by decide)).2.1 i hi))
                rw [HFIN.out, HBF.out] at URS
                have U5 := Lib.hid (sep_l TlF.obj HS9.out (fun G h => sep_l (RsF.obj w.heap.size) h (fun G h => UB2.out w9 G h)))
                clear UB2 c8 c9 c5
                refine (URS.out).mono ?_; rintro e w10 ⟨rfl, rfl⟩
                go_wp2_with fail
                refine (U5.out).mono ?_; rintro e wv ⟨rfl, Gv, hv, gv⟩
                have HSz := Lib.hid hv
                have HGbz := Lib.hid (HGb9.out.trans gv)
                clear hv gv U5 HS9 HGb9 URS
                cases V4
                · have HRz := Lib.hid HRy.out
                  go_wp2
                  go_roundw
                  case rel => exact ⟨i + 1, tl, _, t4, Gv, by have := HI9.out; omega, by go_num, HD2.out, HY9.out, HRz.out, HK9.out, HSz.out, HGbz.out⟩
                  case measure => simp [intOf] <;> omega
                · have HRz := Lib.hid HRy.out
                  have HGz := Lib.hid (HG1.out.trans HGbz.out)
                  have HYz := HY9
                  -- in hand: the world wz, HSz : Sep (Sep O RsF) TlF wz Gz ((t, ()), (cv, ys)), HGz : Step F w Gz wz, HRz
                  obtain ⟨r0, r1, f0, f1⟩ := (rs_at HSz.out)
                  obtain ⟨⟨Gq, hS, hG⟩, e0, e1⟩ := fin_rs (c := 0) (y := .slice none 0 0) (DwF.objD a) TlF.obj HSz.out HGz.out
                  have HSq := Lib.hid hS
                  have HGq := Lib.hid hG
                  clear hS hG HSz HGz
                  go_wp2
                  exact bodyPost_ret (v := .tuple #[.slice (some ⟨w2.heap.size, 0, none⟩) 64 64, .agg #[.int .i64 0, .slice none 0 0]]) (by simp [results, Tryz.results46, go_sem, e0, e1]) rfl (RCodR.done HRz.out (HSq.out.imp fun _ h => h.ho (by rw [HYz.out]; decide)) (fun W hW => ⟨hW, RErrIs.zero⟩) HGq.out)
              · have hv3 : -((R : Int) + 1) = V2 := hv2
                clear hv2 HV2
                subst hv3
                go_wp2_with fail
                generalize w8.setCell _ _ = w9 at HS9 HGb9 ⊢
                have URS := Lib.hid (rest_any (.slice (some ⟨va, voff, none⟩) 64 vc) (.slice (some ⟨og, ooff, none⟩) 64 oc) xs (sqO 64) (64 - 1) i (by omega) (by decide) w9 (HVW.out _ _ (HG1.out.trans HGb9.out)) (HOD.out _ _ HGb9.out) (sqO_len (by decide)) (fun i hi => by rw [HN.out]; exact (sqO_all (n := 64) (by decide)).2.1 i hi))
                rw [HFIN.out, HBF.out] at URS
                have U5 := Lib.hid (sep_l TlF.obj HS9.out (fun G h => sep_l (RsF.obj w.heap.size) h (fun G h => UB2.out w9 G h)))
                clear UB2 c8 c9 c5
                refine (URS.out).mono ?_; rintro e w10 ⟨rfl, rfl⟩
                go_wp2_with fail
                refine (U5.out).mono ?_; rintro e wv ⟨rfl, Gv, hv, gv⟩
                have HSz := Lib.hid hv
                have HGbz := Lib.hid (HGb9.out.trans gv)
                clear hv gv U5 HS9 HGb9 URS
                cases V4
                · have HRz := Lib.hid HRy.out
                  go_wp2
                  go_roundw
                  case rel => exact ⟨i + 1, tl, _, t4, Gv, by have := HI9.out; omega, by go_num, HD2.out, HY9.out, HRz.out, HK9.out, HSz.out, HGbz.out⟩
                  case measure => simp [intOf] <;> omega
                · have HRz := Lib.hid HRy.out
                  have HGz := Lib.hid (HG1.out.trans HGbz.out)
                  have HYz := HY9
                  -- in hand: the world wz, HSz : Sep (Sep O RsF) TlF wz Gz ((t, ()), (cv, ys)), HGz : Step F w Gz wz, HRz
                  obtain ⟨r0, r1, f0, f1⟩ := (rs_at HSz.out)
                  obtain ⟨⟨Gq, hS, hG⟩, e0, e1⟩ := fin_rs (c := 0) (y := .slice none 0 0) (DwF.objD a) TlF.obj HSz.out HGz.out
                  have HSq := Lib.hid hS
                  have HGq := Lib.hid hG
                  clear hS hG HSz HGz
                  go_wp2
                  exact bodyPost_ret (v := .tuple #[.slice (some ⟨w2.heap.size, 0, none⟩) 64 64, .agg #[.int .i64 0, .slice none 0 0]]) (by simp [results, Tryz.results46, go_sem, e0, e1]) rfl (RCodR.done HRz.out (HSq.out.imp fun _ h => h.ho (by rw [HYz.out]; decide)) (fun W hW => ⟨hW, RErrIs.zero⟩) HGq.out)
            · have HRz : Hid ((codP xs).run mX s = ((some ([(coefS, (i : Int))], 3), []), t2)) := HRb.out (by rw [HLB.out]; exact decide_eq_false hr)
              obtain ⟨y9, y8⟩ := y_up hr
              clear HRb HRg
              go_wp2_with fail
              refine (wrap_any coefS (i : Int) 3 _ (by decide)).mono ?_; rintro e w9 ⟨u9, rfl, ho9, hx9⟩
              obtain ⟨ga, gc, rfl⟩ := (Row.of_owns ho9).form
              obtain ⟨G9, h9, g9⟩ := Sep.other ((DwF.objD a).sep (RsF.obj w.heap.size)) HS8.out hx9 (HoF.row ho9) (fun k hk => (ho9.lt k hk).1) (HG1.out.trans HGb8.out)
              have h9 := h9.imp (fun _ h => h.imp (fun W h => Row.of_owns h))
              obtain ⟨r0, r1, f0, f1⟩ := (rs_at h9)
              obtain ⟨⟨Gq, hS, hG⟩, e0, e1⟩ := fin_rs (c := 3) (y := .slice ga 1 gc) (DwF.objD a) HoF.obj h9 g9
              have HSq := Lib.hid hS
              have HGq := Lib.hid hG
              clear hS hG h9 g9 hx9 ho9 HS8 HGb8
              go_wp2
              exact bodyPost_ret (v := .tuple #[.slice none 0 0, .agg #[.int .i64 3, .slice ga 1 gc]]) (by simp [results, Tryz.results46, go_sem, e0, e1]) rfl (RCodR.done HRz.out HSq.out (fun W hW => ⟨Ints.nil W, rfl, by decide, hW⟩) HGq.out)
end Go.Proofs.YtpofabebmeickaaGreatDoor

