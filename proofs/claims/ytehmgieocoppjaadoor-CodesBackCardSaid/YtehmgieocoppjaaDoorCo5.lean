/- kinref3.ue, GetUe, GetSe, GetRice: contracts over this seat's translation. -/
import Derived.Test.YtehmgieocoppjaaDoorZu
import Derived.Test.YtehmgieocoppjaaDoorZt
import Derived.BigRegion
namespace Go.Proofs.YtehmgieocoppjaaDoor
set_option linter.unusedVariables false
set_option linter.unusedSimpArgs false
open Go.RowKit Go.Extern.Stop Go.Stop Go.Extern

/-- a result of type kinref.Err that nothing was stored into -/
def RBox (w : World) (R : Nat) : Prop := w.heap[R]? = some (.cells #[.int .i64 0, .slice none 0 0] 39 (0, 0))
theorem RBox.lt {w : World} {R : Nat} (h : RBox w R) : R < w.heap.size := (Array.getElem?_eq_some_iff.1 h).1
theorem RBox.new (w : World) : RBox (w.alloc (.cells #[.int .i64 0, .slice none 0 0] 39)) w.heap.size := heap_alloc_new w _
theorem RBox.res {w : World} {R : Nat} (h : RBox w R) : ResAt w R := ResAt.of_box h
theorem RBox.ext {w w' : World} {R : Nat} (h : RBox w R) (k : Ext w w') : RBox w' R := (k.block h.lt).trans h
theorem RBox.kp {w w' : World} {b R : Nat} (h : RBox w R) (k : Kp b w w') (hb : R ≠ b) : RBox w' R := (k.block h.lt hb).trans h
theorem RErrIs.box {w : World} {f : Fall} {c : Int} {u : Value} {R : Nat} (h : RErrIs w f c u) (hb : RBox w R) (x v : Value) : RErrIs ((w.setCell ⟨R, 0, none⟩ x).setCell ⟨R, 1, none⟩ v) f c u := by
  cases f with
  | none => exact h
  | some a =>
    obtain ⟨p, k⟩ := a
    obtain ⟨h1, h2, a, cap, e, h3, h4, h5, h6⟩ := h
    refine ⟨h1, h2, a, cap, e, h3, h4, h5, fun g off ha j u hu => ?_⟩
    have hg : g ≠ R := by
      intro hg
      subst hg
      cases p with
      | nil => simp [stepCells] at hu
      | cons s p =>
        have := h6 g off ha 0 (.string s.1) rfl
        rw [Nat.add_zero] at this
        unfold RBox at hb
        simp [World.cell?, hb] at this
        rcases off with _ | _ | off
        · simp at this
        · simp at this
        · simp at this
    rw [World.cell?_setCell_other _ _ _ _ (by intro e; exact hg (congrArg Addr.block e).symm), World.cell?_setCell_other _ _ _ _ (by intro e; exact hg (congrArg Addr.block e).symm)]
    exact h6 g off ha j u hu
/-- the end of a reader's call: an error stored into its result -/
theorem rq_end {w wz : World} {b B0 q : Nat} {bs : List Nat} {f : Fall} {c : Int} {u : Value} (hb : RBox wz w.heap.size) (hq : RqAt wz b bs q B0) (hk : Kp b w wz) (he : RErrIs wz f c u) (hbw : b < w.heap.size) :
    Kp b w ((wz.setCell ⟨w.heap.size, 0, none⟩ (.int .i64 c)).setCell ⟨w.heap.size, 1, none⟩ u) ∧ RqAt ((wz.setCell ⟨w.heap.size, 0, none⟩ (.int .i64 c)).setCell ⟨w.heap.size, 1, none⟩ u) b bs q B0 ∧ RErrIs ((wz.setCell ⟨w.heap.size, 0, none⟩ (.int .i64 c)).setCell ⟨w.heap.size, 1, none⟩ u) f c u := by
  have h0 := hq.base
  exact ⟨(hk.fresh (Nat.le_refl _) 0 _).fresh (Nat.le_refl _) 1 _, (hq.fresh (R := w.heap.size) (by omega) (by omega) 0 _).fresh (R := w.heap.size) (by omega) (by omega) 1 _, he.box hb _ _⟩
theorem rqget_end (b p N B0 : Nat) (bs : List Nat) (w : World) (h : RqAt w b bs p B0) (hp : p ≤ 8 * bs.length) (hN : N ≤ 32) (he : 8 * bs.length < p + N) :
    Calls Tryd.prog 57 #[.pointer (some ⟨b, 0, none⟩), .int .i64 (N : Int)] w (RqPost w b B0 bs 0 p (some ([(bitsS, (p : Int))], 1))) := by
  obtain ⟨g1, g2, g3⟩ := rd_end he hp hN
  have U := rqget_any b p B0 (N : Int) bs w h hp
  rwa [g1, g2, g3] at U
theorem rqget_bit (b p x B0 : Nat) (bs : List Nat) (w : World) (h : RqAt w b bs p B0) (hp : p < 8 * bs.length) (hx : btN bs p = x) :
    Calls Tryd.prog 57 #[.pointer (some ⟨b, 0, none⟩), .int .i64 1] w (RqPost w b B0 bs (x : Int) (p + 1) none) := by
  have U := rqget_yes b p 1 B0 bs w h (by omega) (by omega)
  rw [nmN_one, hx] at U
  exact U
theorem RqAt.small {w : World} {b p B0 : Nat} {bs : List Nat} (h : RqAt w b bs p B0) : bs.length ≤ 140737488355328 := by obtain ⟨_, _, _, ⟨-, -, hl⟩, -⟩ := h; exact hl
set_option maxHeartbeats 8000000 in
set_option maxRecDepth 20000 in
theorem rue_any (b p B0 : Nat) (bs : List Nat) (w : World) (h : RqAt w b bs p B0) (hp : p ≤ 8 * bs.length) :
    Calls Tryd.prog 66 #[.pointer (some ⟨b, 0, none⟩)] w (RqPost w b B0 bs (ueR bs 31 0 p).2.1 (ueR bs 31 0 p).2.2 (ueR bs 31 0 p).1) := by
  obtain ⟨R, hR⟩ : ∃ R, ueR bs 31 0 p = R := ⟨_, rfl⟩
  rw [hR]
  obtain ⟨n, hn⟩ : ∃ n, n = 8 * bs.length := ⟨_, rfl⟩
  have HN := Lib.hid hn
  have hnb : n ≤ 1125899906842624 := by have := h.small; omega
  rw [← hn] at hp
  have HR0 := Lib.hid hR
  have hbw : b < w.heap.size := h.lt
  have hne : w.heap.size ≠ b := by omega
  have HA0 := Lib.hid (h.ext ((Ext.refl w).alloc (.cells #[.int .i64 0, .slice none 0 0] 39)))
  have UE := Lib.hid (fun (w' : World) (P : Nat) (h' : RqAt w' b bs P B0) (hP : P = n) => rqget_end b P 1 B0 bs w' h' (by omega) (by omega) (by omega))
  have UB := Lib.hid (fun (w' : World) (P x : Nat) (h' : RqAt w' b bs P B0) (hP : P < n) (hx : btN bs P = x) => rqget_bit b P x B0 bs w' h' (by omega) hx)
  have UG := Lib.hid (fun (w' : World) (P N : Nat) (h' : RqAt w' b bs P B0) (hP : P + N ≤ n) (hN : N ≤ 32) => rqget_yes b P N B0 bs w' h' (by omega) hN)
  have UN := Lib.hid (fun (w' : World) (P N : Nat) (h' : RqAt w' b bs P B0) (hP : P ≤ n) (he : n < P + N) (hN : N ≤ 32) => rqget_end b P N B0 bs w' h' (by omega) hN (by omega))
  clear hn h hR
  go_enter Tryd.func66, Tryd.ntmps66
  go_wp2_with fail
  go_loopw [4] (fun zv wr => ∃ z : Nat, z ≤ 30 ∧ zv = .int .i64 (z : Int) ∧ p + z ≤ n ∧ Hid (ueR bs (31 - z) z (p + z) = R) ∧ Hid (RqAt wr b bs (p + z) B0) ∧ Hid (Kp b w wr) ∧ Hid (RBox wr w.heap.size)) (fun zv _ => 31 - (intOf zv).toNat)
  case atStart => exact ⟨0, by omega, rfl, hp, HR0.out, HA0.out, Kp.of_ext ((Ext.refl w).alloc _), RBox.new w⟩
  case round =>
    clear HA0 HR0
    obtain ⟨z, hz, rfl, hzn, HR, HQ, HK, HB⟩ := hrel
    obtain ⟨P, hP⟩ : ∃ P, p + z = P := ⟨_, rfl⟩
    have HPz := Lib.hid hP
    rw [hP] at HR HQ hzn
    rw [show 31 - z = (30 - z) + 1 by omega] at HR
    clear hP
    by_cases hE : P = n
    · have HG : Hid (R = (some ([(bitsS, (P : Int))], 1), 0, P)) := by show _ = _; rw [← HR.out]; exact ueR_end (by rw [← HN.out]; omega)
      have HC := Lib.hid (UE.out wr P HQ.out hE)
      clear HR hE
      go_wp2_with fail
      refine (HC.out).mono ?_; rintro e w1 ⟨c1, u1, rfl, k1, r1, e1⟩
      -- behind a call that failed: w1, c1, u1: k1 r1 e1, HB HK; hne : w.heap.size ≠ b, hbw; HG : R = (some .., 0, ..)
      obtain ⟨ua, un, uc, rfl⟩ := e1.form
      have hc0 : (c1 == 0) = false := by
        obtain ⟨h1, h2, -⟩ := e1
        rw [h1, beq_eq_false_iff_ne]
        exact h2
      have A1 : Ext w1 (w1.alloc (.cells #[.int .i64 c1, .slice ua un uc] 39)) := (Ext.refl w1).alloc _
      have HE1 := Lib.hid (e1.ext A1)
      have HQ1 := Lib.hid (r1.ext A1)
      have HB1 := Lib.hid ((HB.out.kp k1 hne).ext A1)
      have HK1 := Lib.hid ((HK.out.trans k1).ext A1)
      clear e1 r1 k1 A1
      go_wp2_with fail
      refine (ok_any c1 _ _).mono ?_; rintro e wA ⟨rfl, hxA⟩
      rw [hc0]
      have q0 := hxA.cell (p := ⟨w1.heap.size, 0, none⟩) (v := .int .i64 c1) (by simp)
      have q1 := hxA.cell (p := ⟨w1.heap.size, 1, none⟩) (v := .slice ua un uc) (by simp)
      have HBA := Lib.hid (HB1.out.ext hxA)
      have HR := Lib.hid (rq_end HBA.out (HQ1.out.ext hxA) (HK1.out.ext hxA) (HE1.out.ext hxA) hbw)
      obtain ⟨g0, g1, g2, g3⟩ := HBA.out.res
      clear HE1 HQ1 HB1 HK1 hxA hc0
      go_wp2
      go_region
      go_wp2
      obtain ⟨y0, y1⟩ := res_cells g0 g1 (c := c1) (.slice ua un uc)
      exact bodyPost_ret (v := .tuple #[.int .i64 0, .agg #[.int .i64 c1, .slice ua un uc]]) (by simp [results, Tryd.results66, go_sem, y0, y1]) rfl ⟨c1, .slice ua un uc, by rw [HG.out], HR.out.1.ext (Ext.refl _).drew, by rw [HG.out]; exact HR.out.2.1.ext (Ext.refl _).drew, by rw [HG.out]; exact HR.out.2.2.ext (Ext.refl _).drew⟩
    · have hPn : P < n := by omega
      by_cases hB : btN bs P = 1
      · have HC := Lib.hid (UB.out wr P 1 HQ.out hPn hB)
        by_cases hG : P + 1 + z ≤ n
        · have hRe : R = (none, ((2 ^ z + nmN bs (P + 1) z - 1 : Nat) : Int), P + 1 + z) := by rw [← HR.out]; exact ueR_yes (by rw [← HN.out]; omega) hB
          have hl := nmN_lt bs (P + 1) z
          have hM : 2 ^ z ≤ 2 ^ 30 := Nat.pow_le_pow_right (by decide) hz
          have hM0 := Nat.two_pow_pos z
          have U2 := Lib.hid (fun w' h' => UG.out w' (P + 1) z h' hG (by omega))
          obtain ⟨M, hMM⟩ : ∃ M, 2 ^ z = M := ⟨_, rfl⟩
          obtain ⟨X, hX⟩ : ∃ X, nmN bs (P + 1) z = X := ⟨_, rfl⟩
          have jp : (2 : Int) ^ z = (M : Int) := by rw [← hMM]; simp
          rw [hX] at U2 hl hRe
          rw [hMM] at hl hRe hM hM0
          obtain ⟨V, hV⟩ : ∃ V, M + X - 1 = V := ⟨_, rfl⟩
          obtain ⟨Z, hZ⟩ : ∃ Z, P + 1 + z = Z := ⟨_, rfl⟩
          rw [hV, hZ] at hRe
          rw [hZ] at U2
          have HG := Lib.hid hRe
          have j1 : IntKind.u64.wrap (z : Int) = (z : Int) := by rw [IntKind.wrap_u64]; omega
          have j2 : IntKind.i64.wrap (1 * 2 ^ z) = (M : Int) := by rw [jp, IntKind.wrap_i64]; omega
          have j3 : IntKind.i64.wrap (M : Int) = (M : Int) := by rw [IntKind.wrap_i64]; omega
          have j4 : IntKind.i64.wrap ((M : Int) + (X : Int)) = (M : Int) + (X : Int) := by rw [IntKind.wrap_i64]; omega
          have j5 : IntKind.i64.wrap ((M : Int) + (X : Int) - 1) = (V : Int) := by rw [IntKind.wrap_i64]; omega
          have z9 : (0 : Int) ≤ (z : Int) ∧ (z : Int) ≤ 64 := by omega
          clear hRe HR hMM hX hV hZ hB hE
          go_wp2_with fail
          refine (HC.out).mono ?_; rintro e w1 ⟨c1, u1, rfl, k1, r1, e1⟩
          obtain ⟨rfl, rfl⟩ := e1
          -- behind a call that did not fail: w1, k1 r1 HB HK -> wA, HBA HQA HKA
          have A1 : Ext w1 (w1.alloc (.cells #[.int .i64 0, .slice none 0 0] 39)) := (Ext.refl w1).alloc _
          have HQ1 := Lib.hid (r1.ext A1)
          have HB1 := Lib.hid ((HB.out.kp k1 hne).ext A1)
          have HK1 := Lib.hid ((HK.out.trans k1).ext A1)
          clear r1 k1 A1
          go_wp2_with fail
          refine (ok_any 0 _ _).mono ?_; rintro e wA ⟨rfl, hxA⟩
          rw [show ((0 : Int) == 0) = true from rfl]
          have q0 := hxA.cell (p := ⟨w1.heap.size, 0, none⟩) (v := .int .i64 0) (by simp)
          have q1 := hxA.cell (p := ⟨w1.heap.size, 1, none⟩) (v := .slice none 0 0) (by simp)
          have HBA := Lib.hid (HB1.out.ext hxA)
          have HQA := Lib.hid (HQ1.out.ext hxA)
          have HKA := Lib.hid (HK1.out.ext hxA)
          clear HQ1 HB1 HK1 hxA
          go_wp2_with fail
          refine (U2.out _ HQA.out).mono ?_; rintro e w2 ⟨c1, u1, rfl, k1, r1, e1⟩
          obtain ⟨rfl, rfl⟩ := e1
          have A2 : Ext w2 (w2.alloc (.cells #[.int .i64 0, .slice none 0 0] 39)) := (Ext.refl w2).alloc _
          have HQ2 := Lib.hid (r1.ext A2)
          have HB2 := Lib.hid ((HBA.out.kp k1 hne).ext A2)
          have HK2 := Lib.hid ((HKA.out.trans k1).ext A2)
          clear r1 k1 A2 HQA HBA HKA q0 q1
          go_wp2_with fail
          refine (ok_any 0 _ _).mono ?_; rintro e wB ⟨rfl, hxB⟩
          rw [show ((0 : Int) == 0) = true from rfl]
          have HBB := Lib.hid (HB2.out.ext hxB)
          have HE9 := Lib.hid (rq_end (f := none) (c := 0) (u := .slice none 0 0) HBB.out (HQ2.out.ext hxB) (HK2.out.ext hxB) ⟨rfl, rfl⟩ hbw)
          obtain ⟨g0, g1, g2, g3⟩ := HBB.out.res
          clear HQ2 HB2 HK2 hxB
          go_wp2
          obtain ⟨y0, y1⟩ := res_cells g0 g1 (c := 0) (.slice none 0 0)
          exact bodyPost_ret (v := .tuple #[.int .i64 (V : Int), .agg #[.int .i64 0, .slice none 0 0]]) (by simp [results, Tryd.results66, go_sem, y0, y1]) rfl ⟨0, .slice none 0 0, by rw [HG.out], HE9.out.1, by rw [HG.out]; exact HE9.out.2.1, by rw [HG.out]; exact HE9.out.2.2⟩
        · have HG : Hid (R = (some ([(bitsS, ((P + 1 : Nat) : Int))], 1), 0, P + 1)) := by show _ = _; rw [← HR.out]; exact ueR_no (by rw [← HN.out]; omega) hB (by rw [← HN.out]; omega)
          have U2 := Lib.hid (fun w' h' => UN.out w' (P + 1) z h' (by omega) (by omega) (by omega))
          clear HR hB hE
          go_wp2_with fail
          refine (HC.out).mono ?_; rintro e w1 ⟨c1, u1, rfl, k1, r1, e1⟩
          obtain ⟨rfl, rfl⟩ := e1
          -- behind a call that did not fail: w1, k1 r1 HB HK -> wA, HBA HQA HKA
          have A1 : Ext w1 (w1.alloc (.cells #[.int .i64 0, .slice none 0 0] 39)) := (Ext.refl w1).alloc _
          have HQ1 := Lib.hid (r1.ext A1)
          have HB1 := Lib.hid ((HB.out.kp k1 hne).ext A1)
          have HK1 := Lib.hid ((HK.out.trans k1).ext A1)
          clear r1 k1 A1
          go_wp2_with fail
          refine (ok_any 0 _ _).mono ?_; rintro e wA ⟨rfl, hxA⟩
          rw [show ((0 : Int) == 0) = true from rfl]
          have q0 := hxA.cell (p := ⟨w1.heap.size, 0, none⟩) (v := .int .i64 0) (by simp)
          have q1 := hxA.cell (p := ⟨w1.heap.size, 1, none⟩) (v := .slice none 0 0) (by simp)
          have HBA := Lib.hid (HB1.out.ext hxA)
          have HQA := Lib.hid (HQ1.out.ext hxA)
          have HKA := Lib.hid (HK1.out.ext hxA)
          clear HQ1 HB1 HK1 hxA
          go_wp2_with fail
          refine (U2.out _ HQA.out).mono ?_; rintro e w2 ⟨c1, u1, rfl, k1, r1, e1⟩
          have HB := HBA
          have HK := HKA
          clear HBA HKA HQA q0 q1
          obtain ⟨w1, hw1⟩ : ∃ w1, w1 = w2 := ⟨_, rfl⟩
          subst hw1
          -- behind a call that failed: w1, c1, u1: k1 r1 e1, HB HK; hne : w.heap.size ≠ b, hbw; HG : R = (some .., 0, ..)
          obtain ⟨ua, un, uc, rfl⟩ := e1.form
          have hc0 : (c1 == 0) = false := by
            obtain ⟨h1, h2, -⟩ := e1
            rw [h1, beq_eq_false_iff_ne]
            exact h2
          have A1 : Ext w1 (w1.alloc (.cells #[.int .i64 c1, .slice ua un uc] 39)) := (Ext.refl w1).alloc _
          have HE1 := Lib.hid (e1.ext A1)
          have HQ1 := Lib.hid (r1.ext A1)
          have HB1 := Lib.hid ((HB.out.kp k1 hne).ext A1)
          have HK1 := Lib.hid ((HK.out.trans k1).ext A1)
          clear e1 r1 k1 A1
          go_wp2_with fail
          refine (ok_any c1 _ _).mono ?_; rintro e wA ⟨rfl, hxA⟩
          rw [hc0]
          have q0 := hxA.cell (p := ⟨w1.heap.size, 0, none⟩) (v := .int .i64 c1) (by simp)
          have q1 := hxA.cell (p := ⟨w1.heap.size, 1, none⟩) (v := .slice ua un uc) (by simp)
          have HBA := Lib.hid (HB1.out.ext hxA)
          have HR := Lib.hid (rq_end HBA.out (HQ1.out.ext hxA) (HK1.out.ext hxA) (HE1.out.ext hxA) hbw)
          obtain ⟨g0, g1, g2, g3⟩ := HBA.out.res
          clear HE1 HQ1 HB1 HK1 hxA hc0
          go_wp2
          go_region
          go_wp2
          obtain ⟨y0, y1⟩ := res_cells g0 g1 (c := c1) (.slice ua un uc)
          exact bodyPost_ret (v := .tuple #[.int .i64 0, .agg #[.int .i64 c1, .slice ua un uc]]) (by simp [results, Tryd.results66, go_sem, y0, y1]) rfl ⟨c1, .slice ua un uc, by rw [HG.out], HR.out.1.ext (Ext.refl _).drew, by rw [HG.out]; exact HR.out.2.1.ext (Ext.refl _).drew, by rw [HG.out]; exact HR.out.2.2.ext (Ext.refl _).drew⟩
      · have hb0 : btN bs P = 0 := by have := btN_lt bs P; omega
        have hRe : ueR bs (30 - z) (z + 1) (P + 1) = R := by rw [← HR.out]; exact (ueR_zero (by rw [← HN.out]; omega) hB).symm
        have HC := Lib.hid (UB.out wr P 0 HQ.out hPn hb0)
        by_cases hz30 : z = 30
        · obtain ⟨Z, hZ⟩ : ∃ Z, P + 1 = Z := ⟨_, rfl⟩
          have HG : Hid (R = (some ([(codesS, (Z : Int))], 3), 0, Z)) := by show _ = _; rw [← hRe, show 30 - z = 0 by omega, hZ]; rfl
          have z30 : IntKind.i64.wrap ((z : Int) + 1) = 31 := by rw [IntKind.wrap_i64]; omega
          rw [hZ] at HC
          clear HR hB hb0 hRe hE hZ
          go_wp2_with fail
          refine (HC.out).mono ?_; rintro e w1 ⟨c1, u1, rfl, k1, r1, e1⟩
          obtain ⟨rfl, rfl⟩ := e1
          -- behind a call that did not fail: w1, k1 r1 HB HK -> wA, HBA HQA HKA
          have A1 : Ext w1 (w1.alloc (.cells #[.int .i64 0, .slice none 0 0] 39)) := (Ext.refl w1).alloc _
          have HQ1 := Lib.hid (r1.ext A1)
          have HB1 := Lib.hid ((HB.out.kp k1 hne).ext A1)
          have HK1 := Lib.hid ((HK.out.trans k1).ext A1)
          clear r1 k1 A1
          go_wp2_with fail
          refine (ok_any 0 _ _).mono ?_; rintro e wA ⟨rfl, hxA⟩
          rw [show ((0 : Int) == 0) = true from rfl]
          have q0 := hxA.cell (p := ⟨w1.heap.size, 0, none⟩) (v := .int .i64 0) (by simp)
          have q1 := hxA.cell (p := ⟨w1.heap.size, 1, none⟩) (v := .slice none 0 0) (by simp)
          have HBA := Lib.hid (HB1.out.ext hxA)
          have HQA := Lib.hid (HQ1.out.ext hxA)
          have HKA := Lib.hid (HK1.out.ext hxA)
          clear HQ1 HB1 HK1 hxA
          -- HG : R = (some codes, 0, Z), HQA : RqAt wA .. Z
          obtain ⟨za, zcap, ⟨z0, z1, z2⟩, -, -⟩ := HQA.out
          go_wp2_with fail
          refine (wrap_any codesS (Z : Int) 3 _ (by decide)).mono ?_; rintro e w9 ⟨u9, rfl, ho9, hx9⟩
          obtain ⟨va, vc, rfl⟩ : ∃ va vc, u9 = .slice va 1 vc := by
            rcases ho9.2 with ⟨-, h0⟩ | ⟨g, cap, cur, rfl, -⟩
            · cases h0
            · exact ⟨_, _, rfl⟩
          have HB9 := Lib.hid (HBA.out.ext hx9)
          have HR := Lib.hid (rq_end (f := some ([(codesS, (Z : Int))], 3)) HB9.out (HQA.out.ext hx9) (HKA.out.ext hx9) ⟨rfl, by decide, Row.of_owns ho9⟩ hbw)
          obtain ⟨g0, g1, g2, g3⟩ := HB9.out.res
          clear ho9 hx9 z0 z1 z2
          go_wp2
          obtain ⟨y0, y1⟩ := res_cells g0 g1 (c := 3) (.slice va 1 vc)
          exact bodyPost_ret (v := .tuple #[.int .i64 0, .agg #[.int .i64 3, .slice va 1 vc]]) (by simp [results, Tryd.results66, go_sem, y0, y1]) rfl ⟨3, .slice va 1 vc, by rw [HG.out], HR.out.1, by rw [HG.out]; exact HR.out.2.1, by rw [HG.out]; exact HR.out.2.2⟩
        · have HRE := Lib.hid hRe
          have z30 : IntKind.i64.wrap ((z : Int) + 1) = ((z + 1 : Nat) : Int) := by rw [IntKind.wrap_i64]; omega
          have z31 : ¬ (((z + 1 : Nat) : Int) == 31) = true := by rw [beq_iff_eq]; omega
          have z32 : (((z + 1 : Nat) : Int) == 31) = false := by rw [beq_eq_false_iff_ne]; omega
          clear z31
          clear HR hB hb0 hRe hE
          go_wp2_with fail
          refine (HC.out).mono ?_; rintro e w1 ⟨c1, u1, rfl, k1, r1, e1⟩
          obtain ⟨rfl, rfl⟩ := e1
          -- behind a call that did not fail: w1, k1 r1 HB HK -> wA, HBA HQA HKA
          have A1 : Ext w1 (w1.alloc (.cells #[.int .i64 0, .slice none 0 0] 39)) := (Ext.refl w1).alloc _
          have HQ1 := Lib.hid (r1.ext A1)
          have HB1 := Lib.hid ((HB.out.kp k1 hne).ext A1)
          have HK1 := Lib.hid ((HK.out.trans k1).ext A1)
          clear r1 k1 A1
          go_wp2_with fail
          refine (ok_any 0 _ _).mono ?_; rintro e wA ⟨rfl, hxA⟩
          rw [show ((0 : Int) == 0) = true from rfl]
          have q0 := hxA.cell (p := ⟨w1.heap.size, 0, none⟩) (v := .int .i64 0) (by simp)
          have q1 := hxA.cell (p := ⟨w1.heap.size, 1, none⟩) (v := .slice none 0 0) (by simp)
          have HBA := Lib.hid (HB1.out.ext hxA)
          have HQA := Lib.hid (HQ1.out.ext hxA)
          have HKA := Lib.hid (HK1.out.ext hxA)
          clear HQ1 HB1 HK1 hxA
          go_wp2
          go_roundw
          case rel => exact ⟨z + 1, by omega, rfl, by have := HPz.out; omega, by show _ = _; rw [show 31 - (z + 1) = 30 - z by omega, show p + (z + 1) = P + 1 by have := HPz.out; omega]; exact HRE.out, by show RqAt _ _ _ _ _; rw [show p + (z + 1) = P + 1 by have := HPz.out; omega]; exact HQA.out, HKA.out, HBA.out⟩
          case measure => simp [intOf]; omega
set_option maxHeartbeats 4000000 in
set_option maxRecDepth 20000 in
theorem rgetue_any (b p B0 : Nat) (most : Int) (bs : List Nat) (w : World) (h : RqAt w b bs p B0) (hp : p ≤ 8 * bs.length) :
    Calls Tryd.prog 54 #[.pointer (some ⟨b, 0, none⟩), .int .i64 most] w (RqPost w b B0 bs (ugG bs p most).2.1 (ugG bs p most).2.2 (ugG bs p most).1) := by
  have hbw : b < w.heap.size := h.lt
  have hne : w.heap.size ≠ b := by omega
  have HQ0 := Lib.hid (h.ext ((Ext.refl w).alloc (.cells #[.int .i64 0, .slice none 0 0] 39)))
  have HB := Lib.hid (RBox.new w)
  have HK := Lib.hid (Kp.of_ext (b := b) ((Ext.refl w).alloc (.cells #[.int .i64 0, .slice none 0 0] 39)))
  have U := Lib.hid (fun (w' : World) (h' : RqAt w' b bs p B0) => rue_any b p B0 bs w' h' hp)
  obtain ⟨R, hR⟩ : ∃ R, ueR bs 31 0 p = R := ⟨_, rfl⟩
  have hG : ugG bs p most = ueB most R := by unfold ugG; rw [hR]
  rw [hR] at U
  rw [hG]
  clear hG hR h hp
  obtain ⟨f, v, Z⟩ := R
  obtain ⟨G, hG⟩ : ∃ G, ueB most (f, v, Z) = G := ⟨_, rfl⟩
  rw [hG]
  cases f with
  | some a =>
    have HG : Hid (G = (some a, 0, Z)) := hG.symm
    clear hG
    go_enter Tryd.func54, Tryd.ntmps54
    go_wp2_with fail
    refine (U.out _ HQ0.out).mono ?_; rintro e w1 ⟨c1, u1, rfl, k1, r1, e1⟩
    -- behind a call that failed: w1, c1, u1: k1 r1 e1, HB HK; hne : w.heap.size ≠ b, hbw; HG : R = (some .., 0, ..)
    obtain ⟨ua, un, uc, rfl⟩ := e1.form
    have hc0 : (c1 == 0) = false := by
      obtain ⟨h1, h2, -⟩ := e1
      rw [h1, beq_eq_false_iff_ne]
      exact h2
    have A1 : Ext w1 (w1.alloc (.cells #[.int .i64 c1, .slice ua un uc] 39)) := (Ext.refl w1).alloc _
    have HE1 := Lib.hid (e1.ext A1)
    have HQ1 := Lib.hid (r1.ext A1)
    have HB1 := Lib.hid ((HB.out.kp k1 hne).ext A1)
    have HK1 := Lib.hid ((HK.out.trans k1).ext A1)
    clear e1 r1 k1 A1
    go_wp2_with fail
    refine (ok_any c1 _ _).mono ?_; rintro e wA ⟨rfl, hxA⟩
    rw [hc0]
    have q0 := hxA.cell (p := ⟨w1.heap.size, 0, none⟩) (v := .int .i64 c1) (by simp)
    have q1 := hxA.cell (p := ⟨w1.heap.size, 1, none⟩) (v := .slice ua un uc) (by simp)
    have HBA := Lib.hid (HB1.out.ext hxA)
    have HR := Lib.hid (rq_end HBA.out (HQ1.out.ext hxA) (HK1.out.ext hxA) (HE1.out.ext hxA) hbw)
    obtain ⟨g0, g1, g2, g3⟩ := HBA.out.res
    clear HE1 HQ1 HB1 HK1 hxA hc0
    go_wp2
    go_region
    go_wp2
    obtain ⟨y0, y1⟩ := res_cells g0 g1 (c := c1) (.slice ua un uc)
    exact bodyPost_ret (v := .tuple #[.int .i64 0, .agg #[.int .i64 c1, .slice ua un uc]]) (by simp [results, Tryd.results54, go_sem, y0, y1]) rfl ⟨c1, .slice ua un uc, by rw [HG.out], HR.out.1.ext (Ext.refl _).drew, by rw [HG.out]; exact HR.out.2.1.ext (Ext.refl _).drew, by rw [HG.out]; exact HR.out.2.2.ext (Ext.refl _).drew⟩
  | none =>
    by_cases hB : most < v ∨ 1073741824 < v
    · have HG : Hid (G = (some ([(codesS, (Z : Int))], 3), 0, Z)) := by show _ = _; rw [← hG]; show (if _ then _ else _) = _; rw [if_pos hB]
      have hB2 : most < v ∨ ¬ most < v ∧ 1073741824 < v := by omega
      clear hB hG
      rcases hB2 with h1 | ⟨h1, h2⟩
      all_goals
        go_enter Tryd.func54, Tryd.ntmps54
        go_wp2_with fail
        refine (U.out _ HQ0.out).mono ?_; rintro e w1 ⟨c1, u1, rfl, k1, r1, e1⟩
        obtain ⟨rfl, rfl⟩ := e1
        -- behind a call that did not fail: w1, k1 r1 HB HK -> wA, HBA HQA HKA
        have A1 : Ext w1 (w1.alloc (.cells #[.int .i64 0, .slice none 0 0] 39)) := (Ext.refl w1).alloc _
        have HQ1 := Lib.hid (r1.ext A1)
        have HB1 := Lib.hid ((HB.out.kp k1 hne).ext A1)
        have HK1 := Lib.hid ((HK.out.trans k1).ext A1)
        clear r1 k1 A1
        go_wp2_with fail
        refine (ok_any 0 _ _).mono ?_; rintro e wA ⟨rfl, hxA⟩
        rw [show ((0 : Int) == 0) = true from rfl]
        have q0 := hxA.cell (p := ⟨w1.heap.size, 0, none⟩) (v := .int .i64 0) (by simp)
        have q1 := hxA.cell (p := ⟨w1.heap.size, 1, none⟩) (v := .slice none 0 0) (by simp)
        have HBA := Lib.hid (HB1.out.ext hxA)
        have HQA := Lib.hid (HQ1.out.ext hxA)
        have HKA := Lib.hid (HK1.out.ext hxA)
        clear HQ1 HB1 HK1 hxA
        -- HG : R = (some codes, 0, Z), HQA : RqAt wA .. Z
        obtain ⟨za, zcap, ⟨z0, z1, z2⟩, -, -⟩ := HQA.out
        go_wp2_with fail
        refine (wrap_any codesS (Z : Int) 3 _ (by decide)).mono ?_; rintro e w9 ⟨u9, rfl, ho9, hx9⟩
        obtain ⟨va, vc, rfl⟩ : ∃ va vc, u9 = .slice va 1 vc := by
          rcases ho9.2 with ⟨-, h0⟩ | ⟨g, cap, cur, rfl, -⟩
          · cases h0
          · exact ⟨_, _, rfl⟩
        have HB9 := Lib.hid (HBA.out.ext hx9)
        have HR := Lib.hid (rq_end (f := some ([(codesS, (Z : Int))], 3)) HB9.out (HQA.out.ext hx9) (HKA.out.ext hx9) ⟨rfl, by decide, Row.of_owns ho9⟩ hbw)
        obtain ⟨g0, g1, g2, g3⟩ := HB9.out.res
        clear ho9 hx9 z0 z1 z2
        go_wp2
        obtain ⟨y0, y1⟩ := res_cells g0 g1 (c := 3) (.slice va 1 vc)
        exact bodyPost_ret (v := .tuple #[.int .i64 0, .agg #[.int .i64 3, .slice va 1 vc]]) (by simp [results, Tryd.results54, go_sem, y0, y1]) rfl ⟨3, .slice va 1 vc, by rw [HG.out], HR.out.1, by rw [HG.out]; exact HR.out.2.1, by rw [HG.out]; exact HR.out.2.2⟩
    · have HG : Hid (G = (none, v, Z)) := by show _ = _; rw [← hG]; show (if _ then _ else _) = _; rw [if_neg hB]
      have h1 : ¬ most < v := by omega
      have h2 : ¬ 1073741824 < v := by omega
      clear hB hG
      go_enter Tryd.func54, Tryd.ntmps54
      go_wp2_with fail
      refine (U.out _ HQ0.out).mono ?_; rintro e w1 ⟨c1, u1, rfl, k1, r1, e1⟩
      obtain ⟨rfl, rfl⟩ := e1
      -- behind a call that did not fail: w1, k1 r1 HB HK -> wA, HBA HQA HKA
      have A1 : Ext w1 (w1.alloc (.cells #[.int .i64 0, .slice none 0 0] 39)) := (Ext.refl w1).alloc _
      have HQ1 := Lib.hid (r1.ext A1)
      have HB1 := Lib.hid ((HB.out.kp k1 hne).ext A1)
      have HK1 := Lib.hid ((HK.out.trans k1).ext A1)
      clear r1 k1 A1
      go_wp2_with fail
      refine (ok_any 0 _ _).mono ?_; rintro e wA ⟨rfl, hxA⟩
      rw [show ((0 : Int) == 0) = true from rfl]
      have q0 := hxA.cell (p := ⟨w1.heap.size, 0, none⟩) (v := .int .i64 0) (by simp)
      have q1 := hxA.cell (p := ⟨w1.heap.size, 1, none⟩) (v := .slice none 0 0) (by simp)
      have HBA := Lib.hid (HB1.out.ext hxA)
      have HQA := Lib.hid (HQ1.out.ext hxA)
      have HKA := Lib.hid (HK1.out.ext hxA)
      clear HQ1 HB1 HK1 hxA
      -- 'return v, e' of a variable that holds no error
      have HR := Lib.hid (rq_end (f := none) (c := 0) (u := .slice none 0 0) HBA.out HQA.out HKA.out ⟨rfl, rfl⟩ hbw)
      obtain ⟨g0, g1, g2, g3⟩ := HBA.out.res
      go_wp2
      go_region
      go_wp2
      obtain ⟨y0, y1⟩ := res_cells g0 g1 (c := 0) (.slice none 0 0)
      exact bodyPost_ret (v := .tuple #[.int .i64 v, .agg #[.int .i64 0, .slice none 0 0]]) (by simp [results, Tryd.results54, go_sem, y0, y1]) rfl ⟨0, .slice none 0 0, by rw [HG.out], HR.out.1.ext (Ext.refl _).drew, by rw [HG.out]; exact HR.out.2.1.ext (Ext.refl _).drew, by rw [HG.out]; exact HR.out.2.2.ext (Ext.refl _).drew⟩
set_option maxHeartbeats 4000000 in
set_option maxRecDepth 20000 in
theorem rgetse_any (b p B0 : Nat) (most : Int) (bs : List Nat) (w : World) (h : RqAt w b bs p B0) (hp : p ≤ 8 * bs.length) :
    Calls Tryd.prog 55 #[.pointer (some ⟨b, 0, none⟩), .int .i64 most] w (RqPost w b B0 bs (sgG bs p most).2.1 (sgG bs p most).2.2 (sgG bs p most).1) := by
  have hbw : b < w.heap.size := h.lt
  have hne : w.heap.size ≠ b := by omega
  have HQ0 := Lib.hid (h.ext ((Ext.refl w).alloc (.cells #[.int .i64 0, .slice none 0 0] 39)))
  have HB := Lib.hid (RBox.new w)
  have HK := Lib.hid (Kp.of_ext (b := b) ((Ext.refl w).alloc (.cells #[.int .i64 0, .slice none 0 0] 39)))
  have U := Lib.hid (fun (w' : World) (h' : RqAt w' b bs p B0) => rue_any b p B0 bs w' h' hp)
  obtain ⟨R, hR⟩ : ∃ R, ueR bs 31 0 p = R := ⟨_, rfl⟩
  have hG : sgG bs p most = seB most R := by unfold sgG; rw [hR]
  have hC := fun v q (h : R = (none, v, q)) => ueR_code (bs := bs) (p := p) (q := q) (v := v) (hR.trans h)
  rw [hR] at U
  rw [hG]
  clear hG hR h hp
  obtain ⟨f, v, Z⟩ := R
  obtain ⟨G, hG⟩ : ∃ G, seB most (f, v, Z) = G := ⟨_, rfl⟩
  rw [hG]
  cases f with
  | some a =>
    have HG : Hid (G = (some a, 0, Z)) := hG.symm
    clear hG hC
    go_enter Tryd.func55, Tryd.ntmps55
    go_wp2_with fail
    refine (U.out _ HQ0.out).mono ?_; rintro e w1 ⟨c1, u1, rfl, k1, r1, e1⟩
    -- behind a call that failed: w1, c1, u1: k1 r1 e1, HB HK; hne : w.heap.size ≠ b, hbw; HG : R = (some .., 0, ..)
    obtain ⟨ua, un, uc, rfl⟩ := e1.form
    have hc0 : (c1 == 0) = false := by
      obtain ⟨h1, h2, -⟩ := e1
      rw [h1, beq_eq_false_iff_ne]
      exact h2
    have A1 : Ext w1 (w1.alloc (.cells #[.int .i64 c1, .slice ua un uc] 39)) := (Ext.refl w1).alloc _
    have HE1 := Lib.hid (e1.ext A1)
    have HQ1 := Lib.hid (r1.ext A1)
    have HB1 := Lib.hid ((HB.out.kp k1 hne).ext A1)
    have HK1 := Lib.hid ((HK.out.trans k1).ext A1)
    clear e1 r1 k1 A1
    go_wp2_with fail
    refine (ok_any c1 _ _).mono ?_; rintro e wA ⟨rfl, hxA⟩
    rw [hc0]
    have q0 := hxA.cell (p := ⟨w1.heap.size, 0, none⟩) (v := .int .i64 c1) (by simp)
    have q1 := hxA.cell (p := ⟨w1.heap.size, 1, none⟩) (v := .slice ua un uc) (by simp)
    have HBA := Lib.hid (HB1.out.ext hxA)
    have HR := Lib.hid (rq_end HBA.out (HQ1.out.ext hxA) (HK1.out.ext hxA) (HE1.out.ext hxA) hbw)
    obtain ⟨g0, g1, g2, g3⟩ := HBA.out.res
    clear HE1 HQ1 HB1 HK1 hxA hc0
    go_wp2
    go_region
    go_wp2
    obtain ⟨y0, y1⟩ := res_cells g0 g1 (c := c1) (.slice ua un uc)
    exact bodyPost_ret (v := .tuple #[.int .i64 0, .agg #[.int .i64 c1, .slice ua un uc]]) (by simp [results, Tryd.results55, go_sem, y0, y1]) rfl ⟨c1, .slice ua un uc, by rw [HG.out], HR.out.1.ext (Ext.refl _).drew, by rw [HG.out]; exact HR.out.2.1.ext (Ext.refl _).drew, by rw [HG.out]; exact HR.out.2.2.ext (Ext.refl _).drew⟩
  | none =>
    obtain ⟨V, hV1, hV2, -⟩ := hC v Z rfl
    have hub : -1073741824 ≤ unfoldI v ∧ unfoldI v ≤ 1073741824 := by
      unfold unfoldI
      split
      · omega
      · split <;> omega
    obtain ⟨s, hs⟩ : ∃ s, absI (unfoldI v) = s := ⟨_, rfl⟩
    have HB0 : Hid (G = if most < s ∨ 536870912 < s then (some ([(codesS, (Z : Int))], 3), 0, Z) else (none, unfoldI v, Z)) := by show _ = _; rw [← hG]; show (if _ then _ else _) = _; rw [show absI (unfoldI (none, v, Z).2.1) = s from hs]
    have L := Lib.hid (fun w => runfold_any v w)
    obtain ⟨u, hu⟩ : ∃ u, unfoldI v = u := ⟨_, rfl⟩
    rw [hu] at hs hub L HB0
    have i1 : IntKind.i64.wrap (-u) = -u := by rw [IntKind.wrap_i64]; omega
    have i2 : max u (-u) = s := hs
    have r2 := mx2
    clear hC hV1 hV2 hu hs hG
    by_cases hB : most < s ∨ 536870912 < s
    · have HG : Hid (G = (some ([(codesS, (Z : Int))], 3), 0, Z)) := by show _ = _; rw [HB0.out, if_pos hB]
      have hB2 : most < s ∨ ¬ most < s ∧ 536870912 < s := by omega
      clear hB HB0
      rcases hB2 with h1 | ⟨h1, h2⟩
      all_goals
        go_enter Tryd.func55, Tryd.ntmps55
        go_wp2_with fail
        refine (U.out _ HQ0.out).mono ?_; rintro e w1 ⟨c1, u1, rfl, k1, r1, e1⟩
        obtain ⟨rfl, rfl⟩ := e1
        -- behind a call that did not fail: w1, k1 r1 HB HK -> wA, HBA HQA HKA
        have A1 : Ext w1 (w1.alloc (.cells #[.int .i64 0, .slice none 0 0] 39)) := (Ext.refl w1).alloc _
        have HQ1 := Lib.hid (r1.ext A1)
        have HB1 := Lib.hid ((HB.out.kp k1 hne).ext A1)
        have HK1 := Lib.hid ((HK.out.trans k1).ext A1)
        clear r1 k1 A1
        go_wp2_with fail
        refine (ok_any 0 _ _).mono ?_; rintro e wA ⟨rfl, hxA⟩
        rw [show ((0 : Int) == 0) = true from rfl]
        have q0 := hxA.cell (p := ⟨w1.heap.size, 0, none⟩) (v := .int .i64 0) (by simp)
        have q1 := hxA.cell (p := ⟨w1.heap.size, 1, none⟩) (v := .slice none 0 0) (by simp)
        have HBA := Lib.hid (HB1.out.ext hxA)
        have HQA := Lib.hid (HQ1.out.ext hxA)
        have HKA := Lib.hid (HK1.out.ext hxA)
        clear HQ1 HB1 HK1 hxA
        go_wp2_with fail
        refine (L.out _).mono ?_; rintro e w3 ⟨rfl, rfl⟩
        -- HG : R = (some codes, 0, Z), HQA : RqAt wA .. Z
        obtain ⟨za, zcap, ⟨z0, z1, z2⟩, -, -⟩ := HQA.out
        go_wp2_with fail
        refine (wrap_any codesS (Z : Int) 3 _ (by decide)).mono ?_; rintro e w9 ⟨u9, rfl, ho9, hx9⟩
        obtain ⟨va, vc, rfl⟩ : ∃ va vc, u9 = .slice va 1 vc := by
          rcases ho9.2 with ⟨-, h0⟩ | ⟨g, cap, cur, rfl, -⟩
          · cases h0
          · exact ⟨_, _, rfl⟩
        have HB9 := Lib.hid (HBA.out.ext hx9)
        have HR := Lib.hid (rq_end (f := some ([(codesS, (Z : Int))], 3)) HB9.out (HQA.out.ext hx9) (HKA.out.ext hx9) ⟨rfl, by decide, Row.of_owns ho9⟩ hbw)
        obtain ⟨g0, g1, g2, g3⟩ := HB9.out.res
        clear ho9 hx9 z0 z1 z2
        go_wp2
        obtain ⟨y0, y1⟩ := res_cells g0 g1 (c := 3) (.slice va 1 vc)
        exact bodyPost_ret (v := .tuple #[.int .i64 0, .agg #[.int .i64 3, .slice va 1 vc]]) (by simp [results, Tryd.results55, go_sem, y0, y1]) rfl ⟨3, .slice va 1 vc, by rw [HG.out], HR.out.1, by rw [HG.out]; exact HR.out.2.1, by rw [HG.out]; exact HR.out.2.2⟩
    · have HG : Hid (G = (none, u, Z)) := by show _ = _; rw [HB0.out, if_neg hB]
      have h1 : ¬ most < s := by omega
      have h2 : ¬ 536870912 < s := by omega
      clear hB HB0
      go_enter Tryd.func55, Tryd.ntmps55
      go_wp2_with fail
      refine (U.out _ HQ0.out).mono ?_; rintro e w1 ⟨c1, u1, rfl, k1, r1, e1⟩
      obtain ⟨rfl, rfl⟩ := e1
      -- behind a call that did not fail: w1, k1 r1 HB HK -> wA, HBA HQA HKA
      have A1 : Ext w1 (w1.alloc (.cells #[.int .i64 0, .slice none 0 0] 39)) := (Ext.refl w1).alloc _
      have HQ1 := Lib.hid (r1.ext A1)
      have HB1 := Lib.hid ((HB.out.kp k1 hne).ext A1)
      have HK1 := Lib.hid ((HK.out.trans k1).ext A1)
      clear r1 k1 A1
      go_wp2_with fail
      refine (ok_any 0 _ _).mono ?_; rintro e wA ⟨rfl, hxA⟩
      rw [show ((0 : Int) == 0) = true from rfl]
      have q0 := hxA.cell (p := ⟨w1.heap.size, 0, none⟩) (v := .int .i64 0) (by simp)
      have q1 := hxA.cell (p := ⟨w1.heap.size, 1, none⟩) (v := .slice none 0 0) (by simp)
      have HBA := Lib.hid (HB1.out.ext hxA)
      have HQA := Lib.hid (HQ1.out.ext hxA)
      have HKA := Lib.hid (HK1.out.ext hxA)
      clear HQ1 HB1 HK1 hxA
      go_wp2_with fail
      refine (L.out _).mono ?_; rintro e w3 ⟨rfl, rfl⟩
      -- 'return v, e' of a variable that holds no error
      have HR := Lib.hid (rq_end (f := none) (c := 0) (u := .slice none 0 0) HBA.out HQA.out HKA.out ⟨rfl, rfl⟩ hbw)
      obtain ⟨g0, g1, g2, g3⟩ := HBA.out.res
      go_wp2
      go_region
      go_wp2
      obtain ⟨y0, y1⟩ := res_cells g0 g1 (c := 0) (.slice none 0 0)
      exact bodyPost_ret (v := .tuple #[.int .i64 u, .agg #[.int .i64 0, .slice none 0 0]]) (by simp [results, Tryd.results55, go_sem, y0, y1]) rfl ⟨0, .slice none 0 0, by rw [HG.out], HR.out.1.ext (Ext.refl _).drew, by rw [HG.out]; exact HR.out.2.1.ext (Ext.refl _).drew, by rw [HG.out]; exact HR.out.2.2.ext (Ext.refl _).drew⟩
set_option maxHeartbeats 8000000 in
set_option maxRecDepth 20000 in
theorem rgetri_any (b p B0 : Nat) (k most : Int) (bs : List Nat) (w : World) (h : RqAt w b bs p B0) (hp : p ≤ 8 * bs.length) :
    Calls Tryd.prog 56 #[.pointer (some ⟨b, 0, none⟩), .int .i64 k, .int .i64 most] w (RqPost w b B0 bs (rgG bs p k most).2.1 (rgG bs p k most).2.2 (rgG bs p k most).1) := by
  by_cases h3 : k < 0
  · have HG : Hid (rgG bs p k most = (range, 0, p)) := by show _ = _; unfold rgG; rw [if_neg (by omega)]
    have hbw : b < w.heap.size := h.lt
    have HQ := Lib.hid (h.ext ((Ext.refl w).alloc (.cells #[.int .i64 0, .slice none 0 0] 39)))
    have HB := Lib.hid (RBox.new w)
    have HK := Lib.hid (Kp.of_ext (b := b) ((Ext.refl w).alloc (.cells #[.int .i64 0, .slice none 0 0] 39)))
    clear h
    go_enter Tryd.func56, Tryd.ntmps56
    go_wp2_with fail
    refine (fail_any 3 _).mono ?_; rintro e w1 ⟨rfl, hx1⟩
    have HB1 := Lib.hid (HB.out.ext hx1)
    have HR := Lib.hid (rq_end (f := range) (c := 3) (u := .slice none 0 0) HB1.out (HQ.out.ext hx1) (HK.out.ext hx1) (RErrIs.code (by decide)) hbw)
    obtain ⟨g0, g1, g2, g3⟩ := HB1.out.res
    go_wp2
    obtain ⟨y0, y1⟩ := res_cells g0 g1 (c := 3) (.slice none 0 0)
    exact bodyPost_ret (v := .tuple #[.int .i64 0, .agg #[.int .i64 3, .slice none 0 0]]) (by simp [results, Tryd.results56, go_sem, y0, y1]) rfl ⟨3, .slice none 0 0, by rw [HG.out], HR.out.1, by rw [HG.out]; exact HR.out.2.1, by rw [HG.out]; exact HR.out.2.2⟩
  · by_cases h4 : 15 < k
    · have HG : Hid (rgG bs p k most = (range, 0, p)) := by show _ = _; unfold rgG; rw [if_neg (by omega)]
      have hbw : b < w.heap.size := h.lt
      have HQ := Lib.hid (h.ext ((Ext.refl w).alloc (.cells #[.int .i64 0, .slice none 0 0] 39)))
      have HB := Lib.hid (RBox.new w)
      have HK := Lib.hid (Kp.of_ext (b := b) ((Ext.refl w).alloc (.cells #[.int .i64 0, .slice none 0 0] 39)))
      clear h
      go_enter Tryd.func56, Tryd.ntmps56
      go_wp2_with fail
      refine (fail_any 3 _).mono ?_; rintro e w1 ⟨rfl, hx1⟩
      have HB1 := Lib.hid (HB.out.ext hx1)
      have HR := Lib.hid (rq_end (f := range) (c := 3) (u := .slice none 0 0) HB1.out (HQ.out.ext hx1) (HK.out.ext hx1) (RErrIs.code (by decide)) hbw)
      obtain ⟨g0, g1, g2, g3⟩ := HB1.out.res
      go_wp2
      obtain ⟨y0, y1⟩ := res_cells g0 g1 (c := 3) (.slice none 0 0)
      exact bodyPost_ret (v := .tuple #[.int .i64 0, .agg #[.int .i64 3, .slice none 0 0]]) (by simp [results, Tryd.results56, go_sem, y0, y1]) rfl ⟨3, .slice none 0 0, by rw [HG.out], HR.out.1, by rw [HG.out]; exact HR.out.2.1, by rw [HG.out]; exact HR.out.2.2⟩
    · obtain ⟨K, rfl⟩ : ∃ K : Nat, k = (K : Int) := ⟨k.toNat, by omega⟩
      have hG0 : rgG bs p (K : Int) most = riE bs K most (riQ bs 24 0 p) := by unfold rgG; rw [if_pos (by omega)]; rfl
      rw [hG0]
      obtain ⟨RQ, hRQ⟩ : ∃ RQ, riQ bs 24 0 p = RQ := ⟨_, rfl⟩
      rw [hRQ]
      obtain ⟨R, hR⟩ : ∃ R, riE bs K most RQ = R := ⟨_, rfl⟩
      rw [hR]
      have HR0 := Lib.hid hR
      have HRQ0 := Lib.hid hRQ
      obtain ⟨n, hn⟩ : ∃ n, n = 8 * bs.length := ⟨_, rfl⟩
      have HN := Lib.hid hn
      have hnb : n ≤ 1125899906842624 := by have := h.small; omega
      rw [← hn] at hp
      have hbw : b < w.heap.size := h.lt
      have hne : w.heap.size ≠ b := by omega
      have HA0 := Lib.hid (h.ext ((Ext.refl w).alloc (.cells #[.int .i64 0, .slice none 0 0] 39)))
      obtain ⟨M, hMM⟩ : ∃ M, 2 ^ K = M := ⟨_, rfl⟩
      have jp : (2 : Int) ^ K = (M : Int) := by rw [← hMM]; simp
      have k8 : IntKind.u64.wrap (K : Int) = (K : Int) := by rw [IntKind.wrap_u64]; omega
      have k9 : (0 : Int) ≤ (K : Int) ∧ (K : Int) ≤ 64 := by omega
      have UE := Lib.hid (fun (w' : World) (P : Nat) (h' : RqAt w' b bs P B0) (hP : P = n) => rqget_end b P 1 B0 bs w' h' (by omega) (by omega) (by omega))
      have UB := Lib.hid (fun (w' : World) (P x : Nat) (h' : RqAt w' b bs P B0) (hP : P < n) (hx : btN bs P = x) => rqget_bit b P x B0 bs w' h' (by omega) hx)
      have UGt := Lib.hid (fun (w' : World) (P N : Nat) (h' : RqAt w' b bs P B0) (hP : P + N ≤ n) (hN : N ≤ 32) => rqget_yes b P N B0 bs w' h' (by omega) hN)
      have UNt := Lib.hid (fun (w' : World) (P N : Nat) (h' : RqAt w' b bs P B0) (hP : P ≤ n) (he : n < P + N) (hN : N ≤ 32) => rqget_end b P N B0 bs w' h' (by omega) hN (by omega))
      clear hn h hR hRQ hG0 hMM
      go_enter Tryd.func56, Tryd.ntmps56
      go_wp2_with fail
      go_loopw [8] (fun qv wr => ∃ q : Nat, q ≤ 24 ∧ qv = .int .i64 (q : Int) ∧ p + q ≤ n ∧ Hid (riQ bs (24 - q) q (p + q) = RQ) ∧ Hid (RqAt wr b bs (p + q) B0) ∧ Hid (Kp b w wr) ∧ Hid (RBox wr w.heap.size)) (fun qv _ => 24 - (intOf qv).toNat)
      case atStart => exact ⟨0, by omega, rfl, hp, HRQ0.out, HA0.out, Kp.of_ext ((Ext.refl w).alloc _), RBox.new w⟩
      case round =>
        clear HA0 HRQ0
        obtain ⟨q, hq, rfl, hqn, HR, HQ, HK, HB⟩ := hrel
        by_cases hq24 : q = 24
        · subst hq24
          obtain ⟨P, hP⟩ : ∃ P, p + 24 = P := ⟨_, rfl⟩
          rw [hP] at HR HQ hqn
          have hPn := hqn
          have HRQ : Hid (RQ = (none, 24, P)) := by show _ = _; rw [← HR.out]; rfl
          obtain ⟨wz, hwz⟩ : ∃ wz, wz = wr := ⟨_, rfl⟩
          subst hwz
          clear hP HR
          -- in hand: wz, HQ : RqAt at P, HK, HB, HRQ : RQ = (none, 24, P), hPn : P ≤ n
          have hRz : R = riZ bs K most 24 P := by rw [← HR0.out]; unfold riE; rw [HRQ.out]
          by_cases hG : P + 31 ≤ n
          · have UG := Lib.hid (UGt.out wz P 31 HQ.out hG (by omega))
            have hl := nmN_lt bs P 31
            obtain ⟨V, hV⟩ : ∃ V, nmN bs P 31 = V := ⟨_, rfl⟩
            obtain ⟨Z, hZ⟩ : ∃ Z, P + 31 = Z := ⟨_, rfl⟩
            have hRv : R = if riX K 24 most V then (some ([(codesS, (Z : Int))], 3), 0, Z) else (none, (V : Int), Z) := by
              rw [hRz]
              unfold riZ
              rw [show riW K 24 = 31 from rfl, if_pos (by rw [← HN.out]; exact hG), show ∀ x, riN K 24 x = x from fun x => rfl, hV, hZ]
            rw [hV] at UG hl
            rw [hZ] at UG
            obtain ⟨X, hX⟩ : ∃ X, V / 2 ^ K = X := ⟨_, rfl⟩
            have i1 : (V : Int) / 2 ^ K = (X : Int) := by rw [← hX]; simp
            have i1' : (V : Int) / (M : Int) = (X : Int) := by rw [← jp]; exact i1
            have hXV : X ≤ V := by rw [← hX]; exact Nat.div_le_self _ _
            have i4 : IntKind.i64.wrap (X : Int) = (X : Int) := by rw [IntKind.wrap_i64]; omega
            have HX := Lib.hid hX
            clear hV hZ hRz hX
            by_cases t1 : most < (V : Int)
            · have HG : Hid (R = (some ([(codesS, (Z : Int))], 3), 0, Z)) := by show _ = _; rw [hRv, if_pos (by unfold riX; exact .inl t1)]
              clear hRv
              go_wp2_with fail
              refine (UG.out).mono ?_; rintro e w1 ⟨c1, u1, rfl, k1, r1, e1⟩
              obtain ⟨rfl, rfl⟩ := e1
              -- behind a call that did not fail: w1, k1 r1 HB HK -> wA, HBA HQA HKA
              have A1 : Ext w1 (w1.alloc (.cells #[.int .i64 0, .slice none 0 0] 39)) := (Ext.refl w1).alloc _
              have HQ1 := Lib.hid (r1.ext A1)
              have HB1 := Lib.hid ((HB.out.kp k1 hne).ext A1)
              have HK1 := Lib.hid ((HK.out.trans k1).ext A1)
              clear r1 k1 A1
              go_wp2_with fail
              refine (ok_any 0 _ _).mono ?_; rintro e wA ⟨rfl, hxA⟩
              rw [show ((0 : Int) == 0) = true from rfl]
              have q0 := hxA.cell (p := ⟨w1.heap.size, 0, none⟩) (v := .int .i64 0) (by simp)
              have q1 := hxA.cell (p := ⟨w1.heap.size, 1, none⟩) (v := .slice none 0 0) (by simp)
              have HBA := Lib.hid (HB1.out.ext hxA)
              have HQA := Lib.hid (HQ1.out.ext hxA)
              have HKA := Lib.hid (HK1.out.ext hxA)
              clear HQ1 HB1 HK1 hxA
              -- HG : R = (some codes, 0, Z), HQA : RqAt wA .. Z
              obtain ⟨za, zcap, ⟨z0, z1, z2⟩, -, -⟩ := HQA.out
              go_wp2_with fail
              refine (wrap_any codesS (Z : Int) 3 _ (by decide)).mono ?_; rintro e w9 ⟨u9, rfl, ho9, hx9⟩
              obtain ⟨va, vc, rfl⟩ : ∃ va vc, u9 = .slice va 1 vc := by
                rcases ho9.2 with ⟨-, h0⟩ | ⟨g, cap, cur, rfl, -⟩
                · cases h0
                · exact ⟨_, _, rfl⟩
              have HB9 := Lib.hid (HBA.out.ext hx9)
              have HR := Lib.hid (rq_end (f := some ([(codesS, (Z : Int))], 3)) HB9.out (HQA.out.ext hx9) (HKA.out.ext hx9) ⟨rfl, by decide, Row.of_owns ho9⟩ hbw)
              obtain ⟨g0, g1, g2, g3⟩ := HB9.out.res
              clear ho9 hx9 z0 z1 z2
              go_wp2
              obtain ⟨y0, y1⟩ := res_cells g0 g1 (c := 3) (.slice va 1 vc)
              exact bodyPost_ret (v := .tuple #[.int .i64 0, .agg #[.int .i64 3, .slice va 1 vc]]) (by simp [results, Tryd.results56, go_sem, y0, y1]) rfl ⟨3, .slice va 1 vc, by rw [HG.out], HR.out.1, by rw [HG.out]; exact HR.out.2.1, by rw [HG.out]; exact HR.out.2.2⟩
            · by_cases t2 : 1073741824 < V
              · have HG : Hid (R = (some ([(codesS, (Z : Int))], 3), 0, Z)) := by show _ = _; rw [hRv, if_pos (by unfold riX; exact .inr (.inl t2))]
                have t2' : (1073741824 : Int) < (V : Int) := by omega
                clear hRv
                go_wp2_with fail
                refine (UG.out).mono ?_; rintro e w1 ⟨c1, u1, rfl, k1, r1, e1⟩
                obtain ⟨rfl, rfl⟩ := e1
                -- behind a call that did not fail: w1, k1 r1 HB HK -> wA, HBA HQA HKA
                have A1 : Ext w1 (w1.alloc (.cells #[.int .i64 0, .slice none 0 0] 39)) := (Ext.refl w1).alloc _
                have HQ1 := Lib.hid (r1.ext A1)
                have HB1 := Lib.hid ((HB.out.kp k1 hne).ext A1)
                have HK1 := Lib.hid ((HK.out.trans k1).ext A1)
                clear r1 k1 A1
                go_wp2_with fail
                refine (ok_any 0 _ _).mono ?_; rintro e wA ⟨rfl, hxA⟩
                rw [show ((0 : Int) == 0) = true from rfl]
                have q0 := hxA.cell (p := ⟨w1.heap.size, 0, none⟩) (v := .int .i64 0) (by simp)
                have q1 := hxA.cell (p := ⟨w1.heap.size, 1, none⟩) (v := .slice none 0 0) (by simp)
                have HBA := Lib.hid (HB1.out.ext hxA)
                have HQA := Lib.hid (HQ1.out.ext hxA)
                have HKA := Lib.hid (HK1.out.ext hxA)
                clear HQ1 HB1 HK1 hxA
                -- HG : R = (some codes, 0, Z), HQA : RqAt wA .. Z
                obtain ⟨za, zcap, ⟨z0, z1, z2⟩, -, -⟩ := HQA.out
                go_wp2_with fail
                refine (wrap_any codesS (Z : Int) 3 _ (by decide)).mono ?_; rintro e w9 ⟨u9, rfl, ho9, hx9⟩
                obtain ⟨va, vc, rfl⟩ : ∃ va vc, u9 = .slice va 1 vc := by
                  rcases ho9.2 with ⟨-, h0⟩ | ⟨g, cap, cur, rfl, -⟩
                  · cases h0
                  · exact ⟨_, _, rfl⟩
                have HB9 := Lib.hid (HBA.out.ext hx9)
                have HR := Lib.hid (rq_end (f := some ([(codesS, (Z : Int))], 3)) HB9.out (HQA.out.ext hx9) (HKA.out.ext hx9) ⟨rfl, by decide, Row.of_owns ho9⟩ hbw)
                obtain ⟨g0, g1, g2, g3⟩ := HB9.out.res
                clear ho9 hx9 z0 z1 z2
                go_wp2
                obtain ⟨y0, y1⟩ := res_cells g0 g1 (c := 3) (.slice va 1 vc)
                exact bodyPost_ret (v := .tuple #[.int .i64 0, .agg #[.int .i64 3, .slice va 1 vc]]) (by simp [results, Tryd.results56, go_sem, y0, y1]) rfl ⟨3, .slice va 1 vc, by rw [HG.out], HR.out.1, by rw [HG.out]; exact HR.out.2.1, by rw [HG.out]; exact HR.out.2.2⟩
              · have t2' : ¬ (1073741824 : Int) < (V : Int) := by omega
                by_cases t3 : X < 24
                · have HG : Hid (R = (some ([(codesS, (Z : Int))], 3), 0, Z)) := by show _ = _; rw [hRv, if_pos (by unfold riX; rw [HX.out]; exact .inr (.inr ⟨rfl, t3⟩))]
                  have t3' : (X : Int) < 24 := by omega
                  clear hRv
                  go_wp2_with fail
                  refine (UG.out).mono ?_; rintro e w1 ⟨c1, u1, rfl, k1, r1, e1⟩
                  obtain ⟨rfl, rfl⟩ := e1
                  -- behind a call that did not fail: w1, k1 r1 HB HK -> wA, HBA HQA HKA
                  have A1 : Ext w1 (w1.alloc (.cells #[.int .i64 0, .slice none 0 0] 39)) := (Ext.refl w1).alloc _
                  have HQ1 := Lib.hid (r1.ext A1)
                  have HB1 := Lib.hid ((HB.out.kp k1 hne).ext A1)
                  have HK1 := Lib.hid ((HK.out.trans k1).ext A1)
                  clear r1 k1 A1
                  go_wp2_with fail
                  refine (ok_any 0 _ _).mono ?_; rintro e wA ⟨rfl, hxA⟩
                  rw [show ((0 : Int) == 0) = true from rfl]
                  have q0 := hxA.cell (p := ⟨w1.heap.size, 0, none⟩) (v := .int .i64 0) (by simp)
                  have q1 := hxA.cell (p := ⟨w1.heap.size, 1, none⟩) (v := .slice none 0 0) (by simp)
                  have HBA := Lib.hid (HB1.out.ext hxA)
                  have HQA := Lib.hid (HQ1.out.ext hxA)
                  have HKA := Lib.hid (HK1.out.ext hxA)
                  clear HQ1 HB1 HK1 hxA
                  -- HG : R = (some codes, 0, Z), HQA : RqAt wA .. Z
                  obtain ⟨za, zcap, ⟨z0, z1, z2⟩, -, -⟩ := HQA.out
                  go_wp2_with fail
                  refine (wrap_any codesS (Z : Int) 3 _ (by decide)).mono ?_; rintro e w9 ⟨u9, rfl, ho9, hx9⟩
                  obtain ⟨va, vc, rfl⟩ : ∃ va vc, u9 = .slice va 1 vc := by
                    rcases ho9.2 with ⟨-, h0⟩ | ⟨g, cap, cur, rfl, -⟩
                    · cases h0
                    · exact ⟨_, _, rfl⟩
                  have HB9 := Lib.hid (HBA.out.ext hx9)
                  have HR := Lib.hid (rq_end (f := some ([(codesS, (Z : Int))], 3)) HB9.out (HQA.out.ext hx9) (HKA.out.ext hx9) ⟨rfl, by decide, Row.of_owns ho9⟩ hbw)
                  obtain ⟨g0, g1, g2, g3⟩ := HB9.out.res
                  clear ho9 hx9 z0 z1 z2
                  go_wp2
                  obtain ⟨y0, y1⟩ := res_cells g0 g1 (c := 3) (.slice va 1 vc)
                  exact bodyPost_ret (v := .tuple #[.int .i64 0, .agg #[.int .i64 3, .slice va 1 vc]]) (by simp [results, Tryd.results56, go_sem, y0, y1]) rfl ⟨3, .slice va 1 vc, by rw [HG.out], HR.out.1, by rw [HG.out]; exact HR.out.2.1, by rw [HG.out]; exact HR.out.2.2⟩
                · have HG : Hid (R = (none, (V : Int), Z)) := by show _ = _; rw [hRv, if_neg (by unfold riX; rw [HX.out]; omega)]
                  have t3' : ¬ (X : Int) < 24 := by omega
                  clear hRv
                  go_wp2_with fail
                  refine (UG.out).mono ?_; rintro e w1 ⟨c1, u1, rfl, k1, r1, e1⟩
                  obtain ⟨rfl, rfl⟩ := e1
                  -- behind a call that did not fail: w1, k1 r1 HB HK -> wA, HBA HQA HKA
                  have A1 : Ext w1 (w1.alloc (.cells #[.int .i64 0, .slice none 0 0] 39)) := (Ext.refl w1).alloc _
                  have HQ1 := Lib.hid (r1.ext A1)
                  have HB1 := Lib.hid ((HB.out.kp k1 hne).ext A1)
                  have HK1 := Lib.hid ((HK.out.trans k1).ext A1)
                  clear r1 k1 A1
                  go_wp2_with fail
                  refine (ok_any 0 _ _).mono ?_; rintro e wA ⟨rfl, hxA⟩
                  rw [show ((0 : Int) == 0) = true from rfl]
                  have q0 := hxA.cell (p := ⟨w1.heap.size, 0, none⟩) (v := .int .i64 0) (by simp)
                  have q1 := hxA.cell (p := ⟨w1.heap.size, 1, none⟩) (v := .slice none 0 0) (by simp)
                  have HBA := Lib.hid (HB1.out.ext hxA)
                  have HQA := Lib.hid (HQ1.out.ext hxA)
                  have HKA := Lib.hid (HK1.out.ext hxA)
                  clear HQ1 HB1 HK1 hxA
                  -- 'return v, e' of a variable that holds no error
                  have HR := Lib.hid (rq_end (f := none) (c := 0) (u := .slice none 0 0) HBA.out HQA.out HKA.out ⟨rfl, rfl⟩ hbw)
                  obtain ⟨g0, g1, g2, g3⟩ := HBA.out.res
                  go_wp2
                  go_region
                  go_wp2
                  obtain ⟨y0, y1⟩ := res_cells g0 g1 (c := 0) (.slice none 0 0)
                  exact bodyPost_ret (v := .tuple #[.int .i64 (V : Int), .agg #[.int .i64 0, .slice none 0 0]]) (by simp [results, Tryd.results56, go_sem, y0, y1]) rfl ⟨0, .slice none 0 0, by rw [HG.out], HR.out.1.ext (Ext.refl _).drew, by rw [HG.out]; exact HR.out.2.1.ext (Ext.refl _).drew, by rw [HG.out]; exact HR.out.2.2.ext (Ext.refl _).drew⟩
          · have HG : Hid (R = (some ([(bitsS, (P : Int))], 1), 0, P)) := by
              show _ = _
              rw [hRz]
              unfold riZ
              rw [show riW K 24 = 31 from rfl, if_neg (by rw [← HN.out]; exact hG)]
            have UN2 := Lib.hid (UNt.out wz P 31 HQ.out hPn (by omega) (by omega))
            clear hRz
            go_wp2_with fail
            refine (UN2.out).mono ?_; rintro e w1 ⟨c1, u1, rfl, k1, r1, e1⟩
            -- behind a call that failed: w1, c1, u1: k1 r1 e1, HB HK; hne : w.heap.size ≠ b, hbw; HG : R = (some .., 0, ..)
            obtain ⟨ua, un, uc, rfl⟩ := e1.form
            have hc0 : (c1 == 0) = false := by
              obtain ⟨h1, h2, -⟩ := e1
              rw [h1, beq_eq_false_iff_ne]
              exact h2
            have A1 : Ext w1 (w1.alloc (.cells #[.int .i64 c1, .slice ua un uc] 39)) := (Ext.refl w1).alloc _
            have HE1 := Lib.hid (e1.ext A1)
            have HQ1 := Lib.hid (r1.ext A1)
            have HB1 := Lib.hid ((HB.out.kp k1 hne).ext A1)
            have HK1 := Lib.hid ((HK.out.trans k1).ext A1)
            clear e1 r1 k1 A1
            go_wp2_with fail
            refine (ok_any c1 _ _).mono ?_; rintro e wA ⟨rfl, hxA⟩
            rw [hc0]
            have q0 := hxA.cell (p := ⟨w1.heap.size, 0, none⟩) (v := .int .i64 c1) (by simp)
            have q1 := hxA.cell (p := ⟨w1.heap.size, 1, none⟩) (v := .slice ua un uc) (by simp)
            have HBA := Lib.hid (HB1.out.ext hxA)
            have HR := Lib.hid (rq_end HBA.out (HQ1.out.ext hxA) (HK1.out.ext hxA) (HE1.out.ext hxA) hbw)
            obtain ⟨g0, g1, g2, g3⟩ := HBA.out.res
            clear HE1 HQ1 HB1 HK1 hxA hc0
            go_wp2
            go_region
            go_wp2
            obtain ⟨y0, y1⟩ := res_cells g0 g1 (c := c1) (.slice ua un uc)
            exact bodyPost_ret (v := .tuple #[.int .i64 0, .agg #[.int .i64 c1, .slice ua un uc]]) (by simp [results, Tryd.results56, go_sem, y0, y1]) rfl ⟨c1, .slice ua un uc, by rw [HG.out], HR.out.1.ext (Ext.refl _).drew, by rw [HG.out]; exact HR.out.2.1.ext (Ext.refl _).drew, by rw [HG.out]; exact HR.out.2.2.ext (Ext.refl _).drew⟩
        · have hql : (q : Int) < 24 := by omega
          obtain ⟨P, hP⟩ : ∃ P, p + q = P := ⟨_, rfl⟩
          have HPq := Lib.hid hP
          rw [hP] at HR HQ hqn
          rw [show 24 - q = (23 - q) + 1 by omega] at HR
          clear hP
          by_cases hE : P = n
          · have hRQ : RQ = (some ([(bitsS, (P : Int))], 1), q, P) := by rw [← HR.out]; exact riQ_end (by rw [← HN.out]; omega)
            have HG : Hid (R = (some ([(bitsS, (P : Int))], 1), 0, P)) := by show _ = _; rw [← HR0.out]; unfold riE; rw [hRQ]
            have HE := Lib.hid (UE.out wr P HQ.out hE)
            clear hRQ HR hE
            go_wp2_with fail
            refine (HE.out).mono ?_; rintro e w1 ⟨c1, u1, rfl, k1, r1, e1⟩
            -- behind a call that failed: w1, c1, u1: k1 r1 e1, HB HK; hne : w.heap.size ≠ b, hbw; HG : R = (some .., 0, ..)
            obtain ⟨ua, un, uc, rfl⟩ := e1.form
            have hc0 : (c1 == 0) = false := by
              obtain ⟨h1, h2, -⟩ := e1
              rw [h1, beq_eq_false_iff_ne]
              exact h2
            have A1 : Ext w1 (w1.alloc (.cells #[.int .i64 c1, .slice ua un uc] 39)) := (Ext.refl w1).alloc _
            have HE1 := Lib.hid (e1.ext A1)
            have HQ1 := Lib.hid (r1.ext A1)
            have HB1 := Lib.hid ((HB.out.kp k1 hne).ext A1)
            have HK1 := Lib.hid ((HK.out.trans k1).ext A1)
            clear e1 r1 k1 A1
            go_wp2_with fail
            refine (ok_any c1 _ _).mono ?_; rintro e wA ⟨rfl, hxA⟩
            rw [hc0]
            have q0 := hxA.cell (p := ⟨w1.heap.size, 0, none⟩) (v := .int .i64 c1) (by simp)
            have q1 := hxA.cell (p := ⟨w1.heap.size, 1, none⟩) (v := .slice ua un uc) (by simp)
            have HBA := Lib.hid (HB1.out.ext hxA)
            have HR := Lib.hid (rq_end HBA.out (HQ1.out.ext hxA) (HK1.out.ext hxA) (HE1.out.ext hxA) hbw)
            obtain ⟨g0, g1, g2, g3⟩ := HBA.out.res
            clear HE1 HQ1 HB1 HK1 hxA hc0
            go_wp2
            go_region
            go_wp2
            obtain ⟨y0, y1⟩ := res_cells g0 g1 (c := c1) (.slice ua un uc)
            exact bodyPost_ret (v := .tuple #[.int .i64 0, .agg #[.int .i64 c1, .slice ua un uc]]) (by simp [results, Tryd.results56, go_sem, y0, y1]) rfl ⟨c1, .slice ua un uc, by rw [HG.out], HR.out.1.ext (Ext.refl _).drew, by rw [HG.out]; exact HR.out.2.1.ext (Ext.refl _).drew, by rw [HG.out]; exact HR.out.2.2.ext (Ext.refl _).drew⟩
          · have hPn1 : P < n := by omega
            by_cases hB : btN bs P = 1
            · have HC := Lib.hid (UB.out wr P 1 HQ.out hPn1 hB)
              have HRQ : Hid (riQ bs (23 - q) (q + 1) (P + 1) = RQ) := by show _ = _; rw [← HR.out]; exact (riQ_one (by rw [← HN.out]; omega) hB).symm
              clear HR hB hE
              go_wp2_with fail
              refine (HC.out).mono ?_; rintro e w1 ⟨c1, u1, rfl, k1, r1, e1⟩
              obtain ⟨rfl, rfl⟩ := e1
              -- behind a call that did not fail: w1, k1 r1 HB HK -> wA, HBA HQA HKA
              have A1 : Ext w1 (w1.alloc (.cells #[.int .i64 0, .slice none 0 0] 39)) := (Ext.refl w1).alloc _
              have HQ1 := Lib.hid (r1.ext A1)
              have HB1 := Lib.hid ((HB.out.kp k1 hne).ext A1)
              have HK1 := Lib.hid ((HK.out.trans k1).ext A1)
              clear r1 k1 A1
              go_wp2_with fail
              refine (ok_any 0 _ _).mono ?_; rintro e wA ⟨rfl, hxA⟩
              rw [show ((0 : Int) == 0) = true from rfl]
              have q0 := hxA.cell (p := ⟨w1.heap.size, 0, none⟩) (v := .int .i64 0) (by simp)
              have q1 := hxA.cell (p := ⟨w1.heap.size, 1, none⟩) (v := .slice none 0 0) (by simp)
              have HBA := Lib.hid (HB1.out.ext hxA)
              have HQA := Lib.hid (HQ1.out.ext hxA)
              have HKA := Lib.hid (HK1.out.ext hxA)
              clear HQ1 HB1 HK1 hxA
              go_wp2
              go_roundw
              case rel => exact ⟨q + 1, by omega, by go_num, by have := HPq.out; omega, by show _ = _; rw [show 24 - (q + 1) = 23 - q by omega, show p + (q + 1) = P + 1 by have := HPq.out; omega]; exact HRQ.out, by show RqAt _ _ _ _ _; rw [show p + (q + 1) = P + 1 by have := HPq.out; omega]; exact HQA.out, HKA.out, HBA.out⟩
              case measure => simp [intOf]; omega
            · have hb0 : btN bs P = 0 := by have := btN_lt bs P; omega
              have HC := Lib.hid (UB.out wr P 0 HQ.out hPn1 hb0)
              have HRQ : Hid (RQ = (none, q, P + 1)) := by show _ = _; rw [← HR.out]; exact riQ_nil (by rw [← HN.out]; omega) hB
              clear HR hB hb0 hE
              go_wp2_with fail
              refine (HC.out).mono ?_; rintro e w1 ⟨c1, u1, rfl, k1, r1, e1⟩
              obtain ⟨rfl, rfl⟩ := e1
              -- behind a call that did not fail: w1, k1 r1 HB HK -> wA, HBA HQA HKA
              have A1 : Ext w1 (w1.alloc (.cells #[.int .i64 0, .slice none 0 0] 39)) := (Ext.refl w1).alloc _
              have HQ1 := Lib.hid (r1.ext A1)
              have HB1 := Lib.hid ((HB.out.kp k1 hne).ext A1)
              have HK1 := Lib.hid ((HK.out.trans k1).ext A1)
              clear r1 k1 A1
              go_wp2_with fail
              refine (ok_any 0 _ _).mono ?_; rintro e wA ⟨rfl, hxA⟩
              rw [show ((0 : Int) == 0) = true from rfl]
              have q0 := hxA.cell (p := ⟨w1.heap.size, 0, none⟩) (v := .int .i64 0) (by simp)
              have q1 := hxA.cell (p := ⟨w1.heap.size, 1, none⟩) (v := .slice none 0 0) (by simp)
              have HBA := Lib.hid (HB1.out.ext hxA)
              have HQA := Lib.hid (HQ1.out.ext hxA)
              have HKA := Lib.hid (HK1.out.ext hxA)
              clear HQ1 HB1 HK1 hxA
              obtain ⟨P1, hP1⟩ : ∃ P1, P + 1 = P1 := ⟨_, rfl⟩
              rw [hP1] at HQA HRQ
              have hPn : P1 ≤ n := by omega
              have HQ2 := HQA
              have HK2 := HKA
              have HB2 := HBA
              clear HQ HK HB HQA HKA HBA hP1 q0 q1 HC
              have HQ := HQ2
              have HK := HK2
              have HB := HB2
              clear HQ2 HK2 HB2
              obtain ⟨wz, hwz⟩ : ∃ wz, wz = wA := ⟨_, rfl⟩
              subst hwz
              -- in hand: wz, HQ : RqAt at P1, HK HB, HRQ : RQ = (none, q, P1), hPn : P1 ≤ n, q < 24
              have hRz : R = riZ bs K most q P1 := by rw [← HR0.out]; unfold riE; rw [HRQ.out]
              have hw : riW K q = K := by unfold riW; rw [if_neg (by omega)]
              have q24 : ((q : Int) == 24) = false := by rw [beq_eq_false_iff_ne]; omega
              by_cases hG : P1 + K ≤ n
              · have UG := Lib.hid (UGt.out wz P1 K HQ.out hG (by omega))
                have hl := nmN_lt bs P1 K
                have hM : 2 ^ K ≤ 2 ^ 15 := Nat.pow_le_pow_right (by decide) (by omega)
                have hqM : q * 2 ^ K ≤ 24 * 2 ^ 15 := Nat.mul_le_mul (by omega) hM
                obtain ⟨x, hx⟩ : ∃ x, nmN bs P1 K = x := ⟨_, rfl⟩
                obtain ⟨Z, hZ⟩ : ∃ Z, P1 + K = Z := ⟨_, rfl⟩
                obtain ⟨Y, hY⟩ : ∃ Y, q * 2 ^ K = Y := ⟨_, rfl⟩
                obtain ⟨V, hV⟩ : ∃ V, x + Y = V := ⟨_, rfl⟩
                have hRv : R = if riX K q most V then (some ([(codesS, (Z : Int))], 3), 0, Z) else (none, (V : Int), Z) := by
                  rw [hRz]
                  unfold riZ
                  rw [hw, if_pos (by rw [← HN.out]; exact hG), show ∀ x, riN K q x = x + q * 2 ^ K from fun x => by unfold riN; rw [if_neg (by omega)], hx, hY, hV, hZ]
                rw [hx] at UG hl
                rw [hZ] at UG
                rw [hY] at hqM
                have i1 : (q : Int) * 2 ^ K = (Y : Int) := by rw [← hY]; simp
                have i1' : (q : Int) * (M : Int) = (Y : Int) := by rw [← jp]; exact i1
                have i2 : IntKind.i64.wrap (Y : Int) = (Y : Int) := by rw [IntKind.wrap_i64]; omega
                have i4 : IntKind.i64.wrap ((Y : Int) + (x : Int)) = (V : Int) := by rw [IntKind.wrap_i64]; omega
                clear hx hZ hRz hY hV
                by_cases t1 : most < (V : Int)
                · have HG : Hid (R = (some ([(codesS, (Z : Int))], 3), 0, Z)) := by show _ = _; rw [hRv, if_pos (by unfold riX; exact .inl t1)]
                  clear hRv
                  go_wp2_with fail
                  refine (UG.out).mono ?_; rintro e w1 ⟨c1, u1, rfl, k1, r1, e1⟩
                  obtain ⟨rfl, rfl⟩ := e1
                  -- behind a call that did not fail: w1, k1 r1 HB HK -> wA, HBA HQA HKA
                  have A1 : Ext w1 (w1.alloc (.cells #[.int .i64 0, .slice none 0 0] 39)) := (Ext.refl w1).alloc _
                  have HQ1 := Lib.hid (r1.ext A1)
                  have HB1 := Lib.hid ((HB.out.kp k1 hne).ext A1)
                  have HK1 := Lib.hid ((HK.out.trans k1).ext A1)
                  clear r1 k1 A1
                  go_wp2_with fail
                  refine (ok_any 0 _ _).mono ?_; rintro e wA ⟨rfl, hxA⟩
                  rw [show ((0 : Int) == 0) = true from rfl]
                  have q0 := hxA.cell (p := ⟨w1.heap.size, 0, none⟩) (v := .int .i64 0) (by simp)
                  have q1 := hxA.cell (p := ⟨w1.heap.size, 1, none⟩) (v := .slice none 0 0) (by simp)
                  have HBA := Lib.hid (HB1.out.ext hxA)
                  have HQA := Lib.hid (HQ1.out.ext hxA)
                  have HKA := Lib.hid (HK1.out.ext hxA)
                  clear HQ1 HB1 HK1 hxA
                  -- HG : R = (some codes, 0, Z), HQA : RqAt wA .. Z
                  obtain ⟨za, zcap, ⟨z0, z1, z2⟩, -, -⟩ := HQA.out
                  go_wp2_with fail
                  refine (wrap_any codesS (Z : Int) 3 _ (by decide)).mono ?_; rintro e w9 ⟨u9, rfl, ho9, hx9⟩
                  obtain ⟨va, vc, rfl⟩ : ∃ va vc, u9 = .slice va 1 vc := by
                    rcases ho9.2 with ⟨-, h0⟩ | ⟨g, cap, cur, rfl, -⟩
                    · cases h0
                    · exact ⟨_, _, rfl⟩
                  have HB9 := Lib.hid (HBA.out.ext hx9)
                  have HR := Lib.hid (rq_end (f := some ([(codesS, (Z : Int))], 3)) HB9.out (HQA.out.ext hx9) (HKA.out.ext hx9) ⟨rfl, by decide, Row.of_owns ho9⟩ hbw)
                  obtain ⟨g0, g1, g2, g3⟩ := HB9.out.res
                  clear ho9 hx9 z0 z1 z2
                  go_wp2
                  obtain ⟨y0, y1⟩ := res_cells g0 g1 (c := 3) (.slice va 1 vc)
                  exact bodyPost_ret (v := .tuple #[.int .i64 0, .agg #[.int .i64 3, .slice va 1 vc]]) (by simp [results, Tryd.results56, go_sem, y0, y1]) rfl ⟨3, .slice va 1 vc, by rw [HG.out], HR.out.1, by rw [HG.out]; exact HR.out.2.1, by rw [HG.out]; exact HR.out.2.2⟩
                · by_cases t2 : 1073741824 < V
                  · have HG : Hid (R = (some ([(codesS, (Z : Int))], 3), 0, Z)) := by show _ = _; rw [hRv, if_pos (by unfold riX; exact .inr (.inl t2))]
                    have t2' : (1073741824 : Int) < (V : Int) := by omega
                    clear hRv
                    go_wp2_with fail
                    refine (UG.out).mono ?_; rintro e w1 ⟨c1, u1, rfl, k1, r1, e1⟩
                    obtain ⟨rfl, rfl⟩ := e1
                    -- behind a call that did not fail: w1, k1 r1 HB HK -> wA, HBA HQA HKA
                    have A1 : Ext w1 (w1.alloc (.cells #[.int .i64 0, .slice none 0 0] 39)) := (Ext.refl w1).alloc _
                    have HQ1 := Lib.hid (r1.ext A1)
                    have HB1 := Lib.hid ((HB.out.kp k1 hne).ext A1)
                    have HK1 := Lib.hid ((HK.out.trans k1).ext A1)
                    clear r1 k1 A1
                    go_wp2_with fail
                    refine (ok_any 0 _ _).mono ?_; rintro e wA ⟨rfl, hxA⟩
                    rw [show ((0 : Int) == 0) = true from rfl]
                    have q0 := hxA.cell (p := ⟨w1.heap.size, 0, none⟩) (v := .int .i64 0) (by simp)
                    have q1 := hxA.cell (p := ⟨w1.heap.size, 1, none⟩) (v := .slice none 0 0) (by simp)
                    have HBA := Lib.hid (HB1.out.ext hxA)
                    have HQA := Lib.hid (HQ1.out.ext hxA)
                    have HKA := Lib.hid (HK1.out.ext hxA)
                    clear HQ1 HB1 HK1 hxA
                    -- HG : R = (some codes, 0, Z), HQA : RqAt wA .. Z
                    obtain ⟨za, zcap, ⟨z0, z1, z2⟩, -, -⟩ := HQA.out
                    go_wp2_with fail
                    refine (wrap_any codesS (Z : Int) 3 _ (by decide)).mono ?_; rintro e w9 ⟨u9, rfl, ho9, hx9⟩
                    obtain ⟨va, vc, rfl⟩ : ∃ va vc, u9 = .slice va 1 vc := by
                      rcases ho9.2 with ⟨-, h0⟩ | ⟨g, cap, cur, rfl, -⟩
                      · cases h0
                      · exact ⟨_, _, rfl⟩
                    have HB9 := Lib.hid (HBA.out.ext hx9)
                    have HR := Lib.hid (rq_end (f := some ([(codesS, (Z : Int))], 3)) HB9.out (HQA.out.ext hx9) (HKA.out.ext hx9) ⟨rfl, by decide, Row.of_owns ho9⟩ hbw)
                    obtain ⟨g0, g1, g2, g3⟩ := HB9.out.res
                    clear ho9 hx9 z0 z1 z2
                    go_wp2
                    obtain ⟨y0, y1⟩ := res_cells g0 g1 (c := 3) (.slice va 1 vc)
                    exact bodyPost_ret (v := .tuple #[.int .i64 0, .agg #[.int .i64 3, .slice va 1 vc]]) (by simp [results, Tryd.results56, go_sem, y0, y1]) rfl ⟨3, .slice va 1 vc, by rw [HG.out], HR.out.1, by rw [HG.out]; exact HR.out.2.1, by rw [HG.out]; exact HR.out.2.2⟩
                  · have t2' : ¬ (1073741824 : Int) < (V : Int) := by omega
                    have HG : Hid (R = (none, (V : Int), Z)) := by show _ = _; rw [hRv, if_neg (by unfold riX; omega)]
                    clear hRv
                    go_wp2_with fail
                    refine (UG.out).mono ?_; rintro e w1 ⟨c1, u1, rfl, k1, r1, e1⟩
                    obtain ⟨rfl, rfl⟩ := e1
                    -- behind a call that did not fail: w1, k1 r1 HB HK -> wA, HBA HQA HKA
                    have A1 : Ext w1 (w1.alloc (.cells #[.int .i64 0, .slice none 0 0] 39)) := (Ext.refl w1).alloc _
                    have HQ1 := Lib.hid (r1.ext A1)
                    have HB1 := Lib.hid ((HB.out.kp k1 hne).ext A1)
                    have HK1 := Lib.hid ((HK.out.trans k1).ext A1)
                    clear r1 k1 A1
                    go_wp2_with fail
                    refine (ok_any 0 _ _).mono ?_; rintro e wA ⟨rfl, hxA⟩
                    rw [show ((0 : Int) == 0) = true from rfl]
                    have q0 := hxA.cell (p := ⟨w1.heap.size, 0, none⟩) (v := .int .i64 0) (by simp)
                    have q1 := hxA.cell (p := ⟨w1.heap.size, 1, none⟩) (v := .slice none 0 0) (by simp)
                    have HBA := Lib.hid (HB1.out.ext hxA)
                    have HQA := Lib.hid (HQ1.out.ext hxA)
                    have HKA := Lib.hid (HK1.out.ext hxA)
                    clear HQ1 HB1 HK1 hxA
                    -- 'return v, e' of a variable that holds no error
                    have HR := Lib.hid (rq_end (f := none) (c := 0) (u := .slice none 0 0) HBA.out HQA.out HKA.out ⟨rfl, rfl⟩ hbw)
                    obtain ⟨g0, g1, g2, g3⟩ := HBA.out.res
                    go_wp2
                    go_region
                    go_wp2
                    obtain ⟨y0, y1⟩ := res_cells g0 g1 (c := 0) (.slice none 0 0)
                    exact bodyPost_ret (v := .tuple #[.int .i64 (V : Int), .agg #[.int .i64 0, .slice none 0 0]]) (by simp [results, Tryd.results56, go_sem, y0, y1]) rfl ⟨0, .slice none 0 0, by rw [HG.out], HR.out.1.ext (Ext.refl _).drew, by rw [HG.out]; exact HR.out.2.1.ext (Ext.refl _).drew, by rw [HG.out]; exact HR.out.2.2.ext (Ext.refl _).drew⟩
              · have HG : Hid (R = (some ([(bitsS, (P1 : Int))], 1), 0, P1)) := by
                  show _ = _
                  rw [hRz]
                  unfold riZ
                  rw [hw, if_neg (by rw [← HN.out]; exact hG)]
                have UN2 := Lib.hid (UNt.out wz P1 K HQ.out hPn (by omega) (by omega))
                clear hRz
                go_wp2_with fail
                refine (UN2.out).mono ?_; rintro e w1 ⟨c1, u1, rfl, k1, r1, e1⟩
                -- behind a call that failed: w1, c1, u1: k1 r1 e1, HB HK; hne : w.heap.size ≠ b, hbw; HG : R = (some .., 0, ..)
                obtain ⟨ua, un, uc, rfl⟩ := e1.form
                have hc0 : (c1 == 0) = false := by
                  obtain ⟨h1, h2, -⟩ := e1
                  rw [h1, beq_eq_false_iff_ne]
                  exact h2
                have A1 : Ext w1 (w1.alloc (.cells #[.int .i64 c1, .slice ua un uc] 39)) := (Ext.refl w1).alloc _
                have HE1 := Lib.hid (e1.ext A1)
                have HQ1 := Lib.hid (r1.ext A1)
                have HB1 := Lib.hid ((HB.out.kp k1 hne).ext A1)
                have HK1 := Lib.hid ((HK.out.trans k1).ext A1)
                clear e1 r1 k1 A1
                go_wp2_with fail
                refine (ok_any c1 _ _).mono ?_; rintro e wA ⟨rfl, hxA⟩
                rw [hc0]
                have q0 := hxA.cell (p := ⟨w1.heap.size, 0, none⟩) (v := .int .i64 c1) (by simp)
                have q1 := hxA.cell (p := ⟨w1.heap.size, 1, none⟩) (v := .slice ua un uc) (by simp)
                have HBA := Lib.hid (HB1.out.ext hxA)
                have HR := Lib.hid (rq_end HBA.out (HQ1.out.ext hxA) (HK1.out.ext hxA) (HE1.out.ext hxA) hbw)
                obtain ⟨g0, g1, g2, g3⟩ := HBA.out.res
                clear HE1 HQ1 HB1 HK1 hxA hc0
                go_wp2
                go_region
                go_wp2
                obtain ⟨y0, y1⟩ := res_cells g0 g1 (c := c1) (.slice ua un uc)
                exact bodyPost_ret (v := .tuple #[.int .i64 0, .agg #[.int .i64 c1, .slice ua un uc]]) (by simp [results, Tryd.results56, go_sem, y0, y1]) rfl ⟨c1, .slice ua un uc, by rw [HG.out], HR.out.1.ext (Ext.refl _).drew, by rw [HG.out]; exact HR.out.2.1.ext (Ext.refl _).drew, by rw [HG.out]; exact HR.out.2.2.ext (Ext.refl _).drew⟩
end Go.Proofs.YtehmgieocoppjaaDoor
