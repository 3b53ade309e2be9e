/- Contracts of this seat: Rs2, Sen. -/
import Derived.Test.YtgohlhgapboijaaGreatDoorZu
import Derived.Test.YtgohlhgapboijaaGreatDoorZt
import Derived.Test.YtgohlhgapboijaaGreatDoorZc
import Derived.Deep.QuietTactic
import Derived.BigQuiet
import Derived.StillTailTactics
import Derived.Test.YtgohlhgapboijaaGreatDoorZn
/- kinref15.Encode. -/
namespace Go.Proofs.YtgohlhgapboijaaGreatDoor
set_option linter.unusedVariables false
set_option linter.unusedSimpArgs false
open Go.RowKit Go.Extern.Stop Go.Stop Go.Extern

theorem ints_xkp {w w' : World} {b B base n : Nat} {v : Value} {xs : List Value} (h : w.ownsRow base 3 1 v n xs) (k : XKp b B w w') (hb : ∀ g, v.ownBlock = some g → g ≠ b) : w'.ownsRow base 3 1 v n xs := by
  obtain ⟨h1, h2⟩ := h
  refine ⟨h1, ?_⟩
  rcases h2 with h2 | ⟨g, cap, cur, hv, hg, hh, r⟩
  · exact .inl h2
  · refine .inr ⟨g, cap, cur, hv, hg, ?_, r⟩
    rw [k.2.2 g (Array.getElem?_eq_some_iff.1 hh).1 (hb g (by rw [hv]; rfl)) (.inr fun ⟨cs, fr, e⟩ => by rw [hh] at e; simp at e)]
    exact hh
theorem en_sixR {L : List Fr} (hc : ckF L = none) : 6 ≤ (enBytes L).length := by
  obtain ⟨h0, hm, -, -⟩ := ckF_none hc
  obtain ⟨m, he⟩ := enB_part (L := L) (i := 0) h0
  have h := hm 0 h0
  have hz : (frAt L 0).2.2.length ≤ 1024 := by have := may_area h; have := h.2.2.1; omega
  have := (frBits_le hz).1
  rw [en_len, he]
  simp only [List.length_append]
  omega
/-- what kinref15.Encode answers -/
def RSEnc (L : List Fr) (w : World) (e : Ending) (w' : World) : Prop := ∃ bv c u, e = .returned (.tuple #[bv, .agg #[.int .i64 c, u]]) ∧ Ext w w' ∧ RErrIs w' (ckF L) c u ∧ (ckF L = none → Bys w' bv (enBytes L)) ∧ (ckF L ≠ none → bv = .slice none 0 0)
theorem rsenc_fail {L : List Fr} {w wz : World} {c : Int} (hb : RBox wz w.heap.size) (hx : Ext w wz) (hc : ckF L = some ([], c)) (h0 : c ≠ 0) :
    Ext w ((wz.setCell ⟨w.heap.size, 0, none⟩ (.int .i64 c)).setCell ⟨w.heap.size, 1, none⟩ (.slice none 0 0)) ∧ RErrIs ((wz.setCell ⟨w.heap.size, 0, none⟩ (.int .i64 c)).setCell ⟨w.heap.size, 1, none⟩ (.slice none 0 0)) (ckF L) c (.slice none 0 0) :=
  ⟨(hx.setCell (p := ⟨w.heap.size, 0, none⟩) (Nat.le_refl _) _).setCell (p := ⟨w.heap.size, 1, none⟩) (Nat.le_refl _) _, by rw [hc]; exact RErrIs.code h0⟩
set_option maxHeartbeats 8000000 in
set_option maxRecDepth 100000 in
theorem rsencode_any (L : List Fr) (v : Value) (w : World) (h : Fms w v L) (hs : Small L) : Calls Tryz.prog 9 #[v] w (RSEnc L w) := by
  obtain ⟨a, cap, rfl⟩ := h.form
  obtain ⟨n, hn⟩ : ∃ n, L.length = n := ⟨_, rfl⟩
  have HN := Lib.hid hn
  rw [hn] at h ⊢
  have HF := Lib.hid h
  have HS := Lib.hid hs
  have hn6 : n ≤ 1000000 := by rw [← hn]; exact hs.1
  have HBX0 := Lib.hid (RBox.new w)
  have HE0 : Hid (Ext w (w.alloc (.cells #[.int .i64 0, .slice none 0 0] 34))) := (Ext.refl w).alloc _
  clear h hs hn
  by_cases h0 : n = 0
  · subst h0
    have HR : Hid (ckF L = some ([], 2)) := by show _ = _; unfold ckF; rw [if_pos HN.out]
    have HBX := HBX0
    have HE := HE0
    go_enter Tryz.func9, Tryz.ntmps9
    go_wp2_with fail
    refine (fail_any 2 _).mono ?_; rintro e wf ⟨rfl, xf⟩
    have HBF := Lib.hid (HBX.out.ext xf)
    have HRF := Lib.hid (rsenc_fail (c := 2) HBF.out (HE.out.trans xf) HR.out (by decide))
    obtain ⟨g0, g1, g2, g3⟩ := HBF.out.res
    go_wp2
    obtain ⟨y0, y1⟩ := res_cells g0 g1 (c := 2) (.slice none 0 0)
    exact bodyPost_ret (v := .tuple #[.slice none 0 0, .agg #[.int .i64 2, .slice none 0 0]]) (by simp [results, Tryz.results9, go_sem, y0, y1]) rfl ⟨_, _, _, rfl, HRF.out.1, HRF.out.2, (fun hn => by rw [HR.out] at hn; cases hn), fun _ => rfl⟩
  · have e0 : ((n : Int) == 0) = false := by simp; omega
    have hL0 : ¬ L.length = 0 := by rw [HN.out]; exact h0
    have HL0 := Lib.hid hL0
    obtain ⟨g, off, rfl⟩ := HF.out.had (by omega)
    have hn0 : (0 : Int) < (n : Int) := by omega
    clear hL0
    go_enter Tryz.func9, Tryz.ntmps9
    go_wp2_with fail
    go_loopw [4] (fun iv wr => ∃ i : Nat, i ≤ n ∧ iv = .int .i64 (i : Int) ∧ Hid (∀ q, q < i → may (frAt L q).1 (frAt L q).2.1 (frAt L q).2.2) ∧ Hid (Ext w wr) ∧ Hid (RBox wr w.heap.size)) (fun iv _ => n - (intOf iv).toNat)
    case atStart => exact ⟨0, Nat.zero_le _, rfl, fun q hq => absurd hq (Nat.not_lt_zero _), HE0, HBX0⟩
    case round =>
      obtain ⟨i, hi, rfl, HM, HE, HBX⟩ := hrel
      by_cases hlt : i < n
      · obtain ⟨ra, rn, rc, c0, c1, c2, c3⟩ := fms_frame (HF.out.ext HE.out) HS.out (q := i) (by rw [HN.out]; exact hlt)
        have t1 : (i : Int) < (n : Int) := by omega
        have t2 : (0 : Int) ≤ (i : Int) := by omega
        obtain ⟨Wf, hWf⟩ : ∃ x, (frAt L i).1 = x := ⟨_, rfl⟩
        obtain ⟨Hf, hHf⟩ : ∃ x, (frAt L i).2.1 = x := ⟨_, rfl⟩
        obtain ⟨zf, hzf⟩ : ∃ x, (frAt L i).2.2 = x := ⟨_, rfl⟩
        rw [hWf] at c0
        rw [hHf] at c1
        rw [hzf] at c3
        have HQ : Hid ((frAt L i).1 = Wf ∧ (frAt L i).2.1 = Hf ∧ (frAt L i).2.2 = zf) := ⟨hWf, hHf, hzf⟩
        have UM := Lib.hid (rmay_any Wf Hf zf ra rn rc wr c3)
        clear c3 hWf hHf hzf
        go_wp2_with fail
        refine UM.out.mono ?_; rintro e w2 ⟨rfl, x2⟩
        have HE2 := Lib.hid (HE.out.trans x2)
        have HBX2 := Lib.hid (HBX.out.ext x2)
        clear x2 UM
        by_cases hm : may Wf Hf zf
        · rw [decide_eq_true hm]
          have HM2 : Hid (∀ q, q < i + 1 → may (frAt L q).1 (frAt L q).2.1 (frAt L q).2.2) := fun q hq => by
            by_cases e : q = i
            · subst e
              rw [HQ.out.1, HQ.out.2.1, HQ.out.2.2]
              exact hm
            · exact HM.out q (by omega)
          clear hm
          go_wp2_with fail
          exact ⟨⟨i + 1, by omega, by go_num, HM2, HE2, HBX2⟩, by simp [intOf]; omega⟩
        · rw [decide_eq_false hm]
          have HR : Hid (ckF L = some ([], 2)) := by
            show _ = _
            unfold ckF
            rw [if_neg HL0.out, if_pos]
            intro hall
            have := hall i (by rw [HN.out]; exact hlt)
            rw [HQ.out.1, HQ.out.2.1, HQ.out.2.2] at this
            exact hm this
          clear hm HE HBX
          have HE := HE2
          have HBX := HBX2
          go_wp2_with fail
          refine (fail_any 2 _).mono ?_; rintro e wf ⟨rfl, xf⟩
          have HBF := Lib.hid (HBX.out.ext xf)
          have HRF := Lib.hid (rsenc_fail (c := 2) HBF.out (HE.out.trans xf) HR.out (by decide))
          obtain ⟨g0, g1, g2, g3⟩ := HBF.out.res
          go_wp2
          obtain ⟨y0, y1⟩ := res_cells g0 g1 (c := 2) (.slice none 0 0)
          exact bodyPost_ret (v := .tuple #[.slice none 0 0, .agg #[.int .i64 2, .slice none 0 0]]) (by simp [results, Tryz.results9, go_sem, y0, y1]) rfl ⟨_, _, _, rfl, HRF.out.1, HRF.out.2, (fun hn => by rw [HR.out] at hn; cases hn), fun _ => rfl⟩
      · obtain rfl : i = n := by omega
        have HA : Hid (mayAll L) := by show mayAll L; intro q hq; exact HM.out q (by rw [HN.out] at hq; exact hq)
        have t1 : ¬ (i : Int) < (i : Int) := by omega
        obtain ⟨ra0, rn0, rc0, d0, d1, -, -⟩ := fms_frame HF.out HS.out (q := 0) (by rw [HN.out]; omega)
        rw [show off + 0 * 3 = off by omega] at d0 d1
        have D0 := Lib.hid d0
        have D1 := Lib.hid d1
        clear d0 d1 HM
        go_wp2_with fail
        go_loopw [5] (fun jv wr => ∃ j : Nat, j ≤ i ∧ jv = .int .i64 (j : Int) ∧ Hid (∀ q, q < j → (frAt L q).1 = (frAt L 0).1 ∧ (frAt L q).2.1 = (frAt L 0).2.1) ∧ Hid (Ext w wr) ∧ Hid (RBox wr w.heap.size)) (fun jv _ => i - (intOf jv).toNat)
        case atStart => exact ⟨0, Nat.zero_le _, rfl, fun q hq => absurd hq (Nat.not_lt_zero _), HE, HBX⟩
        case round =>
          clear HE HBX
          obtain ⟨j, hj, rfl, HM, HE, HBX⟩ := hrel
          by_cases hlt : j < i
          · obtain ⟨ra, rn, rc, c0, c1, -, -⟩ := fms_frame (HF.out.ext HE.out) HS.out (q := j) (by rw [HN.out]; exact hlt)
            have d0 := HE.out.cell D0.out
            have d1 := HE.out.cell D1.out
            have t3 : (j : Int) < (i : Int) := by omega
            have t2 : (0 : Int) ≤ (j : Int) := by omega
            have t4 : (0 : Int) < (i : Int) := by omega
            obtain ⟨Wf, hWf⟩ : ∃ x, (frAt L j).1 = x := ⟨_, rfl⟩
            obtain ⟨Hf, hHf⟩ : ∃ x, (frAt L j).2.1 = x := ⟨_, rfl⟩
            obtain ⟨W0, hW0⟩ : ∃ x, (frAt L 0).1 = x := ⟨_, rfl⟩
            obtain ⟨H0, hH0⟩ : ∃ x, (frAt L 0).2.1 = x := ⟨_, rfl⟩
            rw [hWf] at c0
            rw [hHf] at c1
            rw [hW0] at d0
            rw [hH0] at d1
            have HQ : Hid (((frAt L j).1 = Wf ∧ (frAt L j).2.1 = Hf) ∧ (frAt L 0).1 = W0 ∧ (frAt L 0).2.1 = H0) := ⟨⟨hWf, hHf⟩, hW0, hH0⟩
            clear hWf hHf hW0 hH0
            by_cases hwe : Wf = W0
            · have e1 : (Wf != W0) = false := by simp [hwe]
              by_cases hhe : Hf = H0
              · have e2 : (Hf != H0) = false := by simp [hhe]
                have HM2 : Hid (∀ q, q < j + 1 → (frAt L q).1 = (frAt L 0).1 ∧ (frAt L q).2.1 = (frAt L 0).2.1) := fun q hq => by
                  by_cases e : q = j
                  · subst e
                    rw [HQ.out.1.1, HQ.out.1.2, HQ.out.2.1, HQ.out.2.2]
                    exact ⟨hwe, hhe⟩
                  · exact HM.out q (by omega)
                clear hwe hhe
                go_wp2_with fail
                go_quiet (fail)
                have HE3 := Lib.hid (HE.out.drewN nq)
                have HBX3 := Lib.hid (HBX.out.ext ((Ext.refl wr).drewN nq))
                go_wp2_with fail
                exact ⟨⟨j + 1, by omega, by go_num, HM2, HE3, HBX3⟩, by simp [intOf]; omega⟩
              · have e2 : (Hf != H0) = true := by simp [hhe]
                have HR : Hid (ckF L = some ([], 14)) := by
                  show _ = _
                  unfold ckF
                  rw [if_neg HL0.out, if_neg (fun hh => hh HA.out), if_pos]
                  intro hall
                  have := (hall j (by rw [HN.out]; exact hlt)).2
                  rw [HQ.out.1.2, HQ.out.2.2] at this
                  exact hhe this
                clear hwe hhe
                go_wp2_with fail
                go_quiet (fail)
                have HE3 := Lib.hid (HE.out.drewN nq)
                have HBX3 := Lib.hid (HBX.out.ext ((Ext.refl wr).drewN nq))
                clear HE HBX
                have HE := HE3
                have HBX := HBX3
                go_wp2_with fail
                refine (fail_any 14 _).mono ?_; rintro e wf ⟨rfl, xf⟩
                have HBF := Lib.hid (HBX.out.ext xf)
                have HRF := Lib.hid (rsenc_fail (c := 14) HBF.out (HE.out.trans xf) HR.out (by decide))
                obtain ⟨g0, g1, g2, g3⟩ := HBF.out.res
                go_wp2
                obtain ⟨y0, y1⟩ := res_cells g0 g1 (c := 14) (.slice none 0 0)
                exact bodyPost_ret (v := .tuple #[.slice none 0 0, .agg #[.int .i64 14, .slice none 0 0]]) (by simp [results, Tryz.results9, go_sem, y0, y1]) rfl ⟨_, _, _, rfl, HRF.out.1, HRF.out.2, (fun hn => by rw [HR.out] at hn; cases hn), fun _ => rfl⟩
            · have e1 : (Wf != W0) = true := by simp [hwe]
              have HR : Hid (ckF L = some ([], 14)) := by
                show _ = _
                unfold ckF
                rw [if_neg HL0.out, if_neg (fun hh => hh HA.out), if_pos]
                intro hall
                have := (hall j (by rw [HN.out]; exact hlt)).1
                rw [HQ.out.1.1, HQ.out.2.1] at this
                exact hwe this
              clear hwe
              go_wp2_with fail
              go_quiet (fail)
              have HE3 := Lib.hid (HE.out.drewN nq)
              have HBX3 := Lib.hid (HBX.out.ext ((Ext.refl wr).drewN nq))
              clear HE HBX
              have HE := HE3
              have HBX := HBX3
              go_wp2_with fail
              refine (fail_any 14 _).mono ?_; rintro e wf ⟨rfl, xf⟩
              have HBF := Lib.hid (HBX.out.ext xf)
              have HRF := Lib.hid (rsenc_fail (c := 14) HBF.out (HE.out.trans xf) HR.out (by decide))
              obtain ⟨g0, g1, g2, g3⟩ := HBF.out.res
              go_wp2
              obtain ⟨y0, y1⟩ := res_cells g0 g1 (c := 14) (.slice none 0 0)
              exact bodyPost_ret (v := .tuple #[.slice none 0 0, .agg #[.int .i64 14, .slice none 0 0]]) (by simp [results, Tryz.results9, go_sem, y0, y1]) rfl ⟨_, _, _, rfl, HRF.out.1, HRF.out.2, (fun hn => by rw [HR.out] at hn; cases hn), fun _ => rfl⟩
          · obtain rfl : j = i := by omega
            have t3 : ¬ (j : Int) < (j : Int) := by omega
            have HAL : Hid (alike L) := by show alike L; intro q hq; exact HM.out q (by rw [HN.out] at hq; exact hq)
            clear HM
            by_cases h16 : 16 < j
            · have t5 : (16 : Int) < (j : Int) := by omega
              have HR : Hid (ckF L = some ([], 5)) := by
                show _ = _
                unfold ckF
                rw [if_neg HL0.out, if_neg (fun hh => hh HA.out), if_neg (fun hh => hh HAL.out), if_pos (by rw [HN.out]; exact h16)]
              go_wp2_with fail
              refine (fail_any 5 _).mono ?_; rintro e wf ⟨rfl, xf⟩
              have HBF := Lib.hid (HBX.out.ext xf)
              have HRF := Lib.hid (rsenc_fail (c := 5) HBF.out (HE.out.trans xf) HR.out (by decide))
              obtain ⟨g0, g1, g2, g3⟩ := HBF.out.res
              go_wp2
              obtain ⟨y0, y1⟩ := res_cells g0 g1 (c := 5) (.slice none 0 0)
              exact bodyPost_ret (v := .tuple #[.slice none 0 0, .agg #[.int .i64 5, .slice none 0 0]]) (by simp [results, Tryz.results9, go_sem, y0, y1]) rfl ⟨_, _, _, rfl, HRF.out.1, HRF.out.2, (fun hn => by rw [HR.out] at hn; cases hn), fun _ => rfl⟩
            · have t5 : ¬ (16 : Int) < (j : Int) := by omega
              have HCK : Hid (ckF L = none) := by
                show _ = _
                unfold ckF
                rw [if_neg HL0.out, if_neg (fun hh => hh HA.out), if_neg (fun hh => hh HAL.out), if_neg (by rw [HN.out]; exact h16)]
              have HXW0 : Hid (XwAt (wr.alloc (.cells #[.slice none 0 0] 61)) wr.heap.size (wr.heap.size + 1) []) := ⟨.slice none 0 0, ⟨by simp, by simp⟩, World.ownsRow_nil _ _ _ _, ⟨by omega, by simp⟩, by simp⟩
              have HEa := Lib.hid (HE.out.alloc (.cells #[.slice none 0 0] 61))
              have HBXa := Lib.hid (HBX.out.ext ((Ext.refl wr).alloc (.cells #[.slice none 0 0] 61)))
              have hbR : w.heap.size < wr.heap.size := HBX.out.lt
              go_wp2_with fail
              revert HXW0 HEa HBXa
              generalize wr.alloc _ = wa
              generalize wr.heap.size = b at *
              intro HXW0 HEa HBXa
              have hwb : w.heap.size ≤ b := Nat.le_of_lt hbR
              clear HE HBX
              go_wp2_with fail
              go_loopw [7] (fun kv wr => ∃ k : Nat, k ≤ j ∧ kv = .int .i64 (k : Int) ∧ Hid (XwAt wr b (b + 1) (enB (L.take k))) ∧ Hid (Ext w wr) ∧ Hid (RBox wr w.heap.size)) (fun kv _ => j - (intOf kv).toNat)
              case atStart => exact ⟨0, Nat.zero_le _, rfl, HXW0, HEa, HBXa⟩
              case round =>
                clear HXW0 HEa HBXa
                obtain ⟨k, hk, rfl, HXW, HE, HBX⟩ := hrel
                by_cases hlt : k < j
                · obtain ⟨ra, rn, rc, c0, c1, c2, c3⟩ := fms_frame (HF.out.ext HE.out) HS.out (q := k) (by rw [HN.out]; exact hlt)
                  have t1 : (k : Int) < (j : Int) := by omega
                  have t2 : (0 : Int) ≤ (k : Int) := by omega
                  have hm := HA.out k (by rw [HN.out]; exact hlt)
                  have hsW := sideB_true hm.1
                  have hsH := sideB_true hm.2.1
                  have hbl := enB_few HA.out k (by rw [HN.out]; omega)
                  have hrn : rn = (frAt L k).2.2.length := c3.len
                  obtain ⟨Wf, hWf⟩ : ∃ x : Nat, (frAt L k).1 = (x : Int) := ⟨(frAt L k).1.toNat, by omega⟩
                  obtain ⟨Hf, hHf⟩ : ∃ x : Nat, (frAt L k).2.1 = (x : Int) := ⟨(frAt L k).2.1.toNat, by omega⟩
                  have harea := hm.2.2.1
                  have hbyt := byt_of_may hm
                  have hz := may_len hm
                  rw [hWf] at c0 hsW harea
                  rw [hHf] at c1 hsH harea
                  have hnn : rn = Wf * Hf := by
                    have : ((rn : Nat) : Int) = ((Wf * Hf : Nat) : Int) := by rw [hrn, harea]; simp
                    exact Int.ofNat.inj this
                  have UF := Lib.hid (rfolds_any Wf Hf rn (frAt L k).2.2 ra rc wr c3 hbyt (by omega) (by omega) hnn)
                  have HBN : Hid (enB (L.take (k + 1)) = enB (L.take k) ++ frB (folds Wf (frAt L k).2.2 rn)) := by
                    show _ = _
                    rw [List.take_add_one, frAt_get (by rw [HN.out]; exact hlt)]
                    show enB (L.take k ++ [frAt L k]) = _
                    rw [enB_snoc]
                    unfold frBits
                    rw [hWf, hrn]
                    rfl
                  have hfin := folds_in (W := Wf) (n := rn) hbyt
                  have hlen := folds_len Wf (frAt L k).2.2 rn
                  obtain ⟨F, hF⟩ : ∃ F, folds Wf (frAt L k).2.2 rn = F := ⟨_, rfl⟩
                  rw [hF] at UF HBN hfin hlen
                  have HLN := Lib.hid hlen
                  have HFIN := Lib.hid hfin
                  have hr1024 : rn ≤ 1024 := by omega
                  have hp7 := bestK_le F
                  obtain ⟨p, hp⟩ : ∃ p, bestK F = p := ⟨_, rfl⟩
                  have HBK := Lib.hid hp
                  rw [hp] at hp7
                  have hbl2 : (enB (L.take k)).length ≤ 200000 := by
                    have : k ≤ 16 := by omega
                    omega
                  have hbx : b < wr.heap.size := HXW.out.lt
                  obtain ⟨Bx, hBx⟩ : ∃ Bx, wr.heap.size + 1 = Bx := ⟨_, rfl⟩
                  have HBx := Lib.hid hBx
                  obtain ⟨l, hl⟩ : ∃ l, enB (L.take k) = l := ⟨_, rfl⟩
                  rw [hl] at HXW HBN hbl2
                  clear hBx c3 hm hsW hsH hrn hWf hHf harea hbyt hnn hbl hF hfin hlen hp hl hz
                  go_wp2_with fail
                  refine UF.out.mono ?_; rintro e w2 ⟨fv, rfl, x2, o2⟩
                  have HX2 := Lib.hid x2
                  have HO2 := Lib.hid o2
                  rw [HBx.out] at HO2
                  have HI2 : Hid (Ints w2 fv F) := Ints.of_owns o2 (by rw [HLN.out]; omega)
                  obtain ⟨fa, fc, hfv⟩ := HI2.out.form
                  rw [HLN.out] at hfv
                  subst hfv
                  clear x2 o2 UF c0 c1 c2
                  go_wp2_with fail
                  refine (rleast_any F _ w2 HI2.out (by rw [HLN.out]; exact hr1024)).mono ?_; rintro e w3 ⟨rfl, x3⟩
                  rw [HBK.out]
                  have HX3 := Lib.hid (HX2.out.trans x3)
                  have HO3 := Lib.hid (own_ext HO2.out x3)
                  have UP := Lib.hid (xwput_yes b (b + 1) p 3 l w3 (HXW.out.ext HX3.out) (by omega) (by omega) (by decide))
                  clear x3 HX2 HO2 HI2
                  go_wp2_with fail
                  refine UP.out.mono ?_; rintro e w4 ⟨c4, u4, rfl, hw4, hk4, -⟩
                  have HW4 : Hid (XwAt w4 b (b + 1) (l ++ bsOf p 3 ++ ricL (F.take 0) p)) := by show XwAt _ _ _ _; simpa [ricL] using hw4
                  have HE4 := Lib.hid (XKp.out (HE.out.trans HX3.out) hk4 hwb (Nat.le_succ_of_le hwb))
                  have HB4 := Lib.hid ((HBX.out.ext HX3.out).xkp hk4 (by omega))
                  have HO4 := Lib.hid (ints_xkp HO3.out hk4 (fun g hg => by have := (HO3.out.lt g hg).1; have := HBx.out; omega))
                  clear hw4 hk4 UP HX3 HO3 HXW HE HBX
                  go_wp2_with fail
                  go_loopw [10] (fun qv wr => ∃ q : Nat, q ≤ rn ∧ qv = .int .i64 (q : Int) ∧ Hid (XwAt wr b (b + 1) (l ++ bsOf p 3 ++ ricL (F.take q) p)) ∧ Hid (Ext w wr) ∧ Hid (RBox wr w.heap.size) ∧ Hid (wr.ownsRow Bx 3 1 (.slice fa rn fc) rn (F.map (Value.int .i64)))) (fun qv _ => rn - (intOf qv).toNat)
                  case atStart => exact ⟨0, Nat.zero_le _, rfl, HW4, HE4, HB4, HO4⟩
                  case round =>
                    clear HW4 HE4 HB4 HO4
                    obtain ⟨q, hq, rfl, HWi, HEi, HBi, HOi⟩ := hrel
                    by_cases hlq : q < rn
                    · have hI := Ints.of_owns HOi.out (by rw [HLN.out]; omega)
                      obtain ⟨g', off', rfl⟩ := hI.had (by omega)
                      have hqv := hI.at (iget_of_lt (j := q) (by rw [HLN.out]; exact hlq))
                      have hvb : 0 ≤ F.getD q 0 ∧ F.getD q 0 ≤ 510 := HFIN.out _ (List.mem_of_getElem? (iget_of_lt (j := q) (by rw [HLN.out]; exact hlq)))
                      have hRN : ricL (F.take (q + 1)) p = ricL (F.take q) p ++ riL (F.getD q 0).toNat p := by
                        rw [List.take_add_one, iget_of_lt (j := q) (by rw [HLN.out]; exact hlq)]
                        exact ricL_snoc _ _ _
                      have hll := ricL_le (F.take q) p (by omega)
                      rw [List.length_take, HLN.out] at hll
                      obtain ⟨v, hv⟩ : ∃ v, F.getD q 0 = v := ⟨_, rfl⟩
                      rw [hv] at hqv hRN hvb
                      have HRN := Lib.hid hRN
                      have UPR := Lib.hid (rputri_any b (b + 1) v (p : Int) (l ++ bsOf p 3 ++ ricL (F.take q) p) wr HWi.out (by rw [List.length_append, List.length_append, bsOf_length]; omega))
                      have HL0 : Hid (crL (l ++ bsOf p 3 ++ ricL (F.take q) p) v (p : Int) = l ++ bsOf p 3 ++ ricL (F.take (q + 1)) p) := by
                        show _ = _
                        unfold crL
                        rw [if_pos (by unfold riOk; omega), HRN.out, List.append_assoc (l ++ bsOf p 3)]
                        rfl
                      have q2 : (q : Int) < (rn : Int) := by omega
                      have q3 : (0 : Int) ≤ (q : Int) := by omega
                      clear hv hRN hI hll
                      go_wp2_with fail
                      refine UPR.out.mono ?_; rintro e w5 ⟨c5, u5, rfl, hw5, hk5, -⟩
                      rw [HL0.out] at hw5
                      have HW5 := Lib.hid hw5
                      have HE5 := Lib.hid (XKp.out HEi.out hk5 hwb (Nat.le_succ_of_le hwb))
                      have HB5 := Lib.hid (HBi.out.xkp hk5 (by omega))
                      have HO5 := Lib.hid (ints_xkp HOi.out hk5 (fun g hg => by have := (HOi.out.lt g hg).1; have := HBx.out; omega))
                      clear hw5 hk5 UPR
                      go_wp2_with fail
                      exact ⟨⟨q + 1, by omega, by go_num, HW5, HE5, HB5, HO5⟩, by simp [intOf]; omega⟩
                    · obtain rfl : q = rn := by omega
                      have q2 : ¬ (q : Int) < (q : Int) := by omega
                      have HWe : Hid (XwAt wr b (b + 1) (enB (L.take (k + 1)))) := by
                        have h := HWi.out
                        rw [List.take_of_length_le (by rw [HLN.out]; exact Nat.le_refl _), List.append_assoc] at h
                        show XwAt _ _ _ _
                        rw [HBN.out]
                        unfold frB
                        rw [HBK.out]
                        exact h
                      go_wp2_with fail
                      exact ⟨⟨k + 1, by omega, by go_num, HWe, HEi, HBi⟩, by simp [intOf]; omega⟩
                · obtain rfl : k = j := by omega
                  have t1 : ¬ (k : Int) < (k : Int) := by omega
                  have hbl := enB_few HA.out k (by rw [HN.out]; omega)
                  obtain ⟨ra, rn, rc, c0, c1, -, -⟩ := fms_frame (HF.out.ext HE.out) HS.out (q := 0) (by rw [HN.out]; omega)
                  rw [show off + 0 * 3 = off by omega] at c0 c1
                  have hm := HA.out 0 (by rw [HN.out]; omega)
                  have hsW := sideB_true hm.1
                  have hsH := sideB_true hm.2.1
                  have hE3 : 6 ≤ (enBytes L).length := en_sixR HCK.out
                  rw [en_len] at hE3
                  have hEn : enB (L.take k) = enB L := by rw [List.take_of_length_le (by rw [HN.out]; exact Nat.le_refl _)]
                  rw [hEn] at HXW hbl
                  obtain ⟨Wf, hWf⟩ : ∃ x : Nat, (frAt L 0).1 = (x : Int) := ⟨(frAt L 0).1.toNat, by omega⟩
                  obtain ⟨Hf, hHf⟩ : ∃ x : Nat, (frAt L 0).2.1 = (x : Int) := ⟨(frAt L 0).2.1.toNat, by omega⟩
                  have HY : Hid (enBytes L = [75, 83, Wf / 8, Hf / 8, k] ++ pkL (enB L)) := by show _ = _; unfold enBytes; rw [hWf, hHf, HN.out]; rfl
                  rw [hWf] at c0 hsW
                  rw [hHf] at c1 hsH
                  have r1 : (Wf : Int) / 8 = ((Wf / 8 : Nat) : Int) := by omega
                  have r2 : (Hf : Int) / 8 = ((Hf / 8 : Nat) : Int) := by omega
                  have r1' : (Wf : Int).tdiv 8 = ((Wf / 8 : Nat) : Int) := by rw [Int.tdiv_eq_ediv_of_nonneg (by omega)]; omega
                  have r2' : (Hf : Int).tdiv 8 = ((Hf / 8 : Nat) : Int) := by rw [Int.tdiv_eq_ediv_of_nonneg (by omega)]; omega
                  have hw8 : Wf / 8 ≤ 4 := by omega
                  have hh8 : Hf / 8 ≤ 4 := by omega
                  obtain ⟨W8, hW8⟩ : ∃ x, Wf / 8 = x := ⟨_, rfl⟩
                  obtain ⟨H8, hH8⟩ : ∃ x, Hf / 8 = x := ⟨_, rfl⟩
                  rw [hW8] at r1 r1' hw8 HY
                  rw [hH8] at r2 r2' hh8 HY
                  have u1 : IntKind.u8.wrap (W8 : Int) = (W8 : Int) := by rw [IntKind.wrap_u8]; omega
                  have u2 : IntKind.u8.wrap (H8 : Int) = (H8 : Int) := by rw [IntKind.wrap_u8]; omega
                  have u3 : IntKind.u8.wrap (k : Int) = (k : Int) := by rw [IntKind.wrap_u8]; omega
                  have i1 : IntKind.i64.wrap (W8 : Int) = (W8 : Int) := by rw [IntKind.wrap_i64]; omega
                  have i2 : IntKind.i64.wrap (H8 : Int) = (H8 : Int) := by rw [IntKind.wrap_i64]; omega
                  have t2 : (0 : Int) < (k : Int) := by omega
                  have hk16 : k ≤ 16 := by omega
                  have t2' : 0 < k := by omega
                  clear hn0
                  clear hm hsW hsH hWf hHf hW8 hH8 hEn
                  go_wp2_with fail
                  go_still_tail 15, (by kernel_rfl)
                  change wpList _ _ _ _ _ wr.drew
                  have HWd := Lib.hid (HXW.out.ext (Ext.refl wr).drew)
                  have HEd := Lib.hid (HE.out.drew)
                  have HBd := Lib.hid (HBX.out.ext (Ext.refl wr).drew)
                  clear HXW HE HBX c0 c1
                  generalize wr.drew = wy at *
                  go_wp2_with fail
                  obtain ⟨i0, hi0, hz0, hz1, hz2⟩ := info_parts byteU8
                  have HOz : Hid ((wy.alloc (.cells #[.int .u8 75, .int .u8 83, .int .u8 (W8 : Int), .int .u8 (H8 : Int), .int .u8 (k : Int)] 5)).ownsRow wy.heap.size 5 1 (.slice (some ⟨wy.heap.size, 0, none⟩) 5 5) 5 (byC [75, 83, W8, H8, k])) :=
                    ⟨rfl, .inr ⟨wy.heap.size, 5, #[.int .u8 75, .int .u8 83, .int .u8 (W8 : Int), .int .u8 (H8 : Int), .int .u8 (k : Int)], rfl, Nat.le_refl _, heap_alloc_new wy _, Nat.le_refl _, by decide, rfl, rfl⟩⟩
                  have HWz := Lib.hid (HWd.out.ext ((Ext.refl wy).alloc (.cells #[.int .u8 75, .int .u8 83, .int .u8 (W8 : Int), .int .u8 (H8 : Int), .int .u8 (k : Int)] 5)))
                  have HEz := Lib.hid (HEd.out.alloc (.cells #[.int .u8 75, .int .u8 83, .int .u8 (W8 : Int), .int .u8 (H8 : Int), .int .u8 (k : Int)] 5))
                  have HBz := Lib.hid (HBd.out.ext ((Ext.refl wy).alloc (.cells #[.int .u8 75, .int .u8 83, .int .u8 (W8 : Int), .int .u8 (H8 : Int), .int .u8 (k : Int)] 5)))
                  have hszz : wy.heap.size ≤ (wy.alloc (.cells #[.int .u8 75, .int .u8 83, .int .u8 (W8 : Int), .int .u8 (H8 : Int), .int .u8 (k : Int)] 5)).heap.size := by simp
                  have hwy := HEd.out.size
                  have hwyR : w.heap.size < wy.heap.size := HBd.out.lt
                  clear HWd HBd
                  revert HOz HWz HEz HBz hszz
                  generalize wy.alloc _ = wz
                  generalize wy.heap.size = Y at *
                  intro HOz HWz HEz HBz hszz
                  refine (xwbytes_any b (b + 1) (enB L) _ HWz.out).mono ?_; rintro e w6 ⟨g6, m, rfl, hy6, x6⟩
                  have HE6 := Lib.hid (HEz.out.trans x6)
                  have HO6 := Lib.hid (own_ext HOz.out x6)
                  have HB6 := Lib.hid (HBz.out.ext x6)
                  have hplen := pkL_length (enB L)
                  have hml : m = (pkL (enB L)).length := hy6.len
                  have HMM := Lib.hid hml.symm
                  have hm1 : 1 ≤ m := by omega
                  have hm2 : m ≤ 1000000 := by omega
                  have hs6 : Y ≤ w6.heap.size := Nat.le_trans hszz x6.size
                  have hnews : ∀ j u, (byC (pkL (enB L)))[j]? = some u → w6.cell? ((⟨g6, 0, none⟩ : Addr).add j) = some u := news_of_bys hy6
                  have HNEWS := Lib.hid hnews
                  clear x6 HOz HWz HEz HBz hplen hE3 hnews hml hy6
                  go_wp2_with (at_builtin; refine wpList_append_own _ rfl _ _ 26 rfl Y 5 i0 (.int .u8 0) 1 1 Tryz.underlying26 hi0 hz0 hz1 hz2 rfl (by decide) _ 5 _ rfl HO6.out ⟨g6, 0, none⟩ m m (byC (pkL (enB L))) rfl (by rw [byC_length, HMM.out]; omega) HNEWS.out (byC_one _) (by unfold maxLen; omega) (by omega) hs6 ?_)
                  intro v7 w7 o7 hg7 _
                  have HX7 : Hid (Ext w w7) := Below.grown HE6.out hg7 HE6.out.size (fun k hk => Nat.le_trans hwy (HO6.out.lt k hk).1)
                  have HB7 : Hid (RBox w7 w.heap.size) := (World.grownBy.block hg7 w.heap.size (Nat.lt_of_lt_of_le hwyR hs6) (fun e => by have := (HO6.out.lt _ e.symm).1; omega)).trans HB6.out
                  have HBY7 : Hid (∀ w', Kp w.heap.size w7 w' → Bys w' v7 (enBytes L)) := fun w' kk => by
                    have hlen : (enBytes L).length = 5 + m := by rw [HY.out, List.length_append, HMM.out]; rfl
                    have hr := Row.of_owns (own_kp o7 kk (fun d hd => by have := (o7.lt d hd).1; omega))
                    have hmap : (enBytes L).map (fun x : Nat => Value.int .u8 (x : Int)) = byC [75, 83, W8, H8, k] ++ byC (pkL (enB L)) := by
                      rw [HY.out]
                      exact List.map_append
                    refine ⟨?_, ?_, by omega⟩
                    · rw [hlen, hmap]
                      exact hr
                    · intro x hx
                      rw [HY.out, List.mem_append] at hx
                      rcases hx with hx | hx
                      · simp only [List.mem_cons, List.not_mem_nil, or_false] at hx
                        omega
                      · exact pkL_lt _ x hx
                  clear o7 hg7
                  obtain ⟨g0, g1, g2, g3⟩ := HB7.out.res
                  have HKR : Hid (Kp w.heap.size w7 ((w7.setCell ⟨w.heap.size, 0, none⟩ (.int .i64 0)).setCell ⟨w.heap.size, 1, none⟩ (.slice none 0 0))) := ((Kp.refl w.heap.size w7).set 0 _).set 1 _
                  go_wp2
                  obtain ⟨y0, y1⟩ := res_cells g0 g1 (c := 0) (.slice none 0 0)
                  exact bodyPost_ret (v := .tuple #[v7, .agg #[.int .i64 0, .slice none 0 0]]) (by simp [results, Tryz.results9, go_sem, y0, y1]) rfl ⟨_, _, _, rfl, (HX7.out.setCell (p := ⟨w.heap.size, 0, none⟩) (Nat.le_refl _) _).setCell (p := ⟨w.heap.size, 1, none⟩) (Nat.le_refl _) _, by rw [HCK.out]; exact ⟨rfl, rfl⟩, fun _ => HBY7.out _ HKR.out, fun hne => absurd HCK.out hne⟩
end Go.Proofs.YtgohlhgapboijaaGreatDoor

/- kinlaw15.SourceEncodes: the walk. -/
namespace Go.Proofs.YtgohlhgapboijaaGreatDoor
set_option linter.unusedVariables false
set_option linter.unusedSimpArgs false
open Go.RowKit Go.Extern.Stop Go.Stop Go.Extern

theorem rerr_form {w : World} {f : Fall} {c : Int} {u : Value} (h : RErrIs w f c u) : ∃ a n k, u = .slice a n k := by
  cases f with
  | none => exact ⟨_, _, _, h.2⟩
  | some a =>
    obtain ⟨-, -, h3⟩ := h
    obtain ⟨a, k, rfl⟩ := h3.form
    exact ⟨_, _, _, rfl⟩
set_option maxHeartbeats 8000000 in
set_option maxRecDepth 100000 in
theorem encodes_few (L : List Fr) (v : Value) (w : World) (hg : EtIs w) (hT : PwIs w) (h : Fms w v L) (hp : pixB L = true) :
    Calls Tryz.prog 3 #[v] w fun e w' => e = .returned (.bool true) ∧ Ext w w' := by
  have hs := few_small hp
  have HS := Lib.hid hs
  have h40 : L.length ≤ 40 := by
    unfold pixB at hp
    simp only [Bool.and_eq_true, decide_eq_true_eq] at hp
    exact hp.1
  have HSm := Lib.hid (pix_small15 hp)
  have UF := Lib.hid (fun (W : World) (k : Ext w W) => few15_all L v W (h.ext k))
  rw [hp] at UF
  obtain ⟨a, cap, rfl⟩ := h.form
  obtain ⟨n, hn⟩ : ∃ n, L.length = n := ⟨_, rfl⟩
  have HL40 := Lib.hid h40
  rw [hn] at h UF ⊢
  have HF := Lib.hid h
  have HG := Lib.hid hg
  have HT := Lib.hid hT
  clear h hg hT hn hs hp h40
  go_enter Tryz.func3, Tryz.ntmps3
  go_wp2_with fail
  refine (first15_any _ HG.out HT.out).mono ?_; rintro e w1 ⟨rfl, x1⟩
  have HX1 := Lib.hid x1
  clear x1
  go_wp2_with fail
  refine (UF.out _ HX1.out).mono ?_; rintro e w2 ⟨rfl, x2⟩
  have HX2 := Lib.hid (HX1.out.trans x2)
  clear x2 HX1 UF
  go_wp2_with fail
  refine (copy_frames L _ _ (HF.out.ext HX2.out) (Nat.le_trans HL40.out (by decide)) HSm).mono ?_; rintro e w3 ⟨u3, rfl, hf3, x3⟩
  have HX3 := Lib.hid (HX2.out.trans x3)
  have HF3 := Lib.hid hf3
  clear hf3 x3 HX2
  go_wp2_with fail
  refine (sencode_any L u3 _ HF3.out HS.out).mono ?_; rintro e w4 ⟨bv, xe, rfl, x4, he, hb, hnb⟩
  have HX4 := Lib.hid (HX3.out.trans x4)
  have HF4 := Lib.hid (HF3.out.ext x4)
  have HE4 := Lib.hid he
  have HB4 : Hid (∃ bs, Bys w4 bv bs ∧ (ckF L = none → bs = enBytes L) ∧ (ckF L ≠ none → bs = [])) := by
    cases hc : ckF L with
    | none => exact ⟨_, (hb hc).1, fun _ => rfl, fun hh => absurd rfl hh⟩
    | some fc =>
      have := hnb (by rw [hc]; simp)
      subst this
      exact ⟨[], Bys.nil _, (fun hh => by cases hh), fun _ => rfl⟩
  clear x4 he hb hnb HX3 HF3
  go_wp2_with fail
  refine (rsencode_any L _ _ (HF.out.ext HX4.out) HS.out).mono ?_; rintro e w5 ⟨cv, c5, u5, rfl, x5, he5, hb5, hnb5⟩
  obtain ⟨ua, un, uc, rfl⟩ := rerr_form he5
  have HX5 := Lib.hid (HX4.out.trans x5)
  have HF5 := Lib.hid (HF4.out.ext x5)
  have HE5 := Lib.hid (HE4.out.ext x5)
  have HR5 := Lib.hid he5
  have HB5 : Hid (∃ bs, Bys w5 bv bs ∧ Bys w5 cv bs) := by
    obtain ⟨bs, h1, h2, h3⟩ := HB4.out
    refine ⟨bs, h1.ext x5, ?_⟩
    cases hc : ckF L with
    | none => rw [h2 hc]; exact hb5 hc
    | some fc =>
      have h4 := hnb5 (by rw [hc]; simp)
      subst h4
      rw [h3 (by rw [hc]; simp)]
      exact Bys.nil _
  clear x5 he5 hb5 hnb5 HX4 HF4 HE4 HB4
  go_wp2_with fail
  have E6 := Lib.hid ((Ext.refl w5).alloc (.cells #[.int .i64 c5, .slice ua un uc] 34))
  have c0 : (w5.alloc (.cells #[.int .i64 c5, .slice ua un uc] 34)).cell? ⟨w5.heap.size, 0, none⟩ = some (.int .i64 c5) := by simp
  have c1 : (w5.alloc (.cells #[.int .i64 c5, .slice ua un uc] 34)).cell? ⟨w5.heap.size, 1, none⟩ = some (.slice ua un uc) := by simp
  have C0 := Lib.hid c0
  have C1 := Lib.hid c1
  clear c0 c1
  refine (first15_any _ (HG.out.ext (HX5.out.trans E6.out)) (HT.out.ext (HX5.out.trans E6.out))).mono ?_; rintro e w6 ⟨rfl, x6⟩
  have HX6 := Lib.hid (E6.out.trans x6)
  have k0 := x6.cell C0.out
  have k1 := x6.cell C1.out
  obtain ⟨bs, hb1, hb2⟩ := HB5.out
  have UB := Lib.hid (bytes_same bs bv cv w6 (hb1.ext HX6.out) (hb2.ext HX6.out))
  clear x6 E6 C0 C1 HB5 hb1 hb2
  go_wp2_with fail
  refine UB.out.mono ?_; rintro e w7 ⟨rfl, rfl⟩
  have US := Lib.hid (same_fall (ckF L) xe (.slice ua un uc) c5 w6 (HG.out.ext (HX5.out.trans HX6.out)) (HE5.out.ext HX6.out) (HR5.out.ext HX6.out))
  go_wp2_with fail
  refine US.out.mono ?_; rintro e w8 ⟨rfl, x8⟩
  have HX8 := Lib.hid (HX6.out.trans x8)
  clear x8
  go_wp2_with fail
  refine (frames_same L u3 _ _ (HF5.out.ext HX8.out) (HF.out.ext (HX5.out.trans HX8.out)) HS.out.1 HSm).mono ?_; rintro e w9 ⟨rfl, x9⟩
  go_wp2
  go_ret
  exact ⟨rfl, (HX5.out.trans HX8.out).trans x9⟩
set_option maxHeartbeats 4000000 in
set_option maxRecDepth 100000 in
theorem encodes_law (L : List Fr) (v : Value) (w : World) (hg : EtIs w) (hT : PwIs w) (h : Fms w v L) :
    Calls Tryz.prog 3 #[v] w fun e w' => e = .returned (.bool true) ∧ Ext w w' := by
  by_cases hp : pixB L = true
  · exact encodes_few L v w hg hT h hp
  · have hp : pixB L = false := by simpa using hp
    have UF := Lib.hid (fun (W : World) (k : Ext w W) => few15_all L v W (h.ext k))
    rw [hp] at UF
    obtain ⟨a, cap, rfl⟩ := h.form
    have HG := Lib.hid hg
    have HT := Lib.hid hT
    generalize L.length = n at *
    clear h hg hT hp
    go_enter Tryz.func3, Tryz.ntmps3
    go_wp2_with fail
    refine (first15_any _ HG.out HT.out).mono ?_; rintro e w1 ⟨rfl, x1⟩
    have HX1 := Lib.hid x1
    clear x1
    go_wp2_with fail
    refine (UF.out _ HX1.out).mono ?_; rintro e w2 ⟨rfl, x2⟩
    have HX2 := Lib.hid (HX1.out.trans x2)
    clear x2
    go_wp2_with fail
    refine (first15_any _ (HG.out.ext HX2.out) (HT.out.ext HX2.out)).mono ?_; rintro e w3 ⟨rfl, x3⟩
    go_wp2
    go_ret
    exact ⟨rfl, HX2.out.trans x3⟩
end Go.Proofs.YtgohlhgapboijaaGreatDoor
