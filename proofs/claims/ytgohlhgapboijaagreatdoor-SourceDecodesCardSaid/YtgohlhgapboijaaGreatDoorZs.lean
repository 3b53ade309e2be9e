/- Contracts of this seat: Sux. -/
import Derived.Test.YtgohlhgapboijaaGreatDoorZq
import Derived.Deep.DeepCutAuto
/- source.Decode: a draft. -/
namespace Go.Proofs.YtgohlhgapboijaaGreatDoor
set_option linter.unusedVariables false
set_option linter.unusedSimpArgs false
open Go.RowKit Go.Extern.Stop Go.Stop Go.Extern

set_option maxHeartbeats 8000000 in
set_option maxRecDepth 100000 in
theorem decode_any (bs : List Nat) (v : Value) (w : World) (h : Bys w v bs) : Calls Tryz.prog 14 #[v] w (DcPost w (dcR bs)) := by
  obtain ⟨a, cap, rfl⟩ := h.form
  obtain ⟨n, hn⟩ : ∃ n, bs.length = n := ⟨_, rfl⟩
  have HN := Lib.hid hn
  rw [hn] at h ⊢
  have UH := Lib.hid (fun (W : World) (x : Ext w W) => chead_any bs _ W (h.ext x))
  by_cases h0 : hdC bs = 0
  · obtain ⟨h5, -, -, hX, hY, hN⟩ := hdC_zero h0
    rw [h0] at UH
    obtain ⟨g, off, rfl⟩ := h.had (by omega)
    have hcap := h.caps
    have C2 := Lib.hid (h.at (nget_of_lt (j := 2) (by omega)))
    have C3 := Lib.hid (h.at (nget_of_lt (j := 3) (by omega)))
    have C4 := Lib.hid (h.at (nget_of_lt (j := 4) (by omega)))
    have HR : Hid (dcR bs = dcE (bs.drop 5) (bs.getD 4 0) (dcL (bs.drop 5) (8 * bs.getD 2 0) (8 * bs.getD 3 0) (bs.getD 4 0) [] 0)) := by show _ = _; unfold dcR; rw [if_pos h0]
    generalize bs.getD 2 0 = X at *
    generalize bs.getD 3 0 = Y at *
    generalize bs.getD 4 0 = N at *
    obtain ⟨W, hW⟩ : ∃ W, 8 * X = W := ⟨_, rfl⟩
    obtain ⟨H, hH⟩ : ∃ H, 8 * Y = H := ⟨_, rfl⟩
    rw [hW, hH] at HR
    have mX : IntKind.i64.wrap (X : Int) = (X : Int) := by rw [IntKind.wrap_i64]; omega
    have mY : IntKind.i64.wrap (Y : Int) = (Y : Int) := by rw [IntKind.wrap_i64]; omega
    have mN : IntKind.i64.wrap (N : Int) = (N : Int) := by rw [IntKind.wrap_i64]; omega
    have mW : IntKind.i64.wrap (8 * (X : Int)) = (W : Int) := by rw [IntKind.wrap_i64]; omega
    have mH : IntKind.i64.wrap (8 * (Y : Int)) = (H : Int) := by rw [IntKind.wrap_i64]; omega
    have hW8 : 8 ≤ W ∧ W ≤ 32 := by omega
    have hH8 : 8 ≤ H ∧ H ≤ 32 := by omega
    have s2 : (2 : Int) < (n : Int) := by omega
    have s3 : (3 : Int) < (n : Int) := by omega
    have s4 : (4 : Int) < (n : Int) := by omega
    have s5 : (5 : Int) ≤ (n : Int) := by omega
    have s6 : (5 : Int) ≤ (cap : Int) := by omega
    by_cases hc : cap = 5
    · subst hc
      obtain rfl : n = 5 := by omega
      have hnil : bs.drop 5 = [] := List.drop_of_length_le (by omega)
      have UN := Lib.hid (fun (W : World) (x : Ext w W) => newrd_any (bs.drop 5) (.slice (some ⟨g, off, none⟩) 0 0) W (by
        rw [hnil]
        exact ⟨⟨some ⟨g, off, none⟩, 0, rfl, Nat.le_refl _, Nat.zero_le _, fun h => absurd h (Nat.lt_irrefl _), fun _ _ _ j u hj => by simp at hj⟩, by simp, by simp⟩))
      clear h hn h0 hW hH hnil hcap
      go_enter Tryz.func14, Tryz.ntmps14
      go_wp2_with fail
      refine (UH.out _ (Ext.refl w)).mono ?_; rintro e w1 ⟨rfl, x1⟩
      have HX1 := Lib.hid x1
      clear x1 UH
      go_wp2_with fail
      refine (UN.out _ HX1.out).mono ?_; rintro e w3 ⟨b, rfl, hb, hr, x3⟩
      have HX3 := Lib.hid (HX1.out.trans x3)
      have hwb : w.heap.size ≤ b := Nat.le_trans HX1.out.size hb
      have hbB : b < w3.heap.size := by
        obtain ⟨a, cap, hbox, -⟩ := hr
        exact Ext.lt (p := ⟨b, 0, none⟩) hbox.1
      obtain ⟨F, hF⟩ : ∃ F : Nat → Prop, F = (fun g => g < w1.heap.size ∨ w3.heap.size ≤ g) := ⟨_, rfl⟩
      rw [← hF] at hr
      have HFF : Hid (∀ i, w3.heap.size ≤ i → F i) := fun i hi => by rw [hF]; exact .inr hi
      have HRD := Lib.hid hr
      have hwB : w.heap.size ≤ w3.heap.size := HX3.out.size
      obtain ⟨B, hB⟩ : ∃ B, w3.heap.size = B := ⟨_, rfl⟩
      have d4 := HX3.out.cell C4.out
      have HDA : Hid (DcAt F w w3 B b (bs.drop 5) 0 [] (fun _ => .slice none 0 0) (.slice none 0 0) 0) := ⟨⟨HRD.out, Nat.zero_le _⟩, World.ownsRow_nil _ _ _ _, fun q hq => absurd hq (Nat.not_lt_zero _), rfl, HX3.out, by rw [hB]; exact Nat.le_refl _⟩
      rw [hB] at HFF hbB hwB
      clear hr x3 hb hF HRD UN HX1 hB
      go_wp2_with fail
      go_loopw [6, 25] (fun lv iv wr => ∃ (k : Nat) (L : List Fr) (S : Nat → Value) (p : Nat), k ≤ N ∧ iv = .int .i64 (k : Int) ∧ Hid (DcAt F w wr B b (bs.drop 5) k L S lv p) ∧ Hid (dcL (bs.drop 5) W H (N - k) L p = dcL (bs.drop 5) W H N [] 0)) (fun _ iv _ => N - (intOf iv).toNat)
      case atStart => exact ⟨0, [], _, 0, Nat.zero_le _, rfl, HDA, rfl⟩
      case round =>
        obtain ⟨k, L, S, p, hk, rfl, HD, HQ⟩ := hrel
        by_cases hlt : k < N
        · have t1 : (k : Int) < (N : Int) := by omega
          obtain ⟨hRd, hp⟩ := HD.out.1
          have HE := Lib.hid HD.out.2.2.2.2.1
          have hBr : B ≤ wr.heap.size := HD.out.2.2.2.2.2
          have d2 := HE.out.cell C2.out
          have d3 := HE.out.cell C3.out
          have E0 := Lib.hid ((Ext.refl wr).alloc (.cells #[.int .i64 0, .int .i64 0, .slice none 0 0] 48))
          have d2' := E0.out.cell d2
          have d3' := E0.out.cell d3
          have BLK : Hid ((wr.alloc (.cells #[.int .i64 0, .int .i64 0, .slice none 0 0] 48)).drew.heap[wr.heap.size]? = some (.cells #[.int .i64 0, .int .i64 0, .slice none 0 0] 48 (0, 0))) := heap_alloc_new wr _
          have BSZ : Hid (wr.heap.size + 1 = (wr.alloc (.cells #[.int .i64 0, .int .i64 0, .slice none 0 0] 48)).drew.heap.size) := by show _ = _; simp
          have BEX : Hid (∀ {p w' : _}, Kp b (wr.alloc (.cells #[.int .i64 0, .int .i64 0, .slice none 0 0] 48)).drew w' → p = wr.heap.size →
              (w'.cell? ⟨p, 0, none⟩ = some (.int .i64 0) ∧ w'.cell? ⟨p, 1, none⟩ = some (.int .i64 0) ∧ w'.cell? ⟨p, 2, none⟩ = some (.slice none 0 0)) ∧ w'.frozen? ⟨p, 0, none⟩ = false ∧ w'.frozen? ⟨p, 1, none⟩ = false ∧ w'.frozen? ⟨p, 2, none⟩ = false) := by
            intro p w' hk e
            subst e
            have hbk := hk.block (k := wr.heap.size) (by rw [← BSZ.out]; exact Nat.lt_succ_self _) (by omega)
            rw [BLK.out] at hbk
            exact ⟨⟨by rw [Lib.cell_of_heap hbk]; rfl, by rw [Lib.cell_of_heap hbk]; rfl, by rw [Lib.cell_of_heap hbk]; rfl⟩, Lib.frozen_of_heap hbk 0, Lib.frozen_of_heap hbk 1, Lib.frozen_of_heap hbk 2⟩
          cases hf : (rdFr (bs.drop 5) W H p).1 with
          | none =>
            have RB := Lib.hid (rframe_good b p W H (bs.drop 5) (wr.alloc (.cells #[.int .i64 0, .int .i64 0, .slice none 0 0] 48)).drew (hRd.ext E0.out.drew) hp hW8 hH8 (fun i hi => HFF.out i (by rw [← BSZ.out] at hi; omega)) hf)
            have RA := Lib.hid (rframe_good b p W H (bs.drop 5) wr.drew (hRd.ext (Ext.refl wr).drew) hp hW8 hH8 (fun i hi => HFF.out i (Nat.le_trans hBr hi)) hf)
            have HRN : Hid (dcL (bs.drop 5) W H (N - (k + 1)) (L ++ [((W : Int), (H : Int), (rdFr (bs.drop 5) W H p).2.1)]) (rdFr (bs.drop 5) W H p).2.2 = dcL (bs.drop 5) W H N [] 0) := by
              show _ = _
              have h := HQ.out
              obtain ⟨m, hm⟩ : ∃ m, N - k = m + 1 := ⟨N - k - 1, by omega⟩
              rw [hm] at h
              simp only [dcL] at h
              rw [if_pos hf] at h
              rw [← h, show N - (k + 1) = m by omega]
            have HZL : Hid ((rdFr (bs.drop 5) W H p).2.1.length = W * H) := by
              show _ = _
              have h := hf
              unfold rdFr at h ⊢
              split at h
              · rename_i h2
                rw [if_pos h2, rdS_len h]
                simp
              · rename_i h2
                exact absurd h h2
            have HPL : Hid ((rdFr (bs.drop 5) W H p).2.2 ≤ 8 * (bs.drop 5).length) := rdFr_le hp
            clear hRd hp hf
            generalize (rdFr (bs.drop 5) W H p).2.1 = zs at *
            generalize (rdFr (bs.drop 5) W H p).2.2 = q at *
            have hFR : F wr.heap.size := HFF.out _ hBr
            have hbr : b < wr.heap.size := by omega
            go_wp2_with fail
            go_cut [8, 9] from 28 to 42 (fun bv ev wx => ev = .nilIface ∧ ∃ D, bv = .pointer (some ⟨D, 0, none⟩) ∧ Hid (GotF F wr wx b (bs.drop 5) q D W H zs))
            case first =>
              go_region_law (go_simp; go_at_call 36; (first | (refine RB.out.mono ?_; rintro e w5 ⟨g5, rfl, hk5, hr5, hg5, ho5⟩; obtain ⟨⟨q0, q1, q2⟩, f0, f1, f2⟩ := BEX.out hk5 rfl) | (refine RA.out.mono ?_; rintro e w5 ⟨g5, rfl, hk5, hr5, hg5, ho5⟩)))
              all_goals go_wp2_with fail
              all_goals go_meet
              all_goals first
                | exact ⟨rfl, _, rfl, gotF_alloc hk5 hr5 hg5 ho5⟩
                | exact ⟨rfl, _, rfl, gotF_set E0.out.drew BSZ.out hk5 hr5 hg5 ho5 q0 q1 q2 hFR hbr⟩
            clear RA RB BEX BLK BSZ d2 d3 d2' d3' E0
            obtain ⟨rfl, D, rfl, HGF⟩ := hcut
            obtain ⟨g5, ⟨z0, z1, z2⟩, kx, rx, hg5, ox⟩ := HGF.out
            have HD2 := Lib.hid (HD.out.kp kx rx HPL.out hwb hbB)
            have hap : Apart u6 (.slice (some ⟨g5, 0, none⟩) (W * H) (W * H)) := fun d h1 h2 => absurd (HD.out.2.1.lt d h1).2 (by have := (ox.lt d h2).1; omega)
            have HAP := Lib.hid hap
            have hou : wc.ownsRow B 3 1 (.slice (some ⟨g5, 0, none⟩) (W * H) (W * H)) zs.length (zs.map (Value.int .i64)) := by
              rw [HZL.out]
              exact own_mono ox hBr
            have HOU := Lib.hid hou
            obtain ⟨M, hM⟩ : ∃ M, W * H = M := ⟨_, rfl⟩
            rw [hM] at z2 HOU HAP
            have hBc : B ≤ wc.heap.size := HD2.out.2.2.2.2.2
            clear HGF kx rx hg5 ox hap hou hM HZL HD HE hBr hFR hbr
            go_wp2_with (at_builtin; refine push_fr rfl _ _ 22 rfl Tryz.underlying22 _ k _ (W : Int) (H : Int) (.slice (some ⟨g5, 0, none⟩) M M) rfl rfl HD2.out.2.1 (by show Value.slice (some ⟨wc.heap.size, 0, none⟩) 1 1 = _; simp) hBc (by omega) ?_)
            intro v8 w8 h1 h2 h3
            have HD8 := Lib.hid (HD2.out.push (f := ((W : Int), (H : Int), zs)) HFF.out hbB hwB HOU.out HAP.out h1 h2 h3)
            clear h1 h2 h3 z0 z1 z2
            go_wp2_with fail
            exact ⟨⟨k + 1, _, _, q, by omega, by go_num, HD8, HRN⟩, by simp [intOf]; omega⟩
          | some fc =>
            have RB := Lib.hid (rframe_bad b p W H (bs.drop 5) (wr.alloc (.cells #[.int .i64 0, .int .i64 0, .slice none 0 0] 48)).drew (hRd.ext E0.out.drew) hp hW8 hH8 (fun i hi => HFF.out i (by rw [← BSZ.out] at hi; omega)) fc hf)
            have RA := Lib.hid (rframe_bad b p W H (bs.drop 5) wr.drew (hRd.ext (Ext.refl wr).drew) hp hW8 hH8 (fun i hi => HFF.out i (Nat.le_trans hBr hi)) fc hf)
            have HRE : Hid (dcR bs = (some ((sourceS, (k : Int)) :: fc.1, fc.2), [])) := by
              show _ = _
              have h := HQ.out
              obtain ⟨m, hm⟩ : ∃ m, N - k = m + 1 := ⟨N - k - 1, by omega⟩
              rw [hm] at h
              simp only [dcL] at h
              rw [if_neg (by rw [hf]; simp), hf, HD.out.2.2.2.1] at h
              rw [HR.out, ← h, dcE_err (by simp [inF])]
              rfl
            obtain ⟨hc, hcl⟩ := rdFr_cds (bs.drop 5) W H p fc.1 fc.2 hf
            have HCC : Hid (fc.2 ≠ 0 ∧ (((sourceS, (k : Int)) :: fc.1).length ≤ 1000000)) := ⟨by omega, by rw [List.length_cons]; omega⟩
            have hFR : F wr.heap.size := HFF.out _ hBr
            have hbr : b < wr.heap.size := by omega
            have hws : w.heap.size ≤ wr.heap.size := HE.out.size
            obtain ⟨pp, cc⟩ := fc
            clear hRd hp hf hc hcl
            go_wp2_with fail
            go_cut [8, 9] from 28 to 42 (fun bv ev wx => (∃ D, bv = .pointer (some ⟨D, 0, none⟩)) ∧ ∃ tx vx, ev = .iface tx vx ∧ Hid (IsErr wx pp cc (.iface tx vx)) ∧ Hid (Ext w wx))
            case first =>
              go_region_law (go_simp; go_at_call 36; (first | (refine RB.out.mono ?_; rintro e w5 ⟨tx, vx, rfl, hk5, he5⟩; obtain ⟨⟨q0, q1, q2⟩, f0, f1, f2⟩ := BEX.out hk5 rfl) | (refine RA.out.mono ?_; rintro e w5 ⟨tx, vx, rfl, hk5, he5⟩)))
              all_goals go_wp2_with fail
              all_goals go_meet
              all_goals first
                | exact ⟨⟨_, rfl⟩, tx, vx, rfl, he5.ext ((Ext.refl w5).alloc (.cells #[.int .i64 0, .int .i64 0, .slice none 0 0] 48)), (Kp.out HE.out.drew hk5 hwb).alloc (.cells #[.int .i64 0, .int .i64 0, .slice none 0 0] 48)⟩
                | exact ⟨⟨_, rfl⟩, tx, vx, rfl, IsErr.kpi15 ((((Kp.refl wr.heap.size w5).set 0 (.int .i64 0)).set 1 (.int .i64 0)).set 2 (.slice none 0 0)) q0 he5, (((Kp.out (HE.out.trans E0.out.drew) hk5 hwb).setCell (p := ⟨wr.heap.size, 0, none⟩) hws (.int .i64 0)).setCell (p := ⟨wr.heap.size, 1, none⟩) hws (.int .i64 0)).setCell (p := ⟨wr.heap.size, 2, none⟩) hws (.slice none 0 0)⟩
            clear RA RB BEX BLK BSZ d2 d3 d2' d3' E0
            obtain ⟨⟨D, rfl⟩, tx, vx, rfl, HI, HX⟩ := hcut
            have UI : Hid (∀ W, IsErr W pp cc (.iface tx vx) → Calls Tryz.prog 34 #[.string sourceS, .int .i64 (k : Int), .iface tx vx] W fun e w' => ∃ u, e = .returned u ∧ Ext W w' ∧ IsErr w' ((sourceS, (k : Int)) :: pp) cc u) := fun W h => in_err sourceS (k : Int) pp cc _ W h
            go_wp2_with fail
            refine (UI.out _ HI.out).mono ?_; rintro e w6 ⟨u, rfl, x6, h6⟩
            have H6 := Lib.hid h6
            clear h6
            go_wp2
            go_ret2
            exact ⟨_, _, rfl, HX.out.trans x6, by rw [HRE.out]; exact ⟨H6.out, HCC.out⟩, by rw [HRE.out]; exact Fms.nil _⟩
        · obtain rfl : k = N := by omega
          have t1 : ¬ (k : Int) < (k : Int) := by omega
          have HRZ : Hid (dcR bs = dcE (bs.drop 5) k (none, L, p)) := by
            show _ = _
            have h := HQ.out
            rw [Nat.sub_self] at h
            rw [HR.out, ← h]
            rfl
          have UE := Lib.hid (rend_any b p (bs.drop 5) wr HD.out.1.1 HD.out.1.2)
          have HCD := Lib.hid (endF_cds (bs.drop 5) p)
          obtain ⟨la, lc, rfl⟩ := own_slice HD.out.2.1
          have HE := Lib.hid HD.out.2.2.2.2.1
          cases hf : endF (bs.drop 5) p with
          | none =>
            have HRY : Hid (dcR bs = (none, L)) := by
              show _ = _
              rw [HRZ.out]
              unfold dcE
              rw [if_pos rfl, if_pos hf]
            rw [hf] at UE
            clear hf
            go_wp2_with fail
            refine UE.out.mono ?_; rintro e w5 ⟨x, rfl, k5, he5⟩
            have hx : x = .nilIface := he5
            subst hx
            go_wp2
            go_ret2
            exact ⟨_, _, rfl, Kp.out HE.out k5 hwb, by rw [HRY.out]; rfl, by rw [HRY.out]; exact HD.out.fms k5 hbB⟩
          | some fc =>
            have HRY : Hid (dcR bs = (some ((sourceS, (k : Int)) :: fc.1, fc.2), [])) := by
              show _ = _
              rw [HRZ.out]
              unfold dcE
              rw [if_pos rfl, if_neg (by rw [hf]; simp), hf]
              rfl
            obtain ⟨hc, hcl⟩ := HCD.out fc.1 fc.2 hf
            have HCC : Hid (fc.2 ≠ 0 ∧ (((sourceS, (k : Int)) :: fc.1).length ≤ 1000000)) := ⟨by omega, by rw [List.length_cons]; omega⟩
            rw [hf] at UE
            obtain ⟨pp, cc⟩ := fc
            clear hf hc hcl
            go_wp2_with fail
            refine UE.out.mono ?_; rintro e w5 ⟨x, rfl, k5, he5⟩
            obtain ⟨tx, vx, rfl⟩ := ErrIs.ne he5
            have HI := Lib.hid he5.1
            have HX := Lib.hid (Kp.out HE.out k5 hwb)
            have UI : Hid (∀ W, IsErr W pp cc (.iface tx vx) → Calls Tryz.prog 34 #[.string sourceS, .int .i64 (k : Int), .iface tx vx] W fun e w' => ∃ u, e = .returned u ∧ Ext W w' ∧ IsErr w' ((sourceS, (k : Int)) :: pp) cc u) := fun W h => in_err sourceS (k : Int) pp cc _ W h
            clear he5 k5
            go_wp2_with fail
            refine (UI.out _ HI.out).mono ?_; rintro e w6 ⟨u, rfl, x6, h6⟩
            have H6 := Lib.hid h6
            clear h6
            go_wp2
            go_ret2
            exact ⟨_, _, rfl, HX.out.trans x6, by rw [HRY.out]; exact ⟨H6.out, HCC.out⟩, by rw [HRY.out]; exact Fms.nil _⟩
    · have c5 : ¬ cap - 5 = 0 := by omega
      have UN := Lib.hid (fun (W : World) (x : Ext w W) => newrd_any (bs.drop 5) (.slice (some ⟨g, off + 5, none⟩) (n - 5) (cap - 5)) W ((h.ext x).tail (by omega)))
      clear h hn h0 hW hH hcap
      go_enter Tryz.func14, Tryz.ntmps14
      go_wp2_with fail
      refine (UH.out _ (Ext.refl w)).mono ?_; rintro e w1 ⟨rfl, x1⟩
      have HX1 := Lib.hid x1
      clear x1 UH
      go_wp2_with fail
      refine (UN.out _ HX1.out).mono ?_; rintro e w3 ⟨b, rfl, hb, hr, x3⟩
      have HX3 := Lib.hid (HX1.out.trans x3)
      have hwb : w.heap.size ≤ b := Nat.le_trans HX1.out.size hb
      have hbB : b < w3.heap.size := by
        obtain ⟨a, cap, hbox, -⟩ := hr
        exact Ext.lt (p := ⟨b, 0, none⟩) hbox.1
      obtain ⟨F, hF⟩ : ∃ F : Nat → Prop, F = (fun g => g < w1.heap.size ∨ w3.heap.size ≤ g) := ⟨_, rfl⟩
      rw [← hF] at hr
      have HFF : Hid (∀ i, w3.heap.size ≤ i → F i) := fun i hi => by rw [hF]; exact .inr hi
      have HRD := Lib.hid hr
      have hwB : w.heap.size ≤ w3.heap.size := HX3.out.size
      obtain ⟨B, hB⟩ : ∃ B, w3.heap.size = B := ⟨_, rfl⟩
      have d4 := HX3.out.cell C4.out
      have HDA : Hid (DcAt F w w3 B b (bs.drop 5) 0 [] (fun _ => .slice none 0 0) (.slice none 0 0) 0) := ⟨⟨HRD.out, Nat.zero_le _⟩, World.ownsRow_nil _ _ _ _, fun q hq => absurd hq (Nat.not_lt_zero _), rfl, HX3.out, by rw [hB]; exact Nat.le_refl _⟩
      rw [hB] at HFF hbB hwB
      clear hr x3 hb hF HRD UN HX1 hB
      go_wp2_with fail
      go_loopw [6, 25] (fun lv iv wr => ∃ (k : Nat) (L : List Fr) (S : Nat → Value) (p : Nat), k ≤ N ∧ iv = .int .i64 (k : Int) ∧ Hid (DcAt F w wr B b (bs.drop 5) k L S lv p) ∧ Hid (dcL (bs.drop 5) W H (N - k) L p = dcL (bs.drop 5) W H N [] 0)) (fun _ iv _ => N - (intOf iv).toNat)
      case atStart => exact ⟨0, [], _, 0, Nat.zero_le _, rfl, HDA, rfl⟩
      case round =>
        obtain ⟨k, L, S, p, hk, rfl, HD, HQ⟩ := hrel
        by_cases hlt : k < N
        · have t1 : (k : Int) < (N : Int) := by omega
          obtain ⟨hRd, hp⟩ := HD.out.1
          have HE := Lib.hid HD.out.2.2.2.2.1
          have hBr : B ≤ wr.heap.size := HD.out.2.2.2.2.2
          have d2 := HE.out.cell C2.out
          have d3 := HE.out.cell C3.out
          have E0 := Lib.hid ((Ext.refl wr).alloc (.cells #[.int .i64 0, .int .i64 0, .slice none 0 0] 48))
          have d2' := E0.out.cell d2
          have d3' := E0.out.cell d3
          have BLK : Hid ((wr.alloc (.cells #[.int .i64 0, .int .i64 0, .slice none 0 0] 48)).drew.heap[wr.heap.size]? = some (.cells #[.int .i64 0, .int .i64 0, .slice none 0 0] 48 (0, 0))) := heap_alloc_new wr _
          have BSZ : Hid (wr.heap.size + 1 = (wr.alloc (.cells #[.int .i64 0, .int .i64 0, .slice none 0 0] 48)).drew.heap.size) := by show _ = _; simp
          have BEX : Hid (∀ {p w' : _}, Kp b (wr.alloc (.cells #[.int .i64 0, .int .i64 0, .slice none 0 0] 48)).drew w' → p = wr.heap.size →
              (w'.cell? ⟨p, 0, none⟩ = some (.int .i64 0) ∧ w'.cell? ⟨p, 1, none⟩ = some (.int .i64 0) ∧ w'.cell? ⟨p, 2, none⟩ = some (.slice none 0 0)) ∧ w'.frozen? ⟨p, 0, none⟩ = false ∧ w'.frozen? ⟨p, 1, none⟩ = false ∧ w'.frozen? ⟨p, 2, none⟩ = false) := by
            intro p w' hk e
            subst e
            have hbk := hk.block (k := wr.heap.size) (by rw [← BSZ.out]; exact Nat.lt_succ_self _) (by omega)
            rw [BLK.out] at hbk
            exact ⟨⟨by rw [Lib.cell_of_heap hbk]; rfl, by rw [Lib.cell_of_heap hbk]; rfl, by rw [Lib.cell_of_heap hbk]; rfl⟩, Lib.frozen_of_heap hbk 0, Lib.frozen_of_heap hbk 1, Lib.frozen_of_heap hbk 2⟩
          cases hf : (rdFr (bs.drop 5) W H p).1 with
          | none =>
            have RB := Lib.hid (rframe_good b p W H (bs.drop 5) (wr.alloc (.cells #[.int .i64 0, .int .i64 0, .slice none 0 0] 48)).drew (hRd.ext E0.out.drew) hp hW8 hH8 (fun i hi => HFF.out i (by rw [← BSZ.out] at hi; omega)) hf)
            have RA := Lib.hid (rframe_good b p W H (bs.drop 5) wr.drew (hRd.ext (Ext.refl wr).drew) hp hW8 hH8 (fun i hi => HFF.out i (Nat.le_trans hBr hi)) hf)
            have HRN : Hid (dcL (bs.drop 5) W H (N - (k + 1)) (L ++ [((W : Int), (H : Int), (rdFr (bs.drop 5) W H p).2.1)]) (rdFr (bs.drop 5) W H p).2.2 = dcL (bs.drop 5) W H N [] 0) := by
              show _ = _
              have h := HQ.out
              obtain ⟨m, hm⟩ : ∃ m, N - k = m + 1 := ⟨N - k - 1, by omega⟩
              rw [hm] at h
              simp only [dcL] at h
              rw [if_pos hf] at h
              rw [← h, show N - (k + 1) = m by omega]
            have HZL : Hid ((rdFr (bs.drop 5) W H p).2.1.length = W * H) := by
              show _ = _
              have h := hf
              unfold rdFr at h ⊢
              split at h
              · rename_i h2
                rw [if_pos h2, rdS_len h]
                simp
              · rename_i h2
                exact absurd h h2
            have HPL : Hid ((rdFr (bs.drop 5) W H p).2.2 ≤ 8 * (bs.drop 5).length) := rdFr_le hp
            clear hRd hp hf
            generalize (rdFr (bs.drop 5) W H p).2.1 = zs at *
            generalize (rdFr (bs.drop 5) W H p).2.2 = q at *
            have hFR : F wr.heap.size := HFF.out _ hBr
            have hbr : b < wr.heap.size := by omega
            go_wp2_with fail
            go_cut [8, 9] from 28 to 42 (fun bv ev wx => ev = .nilIface ∧ ∃ D, bv = .pointer (some ⟨D, 0, none⟩) ∧ Hid (GotF F wr wx b (bs.drop 5) q D W H zs))
            case first =>
              go_region_law (go_simp; go_at_call 36; (first | (refine RB.out.mono ?_; rintro e w5 ⟨g5, rfl, hk5, hr5, hg5, ho5⟩; obtain ⟨⟨q0, q1, q2⟩, f0, f1, f2⟩ := BEX.out hk5 rfl) | (refine RA.out.mono ?_; rintro e w5 ⟨g5, rfl, hk5, hr5, hg5, ho5⟩)))
              all_goals go_wp2_with fail
              all_goals go_meet
              all_goals first
                | exact ⟨rfl, _, rfl, gotF_alloc hk5 hr5 hg5 ho5⟩
                | exact ⟨rfl, _, rfl, gotF_set E0.out.drew BSZ.out hk5 hr5 hg5 ho5 q0 q1 q2 hFR hbr⟩
            clear RA RB BEX BLK BSZ d2 d3 d2' d3' E0
            obtain ⟨rfl, D, rfl, HGF⟩ := hcut
            obtain ⟨g5, ⟨z0, z1, z2⟩, kx, rx, hg5, ox⟩ := HGF.out
            have HD2 := Lib.hid (HD.out.kp kx rx HPL.out hwb hbB)
            have hap : Apart u6 (.slice (some ⟨g5, 0, none⟩) (W * H) (W * H)) := fun d h1 h2 => absurd (HD.out.2.1.lt d h1).2 (by have := (ox.lt d h2).1; omega)
            have HAP := Lib.hid hap
            have hou : wc.ownsRow B 3 1 (.slice (some ⟨g5, 0, none⟩) (W * H) (W * H)) zs.length (zs.map (Value.int .i64)) := by
              rw [HZL.out]
              exact own_mono ox hBr
            have HOU := Lib.hid hou
            obtain ⟨M, hM⟩ : ∃ M, W * H = M := ⟨_, rfl⟩
            rw [hM] at z2 HOU HAP
            have hBc : B ≤ wc.heap.size := HD2.out.2.2.2.2.2
            clear HGF kx rx hg5 ox hap hou hM HZL HD HE hBr hFR hbr
            go_wp2_with (at_builtin; refine push_fr rfl _ _ 22 rfl Tryz.underlying22 _ k _ (W : Int) (H : Int) (.slice (some ⟨g5, 0, none⟩) M M) rfl rfl HD2.out.2.1 (by show Value.slice (some ⟨wc.heap.size, 0, none⟩) 1 1 = _; simp) hBc (by omega) ?_)
            intro v8 w8 h1 h2 h3
            have HD8 := Lib.hid (HD2.out.push (f := ((W : Int), (H : Int), zs)) HFF.out hbB hwB HOU.out HAP.out h1 h2 h3)
            clear h1 h2 h3 z0 z1 z2
            go_wp2_with fail
            exact ⟨⟨k + 1, _, _, q, by omega, by go_num, HD8, HRN⟩, by simp [intOf]; omega⟩
          | some fc =>
            have RB := Lib.hid (rframe_bad b p W H (bs.drop 5) (wr.alloc (.cells #[.int .i64 0, .int .i64 0, .slice none 0 0] 48)).drew (hRd.ext E0.out.drew) hp hW8 hH8 (fun i hi => HFF.out i (by rw [← BSZ.out] at hi; omega)) fc hf)
            have RA := Lib.hid (rframe_bad b p W H (bs.drop 5) wr.drew (hRd.ext (Ext.refl wr).drew) hp hW8 hH8 (fun i hi => HFF.out i (Nat.le_trans hBr hi)) fc hf)
            have HRE : Hid (dcR bs = (some ((sourceS, (k : Int)) :: fc.1, fc.2), [])) := by
              show _ = _
              have h := HQ.out
              obtain ⟨m, hm⟩ : ∃ m, N - k = m + 1 := ⟨N - k - 1, by omega⟩
              rw [hm] at h
              simp only [dcL] at h
              rw [if_neg (by rw [hf]; simp), hf, HD.out.2.2.2.1] at h
              rw [HR.out, ← h, dcE_err (by simp [inF])]
              rfl
            obtain ⟨hc, hcl⟩ := rdFr_cds (bs.drop 5) W H p fc.1 fc.2 hf
            have HCC : Hid (fc.2 ≠ 0 ∧ (((sourceS, (k : Int)) :: fc.1).length ≤ 1000000)) := ⟨by omega, by rw [List.length_cons]; omega⟩
            have hFR : F wr.heap.size := HFF.out _ hBr
            have hbr : b < wr.heap.size := by omega
            have hws : w.heap.size ≤ wr.heap.size := HE.out.size
            obtain ⟨pp, cc⟩ := fc
            clear hRd hp hf hc hcl
            go_wp2_with fail
            go_cut [8, 9] from 28 to 42 (fun bv ev wx => (∃ D, bv = .pointer (some ⟨D, 0, none⟩)) ∧ ∃ tx vx, ev = .iface tx vx ∧ Hid (IsErr wx pp cc (.iface tx vx)) ∧ Hid (Ext w wx))
            case first =>
              go_region_law (go_simp; go_at_call 36; (first | (refine RB.out.mono ?_; rintro e w5 ⟨tx, vx, rfl, hk5, he5⟩; obtain ⟨⟨q0, q1, q2⟩, f0, f1, f2⟩ := BEX.out hk5 rfl) | (refine RA.out.mono ?_; rintro e w5 ⟨tx, vx, rfl, hk5, he5⟩)))
              all_goals go_wp2_with fail
              all_goals go_meet
              all_goals first
                | exact ⟨⟨_, rfl⟩, tx, vx, rfl, he5.ext ((Ext.refl w5).alloc (.cells #[.int .i64 0, .int .i64 0, .slice none 0 0] 48)), (Kp.out HE.out.drew hk5 hwb).alloc (.cells #[.int .i64 0, .int .i64 0, .slice none 0 0] 48)⟩
                | exact ⟨⟨_, rfl⟩, tx, vx, rfl, IsErr.kpi15 ((((Kp.refl wr.heap.size w5).set 0 (.int .i64 0)).set 1 (.int .i64 0)).set 2 (.slice none 0 0)) q0 he5, (((Kp.out (HE.out.trans E0.out.drew) hk5 hwb).setCell (p := ⟨wr.heap.size, 0, none⟩) hws (.int .i64 0)).setCell (p := ⟨wr.heap.size, 1, none⟩) hws (.int .i64 0)).setCell (p := ⟨wr.heap.size, 2, none⟩) hws (.slice none 0 0)⟩
            clear RA RB BEX BLK BSZ d2 d3 d2' d3' E0
            obtain ⟨⟨D, rfl⟩, tx, vx, rfl, HI, HX⟩ := hcut
            have UI : Hid (∀ W, IsErr W pp cc (.iface tx vx) → Calls Tryz.prog 34 #[.string sourceS, .int .i64 (k : Int), .iface tx vx] W fun e w' => ∃ u, e = .returned u ∧ Ext W w' ∧ IsErr w' ((sourceS, (k : Int)) :: pp) cc u) := fun W h => in_err sourceS (k : Int) pp cc _ W h
            go_wp2_with fail
            refine (UI.out _ HI.out).mono ?_; rintro e w6 ⟨u, rfl, x6, h6⟩
            have H6 := Lib.hid h6
            clear h6
            go_wp2
            go_ret2
            exact ⟨_, _, rfl, HX.out.trans x6, by rw [HRE.out]; exact ⟨H6.out, HCC.out⟩, by rw [HRE.out]; exact Fms.nil _⟩
        · obtain rfl : k = N := by omega
          have t1 : ¬ (k : Int) < (k : Int) := by omega
          have HRZ : Hid (dcR bs = dcE (bs.drop 5) k (none, L, p)) := by
            show _ = _
            have h := HQ.out
            rw [Nat.sub_self] at h
            rw [HR.out, ← h]
            rfl
          have UE := Lib.hid (rend_any b p (bs.drop 5) wr HD.out.1.1 HD.out.1.2)
          have HCD := Lib.hid (endF_cds (bs.drop 5) p)
          obtain ⟨la, lc, rfl⟩ := own_slice HD.out.2.1
          have HE := Lib.hid HD.out.2.2.2.2.1
          cases hf : endF (bs.drop 5) p with
          | none =>
            have HRY : Hid (dcR bs = (none, L)) := by
              show _ = _
              rw [HRZ.out]
              unfold dcE
              rw [if_pos rfl, if_pos hf]
            rw [hf] at UE
            clear hf
            go_wp2_with fail
            refine UE.out.mono ?_; rintro e w5 ⟨x, rfl, k5, he5⟩
            have hx : x = .nilIface := he5
            subst hx
            go_wp2
            go_ret2
            exact ⟨_, _, rfl, Kp.out HE.out k5 hwb, by rw [HRY.out]; rfl, by rw [HRY.out]; exact HD.out.fms k5 hbB⟩
          | some fc =>
            have HRY : Hid (dcR bs = (some ((sourceS, (k : Int)) :: fc.1, fc.2), [])) := by
              show _ = _
              rw [HRZ.out]
              unfold dcE
              rw [if_pos rfl, if_neg (by rw [hf]; simp), hf]
              rfl
            obtain ⟨hc, hcl⟩ := HCD.out fc.1 fc.2 hf
            have HCC : Hid (fc.2 ≠ 0 ∧ (((sourceS, (k : Int)) :: fc.1).length ≤ 1000000)) := ⟨by omega, by rw [List.length_cons]; omega⟩
            rw [hf] at UE
            obtain ⟨pp, cc⟩ := fc
            clear hf hc hcl
            go_wp2_with fail
            refine UE.out.mono ?_; rintro e w5 ⟨x, rfl, k5, he5⟩
            obtain ⟨tx, vx, rfl⟩ := ErrIs.ne he5
            have HI := Lib.hid he5.1
            have HX := Lib.hid (Kp.out HE.out k5 hwb)
            have UI : Hid (∀ W, IsErr W pp cc (.iface tx vx) → Calls Tryz.prog 34 #[.string sourceS, .int .i64 (k : Int), .iface tx vx] W fun e w' => ∃ u, e = .returned u ∧ Ext W w' ∧ IsErr w' ((sourceS, (k : Int)) :: pp) cc u) := fun W h => in_err sourceS (k : Int) pp cc _ W h
            clear he5 k5
            go_wp2_with fail
            refine (UI.out _ HI.out).mono ?_; rintro e w6 ⟨u, rfl, x6, h6⟩
            have H6 := Lib.hid h6
            clear h6
            go_wp2
            go_ret2
            exact ⟨_, _, rfl, HX.out.trans x6, by rw [HRY.out]; exact ⟨H6.out, HCC.out⟩, by rw [HRY.out]; exact Fms.nil _⟩
  · have HR : Hid (dcR bs = (some ([(sourceS, -1)], hdC bs), [])) := by show _ = _; unfold dcR; rw [if_neg h0]
    obtain ⟨c, hc⟩ : ∃ c, hdC bs = c := ⟨_, rfl⟩
    rw [hc] at HR h0 UH
    have h0b : (c != 0) = true := by simp [h0]
    have UI : Hid (∀ W, Calls Tryz.prog 34 #[.string sourceS, .int .i64 (-1), .iface 31 (.int .i64 c)] W fun e w' => ∃ u, e = .returned u ∧ Ext W w' ∧ IsErr w' [(sourceS, -1)] c u) := fun W => in_err sourceS (-1) [] c _ W rfl
    have H0 := Lib.hid h0
    clear h hn hc h0
    go_enter Tryz.func14, Tryz.ntmps14
    go_wp2_with fail
    refine (UH.out _ (Ext.refl w)).mono ?_; rintro e w1 ⟨rfl, x1⟩
    go_wp2_with fail
    refine (UI.out _).mono ?_; rintro e w2 ⟨u, rfl, x2, h2⟩
    go_wp2
    go_ret2
    exact ⟨_, _, rfl, x1.trans x2, by rw [HR.out]; exact ⟨h2, H0.out, by simp⟩, by rw [HR.out]; exact Fms.nil _⟩
end Go.Proofs.YtgohlhgapboijaaGreatDoor
