/- coef.codeRest: contract over this seat's translation. -/
import Derived.Test.YtdndambkaohgiaaGreatDoorCf0
import Derived.Test.YtdndambkaohgiaaGreatDoorMd4
import Derived.StillTailTactics
namespace Go.Proofs.YtdndambkaohgiaaGreatDoor
set_option linter.unusedVariables false
set_option linter.unusedSimpArgs false
open Go.RowKit Go.Extern.Stop Go.Stop Go.Extern

theorem nw_fla (a : Nat) (w : World) : (nilAhead 340 24 (.pointer (some ⟨a, 0, none⟩)) "Flat").run Tryz.prog w = .ok (some false) w := by kernel_rfl
set_option maxRecDepth 20000 in
set_option maxHeartbeats 600000 in
theorem mwrest_any (a N : Nat)  (u : Int) (hu0 : -100 ≤ u) (hu1 : u ≤ 20000) (s : Ms Ec) (F : Nat → Prop) (w : World) (h : (WrF a) w F s) (hk : okS okEm N s) (hN : N ≤ 3999000) : Calls Tryz.prog 101 #[.iface 24 (.pointer (some ⟨a, 0, none⟩)), .int .i64 u] w (FPost (WrF a) F w (.int .i64 ((rstM mE u s).1 : Int)) (rstM mE u s).2) := by
  have HF := mw_fla a
  have HN := nw_fla a
  have UF := Lib.hid ((fun N up s F w h hk hN => mwflat_any a N up s F w h hk hN))
  have HK := Lib.hid hk
  have HO := Lib.hid h
  clear h hk
  go_enter Tryz.func101, Tryz.ntmps101
  go_wp2_with fail
  go_loopw [5] (fun iv wr => ∃ (n : Nat) (t : Ms Ec) (G : Nat → Prop), n ≤ 13 ∧ iv = .int .i64 (n : Int) ∧ Hid (rzM mE u 13 0 s = rzM mE u (13 - n) n t) ∧ Hid (okS okEm (N + 4 * n) t) ∧ Hid ((WrF a) wr G t) ∧ Hid (Step F w G wr)) (fun iv _ => 13 - (intOf iv).toNat)
  case atStart => exact ⟨0, s, F, Nat.zero_le _, rfl, rfl, HK.out, HO.out, Step.of_ext (Ext.refl w)⟩
  case round =>
    clear HO HK
    obtain ⟨n, t, G, hn, rfl, HS, HK, HO, HG⟩ := hrel
    by_cases hlt : n < 13
    · have x1 : (n : Int) < 13 := by omega
      obtain ⟨f, hf⟩ : ∃ f, 13 - n = f + 1 := ⟨12 - n, by omega⟩
      have hs := HS.out
      rw [hf] at hs
      obtain ⟨m, hm⟩ : ∃ m : Nat, n + 1 = m := ⟨_, rfl⟩
      have q1 : IntKind.i64.wrap ((n : Int) + 1) = (m : Int) := by rw [IntKind.wrap_i64]; omega
      have q4 : IntKind.i64.wrap ((2 : Int) ^ m) = (2 : Int) ^ m := wrap_two m (by omega)
      obtain ⟨g, hg⟩ : ∃ g, geAt u n = g := ⟨_, rfl⟩
      have q3 : decide ((2 : Int) ^ m ≤ u) = g := by rw [← hg, ← hm]; rfl
      obtain ⟨⟨V, t1⟩, e2⟩ : ∃ r, flaM mE t g = r := ⟨_, rfl⟩
      have HY : Hid (V = true → rzM mE u 13 0 s = rzM mE u (13 - m) m t1) := fun e => by
        subst e
        rw [hs, rz_yes (by rw [hg]; exact e2), show 13 - m = f by omega, hm]
      have HX : Hid (V = false → rzM mE u 13 0 s = (n, t1)) := fun e => by
        subst e
        rw [hs, rz_no (by rw [hg]; exact e2)]
      have k3 := fla_ok mkE g HK.out
      rw [e2] at k3
      have HK3 : Hid (okS okEm (N + 4 * m) t1) := by
        show _
        rw [← hm]
        exact k3
      have UF2 := Lib.hid (fun G w (h : (WrF a) w G t) => UF.out (N + 4 * n) g t G w h HK.out (by omega))
      rw [e2] at UF2
      clear hs hf hg e2 k3 HS HK
      go_wp2_with fail
      go_still_tail 12, (by kernel_rfl)
      change wpList _ _ _ _ _ wr.drew
      have HO2 := Lib.hid (WrF.ext HO.out ((Ext.refl wr).drew))
      have HG2 := Lib.hid (HG.out.ext ((Ext.refl wr).drew))
      clear HO HG
      generalize wr.drew = wz at HO2 HG2 ⊢
      have U3 := Lib.hid (UF2.out G wz HO2.out)
      clear UF2
      go_wp2_with fail
      refine (U3.out).mono ?_; rintro e w3 ⟨rfl, G3, h3, g3⟩
      have H3 := Lib.hid h3
      have G3' := Lib.hid (HG2.out.trans g3)
      clear h3 g3 HG2 HO2 U3
      cases V
      · have HZ := Lib.hid (HX.out rfl)
        clear HX HY
        obtain ⟨Q, hQ, hQ2⟩ : ∃ Q, 4 * (n + 1) = Q ∧ Q ≤ 56 := ⟨_, rfl, by omega⟩
        have HK4 : Hid (okS okEm (N + Q) t1) := by rw [← hQ, hm]; exact HK3.out
        clear HK3 q1 q4 q3 hm hQ
        have HR : Hid (rstM mE u s = rbM mE u n 1 t1) := by
          show _ = _
          unfold rstM
          rw [HZ.out]
        clear HZ
        go_wp2_with fail
        go_loopw [6, 7] (fun cv kv wr => ∃ (k c : Nat) (t : Ms Ec) (G : Nat → Prop), k ≤ n ∧ kv = .int .i64 ((k : Int) - 1) ∧ cv = .int .i64 (c : Int) ∧ Hid ((c + 1) * 2 ^ k ≤ 16384) ∧ Hid (rstM mE u s = rbM mE u k c t) ∧ Hid (okS okEm (N + Q + 4 * (n - k)) t) ∧ Hid ((WrF a) wr G t) ∧ Hid (Step F w G wr)) (fun _ kv _ => (intOf kv + 1).toNat)
        case atStart =>
          refine ⟨n, 1, t1, G3, Nat.le_refl _, by go_num, rfl, ?_, HR.out, ?_, H3.out, G3'.out⟩
          · show (1 + 1) * 2 ^ n ≤ 16384
            have := Nat.pow_le_pow_right (n := 2) (by decide) hn
            omega
          · rw [Nat.sub_self]; exact HK4.out
        case round =>
          clear HR H3 G3' HK4
          obtain ⟨k, c, t, G, hk, rfl, rfl, HC, HS, HK, HO, HG⟩ := hrel
          cases k
          · rw [show ((0 : Nat) : Int) - 1 = -1 from rfl]
            have hs := HS.out
            rw [show rbM mE u 0 c t = (c, t) from rfl] at hs
            have HR := Lib.hid hs
            clear hs HS HC HK
            go_wp2
            go_ret
            exact ⟨by rw [HR.out]; rfl, G, by rw [HR.out]; exact HO.out, HG.out⟩
          · rename_i k
            rw [show ((k + 1 : Nat) : Int) - 1 = (k : Int) by omega]
            have x2 : (0 : Int) ≤ (k : Int) := by omega
            have hc := HC.out
            have hc2 : c ≤ 16383 := by
              have := Nat.le_mul_of_pos_right (c + 1) (Nat.pos_of_ne_zero (fun e => by simp at e) : 0 < 2 ^ (k + 1))
              omega
            obtain ⟨d, hd⟩ : ∃ d : Nat, 2 * c = d := ⟨_, rfl⟩
            have q5 : IntKind.i64.wrap ((c : Int) * 2) = (d : Int) := by rw [IntKind.wrap_i64]; omega
            have q6 : IntKind.i64.wrap ((d : Int) + 1) = (d : Int) + 1 := by rw [IntKind.wrap_i64]; omega
            have q7 : IntKind.i64.wrap ((k : Int) - 1) = (k : Int) - 1 := by rw [IntKind.wrap_i64]; omega
            obtain ⟨g, hg⟩ : ∃ g, bitAt u k = g := ⟨_, rfl⟩
            have q8 : (u / (2 : Int) ^ k % 2 == 1) = g := by rw [bit_and]; exact hg
            have q9 : Op.shift .shr .i64 u .i64 (k : Int) = pure (.int .i64 (u / (2 : Int) ^ k)) := shr_any u k (by omega)
            have qa : Op.intBits .and .i64 (u / (2 : Int) ^ k) 1 = pure (.int .i64 (u / (2 : Int) ^ k % 2)) := and_one _
            obtain ⟨⟨V, t2⟩, e2⟩ : ∃ r, flaM mE t g = r := ⟨_, rfl⟩
            have hs := HS.out
            rw [rb_step (b := V) (s1 := t2) (by rw [hg]; exact e2), hd] at hs
            have HS2 := Lib.hid hs
            have k3 := fla_ok mkE g HK.out
            rw [e2] at k3
            have HK5 : Hid (okS okEm (N + Q + 4 * (n - k)) t2) := by
              show _
              rw [show n - k = (n - (k + 1)) + 1 by omega]
              exact k3
            have HC2 : Hid ((d + 2) * 2 ^ k ≤ 16384) := by
              show _
              rw [Nat.pow_succ, Nat.mul_comm (2 ^ k) 2, ← Nat.mul_assoc] at hc
              rw [← hd, show 2 * c + 2 = (c + 1) * 2 by omega]
              exact hc
            have UF2 := Lib.hid (fun G w (h : (WrF a) w G t) => UF.out (N + Q + 4 * (n - (k + 1))) g t G w h HK.out (by omega))
            rw [e2] at UF2
            clear hs hg e2 k3 HS HK HC hc hd
            go_wp2_with fail
            go_still_tail 9, (by kernel_rfl)
            change wpList _ _ _ _ _ wr.drew
            have HO2 := Lib.hid (WrF.ext HO.out ((Ext.refl wr).drew))
            have HG2 := Lib.hid (HG.out.ext ((Ext.refl wr).drew))
            clear HO HG
            generalize wr.drew = wz at HO2 HG2 ⊢
            have U3 := Lib.hid (UF2.out G wz HO2.out)
            clear UF2
            go_wp2_with fail
            refine (U3.out).mono ?_; rintro e w3 ⟨rfl, G3, h3, g3⟩
            have H3 := Lib.hid h3
            have G3' := Lib.hid (HG2.out.trans g3)
            clear h3 g3 HG2 HO2 U3
            cases V
            · go_wp2
              go_roundw
              case rel => exact ⟨k, d, t2, G3, by omega, by go_num, rfl, Nat.le_trans (Nat.mul_le_mul_right _ (by omega)) HC2.out, HS2.out, HK5.out, H3.out, G3'.out⟩
              case measure => simp [intOf] <;> omega
            · go_wp2
              go_roundw
              case rel => exact ⟨k, d + 1, t2, G3, by omega, by go_num, by go_num, HC2.out, HS2.out, HK5.out, H3.out, G3'.out⟩
              case measure => simp [intOf] <;> omega
      · have HS3 := Lib.hid (HY.out rfl)
        clear HX HY
        go_wp2
        go_roundw
        case rel => exact ⟨m, t1, G3, by omega, by go_num, HS3.out, HK3.out, H3.out, G3'.out⟩
        case measure => simp [intOf] <;> omega
    · have h13 : n = 13 := by omega
      have x1 : ¬ (n : Int) < 13 := by omega
      have HZ : Hid (rzM mE u 13 0 s = (n, t)) := by
        have := HS.out
        rw [show 13 - n = 0 by omega] at this
        exact this
      obtain ⟨Q, hQ, hQ2⟩ : ∃ Q, 4 * n = Q ∧ Q ≤ 56 := ⟨_, rfl, by omega⟩
      have HK4 : Hid (okS okEm (N + Q) t) := by rw [← hQ]; exact HK.out
      obtain ⟨t1, ht⟩ : ∃ x, x = t := ⟨_, rfl⟩
      subst ht
      obtain ⟨G3, ht⟩ : ∃ x, x = G := ⟨_, rfl⟩
      subst ht
      have d1 : decide ((n : Int) < 13) = false := decide_eq_false x1
      clear h13 hlt hQ HS HK x1
      go_wp2_with fail
      go_quiet (fail)
      have H3 := Lib.hid (WrF.ext HO.out ((Ext.refl wr).drewN nq))
      have G3' := Lib.hid (HG.out.ext ((Ext.refl wr).drewN nq))
      clear HO HG
      generalize wr.drewN nq = w3 at H3 G3' ⊢
      have HR : Hid (rstM mE u s = rbM mE u n 1 t1) := by
        show _ = _
        unfold rstM
        rw [HZ.out]
      clear HZ
      go_wp2_with fail
      go_loopw [6, 7] (fun cv kv wr => ∃ (k c : Nat) (t : Ms Ec) (G : Nat → Prop), k ≤ n ∧ kv = .int .i64 ((k : Int) - 1) ∧ cv = .int .i64 (c : Int) ∧ Hid ((c + 1) * 2 ^ k ≤ 16384) ∧ Hid (rstM mE u s = rbM mE u k c t) ∧ Hid (okS okEm (N + Q + 4 * (n - k)) t) ∧ Hid ((WrF a) wr G t) ∧ Hid (Step F w G wr)) (fun _ kv _ => (intOf kv + 1).toNat)
      case atStart =>
        refine ⟨n, 1, t1, G3, Nat.le_refl _, by go_num, rfl, ?_, HR.out, ?_, H3.out, G3'.out⟩
        · show (1 + 1) * 2 ^ n ≤ 16384
          have := Nat.pow_le_pow_right (n := 2) (by decide) hn
          omega
        · rw [Nat.sub_self]; exact HK4.out
      case round =>
        clear HR H3 G3' HK4
        obtain ⟨k, c, t, G, hk, rfl, rfl, HC, HS, HK, HO, HG⟩ := hrel
        cases k
        · rw [show ((0 : Nat) : Int) - 1 = -1 from rfl]
          have hs := HS.out
          rw [show rbM mE u 0 c t = (c, t) from rfl] at hs
          have HR := Lib.hid hs
          clear hs HS HC HK
          go_wp2
          go_ret
          exact ⟨by rw [HR.out]; rfl, G, by rw [HR.out]; exact HO.out, HG.out⟩
        · rename_i k
          rw [show ((k + 1 : Nat) : Int) - 1 = (k : Int) by omega]
          have x2 : (0 : Int) ≤ (k : Int) := by omega
          have hc := HC.out
          have hc2 : c ≤ 16383 := by
            have := Nat.le_mul_of_pos_right (c + 1) (Nat.pos_of_ne_zero (fun e => by simp at e) : 0 < 2 ^ (k + 1))
            omega
          obtain ⟨d, hd⟩ : ∃ d : Nat, 2 * c = d := ⟨_, rfl⟩
          have q5 : IntKind.i64.wrap ((c : Int) * 2) = (d : Int) := by rw [IntKind.wrap_i64]; omega
          have q6 : IntKind.i64.wrap ((d : Int) + 1) = (d : Int) + 1 := by rw [IntKind.wrap_i64]; omega
          have q7 : IntKind.i64.wrap ((k : Int) - 1) = (k : Int) - 1 := by rw [IntKind.wrap_i64]; omega
          obtain ⟨g, hg⟩ : ∃ g, bitAt u k = g := ⟨_, rfl⟩
          have q8 : (u / (2 : Int) ^ k % 2 == 1) = g := by rw [bit_and]; exact hg
          have q9 : Op.shift .shr .i64 u .i64 (k : Int) = pure (.int .i64 (u / (2 : Int) ^ k)) := shr_any u k (by omega)
          have qa : Op.intBits .and .i64 (u / (2 : Int) ^ k) 1 = pure (.int .i64 (u / (2 : Int) ^ k % 2)) := and_one _
          obtain ⟨⟨V, t2⟩, e2⟩ : ∃ r, flaM mE t g = r := ⟨_, rfl⟩
          have hs := HS.out
          rw [rb_step (b := V) (s1 := t2) (by rw [hg]; exact e2), hd] at hs
          have HS2 := Lib.hid hs
          have k3 := fla_ok mkE g HK.out
          rw [e2] at k3
          have HK5 : Hid (okS okEm (N + Q + 4 * (n - k)) t2) := by
            show _
            rw [show n - k = (n - (k + 1)) + 1 by omega]
            exact k3
          have HC2 : Hid ((d + 2) * 2 ^ k ≤ 16384) := by
            show _
            rw [Nat.pow_succ, Nat.mul_comm (2 ^ k) 2, ← Nat.mul_assoc] at hc
            rw [← hd, show 2 * c + 2 = (c + 1) * 2 by omega]
            exact hc
          have UF2 := Lib.hid (fun G w (h : (WrF a) w G t) => UF.out (N + Q + 4 * (n - (k + 1))) g t G w h HK.out (by omega))
          rw [e2] at UF2
          clear hs hg e2 k3 HS HK HC hc hd
          go_wp2_with fail
          go_still_tail 9, (by kernel_rfl)
          change wpList _ _ _ _ _ wr.drew
          have HO2 := Lib.hid (WrF.ext HO.out ((Ext.refl wr).drew))
          have HG2 := Lib.hid (HG.out.ext ((Ext.refl wr).drew))
          clear HO HG
          generalize wr.drew = wz at HO2 HG2 ⊢
          have U3 := Lib.hid (UF2.out G wz HO2.out)
          clear UF2
          go_wp2_with fail
          refine (U3.out).mono ?_; rintro e w3 ⟨rfl, G3, h3, g3⟩
          have H3 := Lib.hid h3
          have G3' := Lib.hid (HG2.out.trans g3)
          clear h3 g3 HG2 HO2 U3
          cases V
          · go_wp2
            go_roundw
            case rel => exact ⟨k, d, t2, G3, by omega, by go_num, rfl, Nat.le_trans (Nat.mul_le_mul_right _ (by omega)) HC2.out, HS2.out, HK5.out, H3.out, G3'.out⟩
            case measure => simp [intOf] <;> omega
          · go_wp2
            go_roundw
            case rel => exact ⟨k, d + 1, t2, G3, by omega, by go_num, by go_num, HC2.out, HS2.out, HK5.out, H3.out, G3'.out⟩
            case measure => simp [intOf] <;> omega
theorem nr_fla (a : Nat) (w : World) : (nilAhead 340 52 (.pointer (some ⟨a, 0, none⟩)) "Flat").run Tryz.prog w = .ok (some false) w := by kernel_rfl
set_option maxRecDepth 20000 in
set_option maxHeartbeats 600000 in
theorem mrrest_any (a N : Nat) (bs : List Nat) (hb : ∀ x ∈ bs, x < 256) (u : Int) (hu0 : -100 ≤ u) (hu1 : u ≤ 20000) (s : Ms Dc) (F : Nat → Prop) (w : World) (h : (RdF a bs) w F s) (hk : okS okDm N s) (hN : N ≤ 3999000) : Calls Tryz.prog 101 #[.iface 52 (.pointer (some ⟨a, 0, none⟩)), .int .i64 u] w (FPost (RdF a bs) F w (.int .i64 ((rstM (mD bs) u s).1 : Int)) (rstM (mD bs) u s).2) := by
  have HF := mr_fla a
  have HN := nr_fla a
  have UF := Lib.hid ((fun N up s F w h hk hN => mrflat_any a N bs up s F w h hk hN))
  have HK := Lib.hid hk
  have HO := Lib.hid h
  clear h hk
  go_enter Tryz.func101, Tryz.ntmps101
  go_wp2_with fail
  go_loopw [5] (fun iv wr => ∃ (n : Nat) (t : Ms Dc) (G : Nat → Prop), n ≤ 13 ∧ iv = .int .i64 (n : Int) ∧ Hid (rzM (mD bs) u 13 0 s = rzM (mD bs) u (13 - n) n t) ∧ Hid (okS okDm (N + 4 * n) t) ∧ Hid ((RdF a bs) wr G t) ∧ Hid (Step F w G wr)) (fun iv _ => 13 - (intOf iv).toNat)
  case atStart => exact ⟨0, s, F, Nat.zero_le _, rfl, rfl, HK.out, HO.out, Step.of_ext (Ext.refl w)⟩
  case round =>
    clear HO HK
    obtain ⟨n, t, G, hn, rfl, HS, HK, HO, HG⟩ := hrel
    by_cases hlt : n < 13
    · have x1 : (n : Int) < 13 := by omega
      obtain ⟨f, hf⟩ : ∃ f, 13 - n = f + 1 := ⟨12 - n, by omega⟩
      have hs := HS.out
      rw [hf] at hs
      obtain ⟨m, hm⟩ : ∃ m : Nat, n + 1 = m := ⟨_, rfl⟩
      have q1 : IntKind.i64.wrap ((n : Int) + 1) = (m : Int) := by rw [IntKind.wrap_i64]; omega
      have q4 : IntKind.i64.wrap ((2 : Int) ^ m) = (2 : Int) ^ m := wrap_two m (by omega)
      obtain ⟨g, hg⟩ : ∃ g, geAt u n = g := ⟨_, rfl⟩
      have q3 : decide ((2 : Int) ^ m ≤ u) = g := by rw [← hg, ← hm]; rfl
      obtain ⟨⟨V, t1⟩, e2⟩ : ∃ r, flaM (mD bs) t g = r := ⟨_, rfl⟩
      have HY : Hid (V = true → rzM (mD bs) u 13 0 s = rzM (mD bs) u (13 - m) m t1) := fun e => by
        subst e
        rw [hs, rz_yes (by rw [hg]; exact e2), show 13 - m = f by omega, hm]
      have HX : Hid (V = false → rzM (mD bs) u 13 0 s = (n, t1)) := fun e => by
        subst e
        rw [hs, rz_no (by rw [hg]; exact e2)]
      have k3 := fla_ok (mkD hb) g HK.out
      rw [e2] at k3
      have HK3 : Hid (okS okDm (N + 4 * m) t1) := by
        show _
        rw [← hm]
        exact k3
      have UF2 := Lib.hid (fun G w (h : (RdF a bs) w G t) => UF.out (N + 4 * n) g t G w h HK.out (by omega))
      rw [e2] at UF2
      clear hs hf hg e2 k3 HS HK
      go_wp2_with fail
      go_still_tail 12, (by kernel_rfl)
      change wpList _ _ _ _ _ wr.drew
      have HO2 := Lib.hid (RdF.ext HO.out ((Ext.refl wr).drew))
      have HG2 := Lib.hid (HG.out.ext ((Ext.refl wr).drew))
      clear HO HG
      generalize wr.drew = wz at HO2 HG2 ⊢
      have U3 := Lib.hid (UF2.out G wz HO2.out)
      clear UF2
      go_wp2_with fail
      refine (U3.out).mono ?_; rintro e w3 ⟨rfl, G3, h3, g3⟩
      have H3 := Lib.hid h3
      have G3' := Lib.hid (HG2.out.trans g3)
      clear h3 g3 HG2 HO2 U3
      cases V
      · have HZ := Lib.hid (HX.out rfl)
        clear HX HY
        obtain ⟨Q, hQ, hQ2⟩ : ∃ Q, 4 * (n + 1) = Q ∧ Q ≤ 56 := ⟨_, rfl, by omega⟩
        have HK4 : Hid (okS okDm (N + Q) t1) := by rw [← hQ, hm]; exact HK3.out
        clear HK3 q1 q4 q3 hm hQ
        have HR : Hid (rstM (mD bs) u s = rbM (mD bs) u n 1 t1) := by
          show _ = _
          unfold rstM
          rw [HZ.out]
        clear HZ
        go_wp2_with fail
        go_loopw [6, 7] (fun cv kv wr => ∃ (k c : Nat) (t : Ms Dc) (G : Nat → Prop), k ≤ n ∧ kv = .int .i64 ((k : Int) - 1) ∧ cv = .int .i64 (c : Int) ∧ Hid ((c + 1) * 2 ^ k ≤ 16384) ∧ Hid (rstM (mD bs) u s = rbM (mD bs) u k c t) ∧ Hid (okS okDm (N + Q + 4 * (n - k)) t) ∧ Hid ((RdF a bs) wr G t) ∧ Hid (Step F w G wr)) (fun _ kv _ => (intOf kv + 1).toNat)
        case atStart =>
          refine ⟨n, 1, t1, G3, Nat.le_refl _, by go_num, rfl, ?_, HR.out, ?_, H3.out, G3'.out⟩
          · show (1 + 1) * 2 ^ n ≤ 16384
            have := Nat.pow_le_pow_right (n := 2) (by decide) hn
            omega
          · rw [Nat.sub_self]; exact HK4.out
        case round =>
          clear HR H3 G3' HK4
          obtain ⟨k, c, t, G, hk, rfl, rfl, HC, HS, HK, HO, HG⟩ := hrel
          cases k
          · rw [show ((0 : Nat) : Int) - 1 = -1 from rfl]
            have hs := HS.out
            rw [show rbM (mD bs) u 0 c t = (c, t) from rfl] at hs
            have HR := Lib.hid hs
            clear hs HS HC HK
            go_wp2
            go_ret
            exact ⟨by rw [HR.out]; rfl, G, by rw [HR.out]; exact HO.out, HG.out⟩
          · rename_i k
            rw [show ((k + 1 : Nat) : Int) - 1 = (k : Int) by omega]
            have x2 : (0 : Int) ≤ (k : Int) := by omega
            have hc := HC.out
            have hc2 : c ≤ 16383 := by
              have := Nat.le_mul_of_pos_right (c + 1) (Nat.pos_of_ne_zero (fun e => by simp at e) : 0 < 2 ^ (k + 1))
              omega
            obtain ⟨d, hd⟩ : ∃ d : Nat, 2 * c = d := ⟨_, rfl⟩
            have q5 : IntKind.i64.wrap ((c : Int) * 2) = (d : Int) := by rw [IntKind.wrap_i64]; omega
            have q6 : IntKind.i64.wrap ((d : Int) + 1) = (d : Int) + 1 := by rw [IntKind.wrap_i64]; omega
            have q7 : IntKind.i64.wrap ((k : Int) - 1) = (k : Int) - 1 := by rw [IntKind.wrap_i64]; omega
            obtain ⟨g, hg⟩ : ∃ g, bitAt u k = g := ⟨_, rfl⟩
            have q8 : (u / (2 : Int) ^ k % 2 == 1) = g := by rw [bit_and]; exact hg
            have q9 : Op.shift .shr .i64 u .i64 (k : Int) = pure (.int .i64 (u / (2 : Int) ^ k)) := shr_any u k (by omega)
            have qa : Op.intBits .and .i64 (u / (2 : Int) ^ k) 1 = pure (.int .i64 (u / (2 : Int) ^ k % 2)) := and_one _
            obtain ⟨⟨V, t2⟩, e2⟩ : ∃ r, flaM (mD bs) t g = r := ⟨_, rfl⟩
            have hs := HS.out
            rw [rb_step (b := V) (s1 := t2) (by rw [hg]; exact e2), hd] at hs
            have HS2 := Lib.hid hs
            have k3 := fla_ok (mkD hb) g HK.out
            rw [e2] at k3
            have HK5 : Hid (okS okDm (N + Q + 4 * (n - k)) t2) := by
              show _
              rw [show n - k = (n - (k + 1)) + 1 by omega]
              exact k3
            have HC2 : Hid ((d + 2) * 2 ^ k ≤ 16384) := by
              show _
              rw [Nat.pow_succ, Nat.mul_comm (2 ^ k) 2, ← Nat.mul_assoc] at hc
              rw [← hd, show 2 * c + 2 = (c + 1) * 2 by omega]
              exact hc
            have UF2 := Lib.hid (fun G w (h : (RdF a bs) w G t) => UF.out (N + Q + 4 * (n - (k + 1))) g t G w h HK.out (by omega))
            rw [e2] at UF2
            clear hs hg e2 k3 HS HK HC hc hd
            go_wp2_with fail
            go_still_tail 9, (by kernel_rfl)
            change wpList _ _ _ _ _ wr.drew
            have HO2 := Lib.hid (RdF.ext HO.out ((Ext.refl wr).drew))
            have HG2 := Lib.hid (HG.out.ext ((Ext.refl wr).drew))
            clear HO HG
            generalize wr.drew = wz at HO2 HG2 ⊢
            have U3 := Lib.hid (UF2.out G wz HO2.out)
            clear UF2
            go_wp2_with fail
            refine (U3.out).mono ?_; rintro e w3 ⟨rfl, G3, h3, g3⟩
            have H3 := Lib.hid h3
            have G3' := Lib.hid (HG2.out.trans g3)
            clear h3 g3 HG2 HO2 U3
            cases V
            · go_wp2
              go_roundw
              case rel => exact ⟨k, d, t2, G3, by omega, by go_num, rfl, Nat.le_trans (Nat.mul_le_mul_right _ (by omega)) HC2.out, HS2.out, HK5.out, H3.out, G3'.out⟩
              case measure => simp [intOf] <;> omega
            · go_wp2
              go_roundw
              case rel => exact ⟨k, d + 1, t2, G3, by omega, by go_num, by go_num, HC2.out, HS2.out, HK5.out, H3.out, G3'.out⟩
              case measure => simp [intOf] <;> omega
      · have HS3 := Lib.hid (HY.out rfl)
        clear HX HY
        go_wp2
        go_roundw
        case rel => exact ⟨m, t1, G3, by omega, by go_num, HS3.out, HK3.out, H3.out, G3'.out⟩
        case measure => simp [intOf] <;> omega
    · have h13 : n = 13 := by omega
      have x1 : ¬ (n : Int) < 13 := by omega
      have HZ : Hid (rzM (mD bs) u 13 0 s = (n, t)) := by
        have := HS.out
        rw [show 13 - n = 0 by omega] at this
        exact this
      obtain ⟨Q, hQ, hQ2⟩ : ∃ Q, 4 * n = Q ∧ Q ≤ 56 := ⟨_, rfl, by omega⟩
      have HK4 : Hid (okS okDm (N + Q) t) := by rw [← hQ]; exact HK.out
      obtain ⟨t1, ht⟩ : ∃ x, x = t := ⟨_, rfl⟩
      subst ht
      obtain ⟨G3, ht⟩ : ∃ x, x = G := ⟨_, rfl⟩
      subst ht
      have d1 : decide ((n : Int) < 13) = false := decide_eq_false x1
      clear h13 hlt hQ HS HK x1
      go_wp2_with fail
      go_quiet (fail)
      have H3 := Lib.hid (RdF.ext HO.out ((Ext.refl wr).drewN nq))
      have G3' := Lib.hid (HG.out.ext ((Ext.refl wr).drewN nq))
      clear HO HG
      generalize wr.drewN nq = w3 at H3 G3' ⊢
      have HR : Hid (rstM (mD bs) u s = rbM (mD bs) u n 1 t1) := by
        show _ = _
        unfold rstM
        rw [HZ.out]
      clear HZ
      go_wp2_with fail
      go_loopw [6, 7] (fun cv kv wr => ∃ (k c : Nat) (t : Ms Dc) (G : Nat → Prop), k ≤ n ∧ kv = .int .i64 ((k : Int) - 1) ∧ cv = .int .i64 (c : Int) ∧ Hid ((c + 1) * 2 ^ k ≤ 16384) ∧ Hid (rstM (mD bs) u s = rbM (mD bs) u k c t) ∧ Hid (okS okDm (N + Q + 4 * (n - k)) t) ∧ Hid ((RdF a bs) wr G t) ∧ Hid (Step F w G wr)) (fun _ kv _ => (intOf kv + 1).toNat)
      case atStart =>
        refine ⟨n, 1, t1, G3, Nat.le_refl _, by go_num, rfl, ?_, HR.out, ?_, H3.out, G3'.out⟩
        · show (1 + 1) * 2 ^ n ≤ 16384
          have := Nat.pow_le_pow_right (n := 2) (by decide) hn
          omega
        · rw [Nat.sub_self]; exact HK4.out
      case round =>
        clear HR H3 G3' HK4
        obtain ⟨k, c, t, G, hk, rfl, rfl, HC, HS, HK, HO, HG⟩ := hrel
        cases k
        · rw [show ((0 : Nat) : Int) - 1 = -1 from rfl]
          have hs := HS.out
          rw [show rbM (mD bs) u 0 c t = (c, t) from rfl] at hs
          have HR := Lib.hid hs
          clear hs HS HC HK
          go_wp2
          go_ret
          exact ⟨by rw [HR.out]; rfl, G, by rw [HR.out]; exact HO.out, HG.out⟩
        · rename_i k
          rw [show ((k + 1 : Nat) : Int) - 1 = (k : Int) by omega]
          have x2 : (0 : Int) ≤ (k : Int) := by omega
          have hc := HC.out
          have hc2 : c ≤ 16383 := by
            have := Nat.le_mul_of_pos_right (c + 1) (Nat.pos_of_ne_zero (fun e => by simp at e) : 0 < 2 ^ (k + 1))
            omega
          obtain ⟨d, hd⟩ : ∃ d : Nat, 2 * c = d := ⟨_, rfl⟩
          have q5 : IntKind.i64.wrap ((c : Int) * 2) = (d : Int) := by rw [IntKind.wrap_i64]; omega
          have q6 : IntKind.i64.wrap ((d : Int) + 1) = (d : Int) + 1 := by rw [IntKind.wrap_i64]; omega
          have q7 : IntKind.i64.wrap ((k : Int) - 1) = (k : Int) - 1 := by rw [IntKind.wrap_i64]; omega
          obtain ⟨g, hg⟩ : ∃ g, bitAt u k = g := ⟨_, rfl⟩
          have q8 : (u / (2 : Int) ^ k % 2 == 1) = g := by rw [bit_and]; exact hg
          have q9 : Op.shift .shr .i64 u .i64 (k : Int) = pure (.int .i64 (u / (2 : Int) ^ k)) := shr_any u k (by omega)
          have qa : Op.intBits .and .i64 (u / (2 : Int) ^ k) 1 = pure (.int .i64 (u / (2 : Int) ^ k % 2)) := and_one _
          obtain ⟨⟨V, t2⟩, e2⟩ : ∃ r, flaM (mD bs) t g = r := ⟨_, rfl⟩
          have hs := HS.out
          rw [rb_step (b := V) (s1 := t2) (by rw [hg]; exact e2), hd] at hs
          have HS2 := Lib.hid hs
          have k3 := fla_ok (mkD hb) g HK.out
          rw [e2] at k3
          have HK5 : Hid (okS okDm (N + Q + 4 * (n - k)) t2) := by
            show _
            rw [show n - k = (n - (k + 1)) + 1 by omega]
            exact k3
          have HC2 : Hid ((d + 2) * 2 ^ k ≤ 16384) := by
            show _
            rw [Nat.pow_succ, Nat.mul_comm (2 ^ k) 2, ← Nat.mul_assoc] at hc
            rw [← hd, show 2 * c + 2 = (c + 1) * 2 by omega]
            exact hc
          have UF2 := Lib.hid (fun G w (h : (RdF a bs) w G t) => UF.out (N + Q + 4 * (n - (k + 1))) g t G w h HK.out (by omega))
          rw [e2] at UF2
          clear hs hg e2 k3 HS HK HC hc hd
          go_wp2_with fail
          go_still_tail 9, (by kernel_rfl)
          change wpList _ _ _ _ _ wr.drew
          have HO2 := Lib.hid (RdF.ext HO.out ((Ext.refl wr).drew))
          have HG2 := Lib.hid (HG.out.ext ((Ext.refl wr).drew))
          clear HO HG
          generalize wr.drew = wz at HO2 HG2 ⊢
          have U3 := Lib.hid (UF2.out G wz HO2.out)
          clear UF2
          go_wp2_with fail
          refine (U3.out).mono ?_; rintro e w3 ⟨rfl, G3, h3, g3⟩
          have H3 := Lib.hid h3
          have G3' := Lib.hid (HG2.out.trans g3)
          clear h3 g3 HG2 HO2 U3
          cases V
          · go_wp2
            go_roundw
            case rel => exact ⟨k, d, t2, G3, by omega, by go_num, rfl, Nat.le_trans (Nat.mul_le_mul_right _ (by omega)) HC2.out, HS2.out, HK5.out, H3.out, G3'.out⟩
            case measure => simp [intOf] <;> omega
          · go_wp2
            go_roundw
            case rel => exact ⟨k, d + 1, t2, G3, by omega, by go_num, by go_num, HC2.out, HS2.out, HK5.out, H3.out, G3'.out⟩
            case measure => simp [intOf] <;> omega
end Go.Proofs.YtdndambkaohgiaaGreatDoor
