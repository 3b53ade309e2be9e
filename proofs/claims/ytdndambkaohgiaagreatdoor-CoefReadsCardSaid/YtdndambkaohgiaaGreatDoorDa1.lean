/- kinref14.size, rest: contracts over this seat's translation. -/
import Derived.Test.YtdndambkaohgiaaGreatDoorCf2
import Derived.Test.YtdndambkaohgiaaGreatDoorCfH
import Derived.Test.YtdndambkaohgiaaGreatDoorMd9
import Derived.Test.YtdndambkaohgiaaGreatDoorMd11
namespace Go.Proofs.YtdndambkaohgiaaGreatDoor
set_option linter.unusedVariables false
set_option linter.unusedSimpArgs false
open Go.RowKit Go.Extern.Stop Go.Stop Go.Extern

theorem shr_anyU (u : Int) (k : Nat) (h : k ≤ 13) : Op.shift .shr .i64 u .u64 (k : Int) = pure (.int .i64 (u / (2 : Int) ^ k)) := by
  unfold Op.shift
  rw [if_neg (by omega)]
  have e : min (k : Int).toNat IntKind.i64.bits = k := by rw [show IntKind.i64.bits = 64 from rfl]; omega
  rw [e]
  show pure (Value.int .i64 (u.fdiv (2 ^ k))) = _
  rw [Int.fdiv_eq_ediv_of_nonneg _ (Int.le_of_lt (two_pos k))]
theorem wrap_u64n (m : Nat) (h : m ≤ 14) : IntKind.u64.wrap (m : Int) = (m : Int) := by rw [IntKind.wrap_u64]; omega
theorem lastP_pos (xs : List Int) (od : List Nat) : ∀ m, 0 < lastP xs od m → xs.getD (od.getD (lastP xs od m) 0) 0 ≠ 0
  | 0, h => absurd h (Nat.lt_irrefl _)
  | m + 1, h => by
    unfold lastP at h ⊢
    split
    · assumption
    · rename_i hz
      rw [if_neg hz] at h
      exact lastP_pos xs od m h
set_option maxRecDepth 20000 in
set_option maxHeartbeats 2000000 in
theorem dwsize_any (a N : Nat)  (C : Nat) (hC : C ≤ 80) (z : Int) (hz0 : -20 ≤ z) (hz1 : z ≤ 17000) (s : Ms Xe) (F : Nat → Prop) (w : World) (h : (DwF a) w F s) (hk : okS okXm N s) (hN : N ≤ 3990000) : Calls Tryz.prog 52 #[.pointer (some ⟨a, 0, none⟩), .int .i64 (C : Int), .int .i64 z] w (FPost (DwF a) F w (.int .i64 ((csM mX (C + 17) z 14 0 s).1 : Int)) (csM mX (C + 17) z 14 0 s).2) := by
  have UB := Lib.hid ((fun N c up s F w h hk hN => dwbit_any a N c up s F w h hk hN))
  have UF := Lib.hid ((fun N up s F w h hk hN => dwflat_any a N up s F w h hk hN))
  have HK := Lib.hid hk
  have HO := Lib.hid h
  have p1 : IntKind.i64.wrap ((C : Int) + 17) = (C : Int) + 17 := by rw [IntKind.wrap_i64]; omega
  have r2 := mn2
  clear h hk
  go_enter Tryz.func52, Tryz.ntmps52
  go_wp2_with fail
  go_loopw [7] (fun iv wr => ∃ (n : Nat) (t : Ms Xe) (G : Nat → Prop), n ≤ 14 ∧ iv = .int .i64 (n : Int) ∧ Hid (csM mX (C + 17) z 14 0 s = csM mX (C + 17) z (14 - n) n t) ∧ Hid (okS okXm (N + 4 * n) t) ∧ Hid ((DwF a) wr G t) ∧ Hid (Step F w G wr)) (fun iv _ => 14 - (intOf iv).toNat)
  case atStart => exact ⟨0, s, F, Nat.zero_le _, rfl, rfl, HK.out, HO.out, Step.of_ext (Ext.refl w)⟩
  case round =>
    clear HO HK
    obtain ⟨n, t, G, hn, rfl, HS, HK, HO, HG⟩ := hrel
    by_cases hlt : n < 14
    · obtain ⟨f, hf⟩ : ∃ f, 14 - n = f + 1 := ⟨13 - n, by omega⟩
      have hs := HS.out
      rw [hf] at hs
      obtain ⟨D, hD⟩ : ∃ D : Nat, C + 17 + min n 7 = D := ⟨_, rfl⟩
      obtain ⟨bz, hbz⟩ : ∃ b, decide ((n : Int) < z) = b := ⟨_, rfl⟩
      obtain ⟨⟨V2, t1⟩, e2⟩ : ∃ r, bitM mX t ((C + 17 + min n 7 : Nat) : Int) (decide ((n : Int) < z)) = r := ⟨_, rfl⟩
      have HY : Hid (V2 = true → csM mX (C + 17) z 14 0 s = csM mX (C + 17) z (14 - (n + 1)) (n + 1) t1) := fun e => by
        subst e
        rw [hs, cs_yes e2, show 14 - (n + 1) = f by omega]
      have HX : Hid (V2 = false → csM mX (C + 17) z 14 0 s = (n, t1)) := fun e => by
        subst e
        rw [hs, cs_no e2]
      have k3 := bit_ok mkX ((C + 17 + min n 7 : Nat) : Int) (decide ((n : Int) < z)) HK.out
      rw [e2] at k3
      have HK3 : Hid (okS okXm (N + 4 * (n + 1)) t1) := k3
      have U2 := Lib.hid (UB.out (N + 4 * n) ((C + 17 + min n 7 : Nat) : Int) (decide ((n : Int) < z)) t G wr HO.out HK.out (by omega))
      rw [e2, hbz, hD] at U2
      have x1 : (n : Int) < 14 := by omega
      have q4 : IntKind.i64.wrap ((C : Int) + 17 + min (n : Int) 7) = (D : Int) := by rw [IntKind.wrap_i64]; omega
      have d3 := hbz
      clear hs hf hD hbz e2 k3 HS HK HO
      go_wp2_with fail
      refine (U2.out).mono ?_; rintro e w3 ⟨rfl, G3, h3, g3⟩
      have H3 := Lib.hid h3
      have G3' := Lib.hid (HG.out.trans g3)
      clear h3 g3 HG
      cases V2
      · have HRR := Lib.hid (HX.out rfl)
        clear HX HY U2 UB UF
        go_wp2
        go_ret
        exact ⟨by rw [HRR.out]; rfl, G3, by rw [HRR.out]; exact H3.out, G3'.out⟩
      · have HS3 := Lib.hid (HY.out rfl)
        clear HX HY U2
        go_wp2
        go_roundw
        case rel => exact ⟨n + 1, t1, G3, by omega, by go_num, HS3.out, HK3.out, H3.out, G3'.out⟩
        case measure => simp [intOf] <;> omega
    · obtain rfl : n = 14 := by omega
      have x1 : ¬ ((14 : Nat) : Int) < 14 := by omega
      obtain ⟨u, hu⟩ : ∃ u, z - 13 = u := ⟨_, rfl⟩
      have q5 : IntKind.i64.wrap (z - 13) = u := by rw [IntKind.wrap_i64]; omega
      have hu0 : -100 ≤ u := by omega
      have hu1 : u ≤ 20000 := by omega
      have HS0 : Hid (csM mX (C + 17) z 14 0 s = (13 + (rstM mX u t).1, (rstM mX u t).2)) := by
        show _ = _
        rw [HS.out, ← hu]
        rfl
      clear HS hu hlt hn hz0 hz1 p1
      go_wp2_with fail
      go_loopw [9] (fun iv wr => ∃ (n : Nat) (t1 : Ms Xe) (G : Nat → Prop), n ≤ 13 ∧ iv = .int .i64 (n : Int) ∧ Hid (rzM mX u 13 0 t = rzM mX u (13 - n) n t1) ∧ Hid (okS okXm (N + 4 * 14 + 4 * n) t1) ∧ Hid ((DwF a) wr G t1) ∧ Hid (Step F w G wr)) (fun iv _ => 13 - (intOf iv).toNat)
      case atStart => exact ⟨0, t, G, Nat.zero_le _, rfl, rfl, HK.out, HO.out, HG.out⟩
      case round =>
        clear HK HO HG
        obtain ⟨n, t1, G1, hn, rfl, HS, HK, HO, HG⟩ := hrel
        by_cases hlt : n < 13
        · have x1 : (n : Int) < 13 := by omega
          obtain ⟨f, hf⟩ : ∃ f, 13 - n = f + 1 := ⟨12 - n, by omega⟩
          have hs := HS.out
          rw [hf] at hs
          obtain ⟨m, hm⟩ : ∃ m : Nat, n + 1 = m := ⟨_, rfl⟩
          have q1 : IntKind.i64.wrap ((n : Int) + 1) = (m : Int) := by rw [IntKind.wrap_i64]; omega
          have q6 : IntKind.u64.wrap (m : Int) = (m : Int) := wrap_u64n m (by omega)
          have q4 : IntKind.i64.wrap ((2 : Int) ^ m) = (2 : Int) ^ m := wrap_two m (by omega)
          obtain ⟨g, hg⟩ : ∃ g, geAt u n = g := ⟨_, rfl⟩
          have q3 : decide ((2 : Int) ^ m ≤ u) = g := by rw [← hg, ← hm]; rfl
          obtain ⟨⟨V, t2⟩, e2⟩ : ∃ r, flaM mX t1 g = r := ⟨_, rfl⟩
          have HY : Hid (V = true → rzM mX u 13 0 t = rzM mX u (13 - m) m t2) := fun e => by
            subst e
            rw [hs, rz_yes (by rw [hg]; exact e2), show 13 - m = f by omega, hm]
          have HX : Hid (V = false → rzM mX u 13 0 t = (n, t2)) := fun e => by
            subst e
            rw [hs, rz_no (by rw [hg]; exact e2)]
          have k3 := fla_ok mkX g HK.out
          rw [e2] at k3
          have HK3 : Hid (okS okXm (N + 4 * 14 + 4 * m) t2) := by
            show _
            rw [← hm]
            exact k3
          have U3 := Lib.hid (UF.out (N + 4 * 14 + 4 * n) g t1 G1 wr HO.out HK.out (by omega))
          rw [e2] at U3
          clear hs hf hg e2 k3 HS HK HO
          go_wp2_with fail
          refine (U3.out).mono ?_; rintro e w3 ⟨rfl, G3, h3, g3⟩
          have H3 := Lib.hid h3
          have G3' := Lib.hid (HG.out.trans g3)
          clear h3 g3 HG U3
          cases V
          · have HZ := Lib.hid (HX.out rfl)
            clear HX HY
            obtain ⟨Q, hQ, hQ2⟩ : ∃ Q, 4 * (n + 1) = Q ∧ Q ≤ 56 := ⟨_, rfl, by omega⟩
            have HK4 : Hid (okS okXm (N + 4 * 14 + Q) t2) := by rw [← hQ, hm]; exact HK3.out
            clear HK3 q1 q4 q3 q6 hm hQ
            have HR : Hid (rstM mX u t = rbM mX u n 1 t2) := by
              show _ = _
              unfold rstM
              rw [HZ.out]
            clear HZ
            go_wp2_with fail
            go_loopw [10, 11] (fun cv kv wr => ∃ (k c : Nat) (t3 : Ms Xe) (G : Nat → Prop), k ≤ n ∧ kv = .int .i64 ((k : Int) - 1) ∧ cv = .int .i64 (c : Int) ∧ Hid ((c + 1) * 2 ^ k ≤ 16384) ∧ Hid (rstM mX u t = rbM mX u k c t3) ∧ Hid (okS okXm (N + 4 * 14 + Q + 4 * (n - k)) t3) ∧ Hid ((DwF a) wr G t3) ∧ Hid (Step F w G wr)) (fun _ kv _ => (intOf kv + 1).toNat)
            case atStart =>
              refine ⟨n, 1, t2, G3, Nat.le_refl _, by go_num, rfl, ?_, HR.out, ?_, H3.out, G3'.out⟩
              · show (1 + 1) * 2 ^ n ≤ 16384
                have := Nat.pow_le_pow_right (n := 2) (by decide) hn
                omega
              · rw [Nat.sub_self]; exact HK4.out
            case round =>
              clear HR H3 G3' HK4
              obtain ⟨k, c, t3, G4, hk, rfl, rfl, HC, HS, HK, HO, HG⟩ := hrel
              cases k
              · rw [show ((0 : Nat) : Int) - 1 = -1 from rfl]
                have hs := HS.out
                rw [show rbM mX u 0 c t3 = (c, t3) from rfl] at hs
                have HR : Hid (csM mX (C + 17) z 14 0 s = (13 + c, t3)) := by
                  show _ = _
                  rw [HS0.out, hs]
                have hc2 : c ≤ 16383 := by
                  have := HC.out
                  omega
                have q7 : IntKind.i64.wrap (13 + (c : Int)) = ((13 + c : Nat) : Int) := by rw [IntKind.wrap_i64]; omega
                clear hs HS HC HK HS0
                go_wp2
                go_ret
                exact ⟨by rw [HR.out]; rfl, G4, by rw [HR.out]; exact HO.out, HG.out⟩
              · rename_i k
                rw [show ((k + 1 : Nat) : Int) - 1 = (k : Int) by omega]
                have x2 : (0 : Int) ≤ (k : Int) := by omega
                have hc := HC.out
                have hc2 : c ≤ 16383 := by
                  have := Nat.le_mul_of_pos_right (c + 1) (Nat.pos_of_ne_zero (fun e => by simp at e) : 0 < 2 ^ (k + 1))
                  omega
                obtain ⟨d5, hd⟩ : ∃ d : Nat, 2 * c = d := ⟨_, rfl⟩
                have q5 : IntKind.i64.wrap (2 * (c : Int)) = (d5 : Int) := by rw [IntKind.wrap_i64]; omega
                have q6 : IntKind.i64.wrap ((d5 : Int) + 1) = (d5 : Int) + 1 := by rw [IntKind.wrap_i64]; omega
                have q7 : IntKind.i64.wrap ((k : Int) - 1) = (k : Int) - 1 := by rw [IntKind.wrap_i64]; omega
                have q10 : IntKind.u64.wrap (k : Int) = (k : Int) := wrap_u64n k (by omega)
                obtain ⟨g, hg⟩ : ∃ g, bitAt u k = g := ⟨_, rfl⟩
                have q8 : (u / (2 : Int) ^ k % 2 == 1) = g := by rw [bit_and]; exact hg
                have q9 : Op.shift .shr .i64 u .u64 (k : Int) = pure (.int .i64 (u / (2 : Int) ^ k)) := shr_anyU u k (by omega)
                have qa : Op.intBits .and .i64 (u / (2 : Int) ^ k) 1 = pure (.int .i64 (u / (2 : Int) ^ k % 2)) := and_one _
                obtain ⟨⟨V, t4⟩, e2⟩ : ∃ r, flaM mX t3 g = r := ⟨_, rfl⟩
                have hs := HS.out
                rw [rb_step (b := V) (s1 := t4) (by rw [hg]; exact e2), hd] at hs
                have HS2 := Lib.hid hs
                have k3 := fla_ok mkX g HK.out
                rw [e2] at k3
                have HK5 : Hid (okS okXm (N + 4 * 14 + Q + 4 * (n - k)) t4) := by
                  show _
                  rw [show n - k = (n - (k + 1)) + 1 by omega]
                  exact k3
                have HC2 : Hid ((d5 + 2) * 2 ^ k ≤ 16384) := by
                  show _
                  rw [Nat.pow_succ, Nat.mul_comm (2 ^ k) 2, ← Nat.mul_assoc] at hc
                  rw [← hd, show 2 * c + 2 = (c + 1) * 2 by omega]
                  exact hc
                have U3 := Lib.hid (UF.out (N + 4 * 14 + Q + 4 * (n - (k + 1))) g t3 G4 wr HO.out HK.out (by omega))
                rw [e2] at U3
                clear hs hg e2 k3 HS HK HC hc hd HO
                go_wp2_with fail
                refine (U3.out).mono ?_; rintro e w3 ⟨rfl, G5, h3, g3⟩
                have H3 := Lib.hid h3
                have G3' := Lib.hid (HG.out.trans g3)
                clear h3 g3 HG U3
                cases V
                · go_wp2
                  go_roundw
                  case rel => exact ⟨k, d5, t4, G5, by omega, by go_num, rfl, Nat.le_trans (Nat.mul_le_mul_right _ (by omega)) HC2.out, HS2.out, HK5.out, H3.out, G3'.out⟩
                  case measure => simp [intOf] <;> omega
                · go_wp2
                  go_roundw
                  case rel => exact ⟨k, d5 + 1, t4, G5, by omega, by go_num, by go_num, HC2.out, HS2.out, HK5.out, H3.out, G3'.out⟩
                  case measure => simp [intOf] <;> omega
          · have HS3 := Lib.hid (HY.out rfl)
            clear HX HY
            go_wp2
            go_roundw
            case rel => exact ⟨m, t2, G3, by omega, by go_num, HS3.out, HK3.out, H3.out, G3'.out⟩
            case measure => simp [intOf] <;> omega
        · have x1 : ¬ (n : Int) < 13 := by omega
          have HZ : Hid (rzM mX u 13 0 t = (n, t1)) := by
            have := HS.out
            rw [show 13 - n = 0 by omega] at this
            exact this
          obtain ⟨Q, hQ, hQ2⟩ : ∃ Q, 4 * n = Q ∧ Q ≤ 56 := ⟨_, rfl, by omega⟩
          have HK4 : Hid (okS okXm (N + 4 * 14 + Q) t1) := by rw [← hQ]; exact HK.out
          obtain ⟨t2, ht⟩ : ∃ x, x = t1 := ⟨_, rfl⟩
          subst ht
          obtain ⟨G3, ht⟩ : ∃ x, x = G1 := ⟨_, rfl⟩
          subst ht
          have H3 := HO
          have G3' := HG
          clear hlt hQ HS HK HO HG
          have HR : Hid (rstM mX u t = rbM mX u n 1 t2) := by
            show _ = _
            unfold rstM
            rw [HZ.out]
          clear HZ
          go_wp2_with fail
          go_loopw [10, 11] (fun cv kv wr => ∃ (k c : Nat) (t3 : Ms Xe) (G : Nat → Prop), k ≤ n ∧ kv = .int .i64 ((k : Int) - 1) ∧ cv = .int .i64 (c : Int) ∧ Hid ((c + 1) * 2 ^ k ≤ 16384) ∧ Hid (rstM mX u t = rbM mX u k c t3) ∧ Hid (okS okXm (N + 4 * 14 + Q + 4 * (n - k)) t3) ∧ Hid ((DwF a) wr G t3) ∧ Hid (Step F w G wr)) (fun _ kv _ => (intOf kv + 1).toNat)
          case atStart =>
            refine ⟨n, 1, t2, G3, Nat.le_refl _, by go_num, rfl, ?_, HR.out, ?_, H3.out, G3'.out⟩
            · show (1 + 1) * 2 ^ n ≤ 16384
              have := Nat.pow_le_pow_right (n := 2) (by decide) hn
              omega
            · rw [Nat.sub_self]; exact HK4.out
          case round =>
            clear HR H3 G3' HK4
            obtain ⟨k, c, t3, G4, hk, rfl, rfl, HC, HS, HK, HO, HG⟩ := hrel
            cases k
            · rw [show ((0 : Nat) : Int) - 1 = -1 from rfl]
              have hs := HS.out
              rw [show rbM mX u 0 c t3 = (c, t3) from rfl] at hs
              have HR : Hid (csM mX (C + 17) z 14 0 s = (13 + c, t3)) := by
                show _ = _
                rw [HS0.out, hs]
              have hc2 : c ≤ 16383 := by
                have := HC.out
                omega
              have q7 : IntKind.i64.wrap (13 + (c : Int)) = ((13 + c : Nat) : Int) := by rw [IntKind.wrap_i64]; omega
              clear hs HS HC HK HS0
              go_wp2
              go_ret
              exact ⟨by rw [HR.out]; rfl, G4, by rw [HR.out]; exact HO.out, HG.out⟩
            · rename_i k
              rw [show ((k + 1 : Nat) : Int) - 1 = (k : Int) by omega]
              have x2 : (0 : Int) ≤ (k : Int) := by omega
              have hc := HC.out
              have hc2 : c ≤ 16383 := by
                have := Nat.le_mul_of_pos_right (c + 1) (Nat.pos_of_ne_zero (fun e => by simp at e) : 0 < 2 ^ (k + 1))
                omega
              obtain ⟨d5, hd⟩ : ∃ d : Nat, 2 * c = d := ⟨_, rfl⟩
              have q5 : IntKind.i64.wrap (2 * (c : Int)) = (d5 : Int) := by rw [IntKind.wrap_i64]; omega
              have q6 : IntKind.i64.wrap ((d5 : Int) + 1) = (d5 : Int) + 1 := by rw [IntKind.wrap_i64]; omega
              have q7 : IntKind.i64.wrap ((k : Int) - 1) = (k : Int) - 1 := by rw [IntKind.wrap_i64]; omega
              have q10 : IntKind.u64.wrap (k : Int) = (k : Int) := wrap_u64n k (by omega)
              obtain ⟨g, hg⟩ : ∃ g, bitAt u k = g := ⟨_, rfl⟩
              have q8 : (u / (2 : Int) ^ k % 2 == 1) = g := by rw [bit_and]; exact hg
              have q9 : Op.shift .shr .i64 u .u64 (k : Int) = pure (.int .i64 (u / (2 : Int) ^ k)) := shr_anyU u k (by omega)
              have qa : Op.intBits .and .i64 (u / (2 : Int) ^ k) 1 = pure (.int .i64 (u / (2 : Int) ^ k % 2)) := and_one _
              obtain ⟨⟨V, t4⟩, e2⟩ : ∃ r, flaM mX t3 g = r := ⟨_, rfl⟩
              have hs := HS.out
              rw [rb_step (b := V) (s1 := t4) (by rw [hg]; exact e2), hd] at hs
              have HS2 := Lib.hid hs
              have k3 := fla_ok mkX g HK.out
              rw [e2] at k3
              have HK5 : Hid (okS okXm (N + 4 * 14 + Q + 4 * (n - k)) t4) := by
                show _
                rw [show n - k = (n - (k + 1)) + 1 by omega]
                exact k3
              have HC2 : Hid ((d5 + 2) * 2 ^ k ≤ 16384) := by
                show _
                rw [Nat.pow_succ, Nat.mul_comm (2 ^ k) 2, ← Nat.mul_assoc] at hc
                rw [← hd, show 2 * c + 2 = (c + 1) * 2 by omega]
                exact hc
              have U3 := Lib.hid (UF.out (N + 4 * 14 + Q + 4 * (n - (k + 1))) g t3 G4 wr HO.out HK.out (by omega))
              rw [e2] at U3
              clear hs hg e2 k3 HS HK HC hc hd HO
              go_wp2_with fail
              refine (U3.out).mono ?_; rintro e w3 ⟨rfl, G5, h3, g3⟩
              have H3 := Lib.hid h3
              have G3' := Lib.hid (HG.out.trans g3)
              clear h3 g3 HG U3
              cases V
              · go_wp2
                go_roundw
                case rel => exact ⟨k, d5, t4, G5, by omega, by go_num, rfl, Nat.le_trans (Nat.mul_le_mul_right _ (by omega)) HC2.out, HS2.out, HK5.out, H3.out, G3'.out⟩
                case measure => simp [intOf] <;> omega
              · go_wp2
                go_roundw
                case rel => exact ⟨k, d5 + 1, t4, G5, by omega, by go_num, by go_num, HC2.out, HS2.out, HK5.out, H3.out, G3'.out⟩
                case measure => simp [intOf] <;> omega
set_option maxRecDepth 20000 in
set_option maxHeartbeats 2000000 in
theorem drsize_any (a N : Nat) (d : Nat) (bs : List Nat) (C : Nat) (hC : C ≤ 80) (z : Int) (hz0 : -20 ≤ z) (hz1 : z ≤ 17000) (s : Ms Xc) (F : Nat → Prop) (w : World) (h : (DrF a d bs) w F s) (hk : okS okYm N s) (hN : N ≤ 3990000) : Calls Tryz.prog 52 #[.pointer (some ⟨a, 0, none⟩), .int .i64 (C : Int), .int .i64 z] w (FPost (DrF a d bs) F w (.int .i64 ((csM (mY bs) (C + 17) z 14 0 s).1 : Int)) (csM (mY bs) (C + 17) z 14 0 s).2) := by
  have UB := Lib.hid ((fun N c up s F w h hk hN => drbit_any a N d bs c up s F w h hk hN))
  have UF := Lib.hid ((fun N up s F w h hk hN => drflat_any a N d bs up s F w h hk hN))
  have HK := Lib.hid hk
  have HO := Lib.hid h
  have p1 : IntKind.i64.wrap ((C : Int) + 17) = (C : Int) + 17 := by rw [IntKind.wrap_i64]; omega
  have r2 := mn2
  clear h hk
  go_enter Tryz.func52, Tryz.ntmps52
  go_wp2_with fail
  go_loopw [7] (fun iv wr => ∃ (n : Nat) (t : Ms Xc) (G : Nat → Prop), n ≤ 14 ∧ iv = .int .i64 (n : Int) ∧ Hid (csM (mY bs) (C + 17) z 14 0 s = csM (mY bs) (C + 17) z (14 - n) n t) ∧ Hid (okS okYm (N + 4 * n) t) ∧ Hid ((DrF a d bs) wr G t) ∧ Hid (Step F w G wr)) (fun iv _ => 14 - (intOf iv).toNat)
  case atStart => exact ⟨0, s, F, Nat.zero_le _, rfl, rfl, HK.out, HO.out, Step.of_ext (Ext.refl w)⟩
  case round =>
    clear HO HK
    obtain ⟨n, t, G, hn, rfl, HS, HK, HO, HG⟩ := hrel
    by_cases hlt : n < 14
    · obtain ⟨f, hf⟩ : ∃ f, 14 - n = f + 1 := ⟨13 - n, by omega⟩
      have hs := HS.out
      rw [hf] at hs
      obtain ⟨D, hD⟩ : ∃ D : Nat, C + 17 + min n 7 = D := ⟨_, rfl⟩
      obtain ⟨bz, hbz⟩ : ∃ b, decide ((n : Int) < z) = b := ⟨_, rfl⟩
      obtain ⟨⟨V2, t1⟩, e2⟩ : ∃ r, bitM (mY bs) t ((C + 17 + min n 7 : Nat) : Int) (decide ((n : Int) < z)) = r := ⟨_, rfl⟩
      have HY : Hid (V2 = true → csM (mY bs) (C + 17) z 14 0 s = csM (mY bs) (C + 17) z (14 - (n + 1)) (n + 1) t1) := fun e => by
        subst e
        rw [hs, cs_yes e2, show 14 - (n + 1) = f by omega]
      have HX : Hid (V2 = false → csM (mY bs) (C + 17) z 14 0 s = (n, t1)) := fun e => by
        subst e
        rw [hs, cs_no e2]
      have k3 := bit_ok (mkY (bs := bs)) ((C + 17 + min n 7 : Nat) : Int) (decide ((n : Int) < z)) HK.out
      rw [e2] at k3
      have HK3 : Hid (okS okYm (N + 4 * (n + 1)) t1) := k3
      have U2 := Lib.hid (UB.out (N + 4 * n) ((C + 17 + min n 7 : Nat) : Int) (decide ((n : Int) < z)) t G wr HO.out HK.out (by omega))
      rw [e2, hbz, hD] at U2
      have x1 : (n : Int) < 14 := by omega
      have q4 : IntKind.i64.wrap ((C : Int) + 17 + min (n : Int) 7) = (D : Int) := by rw [IntKind.wrap_i64]; omega
      have d3 := hbz
      clear hs hf hD hbz e2 k3 HS HK HO
      go_wp2_with fail
      refine (U2.out).mono ?_; rintro e w3 ⟨rfl, G3, h3, g3⟩
      have H3 := Lib.hid h3
      have G3' := Lib.hid (HG.out.trans g3)
      clear h3 g3 HG
      cases V2
      · have HRR := Lib.hid (HX.out rfl)
        clear HX HY U2 UB UF
        go_wp2
        go_ret
        exact ⟨by rw [HRR.out]; rfl, G3, by rw [HRR.out]; exact H3.out, G3'.out⟩
      · have HS3 := Lib.hid (HY.out rfl)
        clear HX HY U2
        go_wp2
        go_roundw
        case rel => exact ⟨n + 1, t1, G3, by omega, by go_num, HS3.out, HK3.out, H3.out, G3'.out⟩
        case measure => simp [intOf] <;> omega
    · obtain rfl : n = 14 := by omega
      have x1 : ¬ ((14 : Nat) : Int) < 14 := by omega
      obtain ⟨u, hu⟩ : ∃ u, z - 13 = u := ⟨_, rfl⟩
      have q5 : IntKind.i64.wrap (z - 13) = u := by rw [IntKind.wrap_i64]; omega
      have hu0 : -100 ≤ u := by omega
      have hu1 : u ≤ 20000 := by omega
      have HS0 : Hid (csM (mY bs) (C + 17) z 14 0 s = (13 + (rstM (mY bs) u t).1, (rstM (mY bs) u t).2)) := by
        show _ = _
        rw [HS.out, ← hu]
        rfl
      clear HS hu hlt hn hz0 hz1 p1
      go_wp2_with fail
      go_loopw [9] (fun iv wr => ∃ (n : Nat) (t1 : Ms Xc) (G : Nat → Prop), n ≤ 13 ∧ iv = .int .i64 (n : Int) ∧ Hid (rzM (mY bs) u 13 0 t = rzM (mY bs) u (13 - n) n t1) ∧ Hid (okS okYm (N + 4 * 14 + 4 * n) t1) ∧ Hid ((DrF a d bs) wr G t1) ∧ Hid (Step F w G wr)) (fun iv _ => 13 - (intOf iv).toNat)
      case atStart => exact ⟨0, t, G, Nat.zero_le _, rfl, rfl, HK.out, HO.out, HG.out⟩
      case round =>
        clear HK HO HG
        obtain ⟨n, t1, G1, hn, rfl, HS, HK, HO, HG⟩ := hrel
        by_cases hlt : n < 13
        · have x1 : (n : Int) < 13 := by omega
          obtain ⟨f, hf⟩ : ∃ f, 13 - n = f + 1 := ⟨12 - n, by omega⟩
          have hs := HS.out
          rw [hf] at hs
          obtain ⟨m, hm⟩ : ∃ m : Nat, n + 1 = m := ⟨_, rfl⟩
          have q1 : IntKind.i64.wrap ((n : Int) + 1) = (m : Int) := by rw [IntKind.wrap_i64]; omega
          have q6 : IntKind.u64.wrap (m : Int) = (m : Int) := wrap_u64n m (by omega)
          have q4 : IntKind.i64.wrap ((2 : Int) ^ m) = (2 : Int) ^ m := wrap_two m (by omega)
          obtain ⟨g, hg⟩ : ∃ g, geAt u n = g := ⟨_, rfl⟩
          have q3 : decide ((2 : Int) ^ m ≤ u) = g := by rw [← hg, ← hm]; rfl
          obtain ⟨⟨V, t2⟩, e2⟩ : ∃ r, flaM (mY bs) t1 g = r := ⟨_, rfl⟩
          have HY : Hid (V = true → rzM (mY bs) u 13 0 t = rzM (mY bs) u (13 - m) m t2) := fun e => by
            subst e
            rw [hs, rz_yes (by rw [hg]; exact e2), show 13 - m = f by omega, hm]
          have HX : Hid (V = false → rzM (mY bs) u 13 0 t = (n, t2)) := fun e => by
            subst e
            rw [hs, rz_no (by rw [hg]; exact e2)]
          have k3 := fla_ok (mkY (bs := bs)) g HK.out
          rw [e2] at k3
          have HK3 : Hid (okS okYm (N + 4 * 14 + 4 * m) t2) := by
            show _
            rw [← hm]
            exact k3
          have U3 := Lib.hid (UF.out (N + 4 * 14 + 4 * n) g t1 G1 wr HO.out HK.out (by omega))
          rw [e2] at U3
          clear hs hf hg e2 k3 HS HK HO
          go_wp2_with fail
          refine (U3.out).mono ?_; rintro e w3 ⟨rfl, G3, h3, g3⟩
          have H3 := Lib.hid h3
          have G3' := Lib.hid (HG.out.trans g3)
          clear h3 g3 HG U3
          cases V
          · have HZ := Lib.hid (HX.out rfl)
            clear HX HY
            obtain ⟨Q, hQ, hQ2⟩ : ∃ Q, 4 * (n + 1) = Q ∧ Q ≤ 56 := ⟨_, rfl, by omega⟩
            have HK4 : Hid (okS okYm (N + 4 * 14 + Q) t2) := by rw [← hQ, hm]; exact HK3.out
            clear HK3 q1 q4 q3 q6 hm hQ
            have HR : Hid (rstM (mY bs) u t = rbM (mY bs) u n 1 t2) := by
              show _ = _
              unfold rstM
              rw [HZ.out]
            clear HZ
            go_wp2_with fail
            go_loopw [10, 11] (fun cv kv wr => ∃ (k c : Nat) (t3 : Ms Xc) (G : Nat → Prop), k ≤ n ∧ kv = .int .i64 ((k : Int) - 1) ∧ cv = .int .i64 (c : Int) ∧ Hid ((c + 1) * 2 ^ k ≤ 16384) ∧ Hid (rstM (mY bs) u t = rbM (mY bs) u k c t3) ∧ Hid (okS okYm (N + 4 * 14 + Q + 4 * (n - k)) t3) ∧ Hid ((DrF a d bs) wr G t3) ∧ Hid (Step F w G wr)) (fun _ kv _ => (intOf kv + 1).toNat)
            case atStart =>
              refine ⟨n, 1, t2, G3, Nat.le_refl _, by go_num, rfl, ?_, HR.out, ?_, H3.out, G3'.out⟩
              · show (1 + 1) * 2 ^ n ≤ 16384
                have := Nat.pow_le_pow_right (n := 2) (by decide) hn
                omega
              · rw [Nat.sub_self]; exact HK4.out
            case round =>
              clear HR H3 G3' HK4
              obtain ⟨k, c, t3, G4, hk, rfl, rfl, HC, HS, HK, HO, HG⟩ := hrel
              cases k
              · rw [show ((0 : Nat) : Int) - 1 = -1 from rfl]
                have hs := HS.out
                rw [show rbM (mY bs) u 0 c t3 = (c, t3) from rfl] at hs
                have HR : Hid (csM (mY bs) (C + 17) z 14 0 s = (13 + c, t3)) := by
                  show _ = _
                  rw [HS0.out, hs]
                have hc2 : c ≤ 16383 := by
                  have := HC.out
                  omega
                have q7 : IntKind.i64.wrap (13 + (c : Int)) = ((13 + c : Nat) : Int) := by rw [IntKind.wrap_i64]; omega
                clear hs HS HC HK HS0
                go_wp2
                go_ret
                exact ⟨by rw [HR.out]; rfl, G4, by rw [HR.out]; exact HO.out, HG.out⟩
              · rename_i k
                rw [show ((k + 1 : Nat) : Int) - 1 = (k : Int) by omega]
                have x2 : (0 : Int) ≤ (k : Int) := by omega
                have hc := HC.out
                have hc2 : c ≤ 16383 := by
                  have := Nat.le_mul_of_pos_right (c + 1) (Nat.pos_of_ne_zero (fun e => by simp at e) : 0 < 2 ^ (k + 1))
                  omega
                obtain ⟨d5, hd⟩ : ∃ d : Nat, 2 * c = d := ⟨_, rfl⟩
                have q5 : IntKind.i64.wrap (2 * (c : Int)) = (d5 : Int) := by rw [IntKind.wrap_i64]; omega
                have q6 : IntKind.i64.wrap ((d5 : Int) + 1) = (d5 : Int) + 1 := by rw [IntKind.wrap_i64]; omega
                have q7 : IntKind.i64.wrap ((k : Int) - 1) = (k : Int) - 1 := by rw [IntKind.wrap_i64]; omega
                have q10 : IntKind.u64.wrap (k : Int) = (k : Int) := wrap_u64n k (by omega)
                obtain ⟨g, hg⟩ : ∃ g, bitAt u k = g := ⟨_, rfl⟩
                have q8 : (u / (2 : Int) ^ k % 2 == 1) = g := by rw [bit_and]; exact hg
                have q9 : Op.shift .shr .i64 u .u64 (k : Int) = pure (.int .i64 (u / (2 : Int) ^ k)) := shr_anyU u k (by omega)
                have qa : Op.intBits .and .i64 (u / (2 : Int) ^ k) 1 = pure (.int .i64 (u / (2 : Int) ^ k % 2)) := and_one _
                obtain ⟨⟨V, t4⟩, e2⟩ : ∃ r, flaM (mY bs) t3 g = r := ⟨_, rfl⟩
                have hs := HS.out
                rw [rb_step (b := V) (s1 := t4) (by rw [hg]; exact e2), hd] at hs
                have HS2 := Lib.hid hs
                have k3 := fla_ok (mkY (bs := bs)) g HK.out
                rw [e2] at k3
                have HK5 : Hid (okS okYm (N + 4 * 14 + Q + 4 * (n - k)) t4) := by
                  show _
                  rw [show n - k = (n - (k + 1)) + 1 by omega]
                  exact k3
                have HC2 : Hid ((d5 + 2) * 2 ^ k ≤ 16384) := by
                  show _
                  rw [Nat.pow_succ, Nat.mul_comm (2 ^ k) 2, ← Nat.mul_assoc] at hc
                  rw [← hd, show 2 * c + 2 = (c + 1) * 2 by omega]
                  exact hc
                have U3 := Lib.hid (UF.out (N + 4 * 14 + Q + 4 * (n - (k + 1))) g t3 G4 wr HO.out HK.out (by omega))
                rw [e2] at U3
                clear hs hg e2 k3 HS HK HC hc hd HO
                go_wp2_with fail
                refine (U3.out).mono ?_; rintro e w3 ⟨rfl, G5, h3, g3⟩
                have H3 := Lib.hid h3
                have G3' := Lib.hid (HG.out.trans g3)
                clear h3 g3 HG U3
                cases V
                · go_wp2
                  go_roundw
                  case rel => exact ⟨k, d5, t4, G5, by omega, by go_num, rfl, Nat.le_trans (Nat.mul_le_mul_right _ (by omega)) HC2.out, HS2.out, HK5.out, H3.out, G3'.out⟩
                  case measure => simp [intOf] <;> omega
                · go_wp2
                  go_roundw
                  case rel => exact ⟨k, d5 + 1, t4, G5, by omega, by go_num, by go_num, HC2.out, HS2.out, HK5.out, H3.out, G3'.out⟩
                  case measure => simp [intOf] <;> omega
          · have HS3 := Lib.hid (HY.out rfl)
            clear HX HY
            go_wp2
            go_roundw
            case rel => exact ⟨m, t2, G3, by omega, by go_num, HS3.out, HK3.out, H3.out, G3'.out⟩
            case measure => simp [intOf] <;> omega
        · have x1 : ¬ (n : Int) < 13 := by omega
          have HZ : Hid (rzM (mY bs) u 13 0 t = (n, t1)) := by
            have := HS.out
            rw [show 13 - n = 0 by omega] at this
            exact this
          obtain ⟨Q, hQ, hQ2⟩ : ∃ Q, 4 * n = Q ∧ Q ≤ 56 := ⟨_, rfl, by omega⟩
          have HK4 : Hid (okS okYm (N + 4 * 14 + Q) t1) := by rw [← hQ]; exact HK.out
          obtain ⟨t2, ht⟩ : ∃ x, x = t1 := ⟨_, rfl⟩
          subst ht
          obtain ⟨G3, ht⟩ : ∃ x, x = G1 := ⟨_, rfl⟩
          subst ht
          have H3 := HO
          have G3' := HG
          clear hlt hQ HS HK HO HG
          have HR : Hid (rstM (mY bs) u t = rbM (mY bs) u n 1 t2) := by
            show _ = _
            unfold rstM
            rw [HZ.out]
          clear HZ
          go_wp2_with fail
          go_loopw [10, 11] (fun cv kv wr => ∃ (k c : Nat) (t3 : Ms Xc) (G : Nat → Prop), k ≤ n ∧ kv = .int .i64 ((k : Int) - 1) ∧ cv = .int .i64 (c : Int) ∧ Hid ((c + 1) * 2 ^ k ≤ 16384) ∧ Hid (rstM (mY bs) u t = rbM (mY bs) u k c t3) ∧ Hid (okS okYm (N + 4 * 14 + Q + 4 * (n - k)) t3) ∧ Hid ((DrF a d bs) wr G t3) ∧ Hid (Step F w G wr)) (fun _ kv _ => (intOf kv + 1).toNat)
          case atStart =>
            refine ⟨n, 1, t2, G3, Nat.le_refl _, by go_num, rfl, ?_, HR.out, ?_, H3.out, G3'.out⟩
            · show (1 + 1) * 2 ^ n ≤ 16384
              have := Nat.pow_le_pow_right (n := 2) (by decide) hn
              omega
            · rw [Nat.sub_self]; exact HK4.out
          case round =>
            clear HR H3 G3' HK4
            obtain ⟨k, c, t3, G4, hk, rfl, rfl, HC, HS, HK, HO, HG⟩ := hrel
            cases k
            · rw [show ((0 : Nat) : Int) - 1 = -1 from rfl]
              have hs := HS.out
              rw [show rbM (mY bs) u 0 c t3 = (c, t3) from rfl] at hs
              have HR : Hid (csM (mY bs) (C + 17) z 14 0 s = (13 + c, t3)) := by
                show _ = _
                rw [HS0.out, hs]
              have hc2 : c ≤ 16383 := by
                have := HC.out
                omega
              have q7 : IntKind.i64.wrap (13 + (c : Int)) = ((13 + c : Nat) : Int) := by rw [IntKind.wrap_i64]; omega
              clear hs HS HC HK HS0
              go_wp2
              go_ret
              exact ⟨by rw [HR.out]; rfl, G4, by rw [HR.out]; exact HO.out, HG.out⟩
            · rename_i k
              rw [show ((k + 1 : Nat) : Int) - 1 = (k : Int) by omega]
              have x2 : (0 : Int) ≤ (k : Int) := by omega
              have hc := HC.out
              have hc2 : c ≤ 16383 := by
                have := Nat.le_mul_of_pos_right (c + 1) (Nat.pos_of_ne_zero (fun e => by simp at e) : 0 < 2 ^ (k + 1))
                omega
              obtain ⟨d5, hd⟩ : ∃ d : Nat, 2 * c = d := ⟨_, rfl⟩
              have q5 : IntKind.i64.wrap (2 * (c : Int)) = (d5 : Int) := by rw [IntKind.wrap_i64]; omega
              have q6 : IntKind.i64.wrap ((d5 : Int) + 1) = (d5 : Int) + 1 := by rw [IntKind.wrap_i64]; omega
              have q7 : IntKind.i64.wrap ((k : Int) - 1) = (k : Int) - 1 := by rw [IntKind.wrap_i64]; omega
              have q10 : IntKind.u64.wrap (k : Int) = (k : Int) := wrap_u64n k (by omega)
              obtain ⟨g, hg⟩ : ∃ g, bitAt u k = g := ⟨_, rfl⟩
              have q8 : (u / (2 : Int) ^ k % 2 == 1) = g := by rw [bit_and]; exact hg
              have q9 : Op.shift .shr .i64 u .u64 (k : Int) = pure (.int .i64 (u / (2 : Int) ^ k)) := shr_anyU u k (by omega)
              have qa : Op.intBits .and .i64 (u / (2 : Int) ^ k) 1 = pure (.int .i64 (u / (2 : Int) ^ k % 2)) := and_one _
              obtain ⟨⟨V, t4⟩, e2⟩ : ∃ r, flaM (mY bs) t3 g = r := ⟨_, rfl⟩
              have hs := HS.out
              rw [rb_step (b := V) (s1 := t4) (by rw [hg]; exact e2), hd] at hs
              have HS2 := Lib.hid hs
              have k3 := fla_ok (mkY (bs := bs)) g HK.out
              rw [e2] at k3
              have HK5 : Hid (okS okYm (N + 4 * 14 + Q + 4 * (n - k)) t4) := by
                show _
                rw [show n - k = (n - (k + 1)) + 1 by omega]
                exact k3
              have HC2 : Hid ((d5 + 2) * 2 ^ k ≤ 16384) := by
                show _
                rw [Nat.pow_succ, Nat.mul_comm (2 ^ k) 2, ← Nat.mul_assoc] at hc
                rw [← hd, show 2 * c + 2 = (c + 1) * 2 by omega]
                exact hc
              have U3 := Lib.hid (UF.out (N + 4 * 14 + Q + 4 * (n - (k + 1))) g t3 G4 wr HO.out HK.out (by omega))
              rw [e2] at U3
              clear hs hg e2 k3 HS HK HC hc hd HO
              go_wp2_with fail
              refine (U3.out).mono ?_; rintro e w3 ⟨rfl, G5, h3, g3⟩
              have H3 := Lib.hid h3
              have G3' := Lib.hid (HG.out.trans g3)
              clear h3 g3 HG U3
              cases V
              · go_wp2
                go_roundw
                case rel => exact ⟨k, d5, t4, G5, by omega, by go_num, rfl, Nat.le_trans (Nat.mul_le_mul_right _ (by omega)) HC2.out, HS2.out, HK5.out, H3.out, G3'.out⟩
                case measure => simp [intOf] <;> omega
              · go_wp2
                go_roundw
                case rel => exact ⟨k, d5 + 1, t4, G5, by omega, by go_num, by go_num, HC2.out, HS2.out, HK5.out, H3.out, G3'.out⟩
                case measure => simp [intOf] <;> omega
set_option maxRecDepth 20000 in
set_option maxHeartbeats 1000000 in
theorem rest_any (l o : Value) (xs : List Int) (od : List Nat) (m i : Nat) (him : i ≤ m) (hm8 : m ≤ 64) (w : World) (hl : Ints w l xs) (ho : Ints w o (od.map fun (x : Nat) => (x : Int))) (hm : od.length = m + 1) (hi : ∀ i ∈ od, i < xs.length) : Calls Tryz.prog 54 #[l, o, .int .i64 ((i : Int) + 1)] w fun e w' => e = .returned (.bool (decide (lastP xs od m ≤ i))) ∧ w' = w := by
  have hx0 : 0 < xs.length := by
    cases od with
    | nil => simp at hm
    | cons x y => have := hi x (by simp); omega
  have hol : (od.map fun (x : Nat) => (x : Int)).length = m + 1 := by rw [List.length_map]; exact hm
  obtain ⟨g, off, cap, rfl, c1, c2⟩ := hl.addr hx0
  obtain ⟨g', off', cap', rfl, c3, c4⟩ := ho.addr (by omega)
  rw [hol] at c3 ho ⊢
  have UL := Lib.hid (fun j x (h : xs[j]? = some x) => hl.at h)
  have UO := Lib.hid (fun j x (h : (od.map fun (x : Nat) => (x : Int))[j]? = some x) => ho.at h)
  obtain ⟨n, hnn⟩ : ∃ n, xs.length = n := ⟨_, rfl⟩
  rw [hnn] at c1 ⊢
  have HI := Lib.hid hi
  have HNN := Lib.hid hnn
  have HM := Lib.hid hm
  clear hl ho hi hx0 hol hnn hm
  go_enter Tryz.func54, Tryz.ntmps54
  go_wp2_with fail
  go_loopw [7] (fun iv wr => ∃ k : Nat, i + 1 ≤ k ∧ k ≤ m + 1 ∧ iv = .int .i64 (k : Int) ∧ Hid (∀ j, i < j → j < k → xs.getD (od.getD j 0) 0 = 0) ∧ wr = w) (fun iv _ => m + 1 - (intOf iv).toNat)
  case atStart => exact ⟨i + 1, Nat.le_refl _, by omega, by go_num, fun j h1 h2 => by omega, rfl⟩
  case round =>
    obtain ⟨k, hk1, hk2, rfl, HZ, rfl⟩ := hrel
    by_cases hlt : k < m + 1
    · obtain ⟨d, hd⟩ : ∃ d, od[k]? = some d := ⟨_, List.getElem?_eq_getElem (by rw [HM.out]; exact hlt)⟩
      have hdn : d < n := by rw [← HNN.out]; exact HI.out d (List.mem_of_getElem? hd)
      obtain ⟨x, hx⟩ : ∃ x, xs[d]? = some x := ⟨_, List.getElem?_eq_getElem (by rw [HNN.out]; exact hdn)⟩
      have c5 := UO.out k (d : Int) (by rw [List.getElem?_map, hd]; rfl)
      have c6 := UL.out d x hx
      have hg : xs.getD (od.getD k 0) 0 = x := by
        rw [show od.getD k 0 = d by rw [List.getD_eq_getElem?_getD, hd]; rfl, List.getD_eq_getElem?_getD, hx]; rfl
      have x1 : (0 : Int) ≤ (k : Int) := by omega
      have x2 : (k : Int) < ((m + 1 : Nat) : Int) := by omega
      have x3 : (0 : Int) ≤ (d : Int) := by omega
      have x4 : (d : Int) < (n : Int) := by omega
      have HGX := Lib.hid hg
      by_cases hxz : x = 0
      · subst hxz
        clear hd hx hdn hg
        go_wp2
        go_roundw
        case rel => exact ⟨k + 1, by omega, by omega, by go_num, fun j h1 h2 => by
                      by_cases e : j = k
                      · rw [e]; exact HGX.out
                      · exact HZ.out j h1 (by omega), by first | rfl | trivial⟩
        case measure => simp [intOf] <;> omega
      · have HR : Hid (decide (lastP xs od m ≤ i) = false) := by
          show _ = _
          rw [decide_eq_false_iff_not]
          intro h
          have := lastP_z xs od m k (by omega) (by omega)
          rw [hg] at this
          exact hxz this
        have x6 : (x != 0) = true := bne_iff_ne.2 hxz
        clear hd hx hdn hg
        go_wp2
        go_ret
        exact ⟨by rw [HR.out]; rfl, rfl⟩
    · have x2 : ¬ (k : Int) < ((m + 1 : Nat) : Int) := by omega
      have HR : Hid (decide (lastP xs od m ≤ i) = true) := by
        show _ = _
        rw [decide_eq_true_iff]
        refine Nat.le_of_not_lt (fun h => ?_)
        have h1 := lastP_pos xs od m (by omega)
        have h2 := lastP_le xs od m
        exact h1 (HZ.out _ h (by omega))
      go_wp2
      go_ret
      exact ⟨by rw [HR.out]; rfl, rfl⟩
end Go.Proofs.YtdndambkaohgiaaGreatDoor
