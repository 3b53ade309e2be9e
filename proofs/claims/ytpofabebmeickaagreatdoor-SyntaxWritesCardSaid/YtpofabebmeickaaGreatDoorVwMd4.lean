/- model.Kind, Mode, Part with a writer and with a reader: contracts over this seat's translation. -/
import Derived.Test.YtpofabebmeickaaGreatDoorVwZi
namespace Go.Proofs.YtpofabebmeickaaGreatDoor
set_option linter.unusedVariables false
set_option linter.unusedSimpArgs false
open Go.RowKit Go.Extern.Stop Go.Stop Go.Extern

theorem mw_bit (a : Nat) (w : World) : (method 338 25 (.pointer (some ⟨a, 0, none⟩)) "Bit").run Tryz.prog w = .ok (137, .pointer (some ⟨a, 0, none⟩)) w := by kernel_rfl
theorem mw_fla (a : Nat) (w : World) : (method 338 25 (.pointer (some ⟨a, 0, none⟩)) "Flat").run Tryz.prog w = .ok (139, .pointer (some ⟨a, 0, none⟩)) w := by kernel_rfl
theorem part_split {σ : Type} {M : Mc σ} {s : Ms σ} {v : Int} {V0 V1 : Bool} {s1 s2 : Ms σ} (h0 : bitM M s 6 (decide (v ≠ 0)) = (V0, s1)) (h1 : flaM M s1 (decide (v < 0)) = (V1, s2)) :
    partM M s v = if V0 then ((if V1 then -((sizM M ((v.natAbs : Int) - 1) 14 0 s2).1 : Int) - 1 else ((sizM M ((v.natAbs : Int) - 1) 14 0 s2).1 : Int) + 1), (sizM M ((v.natAbs : Int) - 1) 14 0 s2).2) else (0, s1) := by
  unfold partM
  rw [h0]
  show (if V0 = true then _ else _) = _
  rw [show (flaM M (V0, s1).2 (decide (v < 0))) = (V1, s2) from h1]
theorem siz_yes {σ : Type} {M : Mc σ} {z : Int} {f n : Nat} {s s1 : Ms σ} (h : bitM M s ((7 + min n 6 : Nat) : Int) (decide ((n : Int) < z)) = (true, s1)) : sizM M z (f + 1) n s = sizM M z f (n + 1) s1 := by
  show (if _ = true then _ else _) = _
  rw [h]
  rfl
theorem siz_no {σ : Type} {M : Mc σ} {z : Int} {f n : Nat} {s s1 : Ms σ} (h : bitM M s ((7 + min n 6 : Nat) : Int) (decide ((n : Int) < z)) = (false, s1)) : sizM M z (f + 1) n s = (n, s1) := by
  show (if _ = true then _ else _) = _
  rw [h]
  rfl
set_option maxRecDepth 20000 in
set_option maxHeartbeats 4000000 in
theorem mwkind_any (a N : Nat)  (k : Int) (s : Ms Ec) (F : Nat → Prop) (w : World) (h : (WrF a) w F s) (hk : okS okEm N s) (hN : N ≤ 3999000) : Calls Tryz.prog 63 #[.iface 25 (.pointer (some ⟨a, 0, none⟩)), .int .i64 k] w (FPost (WrF a) F w (.int .i64 ((kindM mE s k).1 : Int)) (kindM mE s k).2) := by
  have HM := mw_bit a
  have UB := Lib.hid ((fun N c up s F w h hk hN => mwbit_any a N c up s F w h hk hN))
  obtain ⟨b0, hb0⟩ : ∃ b, decide (0 < k) = b := ⟨_, rfl⟩
  obtain ⟨b1, hb1⟩ : ∃ b, decide (1 < k) = b := ⟨_, rfl⟩
  obtain ⟨b2, hb2⟩ : ∃ b, decide (2 < k) = b := ⟨_, rfl⟩
  have d0 : decide (0 < max 0 (min k 3)) = b0 := by rw [← hb0]; exact decide_eq_decide.2 (by omega)
  have d1 : decide (1 < max 0 (min k 3)) = b1 := by rw [← hb1]; exact decide_eq_decide.2 (by omega)
  have d2 : decide (2 < max 0 (min k 3)) = b2 := by rw [← hb2]; exact decide_eq_decide.2 (by omega)
  obtain ⟨⟨V0, s1⟩, e0⟩ : ∃ r, bitM mE s 0 b0 = r := ⟨_, rfl⟩
  obtain ⟨⟨V1, s2⟩, e1⟩ : ∃ r, bitM mE s1 1 b1 = r := ⟨_, rfl⟩
  obtain ⟨⟨V2, s3⟩, e2⟩ : ∃ r, bitM mE s2 2 b2 = r := ⟨_, rfl⟩
  have k1 := bit_ok mkE 0 b0 hk
  rw [e0] at k1
  have k2 := bit_ok mkE 1 b1 k1
  rw [e1] at k2
  have HR : Hid (kindM mE s k = if V0 then (if V1 then (if V2 then 3 else 2, s3) else (1, s2)) else (0, s1)) := by
    show _ = _
    unfold kindM
    rw [hb0, hb1, hb2, e0]
    show (if V0 = true then (if (bitM mE s1 1 b1).1 = true then _ else _) else _) = _
    rw [e1]
    show (if V0 = true then (if V1 = true then (if (bitM mE s2 2 b2).1 = true then 3 else 2, (bitM mE s2 2 b2).2) else _) else _) = _
    rw [e2]
  have U0 := Lib.hid (UB.out N 0 b0 s F w h hk (by omega))
  have U1 := Lib.hid (fun F w' (h : (WrF a) w' F s1) => UB.out (N + 4) 1 b1 s1 F w' h k1 (by omega))
  have U2 := Lib.hid (fun F w' (h : (WrF a) w' F s2) => UB.out (N + 4 + 4) 2 b2 s2 F w' h k2 (by omega))
  rw [e0] at U0
  rw [e1] at U1
  rw [e2] at U2
  clear h hk k1 k2 hb0 hb1 hb2 e0 e1 e2 UB
  go_enter Tryz.func63, Tryz.ntmps63
  go_wp2_with fail
  refine (U0.out).mono ?_; rintro e w1 ⟨rfl, F1, h1, g1⟩
  have H1 := Lib.hid h1
  have G1 := Lib.hid g1
  clear h1 g1
  cases V0
  · go_wp2
    go_ret
    exact ⟨by rw [HR.out]; rfl, F1, by rw [HR.out]; exact H1.out, G1.out⟩
  · go_wp2_with fail
    refine (U1.out _ _ H1.out).mono ?_; rintro e w2 ⟨rfl, F2, h2, g2⟩
    have H2 := Lib.hid h2
    have G2 := Lib.hid (G1.out.trans g2)
    clear h2 g2 H1 G1
    cases V1
    · go_wp2
      go_ret
      exact ⟨by rw [HR.out]; rfl, F2, by rw [HR.out]; exact H2.out, G2.out⟩
    · go_wp2_with fail
      refine (U2.out _ _ H2.out).mono ?_; rintro e w3 ⟨rfl, F3, h3, g3⟩
      have H3 := Lib.hid h3
      have G3 := Lib.hid (G2.out.trans g3)
      clear h3 g3 H2 G2
      cases V2
      all_goals (
        go_wp2
        go_ret
        exact ⟨by rw [HR.out]; rfl, F3, by rw [HR.out]; exact H3.out, G3.out⟩)
set_option maxRecDepth 20000 in
set_option maxHeartbeats 4000000 in
theorem mwmode_any (a N : Nat)  (k : Int) (s : Ms Ec) (F : Nat → Prop) (w : World) (h : (WrF a) w F s) (hk : okS okEm N s) (hN : N ≤ 3999000) : Calls Tryz.prog 65 #[.iface 25 (.pointer (some ⟨a, 0, none⟩)), .int .i64 k] w (FPost (WrF a) F w (.int .i64 ((modeM mE s (cl3 k)).1 : Int)) (modeM mE s (cl3 k)).2) := by
  have HM := mw_bit a
  have UB := Lib.hid ((fun N c up s F w h hk hN => mwbit_any a N c up s F w h hk hN))
  obtain ⟨m, hm⟩ : ∃ m, cl3 k = m := ⟨_, rfl⟩
  have hmk : max 0 (min k 3) = (m : Int) := by rw [← hm]; unfold cl3; omega
  rw [hm]
  have hm4 : m ≤ 3 := by omega
  obtain ⟨r, hr⟩ : ∃ r, m % 2 = r := ⟨_, rfl⟩
  have s1 : Int.tmod (m : Int) 2 = (r : Int) := by rw [← hr, show (2 : Int) = ((2 : Nat) : Int) from rfl, Int.ofNat_tmod]
  obtain ⟨b1, hb1⟩ : ∃ b, decide (1 < m) = b := ⟨_, rfl⟩
  obtain ⟨b2, hb2⟩ : ∃ b, decide (m % 2 = 1) = b := ⟨_, rfl⟩
  have d1 : decide (1 < (m : Int)) = b1 := by rw [← hb1]; exact decide_eq_decide.2 (by omega)
  have d2 : ((r : Int) == 1) = b2 := by
    rw [← hb2]
    by_cases e : m % 2 = 1
    · rw [decide_eq_true e, beq_iff_eq]; omega
    · rw [decide_eq_false e, beq_eq_false_iff_ne]; omega
  obtain ⟨⟨V0, t1⟩, e0⟩ : ∃ r, bitM mE s 3 b1 = r := ⟨_, rfl⟩
  obtain ⟨⟨V1, t2⟩, e1⟩ : ∃ r, bitM mE t1 5 b2 = r := ⟨_, rfl⟩
  obtain ⟨⟨V2, t3⟩, e2⟩ : ∃ r, bitM mE t1 4 b2 = r := ⟨_, rfl⟩
  have k1 := bit_ok mkE 3 b1 hk
  rw [e0] at k1
  have HR : Hid (modeM mE s m = if V0 then (if V1 then 3 else 2, t2) else (if V2 then 1 else 0, t3)) := by
    show _ = _
    unfold modeM
    rw [hb1, hb2, e0]
    show (if V0 = true then (if (bitM mE t1 5 b2).1 = true then 3 else 2, (bitM mE t1 5 b2).2) else (if (bitM mE t1 4 b2).1 = true then 1 else 0, (bitM mE t1 4 b2).2)) = _
    rw [e1, e2]
  have U0 := Lib.hid (UB.out N 3 b1 s F w h hk (by omega))
  have U1 := Lib.hid (fun F w' (h : (WrF a) w' F t1) => UB.out (N + 4) 5 b2 t1 F w' h k1 (by omega))
  have U2 := Lib.hid (fun F w' (h : (WrF a) w' F t1) => UB.out (N + 4) 4 b2 t1 F w' h k1 (by omega))
  rw [e0] at U0
  rw [e1] at U1
  rw [e2] at U2
  clear h hk k1 hb1 hb2 e0 e1 e2 UB hm hr hm4
  go_enter Tryz.func65, Tryz.ntmps65
  go_wp2_with fail
  refine (U0.out).mono ?_; rintro e w1 ⟨rfl, F1, h1, g1⟩
  have H1 := Lib.hid h1
  have G1 := Lib.hid g1
  clear h1 g1
  cases V0
  · go_wp2_with fail
    refine (U2.out _ _ H1.out).mono ?_; rintro e w2 ⟨rfl, F2, h2, g2⟩
    have H2 := Lib.hid h2
    have G2 := Lib.hid (G1.out.trans g2)
    clear h2 g2 H1 G1
    cases V2
    all_goals (
      go_wp2
      go_ret
      exact ⟨by rw [HR.out]; rfl, F2, by rw [HR.out]; exact H2.out, G2.out⟩)
  · go_wp2_with fail
    refine (U1.out _ _ H1.out).mono ?_; rintro e w2 ⟨rfl, F2, h2, g2⟩
    have H2 := Lib.hid h2
    have G2 := Lib.hid (G1.out.trans g2)
    clear h2 g2 H1 G1
    cases V1
    all_goals (
      go_wp2
      go_ret
      exact ⟨by rw [HR.out]; rfl, F2, by rw [HR.out]; exact H2.out, G2.out⟩)
set_option maxRecDepth 20000 in
set_option maxHeartbeats 4000000 in
theorem mwpart_any (a N : Nat)  (k : Int) (s : Ms Ec) (F : Nat → Prop) (w : World) (h : (WrF a) w F s) (hk : okS okEm N s) (hN : N ≤ 3999000) : Calls Tryz.prog 64 #[.iface 25 (.pointer (some ⟨a, 0, none⟩)), .int .i64 k] w (FPost (WrF a) F w (.int .i64 (partM mE s (cl15 k)).1) (partM mE s (cl15 k)).2) := by
  have HM := mw_bit a
  have HF := mw_fla a
  have UB := Lib.hid ((fun N c up s F w h hk hN => mwbit_any a N c up s F w h hk hN))
  have UF := Lib.hid ((fun N up s F w h hk hN => mwflat_any a N up s F w h hk hN))
  obtain ⟨v, hv⟩ : ∃ v, cl15 k = v := ⟨_, rfl⟩
  have hvk : max (-15) (min k 15) = v := hv
  rw [hv]
  have hv1 : -15 ≤ v := by omega
  have hv2 : v ≤ 15 := by omega
  have q1 : IntKind.i64.wrap (-v) = -v := by rw [IntKind.wrap_i64]; omega
  obtain ⟨z, hz⟩ : ∃ z, (v.natAbs : Int) - 1 = z := ⟨_, rfl⟩
  have hzm : max v (-v) - 1 = z := by rw [← hz]; omega
  have q2 : IntKind.i64.wrap z = z := by rw [IntKind.wrap_i64]; omega
  have q3 : IntKind.i64.wrap (max v (-v) - 1) = z := by rw [hzm]; exact q2
  obtain ⟨b0, hb0⟩ : ∃ b, decide (v ≠ 0) = b := ⟨_, rfl⟩
  obtain ⟨b1, hb1⟩ : ∃ b, decide (v < 0) = b := ⟨_, rfl⟩
  have d0 : (v != 0) = b0 := by
    rw [← hb0]
    by_cases e : v = 0
    · subst e; rfl
    · rw [decide_eq_true e]; exact bne_iff_ne.2 e
  obtain ⟨⟨V0, s1⟩, e0⟩ : ∃ r, bitM mE s 6 b0 = r := ⟨_, rfl⟩
  obtain ⟨⟨V1, s2⟩, e1⟩ : ∃ r, flaM mE s1 b1 = r := ⟨_, rfl⟩
  have k1 := bit_ok mkE 6 b0 hk
  rw [e0] at k1
  have k2 := fla_ok mkE b1 k1
  rw [e1] at k2
  have HR := Lib.hid (part_split (M := mE) (s := s) (v := v) (by rw [hb0, e0]) (by rw [hb1, e1]))
  rw [hz] at HR
  have HK2 := Lib.hid k2
  have U0 := Lib.hid (UB.out N 6 b0 s F w h hk (by omega))
  have U1 := Lib.hid (fun F w' (h : (WrF a) w' F s1) => UF.out (N + 4) b1 s1 F w' h k1 (by omega))
  rw [e0] at U0
  rw [e1] at U1
  clear h hk k1 k2 hb0 e0 e1 UF hv hz hzm q2
  go_enter Tryz.func64, Tryz.ntmps64
  go_wp2_with fail
  refine (U0.out).mono ?_; rintro e w1 ⟨rfl, F1, h1, g1⟩
  have H1 := Lib.hid h1
  have G1 := Lib.hid g1
  clear h1 g1
  cases V0
  · go_wp2
    go_ret
    exact ⟨by rw [HR.out]; rfl, F1, by rw [HR.out]; exact H1.out, G1.out⟩
  · go_wp2_with fail
    refine (U1.out _ _ H1.out).mono ?_; rintro e w2 ⟨rfl, F2, h2, g2⟩
    have H2 := Lib.hid h2
    have G2 := Lib.hid (G1.out.trans g2)
    clear h2 g2 H1 G1 U0 U1
    go_wp2_with fail
    go_loopw [7] (fun iv wr => ∃ (n : Nat) (t : Ms Ec) (G : Nat → Prop), n ≤ 14 ∧ iv = .int .i64 (n : Int) ∧ Hid (sizM mE z 14 0 s2 = sizM mE z (14 - n) n t) ∧ Hid (okS okEm (N + 4 + 4 + 4 * n) t) ∧ Hid ((WrF a) wr G t) ∧ Hid (Step F w G wr)) (fun iv _ => 14 - (intOf iv).toNat)
    case atStart => exact ⟨0, s2, F2, Nat.zero_le _, rfl, rfl, HK2.out, H2.out, G2.out⟩
    case round =>
      clear H2 G2 HK2
      obtain ⟨n, t, G, hn, rfl, HS, HK, HO, HG⟩ := hrel
      by_cases hlt : n < 14
      · obtain ⟨f, hf⟩ : ∃ f, 14 - n = f + 1 := ⟨13 - n, by omega⟩
        have hs := HS.out
        rw [hf] at hs
        obtain ⟨C, hC⟩ : ∃ C : Nat, 7 + min n 6 = C := ⟨_, rfl⟩
        obtain ⟨bz, hbz⟩ : ∃ b, decide ((n : Int) < z) = b := ⟨_, rfl⟩
        obtain ⟨⟨V2, t1⟩, e2⟩ : ∃ r, bitM mE t ((7 + min n 6 : Nat) : Int) (decide ((n : Int) < z)) = r := ⟨_, rfl⟩
        have HY : Hid (V2 = true → sizM mE z 14 0 s2 = sizM mE z (14 - (n + 1)) (n + 1) t1) := fun e => by
          subst e
          rw [hs, siz_yes e2, show 14 - (n + 1) = f by omega]
        have HN : Hid (V2 = false → sizM mE z 14 0 s2 = (n, t1)) := fun e => by
          subst e
          rw [hs, siz_no e2]
        have k3 := bit_ok mkE ((7 + min n 6 : Nat) : Int) (decide ((n : Int) < z)) HK.out
        rw [e2] at k3
        have HK3 : Hid (okS okEm (N + 4 + 4 + 4 * (n + 1)) t1) := k3
        have U2 := Lib.hid (UB.out (N + 4 + 4 + 4 * n) ((7 + min n 6 : Nat) : Int) (decide ((n : Int) < z)) t G wr HO.out HK.out (by omega))
        rw [e2, hbz, hC] at U2
        have x1 : (n : Int) < 14 := by omega
        have q4 : IntKind.i64.wrap (7 + min (n : Int) 6) = (C : Int) := by rw [IntKind.wrap_i64]; omega
        have d3 := hbz
        clear hs hf hC hbz e2 k3 HS HK HO
        go_wp2_with fail
        refine (U2.out).mono ?_; rintro e w3 ⟨rfl, G3, h3, g3⟩
        have H3 := Lib.hid h3
        have G3' := Lib.hid (HG.out.trans g3)
        clear h3 g3 HG
        cases V2
        · have HRR := HN.out rfl
          have q5 : IntKind.i64.wrap (-(n : Int)) = -(n : Int) := by rw [IntKind.wrap_i64]; omega
          have q6 : IntKind.i64.wrap (-(n : Int) - 1) = -(n : Int) - 1 := by rw [IntKind.wrap_i64]; omega
          have q7 : IntKind.i64.wrap ((n : Int) + 1) = (n : Int) + 1 := by rw [IntKind.wrap_i64]; omega
          have hr := HR.out
          rw [HRR] at hr
          have HR2 := Lib.hid hr
          clear hr HRR HR HN HY U2 UB
          cases V1
          all_goals (
            go_wp2
            go_ret
            exact ⟨by rw [HR2.out]; rfl, G3, by rw [HR2.out]; exact H3.out, G3'.out⟩)
        · have HS3 := Lib.hid (HY.out rfl)
          clear HN HY U2
          go_wp2
          go_roundw
          case rel => exact ⟨n + 1, t1, G3, by omega, by go_num, HS3.out, HK3.out, H3.out, G3'.out⟩
          case measure => simp [intOf]; omega
      · obtain rfl : n = 14 := by omega
        have x1 : ¬ ((14 : Nat) : Int) < 14 := by omega
        have hr := HR.out
        rw [show sizM mE z 14 0 s2 = (14, t) from HS.out] at hr
        have HR2 := Lib.hid hr
        clear hr HR HS HK UB
        cases V1
        all_goals (
          go_wp2
          go_ret
          exact ⟨by rw [HR2.out]; rfl, G, by rw [HR2.out]; exact HO.out, HG.out⟩)
end Go.Proofs.YtpofabebmeickaaGreatDoor

