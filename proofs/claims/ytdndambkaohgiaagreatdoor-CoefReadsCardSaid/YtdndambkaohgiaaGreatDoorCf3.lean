/- coef.codeSize: contract over this seat's translation. -/
import Derived.Test.YtdndambkaohgiaaGreatDoorCf1
import Derived.Test.YtdndambkaohgiaaGreatDoorCf2
namespace Go.Proofs.YtdndambkaohgiaaGreatDoor
set_option linter.unusedVariables false
set_option linter.unusedSimpArgs false
open Go.RowKit Go.Extern.Stop Go.Stop Go.Extern

set_option maxRecDepth 20000 in
set_option maxHeartbeats 4500000 in
theorem mwsize_any (a N : Nat)  (C : Nat) (hC : C ≤ 100) (z : Int) (hz0 : -20 ≤ z) (hz1 : z ≤ 17000) (s : Ms Ec) (F : Nat → Prop) (w : World) (h : (WrF a) w F s) (hk : okS okEm N s) (hN : N ≤ 3998000) : Calls Tryz.prog 79 #[.iface 24 (.pointer (some ⟨a, 0, none⟩)), .int .i64 (C : Int), .int .i64 z] w (FPost (WrF a) F w (.int .i64 ((csM mE C z 14 0 s).1 : Int)) (csM mE C z 14 0 s).2) := by
  have HM := mw_bit a
  have UB := Lib.hid ((fun N c up s F w h hk hN => mwbit_any a N c up s F w h hk hN))
  have UR := Lib.hid (fun (N : Nat) (u : Int) (h0 : -100 ≤ u) (h1 : u ≤ 20000) (s : Ms Ec) (F : Nat → Prop) (w : World) (h : (WrF a) w F s) (hk : okS okEm N s) (hN : N ≤ 3999000) => mwrest_any a N u h0 h1 s F w h hk hN)
  have HK := Lib.hid hk
  have HO := Lib.hid h
  clear h hk
  go_enter Tryz.func79, Tryz.ntmps79
  go_wp2_with fail
  go_loopw [8] (fun iv wr => ∃ (n : Nat) (t : Ms Ec) (G : Nat → Prop), n ≤ 14 ∧ iv = .int .i64 (n : Int) ∧ Hid (csM mE C z 14 0 s = csM mE C z (14 - n) n t) ∧ Hid (okS okEm (N + 4 * n) t) ∧ Hid ((WrF a) wr G t) ∧ Hid (Step F w G wr)) (fun iv _ => 14 - (intOf iv).toNat)
  case atStart => exact ⟨0, s, F, Nat.zero_le _, rfl, rfl, HK.out, HO.out, Step.of_ext (Ext.refl w)⟩
  case round =>
    clear HO HK
    obtain ⟨n, t, G, hn, rfl, HS, HK, HO, HG⟩ := hrel
    by_cases hlt : n < 14
    · obtain ⟨f, hf⟩ : ∃ f, 14 - n = f + 1 := ⟨13 - n, by omega⟩
      have hs := HS.out
      rw [hf] at hs
      obtain ⟨D, hD⟩ : ∃ D : Nat, C + min n 7 = D := ⟨_, rfl⟩
      obtain ⟨bz, hbz⟩ : ∃ b, decide ((n : Int) < z) = b := ⟨_, rfl⟩
      obtain ⟨⟨V2, t1⟩, e2⟩ : ∃ r, bitM mE t ((C + min n 7 : Nat) : Int) (decide ((n : Int) < z)) = r := ⟨_, rfl⟩
      have HY : Hid (V2 = true → csM mE C z 14 0 s = csM mE C z (14 - (n + 1)) (n + 1) t1) := fun e => by
        subst e
        rw [hs, cs_yes e2, show 14 - (n + 1) = f by omega]
      have HX : Hid (V2 = false → csM mE C z 14 0 s = (n, t1)) := fun e => by
        subst e
        rw [hs, cs_no e2]
      have k3 := bit_ok mkE ((C + min n 7 : Nat) : Int) (decide ((n : Int) < z)) HK.out
      rw [e2] at k3
      have HK3 : Hid (okS okEm (N + 4 * (n + 1)) t1) := k3
      have U2 := Lib.hid (UB.out (N + 4 * n) ((C + min n 7 : Nat) : Int) (decide ((n : Int) < z)) t G wr HO.out HK.out (by omega))
      rw [e2, hbz, hD] at U2
      have x1 : (n : Int) < 14 := by omega
      have q4 : IntKind.i64.wrap ((C : Int) + min (n : Int) 7) = (D : Int) := by rw [IntKind.wrap_i64]; omega
      have d3 := hbz
      clear hs hf hD hbz e2 k3 HS HK HO
      go_wp2_with fail
      refine (U2.out).mono ?_; rintro e w3 ⟨rfl, G3, h3, g3⟩
      have H3 := Lib.hid h3
      have G3' := Lib.hid (HG.out.trans g3)
      clear h3 g3 HG
      cases V2
      · have HRR := Lib.hid (HX.out rfl)
        clear HX HY U2 UB UR
        go_wp2
        go_ret
        exact ⟨by rw [HRR.out]; rfl, G3, by rw [HRR.out]; exact H3.out, G3'.out⟩
      · have HS3 := Lib.hid (HY.out rfl)
        clear HX HY U2
        go_wp2
        go_roundw
        case rel => exact ⟨n + 1, t1, G3, by omega, by go_num, HS3.out, HK3.out, H3.out, G3'.out⟩
        case measure => simp [intOf] <;> omega
    · obtain rfl : n = 14 := by omega
      have x1 : ¬ ((14 : Nat) : Int) < 14 := by omega
      have q5 : IntKind.i64.wrap (z - 13) = z - 13 := by rw [IntKind.wrap_i64]; omega
      obtain ⟨⟨R, t2⟩, hR⟩ : ∃ r, rstM mE (z - 13) t = r := ⟨_, rfl⟩
      have hl := (rst_lt (M := mE) (u := z - 13) t).2
      rw [hR] at hl
      have q6 : IntKind.i64.wrap (13 + (R : Int)) = ((13 + R : Nat) : Int) := by rw [IntKind.wrap_i64]; have : R ≤ 16383 := hl; omega
      have HR : Hid (csM mE C z 14 0 s = (13 + R, t2)) := by
        show _ = _
        rw [HS.out]
        show (13 + (rstM mE (z - 13) t).1, (rstM mE (z - 13) t).2) = _
        rw [hR]
      have U5 := Lib.hid (UR.out (N + 4 * 14) (z - 13) (by omega) (by omega) t G wr HO.out HK.out (by omega))
      rw [hR] at U5
      clear HS HK HO UB UR hl hR
      go_wp2_with fail
      refine (U5.out).mono ?_; rintro e w3 ⟨rfl, G3, h3, g3⟩
      have H3 := Lib.hid h3
      have G3' := Lib.hid (HG.out.trans g3)
      clear h3 g3 HG U5
      go_wp2
      go_ret
      exact ⟨by rw [HR.out]; rfl, G3, by rw [HR.out]; exact H3.out, G3'.out⟩
set_option maxRecDepth 20000 in
set_option maxHeartbeats 4500000 in
theorem mrsize_any (a N : Nat) (bs : List Nat) (hb : ∀ x ∈ bs, x < 256) (C : Nat) (hC : C ≤ 100) (z : Int) (hz0 : -20 ≤ z) (hz1 : z ≤ 17000) (s : Ms Dc) (F : Nat → Prop) (w : World) (h : (RdF a bs) w F s) (hk : okS okDm N s) (hN : N ≤ 3998000) : Calls Tryz.prog 79 #[.iface 52 (.pointer (some ⟨a, 0, none⟩)), .int .i64 (C : Int), .int .i64 z] w (FPost (RdF a bs) F w (.int .i64 ((csM (mD bs) C z 14 0 s).1 : Int)) (csM (mD bs) C z 14 0 s).2) := by
  have HM := mr_bit a
  have UB := Lib.hid ((fun N c up s F w h hk hN => mrbit_any a N bs c up s F w h hk hN))
  have UR := Lib.hid (fun (N : Nat) (u : Int) (h0 : -100 ≤ u) (h1 : u ≤ 20000) (s : Ms Dc) (F : Nat → Prop) (w : World) (h : (RdF a bs) w F s) (hk : okS okDm N s) (hN : N ≤ 3999000) => mrrest_any a N bs hb u h0 h1 s F w h hk hN)
  have HK := Lib.hid hk
  have HO := Lib.hid h
  clear h hk
  go_enter Tryz.func79, Tryz.ntmps79
  go_wp2_with fail
  go_loopw [8] (fun iv wr => ∃ (n : Nat) (t : Ms Dc) (G : Nat → Prop), n ≤ 14 ∧ iv = .int .i64 (n : Int) ∧ Hid (csM (mD bs) C z 14 0 s = csM (mD bs) C z (14 - n) n t) ∧ Hid (okS okDm (N + 4 * n) t) ∧ Hid ((RdF a bs) wr G t) ∧ Hid (Step F w G wr)) (fun iv _ => 14 - (intOf iv).toNat)
  case atStart => exact ⟨0, s, F, Nat.zero_le _, rfl, rfl, HK.out, HO.out, Step.of_ext (Ext.refl w)⟩
  case round =>
    clear HO HK
    obtain ⟨n, t, G, hn, rfl, HS, HK, HO, HG⟩ := hrel
    by_cases hlt : n < 14
    · obtain ⟨f, hf⟩ : ∃ f, 14 - n = f + 1 := ⟨13 - n, by omega⟩
      have hs := HS.out
      rw [hf] at hs
      obtain ⟨D, hD⟩ : ∃ D : Nat, C + min n 7 = D := ⟨_, rfl⟩
      obtain ⟨bz, hbz⟩ : ∃ b, decide ((n : Int) < z) = b := ⟨_, rfl⟩
      obtain ⟨⟨V2, t1⟩, e2⟩ : ∃ r, bitM (mD bs) t ((C + min n 7 : Nat) : Int) (decide ((n : Int) < z)) = r := ⟨_, rfl⟩
      have HY : Hid (V2 = true → csM (mD bs) C z 14 0 s = csM (mD bs) C z (14 - (n + 1)) (n + 1) t1) := fun e => by
        subst e
        rw [hs, cs_yes e2, show 14 - (n + 1) = f by omega]
      have HX : Hid (V2 = false → csM (mD bs) C z 14 0 s = (n, t1)) := fun e => by
        subst e
        rw [hs, cs_no e2]
      have k3 := bit_ok (mkD hb) ((C + min n 7 : Nat) : Int) (decide ((n : Int) < z)) HK.out
      rw [e2] at k3
      have HK3 : Hid (okS okDm (N + 4 * (n + 1)) t1) := k3
      have U2 := Lib.hid (UB.out (N + 4 * n) ((C + min n 7 : Nat) : Int) (decide ((n : Int) < z)) t G wr HO.out HK.out (by omega))
      rw [e2, hbz, hD] at U2
      have x1 : (n : Int) < 14 := by omega
      have q4 : IntKind.i64.wrap ((C : Int) + min (n : Int) 7) = (D : Int) := by rw [IntKind.wrap_i64]; omega
      have d3 := hbz
      clear hs hf hD hbz e2 k3 HS HK HO
      go_wp2_with fail
      refine (U2.out).mono ?_; rintro e w3 ⟨rfl, G3, h3, g3⟩
      have H3 := Lib.hid h3
      have G3' := Lib.hid (HG.out.trans g3)
      clear h3 g3 HG
      cases V2
      · have HRR := Lib.hid (HX.out rfl)
        clear HX HY U2 UB UR
        go_wp2
        go_ret
        exact ⟨by rw [HRR.out]; rfl, G3, by rw [HRR.out]; exact H3.out, G3'.out⟩
      · have HS3 := Lib.hid (HY.out rfl)
        clear HX HY U2
        go_wp2
        go_roundw
        case rel => exact ⟨n + 1, t1, G3, by omega, by go_num, HS3.out, HK3.out, H3.out, G3'.out⟩
        case measure => simp [intOf] <;> omega
    · obtain rfl : n = 14 := by omega
      have x1 : ¬ ((14 : Nat) : Int) < 14 := by omega
      have q5 : IntKind.i64.wrap (z - 13) = z - 13 := by rw [IntKind.wrap_i64]; omega
      obtain ⟨⟨R, t2⟩, hR⟩ : ∃ r, rstM (mD bs) (z - 13) t = r := ⟨_, rfl⟩
      have hl := (rst_lt (M := (mD bs)) (u := z - 13) t).2
      rw [hR] at hl
      have q6 : IntKind.i64.wrap (13 + (R : Int)) = ((13 + R : Nat) : Int) := by rw [IntKind.wrap_i64]; have : R ≤ 16383 := hl; omega
      have HR : Hid (csM (mD bs) C z 14 0 s = (13 + R, t2)) := by
        show _ = _
        rw [HS.out]
        show (13 + (rstM (mD bs) (z - 13) t).1, (rstM (mD bs) (z - 13) t).2) = _
        rw [hR]
      have U5 := Lib.hid (UR.out (N + 4 * 14) (z - 13) (by omega) (by omega) t G wr HO.out HK.out (by omega))
      rw [hR] at U5
      clear HS HK HO UB UR hl hR
      go_wp2_with fail
      refine (U5.out).mono ?_; rintro e w3 ⟨rfl, G3, h3, g3⟩
      have H3 := Lib.hid h3
      have G3' := Lib.hid (HG.out.trans g3)
      clear h3 g3 HG U5
      go_wp2
      go_ret
      exact ⟨by rw [HR.out]; rfl, G3, by rw [HR.out]; exact H3.out, G3'.out⟩
end Go.Proofs.YtdndambkaohgiaaGreatDoor
