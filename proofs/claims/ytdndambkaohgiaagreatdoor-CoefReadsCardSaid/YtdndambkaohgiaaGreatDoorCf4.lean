/- coef.codeLevel: contract over this seat's translation. -/
import Derived.Test.YtdndambkaohgiaaGreatDoorCf3
namespace Go.Proofs.YtdndambkaohgiaaGreatDoor
set_option linter.unusedVariables false
set_option linter.unusedSimpArgs false
open Go.RowKit Go.Extern.Stop Go.Stop Go.Extern

theorem wrap_up1 (R : Nat) (h : R ≤ 16396) : IntKind.i64.wrap ((R : Int) + 1) = (R : Int) + 1 := by rw [IntKind.wrap_i64]; omega
theorem wrap_down1 (R : Nat) (h : R ≤ 16396) : IntKind.i64.wrap (-((R : Int) + 1)) = -((R : Int) + 1) := by rw [IntKind.wrap_i64]; omega
set_option maxRecDepth 20000 in
set_option maxHeartbeats 4500000 in
theorem mwlevel_any (a N : Nat)  (C : Nat) (hC : C ≤ 100) (v : Int) (hv0 : -16320 ≤ v) (hv1 : v ≤ 16320) (s : Ms Ec) (F : Nat → Prop) (w : World) (h : (WrF a) w F s) (hk : okS okEm N s) (hN : N ≤ 3997000) : Calls Tryz.prog 44 #[.iface 24 (.pointer (some ⟨a, 0, none⟩)), .int .i64 (C : Int), .int .i64 v] w (FPost (WrF a) F w (.int .i64 (lvM mE C v s).1) (lvM mE C v s).2) := by
  have HF := mw_fla a
  have UF := Lib.hid ((fun N up s F w h hk hN => mwflat_any a N up s F w h hk hN))
  have UR := Lib.hid (fun (N : Nat) (z : Int) (h0 : -20 ≤ z) (h1 : z ≤ 17000) (s : Ms Ec) (F : Nat → Prop) (w : World) (h : (WrF a) w F s) (hk : okS okEm N s) (hN : N ≤ 3998000) => mwsize_any a N C hC z h0 h1 s F w h hk hN)
  have q1 : IntKind.i64.wrap (-v) = -v := by rw [IntKind.wrap_i64]; omega
  obtain ⟨z, hz⟩ : ∃ z, (v.natAbs : Int) - 1 = z := ⟨_, rfl⟩
  have hzm : max v (-v) - 1 = z := by rw [← hz]; omega
  have hz0 : -20 ≤ z := by omega
  have hz1 : z ≤ 17000 := by omega
  have q2 : IntKind.i64.wrap z = z := by rw [IntKind.wrap_i64]; omega
  have q3 : IntKind.i64.wrap (max v (-v) - 1) = z := by rw [hzm]; exact q2
  obtain ⟨b1, hb1⟩ : ∃ b, decide (v < 0) = b := ⟨_, rfl⟩
  obtain ⟨⟨V1, s1⟩, e1⟩ : ∃ r, flaM mE s b1 = r := ⟨_, rfl⟩
  obtain ⟨⟨R, s2⟩, e2⟩ : ∃ r, csM mE C z 14 0 s1 = r := ⟨_, rfl⟩
  have hR : R ≤ 16396 := by have := cs_le (M := mE) (C := C) (z := z) 14 0 s1 (by omega); rw [e2] at this; exact this
  have HR : Hid (lvM mE C v s = (if V1 then -((R : Int) + 1) else (R : Int) + 1, s2)) := by
    show _ = _
    unfold lvM
    rw [hb1, e1, hz]
    show (if V1 = true then -(((csM mE C z 14 0 s1).1 : Int) + 1) else ((csM mE C z 14 0 s1).1 : Int) + 1, (csM mE C z 14 0 s1).2) = _
    rw [e2]
  have k1 := fla_ok mkE b1 hk
  rw [e1] at k1
  have q4 : IntKind.i64.wrap ((R : Int) + 1) = (R : Int) + 1 := wrap_up1 R hR
  have q5 : IntKind.i64.wrap (-((R : Int) + 1)) = -((R : Int) + 1) := wrap_down1 R hR
  have U1 := Lib.hid (UF.out N b1 s F w h hk (by omega))
  have U2 := Lib.hid (fun F w' (h : (WrF a) w' F s1) => UR.out (N + 4) z hz0 hz1 s1 F w' h k1 (by omega))
  rw [e1] at U1
  rw [e2] at U2
  clear h hk k1 e1 e2 UF UR hz hzm hz0 hz1 q2 hR
  go_enter Tryz.func44, Tryz.ntmps44
  go_wp2_with fail
  refine (U1.out).mono ?_; rintro e w1 ⟨rfl, F1, h1, g1⟩
  have H1 := Lib.hid h1
  have G1 := Lib.hid g1
  clear h1 g1 U1
  go_wp2_with fail
  refine (U2.out _ _ H1.out).mono ?_; rintro e w2 ⟨rfl, F2, h2, g2⟩
  have H2 := Lib.hid h2
  have G2 := Lib.hid (G1.out.trans g2)
  clear h2 g2 H1 G1 U2
  cases V1
  all_goals (
    go_wp2
    go_ret
    exact ⟨by rw [HR.out]; rfl, F2, by rw [HR.out]; exact H2.out, G2.out⟩)
set_option maxRecDepth 20000 in
set_option maxHeartbeats 4500000 in
theorem mrlevel_any (a N : Nat) (bs : List Nat) (hb : ∀ x ∈ bs, x < 256) (C : Nat) (hC : C ≤ 100) (v : Int) (hv0 : -16320 ≤ v) (hv1 : v ≤ 16320) (s : Ms Dc) (F : Nat → Prop) (w : World) (h : (RdF a bs) w F s) (hk : okS okDm N s) (hN : N ≤ 3997000) : Calls Tryz.prog 44 #[.iface 52 (.pointer (some ⟨a, 0, none⟩)), .int .i64 (C : Int), .int .i64 v] w (FPost (RdF a bs) F w (.int .i64 (lvM (mD bs) C v s).1) (lvM (mD bs) C v s).2) := by
  have HF := mr_fla a
  have UF := Lib.hid ((fun N up s F w h hk hN => mrflat_any a N bs up s F w h hk hN))
  have UR := Lib.hid (fun (N : Nat) (z : Int) (h0 : -20 ≤ z) (h1 : z ≤ 17000) (s : Ms Dc) (F : Nat → Prop) (w : World) (h : (RdF a bs) w F s) (hk : okS okDm N s) (hN : N ≤ 3998000) => mrsize_any a N bs hb C hC z h0 h1 s F w h hk hN)
  have q1 : IntKind.i64.wrap (-v) = -v := by rw [IntKind.wrap_i64]; omega
  obtain ⟨z, hz⟩ : ∃ z, (v.natAbs : Int) - 1 = z := ⟨_, rfl⟩
  have hzm : max v (-v) - 1 = z := by rw [← hz]; omega
  have hz0 : -20 ≤ z := by omega
  have hz1 : z ≤ 17000 := by omega
  have q2 : IntKind.i64.wrap z = z := by rw [IntKind.wrap_i64]; omega
  have q3 : IntKind.i64.wrap (max v (-v) - 1) = z := by rw [hzm]; exact q2
  obtain ⟨b1, hb1⟩ : ∃ b, decide (v < 0) = b := ⟨_, rfl⟩
  obtain ⟨⟨V1, s1⟩, e1⟩ : ∃ r, flaM (mD bs) s b1 = r := ⟨_, rfl⟩
  obtain ⟨⟨R, s2⟩, e2⟩ : ∃ r, csM (mD bs) C z 14 0 s1 = r := ⟨_, rfl⟩
  have hR : R ≤ 16396 := by have := cs_le (M := (mD bs)) (C := C) (z := z) 14 0 s1 (by omega); rw [e2] at this; exact this
  have HR : Hid (lvM (mD bs) C v s = (if V1 then -((R : Int) + 1) else (R : Int) + 1, s2)) := by
    show _ = _
    unfold lvM
    rw [hb1, e1, hz]
    show (if V1 = true then -(((csM (mD bs) C z 14 0 s1).1 : Int) + 1) else ((csM (mD bs) C z 14 0 s1).1 : Int) + 1, (csM (mD bs) C z 14 0 s1).2) = _
    rw [e2]
  have k1 := fla_ok (mkD hb) b1 hk
  rw [e1] at k1
  have q4 : IntKind.i64.wrap ((R : Int) + 1) = (R : Int) + 1 := wrap_up1 R hR
  have q5 : IntKind.i64.wrap (-((R : Int) + 1)) = -((R : Int) + 1) := wrap_down1 R hR
  have U1 := Lib.hid (UF.out N b1 s F w h hk (by omega))
  have U2 := Lib.hid (fun F w' (h : (RdF a bs) w' F s1) => UR.out (N + 4) z hz0 hz1 s1 F w' h k1 (by omega))
  rw [e1] at U1
  rw [e2] at U2
  clear h hk k1 e1 e2 UF UR hz hzm hz0 hz1 q2 hR
  go_enter Tryz.func44, Tryz.ntmps44
  go_wp2_with fail
  refine (U1.out).mono ?_; rintro e w1 ⟨rfl, F1, h1, g1⟩
  have H1 := Lib.hid h1
  have G1 := Lib.hid g1
  clear h1 g1 U1
  go_wp2_with fail
  refine (U2.out _ _ H1.out).mono ?_; rintro e w2 ⟨rfl, F2, h2, g2⟩
  have H2 := Lib.hid h2
  have G2 := Lib.hid (G1.out.trans g2)
  clear h2 g2 H1 G1 U2
  cases V1
  all_goals (
    go_wp2
    go_ret
    exact ⟨by rw [HR.out]; rfl, F2, by rw [HR.out]; exact H2.out, G2.out⟩)
end Go.Proofs.YtdndambkaohgiaaGreatDoor
