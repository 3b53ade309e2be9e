/- (*rac.Encoder).shift: its contract over this seat's translation. -/
import Derived.Test.YtdpebaheojaihaaDoorRa3
namespace Go.Proofs.YtdpebaheojaihaaDoor
set_option linter.unusedVariables false
set_option linter.unusedSimpArgs false
open Go.RowKit Go.Extern.Stop Go.Stop Go.Extern

theorem and_u64 (x : Nat) (hx : x < 18446744073709551616) : bits .and .u64 (x : Int) 4294967295 = ((x % 4294967296 : Nat) : Int) := by
  have e : (BitVec.ofInt 64 (x : Int) &&& BitVec.ofInt 64 ((4294967295 : Nat) : Int)).toNat = x % 4294967296 := by
    have h2 : (4294967295 : Nat) = 2 ^ 32 - 1 := by decide
    rw [ofInt_nat, ofInt_nat, BitVec.toNat_and, BitVec.toNat_ofNat, BitVec.toNat_ofNat, Nat.mod_eq_of_lt hx, Nat.mod_eq_of_lt (by omega), h2, Nat.and_two_pow_sub_one_eq_mod]
  show IntKind.u64.wrap (((BitVec.ofInt 64 (x : Int) &&& BitVec.ofInt 64 ((4294967295 : Nat) : Int)).toNat : Nat) : Int) = _
  rw [e, IntKind.wrap_u64]
  omega
set_option maxRecDepth 20000 in
set_option maxHeartbeats 4000000 in
theorem shift_any (b B N : Nat) (s : Ec) (w : World) (h : EcAt w b B s) (hk : okE N s) (hN : N ≤ 1000000) : Calls Tryd.prog 46 #[.pointer (some ⟨b, 0, none⟩)] w (EnPost w b B (shfE s)) := by
  obtain ⟨v, hB, hR⟩ := h
  obtain ⟨k1, ⟨k2, k3⟩, k4, k5, k6⟩ := hk
  obtain ⟨D, hd, r, l, d⟩ := s
  have k1 : D.length + r ≤ N := k1
  have k2 : -1 ≤ hd := k2
  have k3 : hd ≤ 255 + N := k3
  have k4 : l < 4294967296 := k4
  have hB : EcBox w b v hd r l d := hB
  have hR : EcRow w b B v D := hR
  obtain ⟨T, hT⟩ : ∃ T, l / 16777216 = T := ⟨_, rfl⟩
  obtain ⟨L2, hL2⟩ : ∃ L2, l % 16777216 * 256 = L2 := ⟨_, rfl⟩
  obtain ⟨M, hM⟩ : ∃ M, l * 256 = M := ⟨_, rfl⟩
  have s0 : (l : Int) / 16777216 = (T : Int) := by omega
  have s1 : IntKind.i64.wrap (T : Int) = (T : Int) := by rw [IntKind.wrap_i64]; omega
  have s2 : IntKind.u64.wrap ((l : Int) * 256) = (M : Int) := by rw [IntKind.wrap_u64]; omega
  have s3 : bits .and .u64 (M : Int) 4294967295 = (L2 : Int) := by rw [and_u64 M (by omega)]; omega
  have HB1 := Lib.hid (hB.set3 L2)
  have HR1 := Lib.hid (hR.set 3 (.int .u64 (L2 : Int)))
  have HK1 := Lib.hid (WKp.of_kp (B := B) ((Kp.refl b w).set 3 (.int .u64 (L2 : Int))))
  obtain ⟨⟨c0, c1, c2, c3, c4⟩, f0, f1, f2, f3, f4⟩ := hB
  clear hR k5 k6
  by_cases h255 : T = 255
  · have t1 : ((T : Int) == 255) = true := by rw [beq_iff_eq]; omega
    have HC : Hid (shfE ⟨D, hd, r, l, d⟩ = ⟨D, hd, r + 1, L2, d⟩) := by
      show (if l / 16777216 = 255 then _ else _) = _
      rw [if_pos (hT.trans h255)]
      show (⟨D, hd, r + 1, l % 16777216 * 256, d⟩ : Ec) = _
      rw [hL2]
    have s4 : IntKind.i64.wrap ((r : Int) + 1) = ((r + 1 : Nat) : Int) := by rw [IntKind.wrap_i64]; omega
    obtain ⟨r1, hr1⟩ : ∃ r1, r + 1 = r1 := ⟨_, rfl⟩
    rw [hr1] at HC s4
    have HB2 := Lib.hid (HB1.out.set2 r1)
    have HR2 := Lib.hid (HR1.out.set 2 (.int .i64 (r1 : Int)))
    have HK2 := Lib.hid (HK1.out.trans (WKp.of_kp ((Kp.refl b _).set 2 (.int .i64 (r1 : Int)))))
    clear hT hL2 hM hr1 h255
    go_enter Tryd.func46, Tryd.ntmps46
    go_wp2
    go_end0
    exact ⟨rfl, by rw [HC.out]; exact ⟨v, HB2.out, HR2.out⟩, HK2.out⟩
  · have t1 : ((T : Int) == 255) = false := by rw [beq_eq_false_iff_ne]; omega
    have HC0 : Hid (shfE ⟨D, hd, r, l, d⟩ = ⟨D ++ (hdE ⟨D, hd, r, l, d⟩ ++ List.replicate r 255), (T : Int), 0, L2, d⟩) := by
      show (if l / 16777216 = 255 then _ else _) = _
      rw [if_neg (by rw [hT]; exact h255)]
      show (⟨D ++ (hdE ⟨D, hd, r, l, d⟩ ++ List.replicate r 255), ((l / 16777216 : Nat) : Int), 0, l % 16777216 * 256, d⟩ : Ec) = _
      rw [hL2, hT]
    by_cases h0 : 0 ≤ hd
    · obtain ⟨X, hX⟩ : ∃ X : Nat, (hd % 256).toNat = X := ⟨_, rfl⟩
      have e2 : IntKind.u8.wrap hd = (X : Int) := by rw [IntKind.wrap_u8]; omega
      have HC : Hid (shfE ⟨D, hd, r, l, d⟩ = ⟨(D ++ [X]) ++ List.replicate r 255, (T : Int), 0, L2, d⟩) := by
        show _ = _
        rw [HC0.out]
        unfold hdE
        rw [if_pos h0]
        show (⟨D ++ ([(hd % 256).toNat] ++ List.replicate r 255), (T : Int), 0, L2, d⟩ : Ec) = _
        rw [hX, List.append_assoc]
      obtain ⟨a, cc, rfl⟩ := HR1.out.form
      have hDn : D.length + r ≤ 1000000 := by omega
      clear hX hT hL2 hM h255 k1 HC0
      go_enter Tryd.func46, Tryd.ntmps46
      go_wp2_with fail
      clear c0 c1 c2 c3 c4 f0 f1 f2 f3 f4 s0 s1 s2 s3
      revert HB1 HR1 HK1
      generalize World.setCell w _ _ = w1
      intro _ _ _
      rename Hid (EcBox _ _ _ _ _ _ _) => HB1
      rename Hid (EcRow _ _ _ _ _) => HR1
      rename Hid (WKp _ _ _ _) => HK1
      obtain ⟨⟨c0, c1, c2, c3, c4⟩, f0, f1, f2, f3, f4⟩ := HB1.out
      have A1 : Ext w1 (w1.alloc (.cells #[.int .u8 (X : Int)] 5)) := (Ext.refl w1).alloc _
      have y0 := A1.cell c0
      have y1 := A1.cell c1
      have hBs := HR1.out.2.2
      go_wp2_with fail
      go_region_law (refine step_push_u8 (by rfl) _ _ 42 (by rfl) Tryd.underlying42 _ D.length _ (X : Int) (by rfl) HR1.out.1 (by rfl) hBs (by omega) ?_; intro g8 cp8 w8 h1 h2; obtain ⟨HBa, HBb, HRb, HKb⟩ := en_push HB1.out HR1.out rfl h1 h2; have HBA := Lib.hid HBa; have HBB := Lib.hid HBb; have HRB := Lib.hid HRb; have HKB := Lib.hid HKb; obtain ⟨⟨a0, a1, a2, a3, a4⟩, z0, z1, z2, z3, z4⟩ := HBA.out; clear h1 h2 HBa HBb HRb HKb)
      all_goals go_wp2_with fail
      all_goals have HK2 := Lib.hid (HK1.out.trans HKB.out)
      all_goals clear HB1 HR1 HK1 HBA HKB c0 c1 c2 c3 c4 f0 f1 f2 f3 f4 y0 y1 A1 a0 a1 a2 a3 a4 z0 z1 z2 z3 z4
      all_goals revert HBB HRB HK2
      all_goals generalize World.setCell w8 _ _ = w2
      all_goals intro _ _ _
      all_goals rename Hid (EcBox _ _ _ _ _ _ _) => HB2
      all_goals rename Hid (EcRow _ _ _ _ _) => HR2
      all_goals rename Hid (WKp _ _ _ _) => HK2
      all_goals obtain ⟨⟨c0, c1, c2, c3, c4⟩, f0, f1, f2, f3, f4⟩ := HB2.out
      all_goals obtain ⟨E0, hE0⟩ : ∃ E0, D ++ [X] = E0 := ⟨_, rfl⟩
      all_goals have hE0l : E0.length = D.length + 1 := by rw [← hE0]; simp
      all_goals rw [hE0] at HC HR2
      all_goals clear hE0
      all_goals (
        -- in hand: w2; HB2 : EcBox w2 b v2 hd r L2 d; HR2 : EcRow w2 b B v2 E0; HK2; HC
        go_wp2_with fail
        go_loopw [50] (fun iv wr => ∃ (k : Nat) (u : Value), k ≤ r ∧ iv = .int .i64 (k : Int) ∧ Hid (EcBox wr b u hd r L2 d) ∧ Hid (EcRow wr b B u (E0 ++ List.replicate k 255)) ∧ Hid (WKp b B w wr)) (fun iv _ => r - (intOf iv).toNat)
        case atStart => exact ⟨0, _, Nat.zero_le _, rfl, HB2.out, by show EcRow _ _ _ _ _; rw [List.replicate_zero, List.append_nil]; exact HR2.out, HK2.out⟩
        case round =>
          obtain ⟨k, u, hk, rfl, HB3, HR3, HK3⟩ := hrel
          by_cases hlt : k < r
          · obtain ⟨E, hE⟩ : ∃ E, E0 ++ List.replicate k 255 = E := ⟨_, rfl⟩
            have hEl : E.length = E0.length + k := by rw [← hE]; simp
            have HE : Hid (E0 ++ List.replicate (k + 1) 255 = E ++ [255]) := by show _ = _; rw [← hE, List.replicate_succ', List.append_assoc]
            rw [hE] at HR3
            obtain ⟨ua, uc, rfl⟩ := HR3.out.form
            obtain ⟨⟨c0, c1, c2, c3, c4⟩, f0, f1, f2, f3, f4⟩ := HB3.out
            have hBs3 := HR3.out.2.2
            have hEn : E.length ≤ 2000000 := by omega
            clear hE hEl HB2 HR2 HK2
            go_wp2_with (at_builtin; refine push_u8 rfl _ _ 42 rfl Tryd.underlying42 _ E.length _ 255 rfl HR3.out.1 rfl hBs3 (by omega) ?_; intro g8 cp8 w8 h1 h2; obtain ⟨HBa, HBb, HRb, HKb⟩ := en_push HB3.out HR3.out rfl h1 h2; have HBA := Lib.hid HBa; have HBB := Lib.hid HBb; have HRB := Lib.hid HRb; have HKB := Lib.hid HKb; obtain ⟨⟨a0, a1, a2, a3, a4⟩, z0, z1, z2, z3, z4⟩ := HBA.out; clear h1 h2 HBa HBb HRb HKb)
            go_roundw
            case rel => exact ⟨k + 1, _, by omega, by go_num, HBB.out, by show EcRow _ _ _ _ _; rw [HE.out]; exact HRB.out, HK3.out.trans HKB.out⟩
            case measure => simp [intOf]; omega
          · obtain rfl : k = r := by omega
            have hlt' : ¬ (k : Int) < (k : Int) := by omega
            obtain ⟨⟨c0, c1, c2, c3, c4⟩, f0, f1, f2, f3, f4⟩ := HB3.out
            have HBf := Lib.hid ((HB3.out.set1 (T : Int)).set2 0)
            have HRf := Lib.hid ((HR3.out.set 1 (.int .i64 (T : Int))).set 2 (.int .i64 ((0 : Nat) : Int)))
            have HKf := Lib.hid (HK3.out.trans (WKp.of_kp (((Kp.refl b wr).set 1 (.int .i64 (T : Int))).set 2 (.int .i64 ((0 : Nat) : Int)))))
            go_wp2
            go_end0
            exact ⟨rfl, by rw [HC.out]; exact ⟨u, HBf.out, HRf.out⟩, HKf.out⟩
        )
    · have HC : Hid (shfE ⟨D, hd, r, l, d⟩ = ⟨D ++ List.replicate r 255, (T : Int), 0, L2, d⟩) := by
        show _ = _
        rw [HC0.out]
        unfold hdE
        rw [if_neg h0]
        rfl
      have h0' : ¬ (0 : Int) ≤ hd := h0
      have hDn : D.length + r ≤ 1000000 := by omega
      clear hT hL2 hM h255 k1 HC0
      go_enter Tryd.func46, Tryd.ntmps46
      go_wp2_with fail
      clear c0 c1 c2 c3 c4 f0 f1 f2 f3 f4 s0 s1 s2 s3
      revert HB1 HR1 HK1
      generalize World.setCell w _ _ = w2
      intro _ _ _
      rename Hid (EcBox _ _ _ _ _ _ _) => HB2
      rename Hid (EcRow _ _ _ _ _) => HR2
      rename Hid (WKp _ _ _ _) => HK2
      obtain ⟨⟨c0, c1, c2, c3, c4⟩, f0, f1, f2, f3, f4⟩ := HB2.out
      rename List Nat => E0
      -- in hand: w2; HB2 : EcBox w2 b v2 hd r L2 d; HR2 : EcRow w2 b B v2 E0; HK2; HC
      go_wp2_with fail
      go_loopw [50] (fun iv wr => ∃ (k : Nat) (u : Value), k ≤ r ∧ iv = .int .i64 (k : Int) ∧ Hid (EcBox wr b u hd r L2 d) ∧ Hid (EcRow wr b B u (E0 ++ List.replicate k 255)) ∧ Hid (WKp b B w wr)) (fun iv _ => r - (intOf iv).toNat)
      case atStart => exact ⟨0, _, Nat.zero_le _, rfl, HB2.out, by show EcRow _ _ _ _ _; rw [List.replicate_zero, List.append_nil]; exact HR2.out, HK2.out⟩
      case round =>
        obtain ⟨k, u, hk, rfl, HB3, HR3, HK3⟩ := hrel
        by_cases hlt : k < r
        · obtain ⟨E, hE⟩ : ∃ E, E0 ++ List.replicate k 255 = E := ⟨_, rfl⟩
          have hEl : E.length = E0.length + k := by rw [← hE]; simp
          have HE : Hid (E0 ++ List.replicate (k + 1) 255 = E ++ [255]) := by show _ = _; rw [← hE, List.replicate_succ', List.append_assoc]
          rw [hE] at HR3
          obtain ⟨ua, uc, rfl⟩ := HR3.out.form
          obtain ⟨⟨c0, c1, c2, c3, c4⟩, f0, f1, f2, f3, f4⟩ := HB3.out
          have hBs3 := HR3.out.2.2
          have hEn : E.length ≤ 2000000 := by omega
          clear hE hEl HB2 HR2 HK2
          go_wp2_with (at_builtin; refine push_u8 rfl _ _ 42 rfl Tryd.underlying42 _ E.length _ 255 rfl HR3.out.1 rfl hBs3 (by omega) ?_; intro g8 cp8 w8 h1 h2; obtain ⟨HBa, HBb, HRb, HKb⟩ := en_push HB3.out HR3.out rfl h1 h2; have HBA := Lib.hid HBa; have HBB := Lib.hid HBb; have HRB := Lib.hid HRb; have HKB := Lib.hid HKb; obtain ⟨⟨a0, a1, a2, a3, a4⟩, z0, z1, z2, z3, z4⟩ := HBA.out; clear h1 h2 HBa HBb HRb HKb)
          go_roundw
          case rel => exact ⟨k + 1, _, by omega, by go_num, HBB.out, by show EcRow _ _ _ _ _; rw [HE.out]; exact HRB.out, HK3.out.trans HKB.out⟩
          case measure => simp [intOf]; omega
        · obtain rfl : k = r := by omega
          have hlt' : ¬ (k : Int) < (k : Int) := by omega
          obtain ⟨⟨c0, c1, c2, c3, c4⟩, f0, f1, f2, f3, f4⟩ := HB3.out
          have HBf := Lib.hid ((HB3.out.set1 (T : Int)).set2 0)
          have HRf := Lib.hid ((HR3.out.set 1 (.int .i64 (T : Int))).set 2 (.int .i64 ((0 : Nat) : Int)))
          have HKf := Lib.hid (HK3.out.trans (WKp.of_kp (((Kp.refl b wr).set 1 (.int .i64 (T : Int))).set 2 (.int .i64 ((0 : Nat) : Int)))))
          go_wp2
          go_end0
          exact ⟨rfl, by rw [HC.out]; exact ⟨u, HBf.out, HRf.out⟩, HKf.out⟩
end Go.Proofs.YtdpebaheojaihaaDoor
