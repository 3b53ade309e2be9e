/- unit.Sum, kinref4.Sum: contracts over this seat's translation. -/
import Derived.Test.YtkjllhphpkmaiaaDoorUcr
import Derived.Test.YtkjllhphpkmaiaaDoorBcl
namespace Go.Proofs.YtkjllhphpkmaiaaDoor
set_option linter.unusedVariables false
set_option linter.unusedSimpArgs false
open Go.RowKit Go.Extern.Stop Go.Stop Go.Extern

theorem ofInt32_nat (n : Nat) : BitVec.ofInt 32 (n : Int) = BitVec.ofNat 32 n := by
  apply BitVec.eq_of_toNat_eq
  simp [BitVec.toNat_ofNat]
theorem xor_u32 {a b : Nat} (ha : a < 4294967296) (hb : b < 4294967296) : bits .xor .u32 (a : Int) (b : Int) = ((a ^^^ b : Nat) : Int) := by
  have h := Nat.xor_lt_two_pow (n := 32) ha hb
  have e : (BitVec.ofInt 32 (a : Int) ^^^ BitVec.ofInt 32 (b : Int)).toNat = a ^^^ b := by
    rw [ofInt32_nat, ofInt32_nat, BitVec.toNat_xor, BitVec.toNat_ofNat, BitVec.toNat_ofNat, Nat.mod_eq_of_lt ha, Nat.mod_eq_of_lt hb]
  show IntKind.u32.wrap (((BitVec.ofInt 32 (a : Int) ^^^ BitVec.ofInt 32 (b : Int)).toNat : Nat) : Int) = _
  rw [e, IntKind.wrap_u32]
  omega
theorem and_u32 {a t : Nat} (ha : a < 4294967296) (ht : t ≤ 31) : bits .and .u32 (a : Int) ((2 ^ t - 1 : Nat) : Int) = ((a % 2 ^ t : Nat) : Int) := by
  have h2 : 2 ^ t ≤ 2 ^ 31 := Nat.pow_le_pow_right (by decide) ht
  have hm : a % 2 ^ t < 2 ^ t := Nat.mod_lt _ (Nat.two_pow_pos t)
  have e : (BitVec.ofInt 32 (a : Int) &&& BitVec.ofInt 32 ((2 ^ t - 1 : Nat) : Int)).toNat = a % 2 ^ t := by
    rw [ofInt32_nat, ofInt32_nat, BitVec.toNat_and, BitVec.toNat_ofNat, BitVec.toNat_ofNat, Nat.mod_eq_of_lt ha, Nat.mod_eq_of_lt (by omega), Nat.and_two_pow_sub_one_eq_mod]
  show IntKind.u32.wrap (((BitVec.ofInt 32 (a : Int) &&& BitVec.ofInt 32 ((2 ^ t - 1 : Nat) : Int)).toNat : Nat) : Int) = _
  rw [e, IntKind.wrap_u32]
  omega
/-- the table -/
def NbIs (w : World) : Prop := ∀ r, r < 16 → w.cell? ⟨0, r, none⟩ = some (.int .u32 (nib r : Int))
theorem NbIs.ext {w w' : World} (h : NbIs w) (k : Ext w w') : NbIs w' := fun r hr => k.cell (h r hr)
theorem crcF_take {bs : List Nat} {i x : Nat} (h : bs[i]? = some x) (c : Nat) : crcF c (bs.take (i + 1)) = stpC (crcF c (bs.take i)) x := by
  rw [List.take_add_one, h, crcF_app]
  rfl
theorem u32_not {c : Nat} (h : c < 4294967296) : c ^^^ 4294967295 = 4294967295 - c := by
  have e : (BitVec.ofNat 32 c ^^^ BitVec.allOnes 32).toNat = 2 ^ 32 - 1 - c := by
    rw [BitVec.xor_allOnes, BitVec.toNat_not, BitVec.toNat_ofNat, Nat.mod_eq_of_lt h]
  rw [BitVec.toNat_xor, BitVec.toNat_ofNat, Nat.mod_eq_of_lt h] at e
  simpa using e
set_option maxHeartbeats 4000000 in
set_option maxRecDepth 20000 in
theorem sum_any (bs : List Nat) (v : Value) (w : World) (hn : NbIs w) (h : Bys w v bs) : Calls Tryd.prog 17 #[v] w fun e w' => e = .returned (.int .u32 (crc bs : Int)) ∧ w = w' := by
  obtain ⟨a, cap, rfl⟩ := h.form
  obtain ⟨n, hn'⟩ : ∃ n, n = bs.length := ⟨_, rfl⟩
  have hl := h.2.2
  rw [← hn'] at h hl ⊢
  have HN := Lib.hid hn'
  have HB := Lib.hid h
  have HNB := Lib.hid hn
  clear hn' h hn
  go_enter Tryd.func17, Tryd.ntmps17
  go_wp2_with fail
  go_loop [3, 8] (fun sv iv => ∃ i : Nat, i ≤ n ∧ sv = .int .u32 (crcF 4294967295 (bs.take i) : Int) ∧ iv = .int .i64 (i : Int)) (fun _ iv => n - (intOf iv).toNat)
  case atStart => exact ⟨0, Nat.zero_le _, rfl, rfl⟩
  case round =>
    obtain ⟨i, hi, rfl, rfl⟩ := hrel
    by_cases hlt : i < n
    · obtain ⟨g, off, rfl⟩ := HB.out.had (by omega)
      have hx := nget_of_lt (bs := bs) (j := i) (by rw [← HN.out]; exact hlt)
      have cx := HB.out.at hx
      have hxb := HB.out.lt i
      have HS := Lib.hid (crcF_take hx 4294967295)
      have hc : crcF 4294967295 (bs.take i) < 4294967296 := crcF_lt (by decide) (fun y hy => HB.out.2.1 y (List.mem_of_mem_take hy))
      obtain ⟨x, hxx⟩ : ∃ x, bs.getD i 0 = x := ⟨_, rfl⟩
      obtain ⟨c, hcc⟩ : ∃ c, crcF 4294967295 (bs.take i) = c := ⟨_, rfl⟩
      rw [hxx] at cx hxb HS
      rw [hcc] at hc HS ⊢
      rw [stpC_nib] at HS
      have hc1 : c ^^^ x < 4294967296 := Nat.xor_lt_two_pow (n := 32) hc (by omega)
      have k1 := xor_u32 hc (show x < 4294967296 by omega)
      obtain ⟨c1, e1⟩ : ∃ c1, c ^^^ x = c1 := ⟨_, rfl⟩
      rw [e1] at HS k1 hc1
      have k2 : bits .and .u32 (c1 : Int) 15 = ((c1 % 2 ^ 4 : Nat) : Int) := and_u32 hc1 (t := 4) (by decide)
      obtain ⟨l1, e2⟩ : ∃ l1, c1 % 16 = l1 := ⟨_, rfl⟩
      have e2' : c1 % 2 ^ 4 = l1 := e2
      rw [e2'] at k2
      obtain ⟨h1, e3⟩ : ∃ h1, c1 / 16 = h1 := ⟨_, rfl⟩
      have t1 := HNB.out l1 (by omega)
      have hn1 := nib_lt (r := l1) (by omega)
      rw [e2, e3] at HS
      obtain ⟨n1, e4⟩ : ∃ n1, nib l1 = n1 := ⟨_, rfl⟩
      rw [e4] at HS t1 hn1
      have k3 := xor_u32 (show h1 < 4294967296 by omega) hn1
      have hc2 : h1 ^^^ n1 < 4294967296 := Nat.xor_lt_two_pow (n := 32) (by omega) hn1
      obtain ⟨c2, e5⟩ : ∃ c2, h1 ^^^ n1 = c2 := ⟨_, rfl⟩
      rw [e5] at HS k3 hc2
      have k4 : bits .and .u32 (c2 : Int) 15 = ((c2 % 2 ^ 4 : Nat) : Int) := and_u32 hc2 (t := 4) (by decide)
      obtain ⟨l2, e6⟩ : ∃ l2, c2 % 16 = l2 := ⟨_, rfl⟩
      have e6' : c2 % 2 ^ 4 = l2 := e6
      rw [e6'] at k4
      obtain ⟨h2, e7⟩ : ∃ h2, c2 / 16 = h2 := ⟨_, rfl⟩
      have t2 := HNB.out l2 (by omega)
      have hn2 := nib_lt (r := l2) (by omega)
      rw [e6, e7] at HS
      obtain ⟨n2, e8⟩ : ∃ n2, nib l2 = n2 := ⟨_, rfl⟩
      rw [e8] at HS t2 hn2
      have k5 := xor_u32 (show h2 < 4294967296 by omega) hn2
      obtain ⟨c3, e9⟩ : ∃ c3, h2 ^^^ n2 = c3 := ⟨_, rfl⟩
      rw [e9] at HS k5
      have m1 : (c1 : Int) / 16 = (h1 : Int) := by omega
      have m2 : (c2 : Int) / 16 = (h2 : Int) := by omega
      have m3 : IntKind.u32.wrap (x : Int) = (x : Int) := by rw [IntKind.wrap_u32]; omega
      have m4 : IntKind.u32.wrap (h1 : Int) = (h1 : Int) := by rw [IntKind.wrap_u32]; omega
      have m5 : IntKind.u32.wrap (h2 : Int) = (h2 : Int) := by rw [IntKind.wrap_u32]; omega
      have x1 : (0 : Int) ≤ (i : Int) := by omega
      have x2 : (i : Int) < (n : Int) := by omega
      have y1 : (0 : Int) ≤ (l1 : Int) := by omega
      have y2 : (l1 : Int) < 16 := by omega
      have y3 : (0 : Int) ≤ (l2 : Int) := by omega
      have y4 : (l2 : Int) < 16 := by omega
      clear hx hxx hcc e1 e2 e2' e3 e4 e5 e6 e6' e7 e8 e9
      go_wp2
      go_roundw
      case rel => exact ⟨i + 1, by omega, by rw [HS.out], by go_num⟩
      case measure => simp [intOf]; omega
    · obtain rfl : i = n := by omega
      have ht : bs.take i = bs := List.take_of_length_le (by rw [← HN.out]; exact Nat.le_refl _)
      have hc : crcF 4294967295 bs < 4294967296 := crcF_lt (by decide) HB.out.2.1
      have k9 : bits .xor .u32 IntKind.u32.max (crcF 4294967295 bs : Int) = (crc bs : Int) := by
        have := xor_u32 (a := 4294967295) (by decide) hc
        rw [show IntKind.u32.max = ((4294967295 : Nat) : Int) from rfl, this]
        unfold crc
        rw [Nat.xor_comm]
      have HC := Lib.hid k9
      rw [ht]
      clear ht k9
      have sg : ¬ IntKind.u32.signed = true := by decide
      go_wp2
      go_ret
      exact ⟨by rw [← HC.out]; rfl, rfl⟩
set_option maxHeartbeats 4000000 in
set_option maxRecDepth 20000 in
theorem rsum_any (bs : List Nat) (v : Value) (w : World) (h : Bys w v bs) : Calls Tryd.prog 18 #[v] w fun e w' => e = .returned (.int .u32 (crc bs : Int)) ∧ w = w' := by
  obtain ⟨a, cap, rfl⟩ := h.form
  obtain ⟨n, hn'⟩ : ∃ n, n = bs.length := ⟨_, rfl⟩
  have hl := h.2.2
  rw [← hn'] at h hl ⊢
  have HN := Lib.hid hn'
  have HB := Lib.hid h
  clear hn' h
  go_enter Tryd.func18, Tryd.ntmps18
  go_wp2_with fail
  go_loop [3, 4] (fun sv iv => ∃ i : Nat, i ≤ n ∧ sv = .int .u32 (crcF 4294967295 (bs.take i) : Int) ∧ iv = .int .i64 (i : Int)) (fun _ iv => n - (intOf iv).toNat)
  case atStart => exact ⟨0, Nat.zero_le _, rfl, rfl⟩
  case round =>
    obtain ⟨i, hi, rfl, rfl⟩ := hrel
    by_cases hlt : i < n
    · obtain ⟨g, off, rfl⟩ := HB.out.had (by omega)
      have hx := nget_of_lt (bs := bs) (j := i) (by rw [← HN.out]; exact hlt)
      have cx := HB.out.at hx
      have hxb := HB.out.lt i
      have HS := Lib.hid (crcF_take hx 4294967295)
      have hc : crcF 4294967295 (bs.take i) < 4294967296 := crcF_lt (by decide) (fun y hy => HB.out.2.1 y (List.mem_of_mem_take hy))
      obtain ⟨x, hxx⟩ : ∃ x, bs.getD i 0 = x := ⟨_, rfl⟩
      obtain ⟨c, hcc⟩ : ∃ c, crcF 4294967295 (bs.take i) = c := ⟨_, rfl⟩
      rw [hxx] at cx hxb HS
      rw [hcc] at hc HS ⊢
      have hc1 : c ^^^ x < 4294967296 := Nat.xor_lt_two_pow (n := 32) hc (by omega)
      have k1 := xor_u32 hc (show x < 4294967296 by omega)
      obtain ⟨c1, e1⟩ : ∃ c1, c ^^^ x = c1 := ⟨_, rfl⟩
      rw [e1] at k1 hc1
      have HS2 : Hid (crcF 4294967295 (bs.take (i + 1)) = rN 8 c1) := by show _ = _; rw [HS.out]; unfold stpC; rw [e1]
      have m3 : IntKind.u32.wrap (x : Int) = (x : Int) := by rw [IntKind.wrap_u32]; omega
      have x1 : (0 : Int) ≤ (i : Int) := by omega
      have x2 : (i : Int) < (n : Int) := by omega
      clear hx hxx hcc e1 HS
      go_wp2_with fail
      go_loop [3, 5] (fun sv kv => ∃ k d : Nat, k ≤ 8 ∧ d < 4294967296 ∧ sv = .int .u32 (d : Int) ∧ kv = .int .i64 (k : Int) ∧ Hid (rN (8 - k) d = rN 8 c1)) (fun _ kv => 8 - (intOf kv).toNat)
      case atStart => exact ⟨0, c1, Nat.zero_le _, hc1, rfl, rfl, rfl⟩
      case round =>
        obtain ⟨k, d, hk, hd, rfl, rfl, HR⟩ := hrel
        by_cases hk8 : k < 8
        · have k2 : bits .and .u32 (d : Int) 1 = ((d % 2 ^ 1 : Nat) : Int) := and_u32 hd (t := 1) (by decide)
          obtain ⟨r, hr⟩ : ∃ r, d % 2 = r := ⟨_, rfl⟩
          obtain ⟨h1, hh⟩ : ∃ h1, d / 2 = h1 := ⟨_, rfl⟩
          have m1 : (d : Int) / 2 = (h1 : Int) := by omega
          have k2' : bits .and .u32 (d : Int) 1 = (r : Int) := by rw [k2]; rw [show d % 2 ^ 1 = r from hr]
          have HR2 : Hid (rN (8 - (k + 1)) (r1 d) = rN 8 c1) := by
            show _ = _
            rw [← HR.out, show 8 - k = (8 - (k + 1)) + 1 by omega]
            rfl
          have hd1 := r1_lt hd
          have k3 : (k : Int) < 8 := by omega
          clear k2
          by_cases hr1 : r = 1
          · subst hr1
            have e1 : r1 d = h1 ^^^ 3988292384 := by unfold r1; rw [if_pos hr, hh]
            have k4 : bits .xor .u32 (h1 : Int) 3988292384 = (r1 d : Int) := by rw [e1]; exact xor_u32 (b := 3988292384) (by omega) (by decide)
            generalize r1 d = d2 at *
            clear e1 hr hh
            go_wp2
            go_roundw
            case rel => exact ⟨k + 1, d2, by omega, hd1, rfl, by go_num, HR2.out⟩
            case measure => simp [intOf]; omega
          · obtain rfl : r = 0 := by omega
            have e1 : r1 d = h1 := by unfold r1; rw [if_neg (by omega), hh]
            rw [e1] at HR2 hd1
            clear e1 hr hh hr1
            go_wp2
            go_roundw
            case rel => exact ⟨k + 1, h1, by omega, hd1, rfl, by go_num, HR2.out⟩
            case measure => simp [intOf]; omega
        · obtain rfl : k = 8 := by omega
          have hd2 : d = rN 8 c1 := HR.out
          have HD := Lib.hid hd2
          clear hd2
          go_wp2
          go_roundw
          case rel => exact ⟨i + 1, by omega, by rw [HS2.out, HD.out], by go_num⟩
          case measure => simp [intOf]; omega
    · obtain rfl : i = n := by omega
      have ht : bs.take i = bs := List.take_of_length_le (by rw [← HN.out]; exact Nat.le_refl _)
      have hc : crcF 4294967295 bs < 4294967296 := crcF_lt (by decide) HB.out.2.1
      have k9 : bits .xor .u32 IntKind.u32.max (crcF 4294967295 bs : Int) = (crc bs : Int) := by
        have := xor_u32 (a := 4294967295) (by decide) hc
        rw [show IntKind.u32.max = ((4294967295 : Nat) : Int) from rfl, this]
        unfold crc
        rw [Nat.xor_comm]
      have HC := Lib.hid k9
      rw [ht]
      clear ht k9
      have sg : ¬ IntKind.u32.signed = true := by decide
      go_wp2
      go_ret
      exact ⟨by rw [← HC.out]; rfl, rfl⟩
end Go.Proofs.YtkjllhphpkmaiaaDoor
