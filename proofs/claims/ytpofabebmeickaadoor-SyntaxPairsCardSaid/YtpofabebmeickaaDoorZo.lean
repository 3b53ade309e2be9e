/- Contracts of this seat: Usm, Umk, Syp, Law, Lw4. -/
import Derived.Test.YtpofabebmeickaaDoorZk
import Derived.Test.YtpofabebmeickaaDoorZb
import Derived.Test.YtpofabebmeickaaDoorZl
import Derived.Test.YtpofabebmeickaaDoorCards
import Derived.Test.YtpofabebmeickaaDoorTie
import Derived.Test.YtpofabebmeickaaDoorZa
import Derived.ProofKit
import Derived.OpenShut
import Derived.LaidHandle
import Derived.Deep.DeepHandedRow
import Derived.WideKeyArgs
/- unit.Sum, kinref4.Sum: contracts over this seat's translation. -/
namespace Go.Proofs.YtpofabebmeickaaDoor
set_option linter.unusedVariables false
set_option linter.unusedSimpArgs false
open Go.RowKit Go.Extern.Stop Go.Stop Go.Extern

theorem ofInt32_nat (n : Nat) : BitVec.ofInt 32 (n : Int) = BitVec.ofNat 32 n := by
  apply BitVec.eq_of_toNat_eq
  simp [BitVec.toNat_ofNat]
theorem xor_u32 {a b : Nat} (ha : a < 4294967296) (hb : b < 4294967296) : bits .xor .u32 (a : Int) (b : Int) = ((a ^^^ b : Nat) : Int) := by
  have h := Nat.xor_lt_two_pow (n := 32) ha hb
  have e : (BitVec.ofInt 32 (a : Int) ^^^ BitVec.ofInt 32 (b : Int)).toNat = a ^^^ b := by
    rw [ofInt32_nat, ofInt32_nat, BitVec.toNat_xor, BitVec.toNat_ofNat, BitVec.toNat_ofNat, Nat.mod_eq_of_lt ha, Nat.mod_eq_of_lt hb]
  show IntKind.u32.wrap (((BitVec.ofInt 32 (a : Int) ^^^ BitVec.ofInt 32 (b : Int)).toNat : Nat) : Int) = _
  rw [e, IntKind.wrap_u32]
  omega
theorem and_u32 {a t : Nat} (ha : a < 4294967296) (ht : t ≤ 31) : bits .and .u32 (a : Int) ((2 ^ t - 1 : Nat) : Int) = ((a % 2 ^ t : Nat) : Int) := by
  have h2 : 2 ^ t ≤ 2 ^ 31 := Nat.pow_le_pow_right (by decide) ht
  have hm : a % 2 ^ t < 2 ^ t := Nat.mod_lt _ (Nat.two_pow_pos t)
  have e : (BitVec.ofInt 32 (a : Int) &&& BitVec.ofInt 32 ((2 ^ t - 1 : Nat) : Int)).toNat = a % 2 ^ t := by
    rw [ofInt32_nat, ofInt32_nat, BitVec.toNat_and, BitVec.toNat_ofNat, BitVec.toNat_ofNat, Nat.mod_eq_of_lt ha, Nat.mod_eq_of_lt (by omega), Nat.and_two_pow_sub_one_eq_mod]
  show IntKind.u32.wrap (((BitVec.ofInt 32 (a : Int) &&& BitVec.ofInt 32 ((2 ^ t - 1 : Nat) : Int)).toNat : Nat) : Int) = _
  rw [e, IntKind.wrap_u32]
  omega
/-- the table -/
def NbIs (w : World) : Prop := ∀ r, r < 16 → w.cell? ⟨0, r, none⟩ = some (.int .u32 (nib r : Int))
theorem NbIs.ext {w w' : World} (h : NbIs w) (k : Ext w w') : NbIs w' := fun r hr => k.cell (h r hr)
theorem crcF_take {bs : List Nat} {i x : Nat} (h : bs[i]? = some x) (c : Nat) : crcF c (bs.take (i + 1)) = stpC (crcF c (bs.take i)) x := by
  rw [List.take_add_one, h, crcF_app]
  rfl
theorem u32_not {c : Nat} (h : c < 4294967296) : c ^^^ 4294967295 = 4294967295 - c := by
  have e : (BitVec.ofNat 32 c ^^^ BitVec.allOnes 32).toNat = 2 ^ 32 - 1 - c := by
    rw [BitVec.xor_allOnes, BitVec.toNat_not, BitVec.toNat_ofNat, Nat.mod_eq_of_lt h]
  rw [BitVec.toNat_xor, BitVec.toNat_ofNat, Nat.mod_eq_of_lt h] at e
  simpa using e
set_option maxHeartbeats 4000000 in
set_option maxRecDepth 20000 in
theorem sum_any (bs : List Nat) (v : Value) (w : World) (hn : NbIs w) (h : Bys w v bs) : Calls Tryd.prog 30 #[v] w fun e w' => e = .returned (.int .u32 (crc bs : Int)) ∧ w = w' := by
  obtain ⟨a, cap, rfl⟩ := h.form
  obtain ⟨n, hn'⟩ : ∃ n, n = bs.length := ⟨_, rfl⟩
  have hl := h.2.2
  rw [← hn'] at h hl ⊢
  have HN := Lib.hid hn'
  have HB := Lib.hid h
  have HNB := Lib.hid hn
  clear hn' h hn
  go_enter Tryd.func30, Tryd.ntmps30
  go_wp2_with fail
  go_loop [3, 8] (fun sv iv => ∃ i : Nat, i ≤ n ∧ sv = .int .u32 (crcF 4294967295 (bs.take i) : Int) ∧ iv = .int .i64 (i : Int)) (fun _ iv => n - (intOf iv).toNat)
  case atStart => exact ⟨0, Nat.zero_le _, rfl, rfl⟩
  case round =>
    obtain ⟨i, hi, rfl, rfl⟩ := hrel
    by_cases hlt : i < n
    · obtain ⟨g, off, rfl⟩ := HB.out.had (by omega)
      have hx := nget_of_lt (bs := bs) (j := i) (by rw [← HN.out]; exact hlt)
      have cx := HB.out.at hx
      have hxb := HB.out.lt i
      have HS := Lib.hid (crcF_take hx 4294967295)
      have hc : crcF 4294967295 (bs.take i) < 4294967296 := crcF_lt (by decide) (fun y hy => HB.out.2.1 y (List.mem_of_mem_take hy))
      obtain ⟨x, hxx⟩ : ∃ x, bs.getD i 0 = x := ⟨_, rfl⟩
      obtain ⟨c, hcc⟩ : ∃ c, crcF 4294967295 (bs.take i) = c := ⟨_, rfl⟩
      rw [hxx] at cx hxb HS
      rw [hcc] at hc HS ⊢
      rw [stpC_nib] at HS
      have hc1 : c ^^^ x < 4294967296 := Nat.xor_lt_two_pow (n := 32) hc (by omega)
      have k1 := xor_u32 hc (show x < 4294967296 by omega)
      obtain ⟨c1, e1⟩ : ∃ c1, c ^^^ x = c1 := ⟨_, rfl⟩
      rw [e1] at HS k1 hc1
      have k2 : bits .and .u32 (c1 : Int) 15 = ((c1 % 2 ^ 4 : Nat) : Int) := and_u32 hc1 (t := 4) (by decide)
      obtain ⟨l1, e2⟩ : ∃ l1, c1 % 16 = l1 := ⟨_, rfl⟩
      have e2' : c1 % 2 ^ 4 = l1 := e2
      rw [e2'] at k2
      obtain ⟨h1, e3⟩ : ∃ h1, c1 / 16 = h1 := ⟨_, rfl⟩
      have t1 := HNB.out l1 (by omega)
      have hn1 := nib_lt (r := l1) (by omega)
      rw [e2, e3] at HS
      obtain ⟨n1, e4⟩ : ∃ n1, nib l1 = n1 := ⟨_, rfl⟩
      rw [e4] at HS t1 hn1
      have k3 := xor_u32 (show h1 < 4294967296 by omega) hn1
      have hc2 : h1 ^^^ n1 < 4294967296 := Nat.xor_lt_two_pow (n := 32) (by omega) hn1
      obtain ⟨c2, e5⟩ : ∃ c2, h1 ^^^ n1 = c2 := ⟨_, rfl⟩
      rw [e5] at HS k3 hc2
      have k4 : bits .and .u32 (c2 : Int) 15 = ((c2 % 2 ^ 4 : Nat) : Int) := and_u32 hc2 (t := 4) (by decide)
      obtain ⟨l2, e6⟩ : ∃ l2, c2 % 16 = l2 := ⟨_, rfl⟩
      have e6' : c2 % 2 ^ 4 = l2 := e6
      rw [e6'] at k4
      obtain ⟨h2, e7⟩ : ∃ h2, c2 / 16 = h2 := ⟨_, rfl⟩
      have t2 := HNB.out l2 (by omega)
      have hn2 := nib_lt (r := l2) (by omega)
      rw [e6, e7] at HS
      obtain ⟨n2, e8⟩ : ∃ n2, nib l2 = n2 := ⟨_, rfl⟩
      rw [e8] at HS t2 hn2
      have k5 := xor_u32 (show h2 < 4294967296 by omega) hn2
      obtain ⟨c3, e9⟩ : ∃ c3, h2 ^^^ n2 = c3 := ⟨_, rfl⟩
      rw [e9] at HS k5
      have m1 : (c1 : Int) / 16 = (h1 : Int) := by omega
      have m2 : (c2 : Int) / 16 = (h2 : Int) := by omega
      have m3 : IntKind.u32.wrap (x : Int) = (x : Int) := by rw [IntKind.wrap_u32]; omega
      have m4 : IntKind.u32.wrap (h1 : Int) = (h1 : Int) := by rw [IntKind.wrap_u32]; omega
      have m5 : IntKind.u32.wrap (h2 : Int) = (h2 : Int) := by rw [IntKind.wrap_u32]; omega
      have x1 : (0 : Int) ≤ (i : Int) := by omega
      have x2 : (i : Int) < (n : Int) := by omega
      have y1 : (0 : Int) ≤ (l1 : Int) := by omega
      have y2 : (l1 : Int) < 16 := by omega
      have y3 : (0 : Int) ≤ (l2 : Int) := by omega
      have y4 : (l2 : Int) < 16 := by omega
      clear hx hxx hcc e1 e2 e2' e3 e4 e5 e6 e6' e7 e8 e9
      go_wp2
      go_roundw
      case rel => exact ⟨i + 1, by omega, by rw [HS.out], by go_num⟩
      case measure => simp [intOf]; omega
    · obtain rfl : i = n := by omega
      have ht : bs.take i = bs := List.take_of_length_le (by rw [← HN.out]; exact Nat.le_refl _)
      have hc : crcF 4294967295 bs < 4294967296 := crcF_lt (by decide) HB.out.2.1
      have k9 : bits .xor .u32 IntKind.u32.max (crcF 4294967295 bs : Int) = (crc bs : Int) := by
        have := xor_u32 (a := 4294967295) (by decide) hc
        rw [show IntKind.u32.max = ((4294967295 : Nat) : Int) from rfl, this]
        unfold crc
        rw [Nat.xor_comm]
      have HC := Lib.hid k9
      rw [ht]
      clear ht k9
      have sg : ¬ IntKind.u32.signed = true := by decide
      go_wp2
      go_ret
      exact ⟨by rw [← HC.out]; rfl, rfl⟩
end Go.Proofs.YtpofabebmeickaaDoor

/- unit.Make: its contract over this seat's translation. -/
namespace Go.Proofs.YtpofabebmeickaaDoor
set_option linter.unusedVariables false
set_option linter.unusedSimpArgs false
open Go.RowKit Go.Extern.Stop Go.Stop Go.Extern

/-- why no unit is made; its head; its bytes -/
def ukF (kind : Int) (n : Nat) : Fall := if kind < 0 ∨ 255 < kind ∨ (kind = 0 ∧ 0 < n) then some ([], 13) else if 65536 < n then some ([], 5) else none
def hdB (kind : Nat) (data : List Nat) : List Nat := kind :: (be3 data.length ++ data)
def encB (kind : Nat) (data : List Nat) : List Nat := if kind = 0 then [0] else hdB kind data ++ be4 (crc (hdB kind data))
def ukV (kind : Int) (data : List Nat) : List Nat := match ukF kind data.length with
  | none => encB kind.toNat data
  | some _ => []
theorem hdB_len (kind : Nat) (data : List Nat) : (hdB kind data).length = data.length + 4 := by unfold hdB be3; simp
theorem hdB_lt {kind : Nat} {data : List Nat} (hk : kind < 256) (hd : ∀ x ∈ data, x < 256) (hl : data.length ≤ 65536) : ∀ x ∈ hdB kind data, x < 256 := by
  intro x hx
  unfold hdB at hx
  rcases List.mem_cons.1 hx with rfl | hx
  · exact hk
  · rcases List.mem_append.1 hx with hx | hx
    · exact be3_lt (by omega) x hx
    · exact hd x hx
theorem encB_lt {kind : Nat} {data : List Nat} (hk : kind < 256) (hd : ∀ x ∈ data, x < 256) (hl : data.length ≤ 65536) : ∀ x ∈ encB kind data, x < 256 := by
  intro x hx
  unfold encB at hx
  split at hx
  · simp at hx; omega
  · rcases List.mem_append.1 hx with hx | hx
    · exact hdB_lt hk hd hl x hx
    · exact be4_lt (crc_lt (hdB_lt hk hd hl)) x hx
theorem encB_len {kind : Nat} {data : List Nat} : (encB kind data).length = if kind = 0 then 1 else data.length + 8 := by
  unfold encB
  split
  · rfl
  · rw [List.length_append, hdB_len]; rfl
/-- bytes of the call's own and an error -/
def MPost (w : World) (bs : List Nat) (f : Fall) (e : Ending) (w' : World) : Prop := ∃ u x, e = .returned (.tuple #[u, x]) ∧ w'.ownsRow w.heap.size 5 1 u bs.length (byC bs) ∧ ErrIs w' f x ∧ Ext w w'
set_option maxHeartbeats 8000000 in
set_option maxRecDepth 20000 in
theorem make_any (kind : Int) (data : List Nat) (v : Value) (w : World) (hn : NbIs w) (h : Bys w v data) (hp : Plain v) : Calls Tryd.prog 16 #[.int .i64 kind, v] w (MPost w (ukV kind data) (ukF kind data.length)) := by
  obtain ⟨a, cap, rfl⟩ := h.form
  have HB := Lib.hid h
  have hl := h.2.2
  have HD := Lib.hid h.2.1
  obtain ⟨n, hn'⟩ : ∃ n, data.length = n := ⟨_, rfl⟩
  have HN := Lib.hid hn'
  have HB2 : Hid (Bys w (.slice a n cap) data) := by show Bys _ _ _; rw [← hn']; exact h
  have HP : Hid (Plain (.slice a n cap)) := by show Plain _; rw [← hn']; exact hp
  rw [hn'] at hl ⊢
  clear h hn' hp
  by_cases h1 : kind < 0
  · have HF : Hid (ukF kind n = some ([], 13)) := by show _ = _; unfold ukF; rw [if_pos (.inl h1)]
    have HV : Hid (ukV kind data = []) := by show _ = _; unfold ukV; rw [HN.out, HF.out]
    go_enter Tryd.func16, Tryd.ntmps16
    go_wp2
    go_ret2
    exact ⟨_, _, rfl, by rw [HV.out]; exact World.ownsRow_nil _ _ _ _, by rw [HF.out]; exact ErrIs.code (by decide), Ext.refl _⟩
  · by_cases h2 : 255 < kind
    · have HF : Hid (ukF kind n = some ([], 13)) := by show _ = _; unfold ukF; rw [if_pos (.inr (.inl h2))]
      have HV : Hid (ukV kind data = []) := by show _ = _; unfold ukV; rw [HN.out, HF.out]
      go_enter Tryd.func16, Tryd.ntmps16
      go_wp2
      go_ret2
      exact ⟨_, _, rfl, by rw [HV.out]; exact World.ownsRow_nil _ _ _ _, by rw [HF.out]; exact ErrIs.code (by decide), Ext.refl _⟩
    · by_cases h0 : kind = 0
      · subst h0
        by_cases h3 : 0 < n
        · have HF : Hid (ukF 0 n = some ([], 13)) := by show _ = _; unfold ukF; rw [if_pos (.inr (.inr ⟨rfl, h3⟩))]
          have h3' : (0 : Int) < (n : Int) := by omega
          have HV : Hid (ukV 0 data = []) := by show _ = _; unfold ukV; rw [HN.out, HF.out]
          go_enter Tryd.func16, Tryd.ntmps16
          go_wp2
          go_ret2
          exact ⟨_, _, rfl, by rw [HV.out]; exact World.ownsRow_nil _ _ _ _, by rw [HF.out]; exact ErrIs.code (by decide), Ext.refl _⟩
        · obtain rfl : n = 0 := by omega
          have HF : Hid (ukF 0 0 = none) := by show _ = _; decide
          have HV : Hid (ukV 0 data = [0]) := by show _ = _; unfold ukV; rw [HN.out, HF.out]; rfl
          have HO : Hid ((w.alloc (.cells #[.int .u8 0] 5)).ownsRow w.heap.size 5 1 (.slice (some ⟨w.heap.size, 0, none⟩) 1 1) 1 (byC [0])) := ⟨rfl, .inr ⟨w.heap.size, 1, #[.int .u8 0], rfl, Nat.le_refl _, heap_alloc_new w _, Nat.le_refl _, by decide, rfl, rfl⟩⟩
          go_enter Tryd.func16, Tryd.ntmps16
          go_wp2
          go_ret2
          exact ⟨_, _, rfl, by rw [HV.out]; exact HO.out, by rw [HF.out]; rfl, (Ext.refl w).alloc _⟩
      · obtain ⟨k, rfl⟩ : ∃ k : Nat, kind = (k : Int) := ⟨kind.toNat, by omega⟩
        have k0 : ((k : Int) == 0) = false := by rw [beq_eq_false_iff_ne]; omega
        by_cases h4 : 65536 < n
        · have HF : Hid (ukF (k : Int) n = some ([], 5)) := by show _ = _; unfold ukF; rw [if_neg (by omega), if_pos h4]
          have h4' : (65536 : Int) < (n : Int) := by omega
          have HV : Hid (ukV (k : Int) data = []) := by show _ = _; unfold ukV; rw [HN.out, HF.out]
          go_enter Tryd.func16, Tryd.ntmps16
          go_wp2
          go_ret2
          exact ⟨_, _, rfl, by rw [HV.out]; exact World.ownsRow_nil _ _ _ _, by rw [HF.out]; exact ErrIs.code (by decide), Ext.refl _⟩
        · have HF : Hid (ukF (k : Int) n = none) := by show _ = _; unfold ukF; rw [if_neg (by omega), if_neg h4]
          have HV : Hid (ukV (k : Int) data = hdB k data ++ be4 (crc (hdB k data))) := by show _ = _; unfold ukV; rw [HN.out, HF.out]; show encB _ _ = _; unfold encB; rw [if_neg (by omega)]; rfl
          obtain ⟨i0, hi, hz0, hz1, hz2⟩ := info_parts infoU8
          have hhl := hdB_lt (kind := k) (data := data) (by omega) HD.out (by rw [HN.out]; omega)
          have hs := crc_lt hhl
          have HHL := Lib.hid hhl
          have HH : Hid (hdB k data = [k, n / 65536, n / 256 % 256, n % 256] ++ data) := by show _ = _; unfold hdB be3; rw [HN.out]; rfl
          have HLN : Hid ((hdB k data).length = n + 4) := by show _ = _; rw [hdB_len, HN.out]
          obtain ⟨hd, hhd⟩ : ∃ hd, hdB k data = hd := ⟨_, rfl⟩
          rw [hhd] at HV HH HHL HLN hs
          obtain ⟨s, hss⟩ : ∃ s, crc hd = s := ⟨_, rfl⟩
          have HSS := Lib.hid hss
          rw [hss] at hs
          have HB4 : Hid (be4 s = [s / 16777216, s / 65536 % 256, s / 256 % 256, s % 256]) := rfl
          rw [hss] at HV
          obtain ⟨p1, e1⟩ : ∃ p1, n / 65536 = p1 := ⟨_, rfl⟩
          obtain ⟨q1, f1⟩ : ∃ q1, n / 256 = q1 := ⟨_, rfl⟩
          obtain ⟨p2, e2⟩ : ∃ p2, q1 % 256 = p2 := ⟨_, rfl⟩
          obtain ⟨p3, e3⟩ : ∃ p3, n % 256 = p3 := ⟨_, rfl⟩
          rw [e1, f1, e2, e3] at HH
          have m1 : (n : Int) / 65536 = (p1 : Int) := by omega
          have m2 : (n : Int) / 256 = (q1 : Int) := by omega
          have m3 : IntKind.u8.wrap (p1 : Int) = (p1 : Int) := by rw [IntKind.wrap_u8]; omega
          have m4 : IntKind.u8.wrap (q1 : Int) = (p2 : Int) := by rw [IntKind.wrap_u8]; omega
          have m5 : IntKind.u8.wrap (n : Int) = (p3 : Int) := by rw [IntKind.wrap_u8]; omega
          have m6 : IntKind.u8.wrap (k : Int) = (k : Int) := by rw [IntKind.wrap_u8]; omega
          have m7 : IntKind.i64.wrap (p1 : Int) = (p1 : Int) := by rw [IntKind.wrap_i64]; omega
          have m8 : IntKind.i64.wrap (q1 : Int) = (q1 : Int) := by rw [IntKind.wrap_i64]; omega
          obtain ⟨s1, g1⟩ : ∃ s1, s / 16777216 = s1 := ⟨_, rfl⟩
          obtain ⟨t2, g2⟩ : ∃ t2, s / 65536 = t2 := ⟨_, rfl⟩
          obtain ⟨s2, g3⟩ : ∃ s2, t2 % 256 = s2 := ⟨_, rfl⟩
          obtain ⟨t3, g4⟩ : ∃ t3, s / 256 = t3 := ⟨_, rfl⟩
          obtain ⟨s3, g5⟩ : ∃ s3, t3 % 256 = s3 := ⟨_, rfl⟩
          obtain ⟨s4, g6⟩ : ∃ s4, s % 256 = s4 := ⟨_, rfl⟩
          rw [g1, g2, g3, g4, g5, g6] at HB4
          have o1 : (s : Int) / 16777216 = (s1 : Int) := by omega
          have o2 : (s : Int) / 65536 = (t2 : Int) := by omega
          have o3 : (s : Int) / 256 = (t3 : Int) := by omega
          have o4 : IntKind.u8.wrap (s1 : Int) = (s1 : Int) := by rw [IntKind.wrap_u8]; omega
          have o5 : IntKind.u8.wrap (t2 : Int) = (s2 : Int) := by rw [IntKind.wrap_u8]; omega
          have o6 : IntKind.u8.wrap (t3 : Int) = (s3 : Int) := by rw [IntKind.wrap_u8]; omega
          have o7 : IntKind.u8.wrap (s : Int) = (s4 : Int) := by rw [IntKind.wrap_u8]; omega
          have o8 : IntKind.u32.wrap (s1 : Int) = (s1 : Int) := by rw [IntKind.wrap_u32]; omega
          have o9 : IntKind.u32.wrap (t2 : Int) = (t2 : Int) := by rw [IntKind.wrap_u32]; omega
          have oA : IntKind.u32.wrap (t3 : Int) = (t3 : Int) := by rw [IntKind.wrap_u32]; omega
          have n4 : ¬ (65536 : Int) < (n : Int) := by omega
          have SZ := Lib.hid (fun w => size_any (n : Int) w (by omega))
          have HNB := Lib.hid hn
          clear hhl hhd hss e1 f1 e2 e3 g1 g2 g3 g4 g5 g6 hn
          have hn8 : ((n : Int) + 8) = ((n + 8 : Nat) : Int) := by omega
          rw [hn8] at SZ
          obtain ⟨n8, e8⟩ : ∃ n8, n + 8 = n8 := ⟨_, rfl⟩
          rw [e8] at SZ
          have hn8b : n8 ≤ 65544 := by omega
          clear hn8 e8
          go_enter Tryd.func16, Tryd.ntmps16
          go_wp2_with (first
            | (go_at_call 29; refine (SZ.out _).mono ?_; rintro e w1 ⟨rfl, rfl⟩)
            | (go_at_call 30; refine (sum_any hd _ _ (HNB.out.ext HE6.out) HY6.out).mono ?_; rintro e w9 ⟨rfl, rfl⟩; rw [HSS.out])
            | (at_make; refine wpList_make_own _ rfl _ _ 22 rfl w.heap.size 5 i0 (.int .u8 0) 1 Tryd.underlying22 hi hz0 hz1 .i64 .i64 _ n8 rfl rfl rfl (by rw [hz2]; omega) (by unfold maxLen; omega) (Nat.le_refl _) ?_; intro w4 h1 h2; have HO4 := Lib.hid h1; have HE4 := Lib.hid (Below.grown (Ext.refl w) h2 (Nat.le_refl _) (fun k hk => by cases hk)); have hs4 := h2.size; clear h1 h2)
            | (at_builtin; refine app_new rfl _ _ 22 rfl Tryd.underlying22 _ 0 [] [k, p1, p2, p3] rfl HO4.out (by show Value.slice (some ⟨w4.heap.size, 0, none⟩) 4 4 = _; simp) (by simp) hs4 (by simp) ?_; intro g5 cap5 w5 h1 h2; have HO5 := Lib.hid h1; have HE5 := Lib.hid (own_grow HO4.out h2 HE4.out (Nat.le_refl _)); have hs5 := Nat.le_trans hs4 h2.size; clear h1 h2)
            | (at_builtin; refine app_bys rfl _ _ 22 rfl Tryd.underlying22 _ 4 [k, p1, p2, p3] data _ rfl HO5.out rfl (HB2.out.ext HE5.out) HP.out hs5 (by decide) (by rw [HN.out]; omega) ?_; rw [HN.out]; intro g6 cap6 w6 h1 h2; have HO6 : Hid (w6.ownsRow w.heap.size 5 1 (.slice (some ⟨g6, 0, none⟩) (4 + n) cap6) (4 + n) (byC hd)) := (by show World.ownsRow _ _ _ _ _ _ _; rw [HH.out]; exact h1); have HE6 := Lib.hid (own_grow HO5.out h2 HE5.out (Nat.le_refl _)); have hs6 := Nat.le_trans hs5 h2.size; have HY6 : Hid (Bys w6 (.slice (some ⟨g6, 0, none⟩) (4 + n) cap6) hd) := Bys.of_owns HO6.out HHL.out (by rw [HLN.out]; omega); clear h1 h2)
            | (at_builtin; refine app_new rfl _ _ 22 rfl Tryd.underlying22 _ (4 + n) hd [s1, s2, s3, s4] rfl HO6.out (by show Value.slice (some ⟨w6.heap.size, 0, none⟩) 4 4 = _; simp) (by simp) hs6 (by simp; omega) ?_; intro g7 cap7 w7 h1 h2; have HO7 := Lib.hid h1; have HE7 := Lib.hid (own_grow HO6.out h2 HE6.out (Nat.le_refl _)); clear h1 h2))
          go_ret2
          refine ⟨_, _, rfl, ?_, by rw [HF.out]; rfl, HE7.out⟩
          have h7 := HO7.out
          rw [HV.out, HB4.out]
          have e7 : (hd ++ [s1, s2, s3, s4]).length = 4 + n + 4 := by rw [List.length_append, HLN.out]; simp; omega
          rw [e7]
          exact h7
end Go.Proofs.YtpofabebmeickaaDoor

/- Plain: heads and coded frames, there and back. -/
namespace Go.Proofs.YtpofabebmeickaaDoor
set_option linter.unusedVariables false
set_option linter.unusedSimpArgs false

theorem pkC_ok {k q : Int} {n : Nat} (h : pkC k q n = 0) : 1 ≤ k ∧ k ≤ 4 ∧ 0 ≤ q ∧ q ≤ 15 ∧ n < 65536 ∧ (2 < k → q = 0 ∧ n = 0) := by
  unfold pkC at h
  split at h
  · cases h
  · split at h
    · cases h
    · split at h
      · cases h
      · split at h
        · cases h
        · rename_i h1 h2 h3 h4
          refine ⟨by omega, by omega, by omega, by omega, by omega, fun h5 => ?_⟩
          exact ⟨Classical.byContradiction fun e => h3 ⟨h5, .inl e⟩, Classical.byContradiction fun e => h3 ⟨h5, .inr (by omega)⟩⟩
theorem rdC_ok {k : Int} {bs : List Nat} (h : rdC k bs = 0) : 1 ≤ k ∧ k ≤ 4 ∧ ((2 < k ∧ bs = []) ∨ (k ≤ 2 ∧ ∃ b cs, bs = b :: cs ∧ b ≤ 15 ∧ cs.length < 65536)) := by
  unfold rdC at h
  split at h
  · cases h
  · split at h
    · split at h
      · cases h
      · rename_i h1 h2 h3
        exact ⟨by omega, by omega, .inl ⟨h2, List.eq_nil_of_length_eq_zero (by omega)⟩⟩
    · split at h
      · cases h
      · split at h
        · cases h
        · split at h
          · cases h
          · rename_i h1 h2 h3 h4 h5
            refine ⟨by omega, by omega, .inr ⟨by omega, ?_⟩⟩
            cases bs with
            | nil => exact absurd rfl h3
            | cons b cs => exact ⟨b, cs, rfl, by simpa using h4, by simp at h5; omega⟩
/-- what Pack made Read tells -/
theorem rd_pk {k q : Int} {bs : List Nat} (h : pkC k q bs.length = 0) : rdC (pkV k q bs).1 (pkV k q bs).2 = 0 ∧ rdV (pkV k q bs).1 (pkV k q bs).2 = (k, q, bs) := by
  obtain ⟨h1, h2, h3, h4, h5, h6⟩ := pkC_ok h
  by_cases hk : 2 < k
  · obtain ⟨rfl, hn⟩ := h6 hk
    obtain rfl : bs = [] := List.eq_nil_of_length_eq_zero hn
    have e : pkV k 0 [] = (k, []) := by unfold pkV; rw [if_pos h, if_pos hk]
    rw [e]
    have hc : rdC k [] = 0 := by unfold rdC; rw [if_neg (by omega), if_pos hk, if_neg (by simp)]
    exact ⟨hc, by show rdV k [] = _; unfold rdV; rw [if_pos hc, if_pos hk]⟩
  · have e : pkV k q bs = (k, q.toNat :: bs) := by unfold pkV; rw [if_pos h, if_neg hk]
    rw [e]
    have hc : rdC k (q.toNat :: bs) = 0 := by unfold rdC; rw [if_neg (by omega), if_neg hk, if_neg (by simp), if_neg (by simp; omega), if_neg (by simp; omega)]
    refine ⟨hc, ?_⟩
    show rdV k (q.toNat :: bs) = _
    unfold rdV
    rw [if_pos hc, if_neg hk]
    simp
    omega
/-- what Read told Pack makes -/
theorem pk_rd {k : Int} {cs : List Nat} (h : rdC k cs = 0) : pkC (rdV k cs).1 (rdV k cs).2.1 (rdV k cs).2.2.length = 0 ∧ pkV (rdV k cs).1 (rdV k cs).2.1 (rdV k cs).2.2 = (k, cs) := by
  obtain ⟨h1, h2, ⟨hk, rfl⟩ | ⟨hk, b, t, rfl, hb, ht⟩⟩ := rdC_ok h
  · have e : rdV k [] = (k, 0, []) := by unfold rdV; rw [if_pos h, if_pos hk]
    rw [e]
    have hc : pkC k 0 0 = 0 := by unfold pkC; rw [if_neg (by omega), if_neg (by omega), if_neg (by simp), if_neg (by omega)]
    exact ⟨hc, by show pkV k 0 [] = _; unfold pkV; rw [if_pos (show pkC k 0 ([] : List Nat).length = 0 from hc), if_pos hk]⟩
  · have e : rdV k (b :: t) = (k, (b : Int), t) := by unfold rdV; rw [if_pos h, if_neg (by omega)]; rfl
    rw [e]
    have hc : pkC k (b : Int) t.length = 0 := by unfold pkC; rw [if_neg (by omega), if_neg (by omega), if_neg (by omega), if_neg (by omega)]
    exact ⟨hc, by show pkV k (b : Int) t = _; unfold pkV; rw [if_pos hc, if_neg (by omega)]; simp⟩
end Go.Proofs.YtpofabebmeickaaDoor

/- What closes a law of this seat: from the walk (it returns true, and nothing that was there has changed) to the card. -/
namespace Go.Proofs.YtpofabebmeickaaDoor
set_option linter.unusedVariables false
set_option linter.unusedSimpArgs false
open Go.ChangeShapes Go.WideShapes Go.ChangeAt Go.RowKit

section
variable {H : Type} {enc : TypeId × Value → H} {P : Program}
theorem trodAll_stays (hl : laidOutB P = true) {W W' : World} (hb : Ext W W') {sp : Nat → Bool} :
    ∀ {ts : List TypeId} {vs : List Value} {ds : List (DataW H)} {ps : List MemPlace}, (∀ t ∈ ts, P.readableRec t = true ∧ t < P.types.size) → DataW.TrodAll enc P W 0 (fun _ => true) true ts vs ds ps →
      (∀ x ∈ ps, x.block < W.heap.size) → (∀ x ∈ ps, sp x.block = true) → DataW.TrodAll enc P W' 0 sp true ts vs ds ps
  | [], _, _, _, _, h, _, _ => by
    obtain ⟨rfl, rfl, rfl⟩ := trodAll_nil h
    exact rfl
  | t :: ts, _, _, _, hr, h, hlt, hsp => by
    obtain ⟨v, vs, d, ds, p, q, rfl, rfl, rfl, h1, h2⟩ := trodAll_cons h
    have h0 := hr t (by simp)
    exact ⟨p, q, WideElems.Trod_stays hl h0.1 h0.2 h1 (fun x hx => Below.same hb (hlt x (by simp [hx]))) (fun x hx => hsp x (by simp [hx])),
      trodAll_stays hl hb (fun t ht => hr t (by simp [ht])) h2 (fun x hx => hlt x (by simp [hx])) (fun x hx => hsp x (by simp [hx])), rfl⟩

theorem post_law {f : Func} {s : ChangeSpec} {handsOn again : Bool} {W W' : World} {args : Array Value} {ds gs : List (DataW H)} {before : List MemPlace} {tb : TypeId}
    (hl : laidOutB P = true) (hr0 : (f.params.toList.all fun t => P.readableRec t && decide (t < P.types.size)) = true)
    (hW : DataW.Whole enc P f.params.toList s.vars false W args.toList ds gs before) (hvars : s.vars = []) (hres : f.resultTypes = #[tb]) (htb : P.underlying tb = some .bool)
    (hfn : gs = [] → s.fn H (ds ++ gs) = { results := [.lit (.bool true)], args := ds }) (hb : Ext W W') :
    s.post enc P f false true handsOn again W args (.bool true) W' := by
  have hr : ∀ t ∈ f.params.toList, P.readableRec t = true ∧ t < P.types.size := fun t ht => by simpa using List.all_eq_true.1 hr0 t ht
  have hW' := hW
  obtain ⟨p, q, hA, hV, rfl, hfz, _⟩ := hW
  rw [hvars] at hV
  obtain ⟨rfl, rfl⟩ : gs = [] ∧ q = [] := by
    cases gs with
    | nil => exact ⟨rfl, hV⟩
    | cons g r => exact absurd hV (by intro h; cases h)
  have hlt : ∀ x ∈ p, x.block < W.heap.size := fun x hx => hW'.lt x (by simpa using hx)
  have e1 := hfn rfl
  have hargs : ∀ sp : Nat → Bool, (∀ x ∈ p, sp x.block = true) → DataW.TrodAll enc P W' 0 sp true f.params.toList args.toList ds p := fun sp hs => trodAll_stays hl hb hr hA hlt hs
  have hold : ∀ x ∈ p, (fun b => decide (b < W.heap.size)) x.block = true := fun x hx => by simpa using hlt x hx
  have hres' : ∀ (b : Nat) (sp : Nat → Bool) (hd : Bool), DataW.TrodAll enc P W' b sp hd f.resultTypes.toList ((Value.bool true).resultList f.resultTypes.size) [.lit (.bool true)] [] := fun b sp hd => by
    rw [hres]
    exact trodAll_cons_mk (shut_bool htb _) trodAll_mk0
  refine ⟨ds, [], p ++ [], [], p, [], hW', by rw [e1]; exact hres' _ _ _, by rw [e1]; exact hargs _ hold, by rw [e1, hvars]; exact rfl,
    World.keptBut_mono (fun x hx => ⟨hx, Or.inr (Or.inl (by simpa using hx))⟩) (Below.frame hb (· ∈ p ++ [])), fun _ => ⟨ok_one hres rfl (okWide_bool_mk htb true), _, [], ([] ++ p) ++ [], ⟨[] ++ p, [], trodAll_append (hargs _ (fun _ _ => rfl)) (hres' _ _ _), by rw [hvars]; exact rfl, rfl, ?_, fun h => by cases h⟩, ?_⟩⟩
  · intro b off hp
    have hin : MemPlace.cell b off ∈ p := by simpa using hp
    rw [Below.frozen hb (hlt _ hin)]
    exact hfz b off (by simpa using hin)
  · intro x hx _
    simpa using hx
end

theorem own : ownKnob Tryd.prog.godebug = none := by kernel_rfl
theorem laidOut' : laidOutB Tryd.prog = true := by kernel_rfl
theorem gEt : Tryd.prog.globalNamed "errors.errorType" = some 1 := by kernel_rfl
theorem rtNum : (Tryd.prog.cutTypes.find? (·.1 == "internal/reflectlite.rtype")).map (·.2) = some 143 := by kernel_rfl
theorem typesSize : Tryd.prog.types.size = 193 := by kernel_rfl
theorem oneRow : ((List.range 193).filter fun t => Tryd.prog.rowNamed t [101, 114, 114, 111, 114]) = [30] := by kernel_rfl

/-- what a row that lists errors.errorType gives -/
theorem et_of_handles {hs : List (String × DataW Unit)} {W : World} (hm : ("errors.errorType", Rows.laid_errors_errorType) ∈ hs) (h : handlesMet Tryd.prog hs W) : EtIs W := by
  obtain ⟨name, u, ty, e1, e2, e3, e4, e5⟩ := h _ hm
  have en : name = [101, 114, 114, 111, 114] := (Option.some.inj e1).symm
  subst en
  obtain rfl := Option.some.inj (rtNum.symm.trans e2)
  have hm : ty ∈ (List.range 193).filter fun t => Tryd.prog.rowNamed t [101, 114, 114, 111, 114] := List.mem_filter.2 ⟨List.mem_range.2 (by rw [← typesSize]; exact e3), e4⟩
  rw [oneRow] at hm
  obtain rfl := List.mem_singleton.1 hm
  have hh : typeHandle Tryd.prog 30 = .pointer (some ⟨2, 30, none⟩) := by kernel_rfl
  rw [hh] at e5
  have := World.var?_cell gEt e5 0
  simpa [EtIs] using this

theorem et_of_laid {W : World} (h : laidMetH Tryd.prog [("errors.errorType", Rows.laid_errors_errorType)] W) : EtIs W := by
  have h' : laidMet Tryd.prog [] W ∧ handlesMet Tryd.prog [("errors.errorType", Rows.laid_errors_errorType)] W := h
  exact et_of_handles (List.mem_singleton.2 rfl) h'.2

/-- a world that meets what the rows list -/
noncomputable def laidWorld (os : Os) : World :=
  let w0 := World.holding Tryd.prog os ⟨#[], #[], []⟩
  { w0 with heap := w0.heap.modify 1 fun
      | .cells _ t frozen => .cells #[.iface 143 (.agg #[.pointer (some ⟨2, 30, none⟩)])] t frozen
      | o => o }
theorem laidWorld_met (os : Os) (args : Array Value) : laidMetH Tryd.prog [("errors.errorType", Rows.laid_errors_errorType)] ((laidWorld os).forCall (fun _ _ => 0) ⟨#[], args, []⟩).memory :=
  laidMetH_of_parts (laidMet_nil _ _) (by kernel_rfl)
end Go.Proofs.YtpofabebmeickaaDoor

/- What the rows of layer 4 list: errors.errorType and the table of the sum. -/
namespace Go.Proofs.YtpofabebmeickaaDoor
set_option linter.unusedVariables false
set_option linter.unusedSimpArgs false
open Go.ChangeShapes Go.WideShapes Go.ChangeAt Go.RowKit

def nibZ : List Int := (List.range 16).map fun r => (nib r : Int)
theorem nib_laid : (Rows.laid_kinescope_unit_nibbles : DataW Unit) = .agg (nibZ.map fun n => .lit (.int .u32 n)) := by
  unfold nibZ
  rw [nib_tab]
  rfl
theorem nibZ_get {r : Nat} (h : r < 16) : nibZ[r]? = some (nib r : Int) := by
  unfold nibZ
  rw [List.getElem?_map, List.getElem?_range h]
  rfl
theorem nb_of_met {W : World} (h : laidMet Tryd.prog [("kinescope/unit.nibbles", Rows.laid_kinescope_unit_nibbles)] W) : NbIs W := by
  intro r hr
  obtain ⟨ps, ⟨g, t, cs, fuel, p, q, hg, ht, hv, hd, _, _⟩, _, _⟩ := h
  obtain rfl := Option.some.inj ((show Tryd.prog.globalNamed "kinescope/unit.nibbles" = some 0 by kernel_rfl).symm.trans hg)
  obtain rfl := Option.some.inj ((show (Tryd.prog.globals[0]?).map (·.type) = some 108 by kernel_rfl).symm.trans ht)
  obtain ⟨xs, m, _, ex, _, hl, hel⟩ := DataW.trod_array (show Tryd.prog.underlying 108 = some (.array 16 79) by kernel_rfl) hd
  have c5 : Tryd.prog.cellsOf 79 = 1 := by kernel_rfl
  have hE := hel r hr
  rw [c5, Nat.mul_one, List.getElem?_eq_getElem (by omega)] at hE
  obtain ⟨z, e1, e2, _⟩ := DataW.trod_int (show Tryd.prog.underlying 79 = some (.int .u32) by kernel_rfl) hE
  have e3 : (xs.map (·.1)) = nibZ.map fun n => (.lit (.int .u32 n) : DataW Unit) := by
    have := (Prod.mk.inj ex).1
    rw [nib_laid] at this
    exact (DataW.agg.inj this).symm
  have e4 : (xs.map (·.1))[r]? = (nibZ.map fun n => (DataW.lit (.int .u32 n) : DataW Unit))[r]? := by rw [e3]
  rw [List.getElem?_map, List.getElem?_map, List.getElem?_eq_getElem (by omega : r < xs.length), nibZ_get hr, e2] at e4
  have hz : z = (nib r : Int) := by
    simp only [Option.map_some, Option.some.injEq, DataW.lit.injEq, Lit.int.injEq, true_and] at e4
    exact e4
  rw [World.var?_cell hg hv r, ← hz]
  have : cs.toList[r]? = some (.int .u32 z) := by
    have h0 : ((cs.toList.drop r).take 1)[0]? = some (.int .u32 z) := by rw [e1]; rfl
    simpa using h0
  simpa using this
theorem facts_of_laid4 {W : World} (h : laidMetH Tryd.prog [("errors.errorType", Rows.laid_errors_errorType), ("kinescope/unit.nibbles", Rows.laid_kinescope_unit_nibbles)] W) : EtIs W ∧ NbIs W := by
  have h' : laidMet Tryd.prog [("kinescope/unit.nibbles", Rows.laid_kinescope_unit_nibbles)] W ∧ handlesMet Tryd.prog [("errors.errorType", Rows.laid_errors_errorType)] W := h
  exact ⟨et_of_handles (List.mem_singleton.2 rfl) h'.2, nb_of_met h'.1⟩
/-- a world that meets what the rows list -/
noncomputable def laidWorld4 (os : Os) : World :=
  let w0 := laidWorld os
  { w0 with heap := w0.heap.modify 0 fun
      | .cells _ t frozen => .cells #[.int .u32 0, .int .u32 498536548, .int .u32 997073096, .int .u32 651767980, .int .u32 1994146192, .int .u32 1802195444, .int .u32 1303535960, .int .u32 1342533948, .int .u32 3988292384, .int .u32 4027552580, .int .u32 3604390888, .int .u32 3412177804, .int .u32 2607071920, .int .u32 2262029012, .int .u32 2685067896, .int .u32 3183342108] t frozen
      | o => o }
theorem laidWorld4_met (os : Os) (args : Array Value) : laidMetH Tryd.prog [("errors.errorType", Rows.laid_errors_errorType), ("kinescope/unit.nibbles", Rows.laid_kinescope_unit_nibbles)] ((laidWorld4 os).forCall (fun _ _ => 0) ⟨#[], args, []⟩).memory :=
  laidMetH_of_parts (laidMet_of_run' 8 (by kernel_rfl) (by kernel_rfl)) (by kernel_rfl)
end Go.Proofs.YtpofabebmeickaaDoor
