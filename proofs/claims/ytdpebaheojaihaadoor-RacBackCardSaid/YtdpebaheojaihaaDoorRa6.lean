/- (*rac.Encoder).Flat, Code: contracts over this seat's translation. -/
import Derived.Test.YtdpebaheojaihaaDoorRa5
namespace Go.Proofs.YtdpebaheojaihaaDoor
set_option linter.unusedVariables false
set_option linter.unusedSimpArgs false
open Go.RowKit Go.Extern.Stop Go.Stop Go.Extern

set_option maxRecDepth 20000 in
set_option maxHeartbeats 4000000 in
theorem enflat_any (b B N : Nat) (up : Bool) (s : Ec) (w : World) (h : EcAt w b B s) (hk : okE N s) (hN : N ≤ 900000) (hw : 16777216 ≤ s.wid) : Calls Tryd.prog 12 #[.pointer (some ⟨b, 0, none⟩), .bool up] w (EnPost w b B (parE s (s.wid / 2) up)) := by
  have UP := Lib.hid (part_any b B N (s.wid / 2) up s w h hk hN (by omega) (by omega))
  have HA := Lib.hid h
  obtain ⟨v, ⟨⟨c0, c1, c2, c3, c4⟩, f0, f1, f2, f3, f4⟩, -⟩ := h
  obtain ⟨R, hR⟩ : ∃ R, parE s (s.wid / 2) up = R := ⟨_, rfl⟩
  rw [hR] at UP ⊢
  obtain ⟨d, hd⟩ : ∃ d, s.wid = d := ⟨_, rfl⟩
  rw [hd] at c4 UP
  obtain ⟨q, hq⟩ : ∃ q, d / 2 = q := ⟨_, rfl⟩
  have s1 : Int.tdiv (d : Int) 2 = (q : Int) := by rw [← hq, show (2 : Int) = ((2 : Nat) : Int) from rfl, Int.ofNat_tdiv]
  have s2 : IntKind.u64.wrap (q : Int) = (q : Int) := by rw [IntKind.wrap_u64]; have := hk.2.2.2.1; omega
  rw [hq] at UP
  clear hR hd hq hk hw c0 c1 c2 c3
  go_enter Tryd.func12, Tryd.ntmps12
  go_wp2_with fail
  refine (UP.out).mono ?_; rintro e w7 ⟨rfl, hA7, hW7⟩
  go_wp2
  go_end0
  exact ⟨rfl, hA7, hW7⟩
/-- what coding a bit says, and leaves -/
def chance (p : Int) : Bool := decide (1 ≤ p) && decide (p < 2048)
def codE (s : Ec) (p : Int) (up : Bool) : Ec := if chance p then parE s (s.wid / 2048 * p.toNat) up else s
def EcPost (w : World) (b B : Nat) (p : Int) (s : Ec) (e : Ending) (w' : World) : Prop := ∃ x, e = .returned x ∧ ErrIs w' (if chance p then none else some ([], 3)) x ∧ EcAt w' b B s ∧ WKp b B w w'
set_option maxRecDepth 20000 in
theorem ischance_any (p : Int) (w : World) : Calls Tryd.prog 38 #[.int .i64 p] w fun e w' => e = .returned (.bool (chance p)) ∧ w = w' := by
  by_cases h1 : 1 ≤ p
  · by_cases h2 : p < 2048
    · have HC : Hid (chance p = true) := by show _ = _; unfold chance; rw [decide_eq_true h1, decide_eq_true h2]; rfl
      have t2 : decide (p < 2048) = true := decide_eq_true h2
      go_enter Tryd.func38, Tryd.ntmps38
      go_wp2
      go_ret
      exact ⟨by rw [HC.out]; rfl, rfl⟩
    · have HC : Hid (chance p = false) := by show _ = _; unfold chance; rw [decide_eq_true h1, decide_eq_false h2]; rfl
      have t2 : decide (p < 2048) = false := decide_eq_false h2
      go_enter Tryd.func38, Tryd.ntmps38
      go_wp2
      go_ret
      exact ⟨by rw [HC.out]; rfl, rfl⟩
  · have HC : Hid (chance p = false) := by show _ = _; unfold chance; rw [decide_eq_false h1]; rfl
    go_enter Tryd.func38, Tryd.ntmps38
    go_wp2
    go_ret
    exact ⟨by rw [HC.out]; rfl, rfl⟩
set_option maxRecDepth 20000 in
set_option maxHeartbeats 4000000 in
theorem encode_any (b B N : Nat) (p : Int) (up : Bool) (s : Ec) (w : World) (h : EcAt w b B s) (hk : okE N s) (hN : N ≤ 900000) (hw : 16777216 ≤ s.wid) : Calls Tryd.prog 15 #[.pointer (some ⟨b, 0, none⟩), .int .i64 p, .bool up] w (EcPost w b B p (codE s p up)) := by
  by_cases hc : chance p = true
  · have HF : Hid ((if chance p then none else some ([], 3) : Fall) = none) := if_pos hc
    have HS : Hid (codE s p up = parE s (s.wid / 2048 * p.toNat) up) := if_pos hc
    have hc2 := hc
    unfold chance at hc2
    rw [Bool.and_eq_true, decide_eq_true_iff, decide_eq_true_iff] at hc2
    obtain ⟨n, rfl⟩ : ∃ n : Nat, p = (n : Int) := ⟨p.toNat, by omega⟩
    have hn : ((n : Int)).toNat = n := by omega
    rw [hn] at HS
    obtain ⟨d, hd⟩ : ∃ d, s.wid = d := ⟨_, rfl⟩
    obtain ⟨q, hq⟩ : ∃ q, d / 2048 = q := ⟨_, rfl⟩
    obtain ⟨W, hW⟩ : ∃ W, q * n = W := ⟨_, rfl⟩
    have hd4 : d < 4294967296 := by rw [← hd]; exact hk.2.2.2.1
    have h1 : q * n ≤ q * 2047 := Nat.mul_le_mul_left q (by omega)
    have h2 : q * 1 ≤ q * n := Nat.mul_le_mul_left q (by omega)
    have UP := Lib.hid (part_any b B N W up s w h hk hN (by omega) (by omega))
    rw [hd, hq, hW] at HS
    rw [← HS.out] at UP
    have s1 : Int.tdiv (d : Int) 2048 = (q : Int) := by rw [← hq, show (2048 : Int) = ((2048 : Nat) : Int) from rfl, Int.ofNat_tdiv]
    have s2 : IntKind.u64.wrap (q : Int) = (q : Int) := by rw [IntKind.wrap_u64]; omega
    have s3 : IntKind.u64.wrap (n : Int) = (n : Int) := by rw [IntKind.wrap_u64]; omega
    have s4 : IntKind.u64.wrap ((q : Int) * (n : Int)) = (W : Int) := by rw [← Int.natCast_mul, hW, IntKind.wrap_u64]; omega
    obtain ⟨v, ⟨⟨c0, c1, c2, c3, c4⟩, f0, f1, f2, f3, f4⟩, -⟩ := h
    rw [hd] at c4
    have HCH := Lib.hid hc
    obtain ⟨R, hR⟩ : ∃ R, codE s (n : Int) up = R := ⟨_, rfl⟩
    rw [hR] at UP ⊢
    clear hR HS hn hc2 hd hq hW hk hw h1 h2 c0 c1 c2 c3 hc
    go_enter Tryd.func15, Tryd.ntmps15
    go_wp2_with fail
    refine (ischance_any _ _).mono ?_; rintro e w1 ⟨rfl, rfl⟩
    rw [HCH.out]
    go_wp2_with fail
    refine (UP.out).mono ?_; rintro e w7 ⟨rfl, hA7, hW7⟩
    go_wp2
    go_ret
    exact ⟨_, rfl, by rw [HF.out]; rfl, hA7, hW7⟩
  · have hc : chance p = false := by simpa using hc
    have HF : Hid ((if chance p then none else some ([], 3) : Fall) = some ([], 3)) := by show _ = _; rw [hc]; rfl
    have HS : Hid (codE s p up = s) := by show (if chance p then _ else _) = _; rw [hc]; rfl
    have HA := Lib.hid h
    have HCH := Lib.hid hc
    clear h hk hw hc
    go_enter Tryd.func15, Tryd.ntmps15
    go_wp2_with fail
    refine (ischance_any _ _).mono ?_; rintro e w1 ⟨rfl, rfl⟩
    rw [HCH.out]
    go_wp2
    go_ret
    exact ⟨_, rfl, by rw [HF.out]; exact ErrIs.code (by decide), by rw [HS.out]; exact HA.out, WKp.refl _ _ _⟩
end Go.Proofs.YtdpebaheojaihaaDoor
