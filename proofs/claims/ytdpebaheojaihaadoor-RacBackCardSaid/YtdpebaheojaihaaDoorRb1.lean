/- An encoder's bytes as one number; what it narrows to, a decoder finds: plain. -/
import Derived.Test.YtdpebaheojaihaaDoorRz
import Derived.Test.YtdpebaheojaihaaDoorRs
namespace Go.Proofs.YtdpebaheojaihaaDoor
set_option linter.unusedVariables false
set_option linter.unusedSimpArgs false
open Go.RowKit Go.Extern.Stop Go.Stop Go.Extern

def nu (l : List Nat) : Nat := l.foldl (fun v x => v * 256 + x) 0
theorem nu_fold (l : List Nat) (v : Nat) : l.foldl (fun v x => v * 256 + x) v = v * 256 ^ l.length + nu l := by
  induction l generalizing v with
  | nil => show v = v * 1 + 0; omega
  | cons x t ih =>
    show t.foldl _ (v * 256 + x) = v * 256 ^ (t.length + 1) + t.foldl _ (0 * 256 + x)
    rw [ih (v * 256 + x), ih (0 * 256 + x), Nat.pow_succ, Nat.add_mul, Nat.zero_mul, Nat.zero_add, Nat.mul_assoc v, Nat.mul_comm 256, Nat.add_assoc]
theorem nu_app (a b : List Nat) : nu (a ++ b) = nu a * 256 ^ b.length + nu b := by
  unfold nu
  rw [List.foldl_append, nu_fold]
  rfl
theorem nu_zero (k : Nat) : nu (List.replicate k 0) = 0 := by
  induction k with
  | zero => rfl
  | succ k ih => rw [List.replicate_succ', nu_app, ih]; rfl
theorem nu_full (k : Nat) : nu (List.replicate k 255) + 1 = 256 ^ k := by
  induction k with
  | zero => rfl
  | succ k ih =>
    rw [List.replicate_succ', nu_app, Nat.pow_succ, ← ih]
    show nu (List.replicate k 255) * 256 + 255 + 1 = _
    omega
/-- the bytes above the low, as a number; the number -/
def hiE (s : Ec) : Nat := nu (s.done ++ hdE s ++ List.replicate s.run 255)
def vE (s : Ec) : Nat := hiE s * 4294967296 + s.low
theorem nu_all (s : Ec) (h : s.low < 4294967296) : nu (allE s) = vE s := by
  unfold allE vE hiE
  rw [nu_app]
  show _ * 256 ^ 4 + ((((0 * 256 + s.low / 16777216 % 256) * 256 + s.low / 65536 % 256) * 256 + s.low / 256 % 256) * 256 + s.low % 256) = _ * 4294967296 + s.low
  have : (256 : Nat) ^ 4 = 4294967296 := by decide
  rw [this]
  omega
/-- what holds of an encoder's state -/
def hI (s : Ec) : Prop := (-1 ≤ s.held ∧ s.held ≤ 255) ∧ (s.held = -1 ∨ s.held = 255 → s.low + s.wid ≤ 4294967296) ∧ s.low < 4294967296 ∧ s.wid < 4294967296
theorem hi_form (D : List Nat) (hd : Int) (r l d : Nat) : hiE ⟨D, hd, r, l, d⟩ + 1 = (nu (D ++ hdE ⟨D, hd, r, l, d⟩) + 1) * 256 ^ r := by
  unfold hiE
  show nu (D ++ hdE ⟨D, hd, r, l, d⟩ ++ List.replicate r 255) + 1 = _
  rw [nu_app, List.length_replicate, Nat.add_mul, Nat.one_mul, ← nu_full r]
  omega
theorem hd_nu (D : List Nat) {hd : Int} (r l d : Nat) (h0 : 0 ≤ hd) (h1 : hd ≤ 255) : nu (D ++ hdE ⟨D, hd, r, l, d⟩) = nu D * 256 + hd.toNat := by
  have e : hdE ⟨D, hd, r, l, d⟩ = [hd.toNat] := by
    unfold hdE
    show (if 0 ≤ hd then [(hd % 256).toNat] else []) = _
    rw [if_pos h0]
    congr 1
    omega
  rw [e, nu_app]
  show nu D * 256 ^ 1 + (0 * 256 + hd.toNat) = _
  omega
theorem hi_car {D : List Nat} {hd : Int} {r : Nat} (l d : Nat) (h0 : 0 ≤ hd) (h1 : hd ≤ 254) : hiE (carE ⟨D, hd, r, l, d⟩) = hiE ⟨D, hd, r, l, d⟩ + 1 := by
  rw [hi_form, hd_nu D r l d h0 (by omega)]
  by_cases hr : r = 0
  · subst hr
    have e : carE ⟨D, hd, 0, l, d⟩ = ⟨D, hd + 1, 0, l, d⟩ := rfl
    rw [e]
    have := hi_form D (hd + 1) 0 l d
    rw [hd_nu D 0 l d (by omega) (by omega)] at this
    rw [Nat.pow_zero] at this ⊢
    omega
  · obtain ⟨q, rfl⟩ : ∃ q, r = q + 1 := ⟨r - 1, by omega⟩
    have e : carE ⟨D, hd, q + 1, l, d⟩ = ⟨D ++ (((hd + 1) % 256).toNat :: List.replicate q 0), 0, 0, l, d⟩ := by
      unfold carE
      rw [if_neg hr]
      rfl
    rw [e]
    have e2 : ((hd + 1) % 256).toNat = hd.toNat + 1 := by omega
    have := hi_form (D ++ (((hd + 1) % 256).toNat :: List.replicate q 0)) 0 0 l d
    rw [hd_nu _ 0 l d (by omega) (by omega), Nat.pow_zero, nu_app, e2] at this
    have e3 : nu ((hd.toNat + 1) :: List.replicate q 0) = (hd.toNat + 1) * 256 ^ q := by
      have := nu_app [hd.toNat + 1] (List.replicate q 0)
      rw [nu_zero, List.length_replicate] at this
      show nu ([hd.toNat + 1] ++ List.replicate q 0) = _
      rw [this]
      show (0 * 256 + (hd.toNat + 1)) * 256 ^ q + 0 = _
      rw [Nat.zero_mul, Nat.zero_add, Nat.add_zero]
    rw [e3, List.length_cons, List.length_replicate] at this
    rw [e2]
    have e4 : nu D * 256 ^ (q + 1) = nu D * 256 * 256 ^ q := by rw [Nat.pow_succ, Nat.mul_assoc, Nat.mul_comm 256]
    rw [e4, ← Nat.add_mul] at this
    rw [Nat.pow_succ, Nat.mul_comm (256 ^ q) 256, ← Nat.mul_assoc, ← Nat.add_assoc] at *
    have e5 : (nu D * 256 + hd.toNat + 1) * 256 * 256 ^ q = (nu D * 256 + hd.toNat + 1) * 256 ^ q * 256 := by rw [Nat.mul_assoc, Nat.mul_comm 256, ← Nat.mul_assoc]
    rw [e5]
    show hiE ⟨D ++ ((hd.toNat + 1) :: List.replicate q 0), 0, 0, l, d⟩ = _
    have e6 : (0 : Int).toNat = 0 := rfl
    omega
end Go.Proofs.YtdpebaheojaihaaDoor
