/- coef.Code over a plain coder: the loop over the order. -/
import Derived.Test.YtdndambkaohgiaaGreatDoorCf5
namespace Go.Proofs.YtdndambkaohgiaaGreatDoor
set_option linter.unusedVariables false
set_option linter.unusedSimpArgs false
open Go.RowKit Go.Extern.Stop Go.Stop Go.Extern

def isLv (v : Int) : Bool := decide (-16320 ≤ v) && decide (v ≤ 16320)
section
variable {σ : Type}
/-- the levels at the places that are left: some i: the level at place i of the order is none -/
def cdM (M : Mc σ) (B : Nat) (xs : List Int) (fin : Nat) : List Nat → Nat → List Int → Ms σ → (Option Nat × List Int) × Ms σ
  | [], _, ys, s => ((none, ys), s)
  | k :: tl, i, ys, s =>
    if tl = [] then
      if isLv (lvM M (B + 17) (xs.getD k 0) s).1 then ((none, ys.set k (lvM M (B + 17) (xs.getD k 0) s).1), (lvM M (B + 17) (xs.getD k 0) s).2)
      else ((some i, ys), (lvM M (B + 17) (xs.getD k 0) s).2)
    else if (bitM M s ((B + min i 7 + 1 : Nat) : Int) (decide (xs.getD k 0 ≠ 0))).1 then
      if isLv (lvM M (B + 17) (xs.getD k 0) (bitM M s ((B + min i 7 + 1 : Nat) : Int) (decide (xs.getD k 0 ≠ 0))).2).1 then
        if (bitM M (lvM M (B + 17) (xs.getD k 0) (bitM M s ((B + min i 7 + 1 : Nat) : Int) (decide (xs.getD k 0 ≠ 0))).2).2 ((B + min i 7 + 9 : Nat) : Int) (decide (fin ≤ i))).1 then
          ((none, ys.set k (lvM M (B + 17) (xs.getD k 0) (bitM M s ((B + min i 7 + 1 : Nat) : Int) (decide (xs.getD k 0 ≠ 0))).2).1), (bitM M (lvM M (B + 17) (xs.getD k 0) (bitM M s ((B + min i 7 + 1 : Nat) : Int) (decide (xs.getD k 0 ≠ 0))).2).2 ((B + min i 7 + 9 : Nat) : Int) (decide (fin ≤ i))).2)
        else cdM M B xs fin tl (i + 1) (ys.set k (lvM M (B + 17) (xs.getD k 0) (bitM M s ((B + min i 7 + 1 : Nat) : Int) (decide (xs.getD k 0 ≠ 0))).2).1) (bitM M (lvM M (B + 17) (xs.getD k 0) (bitM M s ((B + min i 7 + 1 : Nat) : Int) (decide (xs.getD k 0 ≠ 0))).2).2 ((B + min i 7 + 9 : Nat) : Int) (decide (fin ≤ i))).2
      else ((some i, ys), (lvM M (B + 17) (xs.getD k 0) (bitM M s ((B + min i 7 + 1 : Nat) : Int) (decide (xs.getD k 0 ≠ 0))).2).2)
    else cdM M B xs fin tl (i + 1) ys (bitM M s ((B + min i 7 + 1 : Nat) : Int) (decide (xs.getD k 0 ≠ 0))).2
variable {M : Mc σ} {B : Nat} {xs : List Int} {fin : Nat}
theorem cd_end {k i : Nat} {ys : List Int} {s s1 : Ms σ} {v : Int} (h : lvM M (B + 17) (xs.getD k 0) s = (v, s1)) : cdM M B xs fin [k] i ys s = if isLv v then ((none, ys.set k v), s1) else ((some i, ys), s1) := by
  unfold cdM
  rw [if_pos rfl, h]
theorem cd_skip {k i : Nat} {tl : List Nat} {ys : List Int} {s s1 : Ms σ} (ht : tl ≠ []) (h : bitM M s ((B + min i 7 + 1 : Nat) : Int) (decide (xs.getD k 0 ≠ 0)) = (false, s1)) : cdM M B xs fin (k :: tl) i ys s = cdM M B xs fin tl (i + 1) ys s1 := by
  rw [cdM, if_neg ht, h]
  rfl
theorem cd_bad {k i : Nat} {tl : List Nat} {ys : List Int} {s s1 s2 : Ms σ} {v : Int} (ht : tl ≠ []) (h : bitM M s ((B + min i 7 + 1 : Nat) : Int) (decide (xs.getD k 0 ≠ 0)) = (true, s1)) (h2 : lvM M (B + 17) (xs.getD k 0) s1 = (v, s2)) (h3 : isLv v = false) : cdM M B xs fin (k :: tl) i ys s = ((some i, ys), s2) := by
  rw [cdM, if_neg ht, h, if_pos rfl]
  show (if isLv (lvM M (B + 17) (xs.getD k 0) s1).1 = true then _ else ((some i, ys), (lvM M (B + 17) (xs.getD k 0) s1).2)) = _
  rw [h2, h3]
  rfl
theorem cd_on {k i : Nat} {tl : List Nat} {ys : List Int} {s s1 s2 s3 : Ms σ} {v : Int} {b : Bool} (ht : tl ≠ []) (h : bitM M s ((B + min i 7 + 1 : Nat) : Int) (decide (xs.getD k 0 ≠ 0)) = (true, s1)) (h2 : lvM M (B + 17) (xs.getD k 0) s1 = (v, s2)) (h3 : isLv v = true) (h4 : bitM M s2 ((B + min i 7 + 9 : Nat) : Int) (decide (fin ≤ i)) = (b, s3)) : cdM M B xs fin (k :: tl) i ys s = if b then ((none, ys.set k v), s3) else cdM M B xs fin tl (i + 1) (ys.set k v) s3 := by
  rw [cdM, if_neg ht, h, if_pos rfl]
  simp only [h2, h3, h4, if_true]
theorem cd_ok {ok : Nat → σ → Prop} (m : Mk M ok) : ∀ (od : List Nat) (i : Nat) (ys : List Int) {N : Nat} {s : Ms σ}, okS ok N s → okS ok (N + 172 * od.length) (cdM M B xs fin od i ys s).2
  | [], _, _, _, _, h => h
  | k :: tl, i, ys, N, s, h => by
    have hl : 172 * (k :: tl).length = 172 * tl.length + 172 := by rw [List.length_cons]; omega
    by_cases ht : tl = []
    · subst ht
      obtain ⟨⟨v, s1⟩, e⟩ : ∃ r, lvM M (B + 17) (xs.getD k 0) s = r := ⟨_, rfl⟩
      have h1 := lv_ok m (C := B + 17) (v := xs.getD k 0) h
      rw [e] at h1
      rw [cd_end e]
      split
      · exact h1.mono m (by omega)
      · exact h1.mono m (by omega)
    · obtain ⟨⟨b, s1⟩, e⟩ : ∃ r, bitM M s ((B + min i 7 + 1 : Nat) : Int) (decide (xs.getD k 0 ≠ 0)) = r := ⟨_, rfl⟩
      have h1 := bit_ok m ((B + min i 7 + 1 : Nat) : Int) (decide (xs.getD k 0 ≠ 0)) h
      rw [e] at h1
      cases b
      · rw [cd_skip ht e]
        exact (cd_ok m tl (i + 1) ys h1).mono m (by omega)
      · obtain ⟨⟨v, s2⟩, e2⟩ : ∃ r, lvM M (B + 17) (xs.getD k 0) s1 = r := ⟨_, rfl⟩
        have h2 := lv_ok m (C := B + 17) (v := xs.getD k 0) h1
        rw [e2] at h2
        cases hv : isLv v
        · rw [cd_bad ht e e2 hv]
          exact h2.mono m (by omega)
        · obtain ⟨⟨c, s3⟩, e3⟩ : ∃ r, bitM M s2 ((B + min i 7 + 9 : Nat) : Int) (decide (fin ≤ i)) = r := ⟨_, rfl⟩
          have h3 := bit_ok m ((B + min i 7 + 9 : Nat) : Int) (decide (fin ≤ i)) h2
          rw [e3] at h3
          rw [cd_on ht e e2 hv e3]
          split
          · exact h3.mono m (by omega)
          · exact (cd_ok m tl (i + 1) _ h3).mono m (by omega)
end
end Go.Proofs.YtdndambkaohgiaaGreatDoor
