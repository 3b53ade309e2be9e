/- What is read of a unit's bytes of which one is another: plain. -/
import Derived.Test.YtkjllhphpkmaiaaDoorUnx
import Derived.Test.YtkjllhphpkmaiaaDoorUmk
namespace Go.Proofs.YtkjllhphpkmaiaaDoor
set_option linter.unusedVariables false
set_option linter.unusedSimpArgs false
open Go.RowKit

def v4 (a b c e : Nat) : Nat := ((a * 256 + b) * 256 + c) * 256 + e
theorem smB4 (l : List Nat) (a b c e : Nat) : smB (l ++ [a, b, c, e]) l.length = v4 a b c e := by
  have h : ∀ j, (l ++ [a, b, c, e]).getD (l.length + j) 0 = [a, b, c, e].getD j 0 := fun j => by
    simp only [List.getD_eq_getElem?_getD]
    rw [List.getElem?_append_right (by omega)]
    congr 2
    omega
  have h0 := h 0
  unfold smB v4
  rw [Nat.add_zero] at h0
  rw [h0, h 1, h 2, h 3]
  rfl
/-- a head, its data, four bytes behind: what is read of them -/
theorem rd_enc (k : Nat) (d : List Nat) (a b c e : Nat) (hk : k ≠ 0) (hd : d.length ≤ 65536) : rdU (hdB k d ++ [a, b, c, e]) = if v4 a b c e ≠ crc (hdB k d) then (4, 0, [], 0) else (0, k, d, d.length + 8) := by
  have hl := hdB_len k d
  have hln : lnB (hdB k d ++ [a, b, c, e]) = d.length := by
    show (d.length / 65536 * 256 + d.length / 256 % 256) * 256 + d.length % 256 = d.length
    omega
  have hlen : (hdB k d ++ [a, b, c, e]).length = d.length + 8 := by rw [List.length_append, hl]; rfl
  have h4 : 4 + d.length = (hdB k d).length := by omega
  have h0 : (hdB k d ++ [a, b, c, e]).getD 0 0 = k := rfl
  unfold rdU
  rw [hln, hlen, h0, if_neg hk, if_neg (by omega), if_neg (by omega), if_neg (by omega), h4, smB4, List.take_left]
  by_cases hv : v4 a b c e = crc (hdB k d)
  · rw [if_neg (by simp [hv]), if_neg (by simp [hv])]
    have : ((hdB k d ++ [a, b, c, e]).drop 4).take d.length = d := by
      show ((d ++ [a, b, c, e])).take d.length = d
      exact List.take_left
    rw [this]
  · rw [if_pos hv, if_pos hv]
theorem enc_form (k : Nat) (d : List Nat) (hk : k ≠ 0) : encB k d = hdB k d ++ be4 (crc (hdB k d)) := by unfold encB; rw [if_neg hk]
theorem rd_turned (k : Nat) (d : List Nat) (A y : Nat) (hk : k ≠ 0) (hk2 : k < 256) (hd : d.length ≤ 65536) (hb : ∀ z ∈ d, z < 256) (hA : A < d.length + 8) (hA2 : A = 0 ∨ 4 ≤ A) (hy : y < 256) (hne : y ≠ (encB k d).getD A 0) (h0 : ((encB k d).set A y).getD 0 0 ≠ 0) :
    rdU ((encB k d).set A y) = (4, 0, [], 0) := by
  have hl := hdB_len k d
  have hlt := hdB_lt (kind := k) hk2 hb hd
  have hs := crc_lt hlt
  rw [enc_form k d hk] at hne h0 ⊢
  obtain ⟨s, hss⟩ : ∃ s, crc (hdB k d) = s := ⟨_, rfl⟩
  rw [hss] at hne h0 hs ⊢
  rw [List.set_append] at h0 ⊢
  by_cases hin : A < (hdB k d).length
  · rw [if_pos hin] at h0 ⊢
    have hne2 : y ≠ (hdB k d).getD A 0 := by
      have : (hdB k d ++ be4 s).getD A 0 = (hdB k d).getD A 0 := by
        simp only [List.getD_eq_getElem?_getD]
        rw [List.getElem?_append_left hin]
      rw [← this]; exact hne
    have key : ∀ k' d', (hdB k d).set A y = hdB k' d' → k' ≠ 0 → d'.length ≤ 65536 → s ≠ crc (hdB k' d') → rdU ((hdB k d).set A y ++ be4 s) = (4, 0, [], 0) := by
      intro k' d' e1 e2 e3 e4
      rw [e1]
      have := rd_enc k' d' (s / 16777216) (s / 65536 % 256) (s / 256 % 256) (s % 256) e2 e3
      have hv : v4 (s / 16777216) (s / 65536 % 256) (s / 256 % 256) (s % 256) = s := by unfold v4; omega
      rw [hv, if_pos e4] at this
      exact this
    rcases hA2 with rfl | hA4
    · refine key y d rfl (fun e => h0 (by subst e; rfl)) hd ?_
      rw [← hss]
      exact crc_turned (p := []) (q := be3 d.length ++ d) (x := k) (y := y) (by simp) (fun z hz => hlt z (List.mem_cons_of_mem _ hz)) hk2 hy (fun e => hne2 e.symm)
    · obtain ⟨i, rfl⟩ : ∃ i, A = i + 4 := ⟨A - 4, by omega⟩
      have hi : i < d.length := by omega
      have e1 : (hdB k d).set (i + 4) y = hdB k (d.set i y) := by
        unfold hdB be3
        rw [List.length_set]
        rfl
      refine key k (d.set i y) e1 hk (by rw [List.length_set]; exact hd) ?_
      rw [← hss, ← e1]
      have f1 : hdB k d = (hdB k d).take (i + 4) ++ (hdB k d).getD (i + 4) 0 :: (hdB k d).drop (i + 4 + 1) := by
        have : (hdB k d).getD (i + 4) 0 = (hdB k d)[i + 4] := by simp [List.getD_eq_getElem?_getD, hin]
        rw [this, List.getElem_cons_drop, List.take_append_drop]
      have f2 : (hdB k d).set (i + 4) y = (hdB k d).take (i + 4) ++ y :: (hdB k d).drop (i + 4 + 1) := List.set_eq_take_append_cons_drop.trans (by rw [if_pos hin])
      rw [f2]
      intro h
      refine crc_turned (p := (hdB k d).take (i + 4)) (q := (hdB k d).drop (i + 4 + 1)) (x := (hdB k d).getD (i + 4) 0) (y := y) (fun z hz => hlt z (List.mem_of_mem_take hz)) (fun z hz => hlt z (List.mem_of_mem_drop hz)) ?_ hy (fun e => hne2 e.symm) ?_
      · rw [List.getD_eq_getElem?_getD]
        rw [List.getElem?_eq_getElem hin]
        exact hlt _ (List.getElem_mem hin)
      · rw [← f1]; exact h
  · rw [if_neg hin]
    obtain ⟨j, hj⟩ : ∃ j, A - (hdB k d).length = j := ⟨_, rfl⟩
    have hj4 : j < 4 := by omega
    have hne2 : y ≠ (be4 s).getD j 0 := by
      have : (hdB k d ++ be4 s).getD A 0 = (be4 s).getD j 0 := by
        simp only [List.getD_eq_getElem?_getD]
        rw [List.getElem?_append_right (by omega), hj]
      rw [← this]; exact hne
    rw [hj]
    have key : ∀ a b c e, v4 a b c e ≠ s → rdU (hdB k d ++ [a, b, c, e]) = (4, 0, [], 0) := by
      intro a b c e hv
      rw [rd_enc k d a b c e hk hd, hss, if_pos hv]
    have q0 : (be4 s).getD 0 0 = s / 16777216 := rfl
    have q1 : (be4 s).getD 1 0 = s / 65536 % 256 := rfl
    have q2 : (be4 s).getD 2 0 = s / 256 % 256 := rfl
    have q3 : (be4 s).getD 3 0 = s % 256 := rfl
    have hjj : j = 0 ∨ j = 1 ∨ j = 2 ∨ j = 3 := by omega
    rcases hjj with h | h | h | h <;> rw [h] at hne2 ⊢
    · refine key y (s / 65536 % 256) (s / 256 % 256) (s % 256) ?_
      rw [q0] at hne2; unfold v4; omega
    · refine key (s / 16777216) y (s / 256 % 256) (s % 256) ?_
      rw [q1] at hne2; unfold v4; omega
    · refine key (s / 16777216) (s / 65536 % 256) y (s % 256) ?_
      rw [q2] at hne2; unfold v4; omega
    · refine key (s / 16777216) (s / 65536 % 256) (s / 256 % 256) y ?_
      rw [q3] at hne2; unfold v4; omega
/-- .. so Next says -/
theorem nx_turned (c : List Nat) (h : rdU c = (4, 0, [], 0)) (hl : 0 < c.length) : nxU c 0 = (some ([(unS, 0)], 4), 0, [], 0, 0) := by
  unfold nxU
  rw [if_neg (by omega)]
  have e : List.drop (Int.toNat 0) c = c := rfl
  rw [e, h]
  exact if_neg (by decide)
end Go.Proofs.YtkjllhphpkmaiaaDoor
