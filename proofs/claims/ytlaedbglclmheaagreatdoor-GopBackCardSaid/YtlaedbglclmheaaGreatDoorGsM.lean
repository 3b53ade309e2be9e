/- GopSums: plain. -/
import Derived.Test.YtlaedbglclmheaaGreatDoorGp7
namespace Go.Proofs.YtlaedbglclmheaaGreatDoor
set_option linter.unusedVariables false
set_option linter.unusedSimpArgs false
open Go.RowKit Go.Extern.Stop Go.Stop Go.Extern

theorem CdsP.ext {w w' : World} {v : Value} {L : List Cd} (h : CdsP w v) (hc : Cds w v L) (k : Ext w w') : CdsP w' v := by
  intro g off n cap q u e hq hu
  subst e
  have hl := hc.len
  obtain ⟨c, hL⟩ : ∃ c, L[q]? = some c := ⟨_, List.getElem?_eq_getElem (by omega)⟩
  obtain ⟨ra, rn, rc, -, h2, -, -⟩ := hc.at hL
  have h3 := k.cell h2
  rw [hu] at h3
  obtain rfl := Option.some.inj h3
  exact h g off n cap q _ rfl hq h2
/-- eleven and what the first frames cost -/
def gsN (L : List Cd) : Nat → Int
  | 0 => 11
  | k + 1 => gsN L k + (((L.getD k (0, [])).2.length : Nat) + 8 : Int)
theorem gsN_bound (L : List Cd) (hs : ∀ (q : Nat) (c : Cd), L[q]? = some c → c.2.length ≤ 20000) (k : Nat) : 0 ≤ gsN L k ∧ gsN L k ≤ 11 + 20008 * k := by
  induction k with
  | zero => simp [gsN]
  | succ k ih =>
    unfold gsN
    have h : (L.getD k (0, [])).2.length ≤ 20000 := by
      rw [List.getD]
      cases h : L[k]? with
      | none => simp
      | some c => simpa using hs k c h
    push_cast
    omega
theorem ums_take (n f c : Int) (L : List Cd) (h : ∀ a ∈ L, rdC a.1 a.2 = 0) (k : Nat) (hk : k ≤ L.length) : ((outM ((umsG n f c L).take (k + 1))).length : Int) = gsN L k := by
  induction k with
  | zero =>
    show ((encB 32 [n.toNat, f.toNat, c.toNat] ++ []).length : Int) = 11
    rw [List.append_nil, encB_len]
    rfl
  | succ k ih =>
    have hlt : k < L.length := hk
    have h1 : (umsG n f c L)[k + 1]? = some (umC L[k]) := by
      unfold umsG
      rw [List.getElem?_cons_succ, List.getElem?_map, List.getElem?_eq_getElem hlt]
      rfl
    rw [List.take_add_one, h1]
    show ((outM ((umsG n f c L).take (k + 1) ++ [umC L[k]])).length : Int) = _
    rw [out_snoc, List.length_append]
    have h2 := h L[k] (List.getElem_mem hlt)
    obtain ⟨⟨r1, -⟩, -⟩ := rd_ok h2
    have h3 : (encB (umC L[k]).1 (umC L[k]).2).length = L[k].2.length + 8 := by
      rw [encB_len, if_neg (by show ¬ L[k].1.toNat = 0; omega)]
      rfl
    rw [h3]
    unfold gsN
    rw [← ih (by omega), List.getD, List.getElem?_eq_getElem hlt]
    push_cast
    rfl
theorem gpk_len {n f c : Int} {L : List Cd} (h : gmayB n f c L = true) : ((gpkV n f c L).length : Int) = gsN L L.length := by
  have h3 := (gmay_out h).2.2
  have e : (umsG n f c L).take (L.length + 1) = umsG n f c L := by
    refine List.take_of_length_le ?_
    unfold umsG
    rw [List.length_cons, List.length_map]
    exact Nat.le_refl _
  unfold gpkV
  rw [h, if_pos rfl, ← ums_take n f c L (cds_all h3) L.length (Nat.le_refl _), e]
theorem gsz_get {L : List Cd} {k : Nat} {c : Cd} (h : L[k]? = some c) : (gszV L)[k]? = some (((c.2.length : Nat) : Int) + 8) := by
  unfold gszV
  rw [List.getElem?_map, h]
  rfl
theorem gsz_len (L : List Cd) : (gszV L).length = L.length := by unfold gszV; rw [List.length_map]
end Go.Proofs.YtlaedbglclmheaaGreatDoor
