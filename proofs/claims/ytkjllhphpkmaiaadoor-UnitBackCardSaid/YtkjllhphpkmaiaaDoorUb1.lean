/- Units that were made, one behind the other, cut anywhere: plain. -/
import Derived.Test.YtkjllhphpkmaiaaDoorUj1
import Derived.Test.YtkjllhphpkmaiaaDoorUl1
namespace Go.Proofs.YtkjllhphpkmaiaaDoor
set_option linter.unusedVariables false
set_option linter.unusedSimpArgs false
open Go.RowKit Go.Extern.Stop Go.Stop Go.Extern

abbrev Um := Nat × List Nat
/-- a unit that can be made -/
def okM (u : Um) : Prop := u.1 < 256 ∧ (u.1 = 0 → u.2 = []) ∧ u.2.length ≤ 65536 ∧ ∀ x ∈ u.2, x < 256
def outM : List Um → List Nat
  | [] => []
  | u :: t => encB u.1 u.2 ++ outM t
/-- as units, from a place on -/
def lay : Nat → List Um → List Un
  | _, [] => []
  | p, u :: t => (u.1, u.2, (p : Int), ((p + (encB u.1 u.2).length : Nat) : Int)) :: lay (p + (encB u.1 u.2).length) t
theorem outM_app (l m : List Um) : outM (l ++ m) = outM l ++ outM m := by
  induction l with
  | nil => rfl
  | cons u t ih => show encB u.1 u.2 ++ outM (t ++ m) = _; rw [ih, ← List.append_assoc]; rfl
theorem lay_app (p : Nat) (l m : List Um) : lay p (l ++ m) = lay p l ++ lay (p + (outM l).length) m := by
  induction l generalizing p with
  | nil => rfl
  | cons u t ih =>
    show _ :: lay (p + (encB u.1 u.2).length) (t ++ m) = _
    rw [ih]
    show _ = (_ :: lay (p + (encB u.1 u.2).length) t) ++ lay (p + (encB u.1 u.2 ++ outM t).length) m
    rw [List.length_append, Nat.add_assoc, List.cons_append]
theorem lay_len (p : Nat) (l : List Um) : (lay p l).length = l.length := by
  induction l generalizing p with
  | nil => rfl
  | cons u t ih => show (lay _ t).length + 1 = t.length + 1; rw [ih]
theorem lay_take (p : Nat) (l : List Um) (n : Nat) : lay p (l.take n) = (lay p l).take n := by
  induction l generalizing p n with
  | nil => cases n <;> rfl
  | cons u t ih =>
    cases n with
    | zero => rfl
    | succ n => show _ :: lay _ (t.take n) = _ :: (lay _ t).take n; rw [ih]
/-- where the first so many end -/
def eN (l : List Um) (n : Nat) : Nat := (outM (l.take n)).length
theorem eN_app (l m : List Um) {n : Nat} (h : n ≤ l.length) : eN (l ++ m) n = eN l n := by unfold eN; rw [List.take_append_of_le_length h]
def endsM (l : List Um) : List Int := (List.range l.length).map fun q => ((eN l (q + 1) : Nat) : Int)
theorem ends_len (l : List Um) : (endsM l).length = l.length := by unfold endsM; rw [List.length_map, List.length_range]
theorem ends_get (l : List Um) {q : Nat} (h : q < l.length) : (endsM l)[q]? = some ((eN l (q + 1) : Nat) : Int) := by
  unfold endsM
  rw [List.getElem?_map, List.getElem?_range h]
  rfl
theorem ends_snoc (l : List Um) (u : Um) : endsM (l ++ [u]) = endsM l ++ [((outM l ++ encB u.1 u.2).length : Int)] := by
  unfold endsM
  rw [List.length_append, List.length_singleton, List.range_succ, List.map_append]
  congr 1
  · apply List.map_congr_left
    intro q hq
    rw [eN_app l [u] (by have := List.mem_range.1 hq; omega)]
  · show [((eN (l ++ [u]) (l.length + 1) : Nat) : Int)] = _
    unfold eN
    rw [List.take_of_length_le (by rw [List.length_append]; exact Nat.le_refl _), outM_app]
    show [(((outM l ++ (encB u.1 u.2 ++ [])).length : Nat) : Int)] = _
    rw [List.append_nil]
theorem out_snoc (l : List Um) (u : Um) : outM (l ++ [u]) = outM l ++ encB u.1 u.2 := by
  rw [outM_app]
  show outM l ++ (encB u.1 u.2 ++ []) = _
  rw [List.append_nil]
theorem lay_snoc (l : List Um) (u : Um) : lay 0 (l ++ [u]) = lay 0 l ++ [(u.1, u.2, ((outM l).length : Int), (((outM l).length + (encB u.1 u.2).length : Nat) : Int))] := by
  rw [lay_app, Nat.zero_add]
  rfl
theorem out_lt {l : List Um} (h : ∀ u ∈ l, okM u) : ∀ x ∈ outM l, x < 256 := by
  induction l with
  | nil => intro x hx; cases hx
  | cons u t ih =>
    intro x hx
    rcases List.mem_append.1 hx with hx | hx
    · obtain ⟨h1, h2, h3, h4⟩ := h u (List.mem_cons_self)
      exact encB_lt h1 h4 h3 x hx
    · exact ih (fun u hu => h u (List.mem_cons_of_mem _ hu)) x hx
theorem rd_one {u : Um} (h : okM u) (r : List Nat) : rdU (encB u.1 u.2 ++ r) = (0, u.1, u.2, (encB u.1 u.2).length) := by
  obtain ⟨k, d⟩ := u
  obtain ⟨h1, h2, h3, h4⟩ := h
  have h1 : k < 256 := h1
  have h2 : k = 0 → d = [] := h2
  have h3 : d.length ≤ 65536 := h3
  have h4 : ∀ x ∈ d, x < 256 := h4
  show rdU (encB k d ++ r) = (0, k, d, (encB k d).length)
  by_cases hk : k = 0
  · subst hk
    rw [h2 rfl]
    rfl
  · have hs := crc_lt (hdB_lt h1 h4 h3)
    have hv : v4 (crc (hdB k d) / 16777216) (crc (hdB k d) / 65536 % 256) (crc (hdB k d) / 256 % 256) (crc (hdB k d) % 256) = crc (hdB k d) := by unfold v4; omega
    have := rd_enc k d (crc (hdB k d) / 16777216) (crc (hdB k d) / 65536 % 256) (crc (hdB k d) / 256 % 256) (crc (hdB k d) % 256) hk h3
    rw [hv, if_neg (by simp)] at this
    have hb : rdU (encB k d) = (0, k, d, d.length + 8) := by rw [enc_form k d hk]; exact this
    rw [rd_more (by rw [encB_len, if_neg hk]; omega) (by rw [hb]), hb, encB_len, if_neg hk]
theorem rd_part {u : Um} (h : okM u) {j : Nat} (h0 : 0 < j) (hj : j < (encB u.1 u.2).length) : (rdU ((encB u.1 u.2).take j)).1 = 1 := by
  obtain ⟨k, d⟩ := u
  have h3 : d.length ≤ 65536 := h.2.2.1
  show (rdU ((encB k d).take j)).1 = 1
  have hj : j < (encB k d).length := hj
  have hl := @encB_len k d
  have hk : k ≠ 0 := by
    intro hk
    rw [if_pos hk] at hl
    omega
  rw [if_neg hk] at hl
  have hlen : ((encB k d).take j).length = j := by rw [List.length_take]; omega
  have hg : ∀ i, i < j → ((encB k d).take j).getD i 0 = (encB k d).getD i 0 := fun i hi => by
    simp only [List.getD_eq_getElem?_getD]
    rw [List.getElem?_take_of_lt hi]
  have hk0 : (encB k d).getD 0 0 = k := by rw [enc_form k d hk]; rfl
  unfold rdU
  rw [hg 0 h0, hk0, if_neg hk, hlen]
  by_cases h4 : j < 4
  · rw [if_pos h4]
  · have hln : lnB ((encB k d).take j) = d.length := by
      have e : lnB (encB k d) = d.length := by
        rw [enc_form k d hk]
        show (d.length / 65536 * 256 + d.length / 256 % 256) * 256 + d.length % 256 = d.length
        omega
      rw [← e]
      unfold lnB
      rw [hg 1 (by omega), hg 2 (by omega), hg 3 (by omega)]
    rw [if_neg h4, hln, if_neg (by omega), if_pos (by omega)]
theorem enc_pos (u : Um) : 0 < (encB u.1 u.2).length := by rw [encB_len]; split <;> omega
/-- units that were made are told, whatever comes behind -/
theorem sp_made : ∀ (l : List Um) (pre r : List Nat), (∀ u ∈ l, okM u) → spU (pre ++ outM l ++ r) pre.length = ((spU (pre ++ outM l ++ r) (pre.length + (outM l).length)).1, lay pre.length l ++ (spU (pre ++ outM l ++ r) (pre.length + (outM l).length)).2)
  | [], pre, r, _ => by
    show spU (pre ++ [] ++ r) pre.length = ((spU (pre ++ [] ++ r) (pre.length + 0)).1, [] ++ (spU (pre ++ [] ++ r) (pre.length + 0)).2)
    rw [Nat.add_zero, List.nil_append]
  | u :: t, pre, r, h => by
    have e : pre ++ outM (u :: t) ++ r = (pre ++ encB u.1 u.2) ++ outM t ++ r := by
      show pre ++ (encB u.1 u.2 ++ outM t) ++ r = _
      simp only [List.append_assoc]
    have hd : (pre ++ outM (u :: t) ++ r).drop pre.length = encB u.1 u.2 ++ (outM t ++ r) := by
      rw [e]
      simp only [List.append_assoc]
      exact List.drop_left
    have hlen : (pre ++ encB u.1 u.2).length = pre.length + (encB u.1 u.2).length := List.length_append
    have ih := sp_made t (pre ++ encB u.1 u.2) r (fun v hv => h v (List.mem_cons_of_mem _ hv))
    have hp := enc_pos u
    rw [sp_next (by rw [e]; simp only [List.length_append]; omega) (by rw [hd]; exact rd_one (h u List.mem_cons_self) _)]
    rw [← e, hlen] at ih
    rw [ih]
    have e2 : pre.length + (outM (u :: t)).length = pre.length + (encB u.1 u.2).length + (outM t).length := by
      show pre.length + (encB u.1 u.2 ++ outM t).length = _
      rw [List.length_append]
      omega
    rw [e2]
    show (_, (u.1, u.2, (pre.length : Int), ((encB u.1 u.2).length : Int) + (pre.length : Int)) :: _) = (_, ((u.1, u.2, (pre.length : Int), ((pre.length + (encB u.1 u.2).length : Nat) : Int)) :: lay (pre.length + (encB u.1 u.2).length) t) ++ _)
    rw [show ((encB u.1 u.2).length : Int) + (pre.length : Int) = ((pre.length + (encB u.1 u.2).length : Nat) : Int) by omega]
    rfl
theorem sp_whole {l : List Um} (h : ∀ u ∈ l, okM u) : spU (outM l) 0 = (none, lay 0 l) := by
  have := sp_made l [] [] h
  rw [List.append_nil, List.nil_append] at this
  rw [show ([] : List Nat).length = 0 from rfl, Nat.zero_add] at this
  rw [this, sp_done (Nat.le_refl _), List.append_nil]
/-- .. cut anywhere -/
theorem sp_cut {l : List Um} (h : ∀ u ∈ l, okM u) {n c : Nat} (hn : n ≤ l.length) (h1 : eN l n ≤ c) (h2 : n = l.length ∨ c < eN l (n + 1)) (h3 : c ≤ (outM l).length) : ∃ G, spU ((outM l).take c) 0 = (G, (lay 0 l).take n) ∧ (G = none ↔ c = eN l n) := by
  have hsp : outM l = outM (l.take n) ++ outM (l.drop n) := by rw [← outM_app, List.take_append_drop]
  have hok : ∀ u ∈ l.take n, okM u := fun u hu => h u (List.mem_of_mem_take hu)
  have hcut : (outM l).take c = outM (l.take n) ++ (outM (l.drop n)).take (c - eN l n) := by
    rw [hsp, List.take_append]
    congr 1
    exact List.take_of_length_le h1
  obtain ⟨r, hr⟩ : ∃ r, (outM (l.drop n)).take (c - eN l n) = r := ⟨_, rfl⟩
  have hm := sp_made (l.take n) [] r hok
  rw [List.nil_append, show ([] : List Nat).length = 0 from rfl, Nat.zero_add] at hm
  rw [hcut, hr, hm, lay_take]
  by_cases hc : c = eN l n
  · have hr0 : r = [] := by rw [← hr, hc, Nat.sub_self]; rfl
    refine ⟨none, ?_, by simp [hc]⟩
    rw [hr0, List.append_nil, sp_done (Nat.le_refl _), List.append_nil]
  · have hcn : n < l.length := by
      rcases h2 with h2 | h2
      · exfalso
        have : eN l n = (outM l).length := by unfold eN; rw [h2, List.take_of_length_le (Nat.le_refl _)]
        omega
      · refine Nat.lt_of_not_le fun hle => ?_
        have : eN l (n + 1) = eN l n := by unfold eN; rw [List.take_of_length_le hle, List.take_of_length_le (by omega)]
        omega
    obtain ⟨u, hu⟩ : ∃ u, l[n]? = some u := ⟨_, List.getElem?_eq_getElem hcn⟩
    have hd : l.drop n = u :: l.drop (n + 1) := by
      rw [List.drop_eq_getElem_cons hcn]
      congr 1
      exact (List.getElem?_eq_some_iff.1 hu).2
    have hue := h u (List.mem_of_getElem? hu)
    have he1 : eN l (n + 1) = eN l n + (encB u.1 u.2).length := by
      unfold eN
      rw [List.take_add_one, hu, outM_app]
      show (outM (l.take n) ++ (encB u.1 u.2 ++ [])).length = _
      rw [List.append_nil, List.length_append]
    have hc2 : c < eN l (n + 1) := by
      rcases h2 with h2 | h2
      · omega
      · exact h2
    have hr1 : r = (encB u.1 u.2).take (c - eN l n) := by
      rw [← hr, hd]
      show (encB u.1 u.2 ++ outM (l.drop (n + 1))).take _ = _
      exact List.take_append_of_le_length (by omega)
    have hdr : (outM (l.take n) ++ r).drop (outM (l.take n)).length = r := List.drop_left
    have hrl : 0 < r.length := by rw [hr1, List.length_take]; omega
    have hp1 : (rdU r).1 = 1 := by rw [hr1]; exact rd_part hue (by omega) (by omega)
    refine ⟨some ([(unS, ((outM (l.take n)).length : Int))], 1), ?_, ?_⟩
    · rw [sp_none (by rw [List.length_append]; omega) (by rw [hdr, hp1]; decide), hdr, hp1, List.append_nil]
    · simp [hc]
end Go.Proofs.YtkjllhphpkmaiaaDoor
