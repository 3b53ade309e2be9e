/- How many bytes an encoder has: plain; a chance that is refused. -/
import Derived.Test.YtdpebaheojaihaaDoorRf1
import Derived.Test.YtdpebaheojaihaaDoorOpT
namespace Go.Proofs.YtdpebaheojaihaaDoor
set_option linter.unusedVariables false
set_option linter.unusedSimpArgs false
open Go.RowKit Go.Extern.Stop Go.Stop Go.Extern

/-- no carry goes out at the top -/
def ncI (s : Ec) : Prop := -1 ≤ s.held ∧ (s.held = -1 → s.low + s.wid ≤ 4294967296)
theorem len_stp {s : Ec} (h : ncI s) : lenE (stpE s) = lenE s + 1 ∧ ncI (stpE s) := by
  obtain ⟨D, hd, r, l, d⟩ := s
  obtain ⟨h1, h2⟩ := h
  have h1 : -1 ≤ hd := h1
  have h2 : hd = -1 → l + d ≤ 4294967296 := h2
  by_cases hT : l / 16777216 = 255
  · have e : stpE ⟨D, hd, r, l, d⟩ = ⟨D, hd, r + 1, l % 16777216 * 256, d * 256⟩ := by
      unfold stpE shfE
      rw [if_pos hT]
    rw [e]
    refine ⟨?_, h1, fun hh => ?_⟩
    · show D.length + (r + 1) + 4 + (if 0 ≤ hd then 1 else 0) = D.length + r + 4 + (if 0 ≤ hd then 1 else 0) + 1
      omega
    · have := h2 hh
      show l % 16777216 * 256 + d * 256 ≤ 4294967296
      omega
  · have e : stpE ⟨D, hd, r, l, d⟩ = ⟨D ++ (hdE ⟨D, hd, r, l, d⟩ ++ List.replicate r 255), ((l / 16777216 : Nat) : Int), 0, l % 16777216 * 256, d * 256⟩ := by
      unfold stpE shfE
      rw [if_neg hT]
    rw [e]
    obtain ⟨T, hTT⟩ : ∃ T, l / 16777216 = T := ⟨_, rfl⟩
    rw [hTT]
    refine ⟨?_, by show (-1 : Int) ≤ (T : Int); omega, fun hh => by have hh : (T : Int) = -1 := hh; omega⟩
    show (D ++ (hdE ⟨D, hd, r, l, d⟩ ++ List.replicate r 255)).length + 0 + 4 + (if (0 : Int) ≤ (T : Int) then 1 else 0) = D.length + r + 4 + (if 0 ≤ hd then 1 else 0) + 1
    rw [if_pos (by omega), List.length_append, List.length_append, List.length_replicate]
    unfold hdE
    show D.length + ((if 0 ≤ hd then [(hd % 256).toNat] else []).length + r) + 0 + 4 + 1 = _
    split <;> simp <;> omega
theorem len_mid {s : Ec} (h : ncI s) {w : Nat} (hw : w < s.wid) (up : Bool) : lenE (midE s w up) = lenE s ∧ ncI (midE s w up) := by
  obtain ⟨D, hd, r, l, d⟩ := s
  obtain ⟨h1, h2⟩ := h
  have h1 : -1 ≤ hd := h1
  have h2 : hd = -1 → l + d ≤ 4294967296 := h2
  have hw : w < d := hw
  cases up with
  | false => exact ⟨rfl, h1, fun hh => by have := h2 hh; show l + w ≤ _; omega⟩
  | true =>
    by_cases hc : 4294967296 ≤ l + w
    · have hh : 0 ≤ hd := by
        by_cases e : hd = -1
        · have := h2 e; omega
        · omega
      have e : midE ⟨D, hd, r, l, d⟩ w true = carE ⟨D, hd, r, l + w - 4294967296, d - w⟩ := by
        show upE _ _ = _
        unfold upE
        rw [if_pos hc]
      rw [e]
      by_cases hr : r = 0
      · subst hr
        refine ⟨?_, by show -1 ≤ hd + 1; omega, fun e => by have e : hd + 1 = -1 := e; omega⟩
        show D.length + 0 + 4 + (if 0 ≤ hd + 1 then 1 else 0) = D.length + 0 + 4 + (if 0 ≤ hd then 1 else 0)
        rw [if_pos (by omega), if_pos hh]
      · have e : carE ⟨D, hd, r, l + w - 4294967296, d - w⟩ = ⟨D ++ (((hd + 1) % 256).toNat :: List.replicate (r - 1) 0), 0, 0, l + w - 4294967296, d - w⟩ := by
          unfold carE
          rw [if_neg hr]
        rw [e]
        refine ⟨?_, by show (-1 : Int) ≤ 0; omega, fun e => by have e : (0 : Int) = -1 := e; omega⟩
        show (D ++ (((hd + 1) % 256).toNat :: List.replicate (r - 1) 0)).length + 0 + 4 + 1 = D.length + r + 4 + (if 0 ≤ hd then 1 else 0)
        rw [if_pos hh, List.length_append, List.length_cons, List.length_replicate]
        omega
    · have e : midE ⟨D, hd, r, l, d⟩ w true = ⟨D, hd, r, l + w, d - w⟩ := by
        show upE _ _ = _
        unfold upE
        rw [if_neg hc]
      rw [e]
      exact ⟨rfl, h1, fun hh => by have := h2 hh; show l + w + (d - w) ≤ _; omega⟩
theorem len_nrm : ∀ (f : Nat) {s : Ec}, ncI s → lenE s ≤ lenE (nrmE f s) ∧ ncI (nrmE f s)
  | 0, _, h => ⟨Nat.le_refl _, h⟩
  | f + 1, s, h => by
    show lenE s ≤ lenE (if s.wid < 16777216 then nrmE f (stpE s) else s) ∧ ncI (if s.wid < 16777216 then nrmE f (stpE s) else s)
    split
    · obtain ⟨h1, h2⟩ := len_stp h
      obtain ⟨h3, h4⟩ := len_nrm f h2
      exact ⟨by omega, h4⟩
    · exact ⟨Nat.le_refl _, h⟩
theorem len_par {s : Ec} (h : ncI s) {w : Nat} (hw : w < s.wid) (up : Bool) : lenE s ≤ lenE (parE s w up) ∧ ncI (parE s w up) := by
  obtain ⟨h1, h2⟩ := len_mid h hw up
  obtain ⟨h3, h4⟩ := len_nrm 3 h2
  exact ⟨by rw [← h1]; exact h3, h4⟩
/-- as many bytes as n flat bits can make -/
def szI (n : Nat) (s : Ec) : Prop := ncI s ∧ ∃ k r, lenE s = 4 + k ∧ 8 * k + r ≤ n ∧ r ≤ 7 ∧ 2 ^ (31 - r) ≤ s.wid
theorem szI_new : szI 0 newE := ⟨⟨by decide, fun _ => by decide⟩, 0, 0, by decide +kernel, by decide, by decide, by decide +kernel⟩
theorem szI_flat {n : Nat} {s : Ec} (h : szI n s) (up : Bool) : szI (n + 1) (parE s (s.wid / 2) up) := by
  obtain ⟨hn, k, r, h1, h2, h3, h4⟩ := h
  obtain ⟨q, hq⟩ : ∃ q, 2 ^ (30 - r) = q := ⟨_, rfl⟩
  have h5 : 2 ^ (31 - r) = q * 2 := by rw [← hq, ← Nat.pow_succ]; congr 1; omega
  rw [h5] at h4
  have hq1 : 2 ^ 23 ≤ q := by rw [← hq]; exact Nat.pow_le_pow_right (by decide) (by omega)
  have hq2 : r ≤ 6 → 2 ^ 24 ≤ q := fun h => by rw [← hq]; exact Nat.pow_le_pow_right (by decide) (by omega)
  have hq1 : 8388608 ≤ q := hq1
  have hq2 : r ≤ 6 → 16777216 ≤ q := hq2
  have hw : s.wid / 2 < s.wid := by omega
  obtain ⟨l1, l2⟩ := len_mid hn hw up
  have hm := @midE_wid (s.wid / 2) s up
  obtain ⟨m, hm1⟩ : ∃ m, midE s (s.wid / 2) up = m := ⟨_, rfl⟩
  have hmw : q ≤ m.wid := by
    rw [← hm1, hm]
    split <;> omega
  rw [hm1] at l1 l2
  have e : parE s (s.wid / 2) up = nrmE 3 m := by unfold parE; rw [hm1]
  rw [e]
  by_cases hx : m.wid < 16777216
  · have hr : r = 7 := by
      by_cases h : r ≤ 6
      · have := hq2 h; omega
      · omega
    have e2 : nrmE 3 m = stpE m := by
      show (if m.wid < 16777216 then (if (stpE m).wid < 16777216 then _ else stpE m) else m) = _
      rw [if_pos hx, if_neg (by show ¬ m.wid * 256 < 16777216; omega)]
    obtain ⟨s1, s2⟩ := len_stp l2
    rw [e2]
    refine ⟨s2, k + 1, 0, by rw [s1, l1, h1]; omega, by omega, by omega, ?_⟩
    show 2147483648 ≤ m.wid * 256
    omega
  · have e2 : nrmE 3 m = m := by
      show (if m.wid < 16777216 then _ else m) = _
      rw [if_neg hx]
    rw [e2]
    by_cases hr : r ≤ 6
    · refine ⟨l2, k, r + 1, by rw [l1, h1], by omega, by omega, ?_⟩
      rw [show 31 - (r + 1) = 30 - r by omega, hq]
      exact hmw
    · refine ⟨l2, k, r, by rw [l1, h1], by omega, h3, ?_⟩
      rw [show 31 - r = 24 by omega]
      show 16777216 ≤ m.wid
      omega
theorem szI_len {n : Nat} {s : Ec} (h : szI n s) : 4 ≤ lenE s ∧ lenE s ≤ n / 8 + 4 := by
  obtain ⟨-, k, r, h1, h2, h3, h4⟩ := h
  omega
theorem trim_le (l : List Nat) : (trimE l).length ≤ l.length := by
  induction l with
  | nil => exact Nat.le_refl _
  | cons x t ih =>
    show (if x = 0 ∧ trimE t = [] then [] else x :: trimE t).length ≤ t.length + 1
    split
    · exact Nat.zero_le _
    · show (trimE t).length + 1 ≤ _
      omega
set_option maxRecDepth 20000 in
theorem encode_no (b : Nat) (p : Int) (up : Bool) (w : World) (hc : chance p = false) : Calls Tryd.prog 15 #[.pointer (some ⟨b, 0, none⟩), .int .i64 p, .bool up] w fun e w' => e = .returned (.iface 35 (.int .i64 3)) ∧ w = w' := by
  have HCH := Lib.hid hc
  clear hc
  go_enter Tryd.func15, Tryd.ntmps15
  go_wp2_with fail
  refine (ischance_any _ _).mono ?_; rintro e w1 ⟨rfl, rfl⟩
  rw [HCH.out]
  go_wp2
  go_ret
  exact ⟨rfl, rfl⟩
end Go.Proofs.YtdpebaheojaihaaDoor
