/- What was coded comes back: plain. -/
import Derived.Test.YtdpebaheojaihaaDoorRb1
namespace Go.Proofs.YtdpebaheojaihaaDoor
set_option linter.unusedVariables false
set_option linter.unusedSimpArgs false
open Go.RowKit Go.Extern.Stop Go.Stop Go.Extern

theorem hI_nc {s : Ec} (h : hI s) : ncI s := ⟨h.1.1, fun e => h.2.1 (.inl e)⟩
theorem hI_new : hI newE := ⟨⟨by decide, by decide⟩, fun _ => by decide, by decide, by decide⟩
theorem vE_mk (D : List Nat) (hd : Int) (r l d : Nat) : vE ⟨D, hd, r, l, d⟩ = hiE ⟨D, hd, r, l, d⟩ * 4294967296 + l := by unfold vE; rfl
theorem hi_low (D : List Nat) (hd : Int) (r l d m e : Nat) : hiE ⟨D, hd, r, l, d⟩ = hiE ⟨D, hd, r, m, e⟩ := by unfold hiE hdE; rfl
theorem mid_v {s : Ec} (h : hI s) {w : Nat} (hw : w < s.wid) (up : Bool) : vE (midE s w up) = vE s + (if up then w else 0) ∧ hI (midE s w up) := by
  obtain ⟨D, hd, r, l, d⟩ := s
  obtain ⟨⟨h1, h2⟩, h3, h4, h5⟩ := h
  have h1 : -1 ≤ hd := h1
  have h2 : hd ≤ 255 := h2
  have h3 : hd = -1 ∨ hd = 255 → l + d ≤ 4294967296 := h3
  have h4 : l < 4294967296 := h4
  have h5 : d < 4294967296 := h5
  have hw : w < d := hw
  cases up with
  | false => exact ⟨by rw [if_neg (by decide), Nat.add_zero]; show vE ⟨D, hd, r, l, w⟩ = _; rw [vE_mk, vE_mk, hi_low D hd r l w l d], ⟨h1, h2⟩, fun e => by have := h3 e; show l + w ≤ _; omega, h4, by show w < _; omega⟩
  | true =>
    by_cases hc : 4294967296 ≤ l + w
    · have hh : 0 ≤ hd ∧ hd ≤ 254 := by
        by_cases e : hd = -1 ∨ hd = 255
        · have := h3 e; omega
        · omega
      have e : midE ⟨D, hd, r, l, d⟩ w true = carE ⟨D, hd, r, l + w - 4294967296, d - w⟩ := by
        show upE _ _ = _
        unfold upE
        rw [if_pos hc]
      rw [e]
      have hv := hi_car (D := D) (r := r) (l + w - 4294967296) (d - w) hh.1 hh.2
      have hlw : (carE ⟨D, hd, r, l + w - 4294967296, d - w⟩).low = l + w - 4294967296 ∧ (carE ⟨D, hd, r, l + w - 4294967296, d - w⟩).wid = d - w ∧ (0 ≤ (carE ⟨D, hd, r, l + w - 4294967296, d - w⟩).held ∧ (carE ⟨D, hd, r, l + w - 4294967296, d - w⟩).held ≤ 255) := by
        unfold carE
        split
        · exact ⟨rfl, rfl, by show 0 ≤ hd + 1; omega, by show hd + 1 ≤ 255; omega⟩
        · exact ⟨rfl, rfl, by show (0 : Int) ≤ 0; omega, by show (0 : Int) ≤ 255; omega⟩
      obtain ⟨c, hcc⟩ : ∃ c, carE ⟨D, hd, r, l + w - 4294967296, d - w⟩ = c := ⟨_, rfl⟩
      rw [hcc] at hv hlw ⊢
      obtain ⟨k1, k2, k3, k4⟩ := hlw
      rw [hi_low D hd r _ _ l d] at hv
      refine ⟨?_, ⟨by omega, k4⟩, fun _ => by omega, by omega, by omega⟩
      rw [if_pos rfl, vE_mk D hd r l d]
      unfold vE
      rw [hv, k1]
      omega
    · have e : midE ⟨D, hd, r, l, d⟩ w true = ⟨D, hd, r, l + w, d - w⟩ := by
        show upE _ _ = _
        unfold upE
        rw [if_neg hc]
      rw [e]
      refine ⟨?_, ⟨h1, h2⟩, fun e => by have := h3 e; show l + w + (d - w) ≤ _; omega, by show l + w < _; omega, by show d - w < _; omega⟩
      rw [if_pos rfl, vE_mk, vE_mk, hi_low D hd r (l + w) (d - w) l d]
      omega
theorem stp_v {s : Ec} (h : hI s) (hw : s.wid < 16777216) : vE (stpE s) = vE s * 256 ∧ hI (stpE s) ∧ lenE (stpE s) = lenE s + 1 := by
  have hl := (len_stp (hI_nc h)).1
  obtain ⟨D, hd, r, l, d⟩ := s
  obtain ⟨⟨h1, h2⟩, h3, h4, h5⟩ := h
  have h1 : -1 ≤ hd := h1
  have h2 : hd ≤ 255 := h2
  have h3 : hd = -1 ∨ hd = 255 → l + d ≤ 4294967296 := h3
  have h4 : l < 4294967296 := h4
  have hw : d < 16777216 := hw
  by_cases hT : l / 16777216 = 255
  · have e : stpE ⟨D, hd, r, l, d⟩ = ⟨D, hd, r + 1, l % 16777216 * 256, d * 256⟩ := by
      unfold stpE shfE
      rw [if_pos hT]
    rw [e] at hl ⊢
    refine ⟨?_, ⟨⟨h1, h2⟩, fun hh => by have := h3 hh; show l % 16777216 * 256 + d * 256 ≤ _; omega, by show l % 16777216 * 256 < _; omega, by show d * 256 < _; omega⟩, hl⟩
    have e2 : hiE ⟨D, hd, r + 1, l % 16777216 * 256, d * 256⟩ = hiE ⟨D, hd, r, l, d⟩ * 256 + 255 := by
      unfold hiE
      show nu (D ++ hdE ⟨D, hd, r, l, d⟩ ++ List.replicate (r + 1) 255) = nu (D ++ hdE ⟨D, hd, r, l, d⟩ ++ List.replicate r 255) * 256 + 255
      rw [List.replicate_succ', ← List.append_assoc, nu_app]
      rfl
    show hiE ⟨D, hd, r + 1, l % 16777216 * 256, d * 256⟩ * 4294967296 + l % 16777216 * 256 = (hiE ⟨D, hd, r, l, d⟩ * 4294967296 + l) * 256
    rw [e2]
    omega
  · have e : stpE ⟨D, hd, r, l, d⟩ = ⟨D ++ (hdE ⟨D, hd, r, l, d⟩ ++ List.replicate r 255), ((l / 16777216 : Nat) : Int), 0, l % 16777216 * 256, d * 256⟩ := by
      unfold stpE shfE
      rw [if_neg hT]
    rw [e] at hl ⊢
    have hT2 : l / 16777216 < 255 := by omega
    refine ⟨?_, ⟨⟨by show (-1 : Int) ≤ ((l / 16777216 : Nat) : Int); omega, by show ((l / 16777216 : Nat) : Int) ≤ 255; omega⟩, fun hh => by have hh : ((l / 16777216 : Nat) : Int) = -1 ∨ ((l / 16777216 : Nat) : Int) = 255 := hh; omega, by show l % 16777216 * 256 < _; omega, by show d * 256 < _; omega⟩, hl⟩
    have e2 : hiE ⟨D ++ (hdE ⟨D, hd, r, l, d⟩ ++ List.replicate r 255), ((l / 16777216 : Nat) : Int), 0, l % 16777216 * 256, d * 256⟩ = hiE ⟨D, hd, r, l, d⟩ * 256 + l / 16777216 := by
      unfold hiE
      show nu (D ++ (hdE ⟨D, hd, r, l, d⟩ ++ List.replicate r 255) ++ hdE ⟨D ++ (hdE ⟨D, hd, r, l, d⟩ ++ List.replicate r 255), ((l / 16777216 : Nat) : Int), 0, l % 16777216 * 256, d * 256⟩ ++ []) = nu (D ++ hdE ⟨D, hd, r, l, d⟩ ++ List.replicate r 255) * 256 + l / 16777216
      rw [List.append_nil, hd_nu _ 0 _ _ (by omega) (by omega), List.append_assoc]
      congr 1
    show hiE ⟨D ++ (hdE ⟨D, hd, r, l, d⟩ ++ List.replicate r 255), ((l / 16777216 : Nat) : Int), 0, l % 16777216 * 256, d * 256⟩ * 4294967296 + l % 16777216 * 256 = (hiE ⟨D, hd, r, l, d⟩ * 4294967296 + l) * 256
    rw [e2]
    omega
/-- a number of n bytes lies within what an encoder has narrowed to -/
def inE (X n : Nat) (s : Ec) : Prop := ∃ k, n = lenE s + k ∧ vE s * 256 ^ k ≤ X ∧ X < (vE s + s.wid) * 256 ^ k
theorem in_stp {X n : Nat} {s : Ec} (h : hI s) (hw : s.wid < 16777216) (hi : inE X n (stpE s)) : inE X n s := by
  obtain ⟨k, h1, h2, h3⟩ := hi
  obtain ⟨v1, -, v3⟩ := stp_v h hw
  rw [v1] at h2 h3
  rw [v3] at h1
  refine ⟨k + 1, by omega, ?_, ?_⟩
  · rw [Nat.pow_succ', ← Nat.mul_assoc]
    exact h2
  · have e : (stpE s).wid = s.wid * 256 := rfl
    rw [e, ← Nat.add_mul] at h3
    rw [Nat.pow_succ', ← Nat.mul_assoc]
    exact h3
theorem hI_nrm : ∀ (f : Nat) {s : Ec}, hI s → hI (nrmE f s)
  | 0, _, h => h
  | f + 1, s, h => by
    show hI (if s.wid < 16777216 then nrmE f (stpE s) else s)
    split
    · rename_i hw
      exact hI_nrm f (stp_v h hw).2.1
    · exact h
theorem in_nrm {X n : Nat} : ∀ (f : Nat) {s : Ec}, hI s → inE X n (nrmE f s) → inE X n s
  | 0, _, _, hi => hi
  | f + 1, s, h, hi => by
    have hi : inE X n (if s.wid < 16777216 then nrmE f (stpE s) else s) := hi
    split at hi
    · rename_i hw
      exact in_stp h hw (in_nrm f (stp_v h hw).2.1 hi)
    · exact hi
theorem in_mid {X n w : Nat} {s : Ec} {up : Bool} (h : hI s) (hw : w < s.wid) (hi : inE X n (midE s w up)) : inE X n s := by
  obtain ⟨k, h1, h2, h3⟩ := hi
  rw [(len_mid (hI_nc h) hw up).1] at h1
  rw [(mid_v h hw up).1] at h2 h3
  rw [midE_wid] at h3
  refine ⟨k, h1, Nat.le_trans (Nat.mul_le_mul_right _ (Nat.le_add_right _ _)) h2, Nat.lt_of_lt_of_le h3 (Nat.mul_le_mul_right _ ?_)⟩
  cases up
  · show vE s + 0 + w ≤ _
    omega
  · show vE s + w + (s.wid - w) ≤ _
    omega
theorem hI_par {w : Nat} {s : Ec} {up : Bool} (h : hI s) (hw : w < s.wid) : hI (parE s w up) := hI_nrm 3 (mid_v h hw up).2
theorem in_par {X n w : Nat} {s : Ec} {up : Bool} (h : hI s) (hw : w < s.wid) (hi : inE X n (parE s w up)) : inE X n (midE s w up) ∧ inE X n s := by
  have := in_nrm 3 (mid_v h hw up).2 hi
  exact ⟨this, in_mid h hw this⟩
/-- the first bytes as a number -/
def pn (bs : List Nat) : Nat → Nat
  | 0 => 0
  | m + 1 => pn bs m * 256 + bs.getD m 0
theorem pn_congr {a b : List Nat} (h : ∀ j, a.getD j 0 = b.getD j 0) : ∀ m, pn a m = pn b m
  | 0 => rfl
  | m + 1 => by
    show pn a m * 256 + a.getD m 0 = pn b m * 256 + b.getD m 0
    rw [pn_congr h m, h m]
theorem pn_nu (l : List Nat) : ∀ m, m ≤ l.length → pn l m = nu (l.take m)
  | 0, _ => rfl
  | m + 1, h => by
    show pn l m * 256 + l.getD m 0 = nu (l.take (m + 1))
    rw [pn_nu l m (by omega), List.take_add_one, nget_of_lt (by omega), nu_app]
    show _ = nu (l.take m) * 256 ^ 1 + (0 * 256 + l.getD m 0)
    omega
theorem trim_getD (l : List Nat) (j : Nat) : (trimE l).getD j 0 = l.getD j 0 := by
  induction l generalizing j with
  | nil => rfl
  | cons x t ih =>
    show (if x = 0 ∧ trimE t = [] then [] else x :: trimE t).getD j 0 = _
    split
    · rename_i h
      obtain ⟨rfl, h2⟩ := h
      cases j with
      | zero => rfl
      | succ j =>
        have := ih j
        rw [h2] at this
        show 0 = t.getD j 0
        rw [← this]
        rfl
    · cases j with
      | zero => rfl
      | succ j =>
        show (trimE t).getD j 0 = t.getD j 0
        exact ih j
theorem pn_end {s : Ec} (h : hI s) : pn (trimE (allE s)) (lenE s) = vE s := by
  rw [pn_congr (trim_getD _), pn_nu _ _ (by rw [allE_len]; exact Nat.le_refl _), ← allE_len, List.take_length, nu_all s h.2.2.1]
theorem pn_cut {bs : List Nat} (hb : ∀ x ∈ bs, x < 256) (m : Nat) : ∀ k, pn bs m * 256 ^ k ≤ pn bs (m + k) ∧ pn bs (m + k) < (pn bs m + 1) * 256 ^ k
  | 0 => ⟨by rw [Nat.pow_zero, Nat.mul_one]; exact Nat.le_refl _, by rw [Nat.pow_zero, Nat.mul_one]; exact Nat.lt_succ_self _⟩
  | k + 1 => by
    obtain ⟨h1, h2⟩ := pn_cut hb m k
    have hx := getD_lt hb (m + k)
    have e : pn bs (m + (k + 1)) = pn bs (m + k) * 256 + bs.getD (m + k) 0 := rfl
    rw [e, Nat.pow_succ, ← Nat.mul_assoc, ← Nat.mul_assoc]
    omega
theorem in_p {bs : List Nat} (hb : ∀ x ∈ bs, x < 256) {n : Nat} {s : Ec} (h : inE (pn bs n) n s) : vE s ≤ pn bs (lenE s) ∧ pn bs (lenE s) < vE s + s.wid := by
  obtain ⟨k, rfl, h2, h3⟩ := h
  obtain ⟨c1, c2⟩ := pn_cut hb (lenE s) k
  have a := Nat.lt_of_mul_lt_mul_right (Nat.lt_of_le_of_lt h2 c2)
  have b := Nat.lt_of_mul_lt_mul_right (Nat.lt_of_le_of_lt c1 h3)
  omega
/-- a decoder that follows an encoder -/
def bkI (bs : List Nat) (s : Ec) (t : Dc) : Prop := t.pos = lenE s ∧ t.wid = s.wid ∧ t.over = false ∧ t.num + vE s = pn bs (lenE s)
theorem bk_stp {bs : List Nat} {s : Ec} {t : Dc} (h : hI s) (hw : s.wid < 16777216) (hn : t.num < s.wid) (hk : bkI bs s t) : bkI bs (stpE s) (stpD bs t) := by
  obtain ⟨k1, k2, k3, k4⟩ := hk
  obtain ⟨v1, -, v3⟩ := stp_v h hw
  refine ⟨by show t.pos + 1 = _; rw [v3, k1], by show t.wid * 256 = s.wid * 256; rw [k2], k3, ?_⟩
  show t.num * 256 % 18446744073709551616 + bs.getD t.pos 0 + vE (stpE s) = pn bs (lenE (stpE s))
  rw [v3, v1, k1]
  show _ = pn bs (lenE s) * 256 + bs.getD (lenE s) 0
  rw [← k4]
  omega
theorem bk_nrm {bs : List Nat} (hb : ∀ x ∈ bs, x < 256) {n : Nat} : ∀ (f : Nat) {s : Ec} {t : Dc}, hI s → inE (pn bs n) n (nrmE f s) → bkI bs s t → bkI bs (nrmE f s) (nrmD bs f t)
  | 0, _, _, _, _, hk => hk
  | f + 1, s, t, h, hi, hk => by
    have hin := in_p hb (in_nrm (f + 1) h hi)
    have hi : inE (pn bs n) n (if s.wid < 16777216 then nrmE f (stpE s) else s) := hi
    show bkI bs (if s.wid < 16777216 then nrmE f (stpE s) else s) (if t.wid < 16777216 then nrmD bs f (stpD bs t) else t)
    have e := hk.2.1
    have hn : t.num < s.wid := by have := hk.2.2.2; omega
    by_cases hw : s.wid < 16777216
    · rw [if_pos hw] at hi ⊢
      rw [if_pos (by rw [e]; exact hw)]
      exact bk_nrm hb f (stp_v h hw).2.1 hi (bk_stp h hw hn hk)
    · rw [if_neg hw, if_neg (by rw [e]; exact hw)]
      exact hk
theorem bk_mid {bs : List Nat} (hb : ∀ x ∈ bs, x < 256) {n w : Nat} {s : Ec} {t : Dc} {up : Bool} (h : hI s) (hw : w < s.wid) (hi : inE (pn bs n) n (midE s w up)) (hk : bkI bs s t) : bkI bs (midE s w up) (midD t w) ∧ upD t w = up := by
  obtain ⟨k1, k2, k3, k4⟩ := hk
  obtain ⟨p1, p2⟩ := in_p hb hi
  obtain ⟨q1, q2⟩ := in_p hb (in_mid h hw hi)
  rw [(len_mid (hI_nc h) hw up).1, (mid_v h hw up).1] at p1 p2
  rw [midE_wid] at p2
  have hr := h.2.2.2
  have hu : upD t w = up := by
    unfold upD
    rw [k3]
    cases up
    · have p2 : pn bs (lenE s) < vE s + 0 + w := p2
      rw [decide_eq_false (by omega)]
      rfl
    · have p1 : vE s + w ≤ pn bs (lenE s) := p1
      rw [decide_eq_true (by omega)]
      rfl
  refine ⟨?_, hu⟩
  unfold midD bkI
  rw [hu, (len_mid (hI_nc h) hw up).1, (mid_v h hw up).1, midE_wid]
  cases up
  · refine ⟨k1, rfl, k3, ?_⟩
    show t.num + (vE s + 0) = _
    omega
  · have p1 : vE s + w ≤ pn bs (lenE s) := p1
    refine ⟨k1, by show t.wid - w = s.wid - w; rw [k2], k3, ?_⟩
    show (t.num + (18446744073709551616 - w)) % 18446744073709551616 + (vE s + w) = _
    omega
theorem bk_par {bs : List Nat} (hb : ∀ x ∈ bs, x < 256) {n w : Nat} {s : Ec} {t : Dc} {up : Bool} (h : hI s) (hw : w < s.wid) (hi : inE (pn bs n) n (parE s w up)) (hk : bkI bs s t) : bkI bs (parE s w up) (parD bs t w) ∧ upD t w = up := by
  obtain ⟨i1, i2⟩ := in_par h hw hi
  obtain ⟨b1, b2⟩ := bk_mid hb h hw i1 hk
  exact ⟨bk_nrm hb 3 (mid_v h hw up).2 hi b1, b2⟩
/-- an operation that is taken -/
theorem nxO_part {s : Ec} {o : Ot} (hw : 16777216 ≤ s.wid) (ho : okO o = true) : ∃ w, w < s.wid ∧ nxO s o = parE s w o.2 ∧ (o.1 = 0 → w = s.wid / 2) ∧ (o.1 ≠ 0 → chance o.1 = true ∧ w = s.wid / 2048 * o.1.toNat) := by
  unfold nxO
  by_cases h0 : o.1 = 0
  · rw [if_pos h0]
    exact ⟨s.wid / 2, by omega, rfl, fun _ => rfl, fun h => absurd h0 h⟩
  · have hc : chance o.1 = true := by
      unfold okO at ho
      rw [decide_eq_false h0] at ho
      exact ho
    obtain ⟨c1, c2⟩ := chance_nat hc
    obtain ⟨-, b⟩ := part_of hw c1 c2
    rw [if_neg h0]
    unfold codE
    rw [if_pos hc]
    exact ⟨_, b, rfl, fun h => absurd h h0, fun _ => ⟨hc, rfl⟩⟩
theorem nxO_h {s : Ec} {o : Ot} (h : hI s) (hw : 16777216 ≤ s.wid) : hI (nxO s o) := by
  by_cases ho : okO o = true
  · obtain ⟨w, h1, h2, -⟩ := nxO_part hw ho
    rw [h2]
    exact hI_par h h1
  · have h0 : o.1 ≠ 0 := fun e => ho (by unfold okO; rw [decide_eq_true e]; rfl)
    have hc : ¬ chance o.1 = true := fun e => ho (by unfold okO; rw [e, Bool.or_true])
    unfold nxO codE
    rw [if_neg h0, if_neg hc]
    exact h
theorem nxO_no {s : Ec} {o : Ot} (ho : okO o = false) : nxO s o = s := by
  have h0 : o.1 ≠ 0 := fun e => by unfold okO at ho; rw [decide_eq_true e] at ho; cases ho
  have hc : ¬ chance o.1 = true := fun e => by unfold okO at ho; rw [e, Bool.or_true] at ho; cases ho
  unfold nxO codE
  rw [if_neg h0, if_neg hc]
def runE (l : List Ot) : Ec := l.foldl nxO newE
theorem run_snoc (l : List Ot) (o : Ot) : runE (l ++ [o]) = nxO (runE l) o := by
  unfold runE
  rw [List.foldl_append]
  rfl
theorem run_ok (l : List Ot) : okE (4 * l.length) (runE l) ∧ 16777216 ≤ (runE l).wid ∧ hI (runE l) := by
  have key : ∀ (l : List Ot) (s : Ec) (N : Nat), okE N s → 16777216 ≤ s.wid → hI s → okE (N + 4 * l.length) (l.foldl nxO s) ∧ 16777216 ≤ (l.foldl nxO s).wid ∧ hI (l.foldl nxO s) := by
    intro l
    induction l with
    | nil => intro s N h1 h2 h3; exact ⟨h1, h2, h3⟩
    | cons o l ih =>
      intro s N h1 h2 h3
      obtain ⟨a, b⟩ := nxO_ok (o := o) h1 h2
      obtain ⟨c, d⟩ := ih (nxO s o) (N + 4) a b (nxO_h h3 h2)
      exact ⟨c.mono (by simp; omega), d⟩
  have := key l newE 0 newE_ok (by decide) hI_new
  rwa [Nat.zero_add] at this
theorem in_run {X n : Nat} (a : List Ot) : ∀ (l : List Ot), (∀ o ∈ l, okO o = true) → inE X n (runE (a ++ l)) → inE X n (runE a) := by
  intro l
  induction l generalizing a with
  | nil => intro _ h; rwa [List.append_nil] at h
  | cons o l ih =>
    intro ho h
    have := ih (a ++ [o]) (fun x hx => ho x (List.mem_cons_of_mem _ hx)) (by rw [List.append_assoc]; exact h)
    rw [run_snoc] at this
    obtain ⟨-, r2, r3⟩ := run_ok a
    obtain ⟨w, h1, h2, -⟩ := nxO_part r2 (ho o List.mem_cons_self)
    rw [h2] at this
    exact (in_par r3 h1 this).2
/-- what the bytes of all of them say -/
def bsE (l : List Ot) : List Nat := trimE (allE (runE l))
theorem in_end {l : List Ot} (ho : ∀ o ∈ l, okO o = true) (i : Nat) : inE (pn (bsE l) (lenE (runE l))) (lenE (runE l)) (runE (l.take i)) := by
  obtain ⟨-, r2, r3⟩ := run_ok l
  refine in_run (l.take i) (l.drop i) (fun o h => ho o (List.mem_of_mem_drop h)) ?_
  rw [List.take_append_drop]
  refine ⟨0, rfl, ?_, ?_⟩
  · show _ ≤ pn (trimE _) _
    rw [pn_end r3, Nat.pow_zero, Nat.mul_one]
    exact Nat.le_refl _
  · show pn (trimE _) _ < _
    rw [pn_end r3, Nat.pow_zero, Nat.mul_one]
    omega
theorem trim_mem (l : List Nat) : ∀ x ∈ trimE l, x ∈ l := by
  induction l with
  | nil => intro x hx; cases hx
  | cons y t ih =>
    intro x hx
    have hx : x ∈ (if y = 0 ∧ trimE t = [] then [] else y :: trimE t) := hx
    split at hx
    · cases hx
    · rcases List.mem_cons.1 hx with rfl | hx
      · exact List.mem_cons_self
      · exact List.mem_cons_of_mem _ (ih x hx)
theorem all_lt {N : Nat} {s : Ec} (h : okE N s) : ∀ x ∈ allE s, x < 256 := by
  intro x hx
  unfold allE at hx
  rcases List.mem_append.1 hx with hx | hx
  · rcases List.mem_append.1 hx with hx | hx
    · rcases List.mem_append.1 hx with hx | hx
      · exact h.2.2.2.2 x hx
      · exact hdE_lt s x hx
    · rw [List.eq_of_mem_replicate hx]; decide
  · simp only [List.mem_cons, List.not_mem_nil, or_false] at hx
    omega
theorem bsE_lt (l : List Ot) : ∀ x ∈ bsE l, x < 256 := fun x hx => all_lt (run_ok l).1 x (trim_mem _ x hx)
theorem mv_pn {bs : List Nat} (hb : ∀ x ∈ bs, x < 256) : ∀ k, k ≤ 4 → (mvN bs k).pos = k ∧ (mvN bs k).num = pn bs k := by
  intro k
  induction k with
  | zero => intro _; exact ⟨rfl, rfl⟩
  | succ k ih =>
    intro hk
    obtain ⟨i1, i2⟩ := ih (by omega)
    obtain ⟨-, -, -, m4⟩ := mvN_is bs hb k (by omega)
    have m5 : (mvN bs k).num < 256 ^ 4 := Nat.lt_of_lt_of_le m4 (Nat.pow_le_pow_right (by decide) (by omega))
    have m5 : (mvN bs k).num < 4294967296 := m5
    have e1 : mvN bs (k + 1) = mvD bs (mvN bs k) := rfl
    have e2 : pn bs (k + 1) = pn bs k * 256 + bs.getD k 0 := rfl
    rw [e1, e2]
    unfold mvD
    rw [i1, ← i2]
    refine ⟨rfl, ?_⟩
    show (mvN bs k).num * 256 % 18446744073709551616 + bs.getD k 0 = (mvN bs k).num * 256 + bs.getD k 0
    omega
theorem bk_new {l : List Ot} (ho : ∀ o ∈ l, okO o = true) : bkI (bsE l) newE (newD (bsE l)) := by
  have hb := bsE_lt l
  have hp : pn (bsE l) 4 < 4294967295 := by
    have := (in_p hb (in_end ho 0)).2
    rw [show vE (runE (l.take 0)) + (runE (l.take 0)).wid = 4294967295 by rw [List.take_zero]; decide +kernel, show lenE (runE (l.take 0)) = 4 by rw [List.take_zero]; decide +kernel] at this
    exact this
  generalize bsE l = bs at *
  obtain ⟨k1, k2⟩ := mv_pn hb 4 (Nat.le_refl _)
  have e0 : vE newE = 0 := by decide +kernel
  have e1 : lenE newE = 4 := by decide +kernel
  refine ⟨by rw [e1]; exact k1, (newD_ok hb).2.1, ?_, ?_⟩
  · show decide (4294967295 ≤ (mvN bs 4).num) = false
    rw [k2, decide_eq_false_iff_not]
    omega
  · rw [e0, e1, Nat.add_zero]
    exact k2
/-- one operation comes back -/
theorem bk_op {l : List Ot} (ho : ∀ o ∈ l, okO o = true) {i : Nat} {o : Ot} (hu : l[i]? = some o) {t : Dc} (hk : bkI (bsE l) (runE (l.take i)) t) :
    (o.1 = 0 → bkI (bsE l) (runE (l.take (i + 1))) (parD (bsE l) t (t.wid / 2)) ∧ upD t (t.wid / 2) = o.2) ∧
    (o.1 ≠ 0 → chance o.1 = true ∧ bkI (bsE l) (runE (l.take (i + 1))) (codD (bsE l) t o.1) ∧ codU t o.1 = o.2) := by
  have hb := bsE_lt l
  have hi := in_end ho (i + 1)
  have e : l.take (i + 1) = l.take i ++ [o] := by rw [List.take_add_one, hu]; rfl
  rw [e, run_snoc] at hi ⊢
  obtain ⟨-, r2, r3⟩ := run_ok (l.take i)
  obtain ⟨w, h1, h2, h3, h4⟩ := nxO_part r2 (ho o (List.mem_of_getElem? hu))
  rw [h2] at hi ⊢
  have := bk_par hb r3 h1 hi hk
  have hw := hk.2.1
  refine ⟨fun h0 => ?_, fun h0 => ?_⟩
  · rw [hw, ← h3 h0]
    exact this
  · obtain ⟨c1, c2⟩ := h4 h0
    refine ⟨c1, ?_⟩
    unfold codD codU
    rw [if_pos c1, if_pos c1, hw, ← c2]
    exact this
end Go.Proofs.YtdpebaheojaihaaDoor
