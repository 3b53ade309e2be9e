/- Contracts of this seat: Pe2, Pe3, Pm1, Pm2, Px1, Px2, Px3. -/
import Derived.Test.YtpofabebmeickaaGreatDoorVwZb
import Derived.Test.YtpofabebmeickaaGreatDoorVwZc
import Derived.Deep.RegionLaw
import Derived.BigRegion
/- (*rac.Decoder).next, part, Flat, Code, Over: contracts over this seat's translation. -/
namespace Go.Proofs.YtpofabebmeickaaGreatDoor
set_option linter.unusedVariables false
set_option linter.unusedSimpArgs false
open Go.RowKit Go.Extern.Stop Go.Stop Go.Extern

def codU (s : Dc) (p : Int) : Bool := if chance p then upD s (s.wid / 2048 * p.toNat) else false
def codD (bs : List Nat) (s : Dc) (p : Int) : Dc := if chance p then parD bs s (s.wid / 2048 * p.toNat) else s
/-- how many bytes were taken past the end -/
def ovrD (bs : List Nat) (s : Dc) : Nat := s.pos - bs.length
end Go.Proofs.YtpofabebmeickaaGreatDoor

/- rac.NewDecoder: its contract over this seat's translation. -/
namespace Go.Proofs.YtpofabebmeickaaGreatDoor
set_option linter.unusedVariables false
set_option linter.unusedSimpArgs false
open Go.RowKit Go.Extern.Stop Go.Stop Go.Extern

def mvD (bs : List Nat) (s : Dc) : Dc := { s with pos := s.pos + 1, num := s.num * 256 % 18446744073709551616 + bs.getD s.pos 0 }
def mvN (bs : List Nat) : Nat → Dc
  | 0 => ⟨0, false, 0, 4294967295⟩
  | k + 1 => mvD bs (mvN bs k)
def newD (bs : List Nat) : Dc := { mvN bs 4 with over := decide (4294967295 ≤ (mvN bs 4).num) }
end Go.Proofs.YtpofabebmeickaaGreatDoor

/- Plain: an encoder is a number and a width; what is coded lies within. -/
namespace Go.Proofs.YtpofabebmeickaaGreatDoor
set_option linter.unusedVariables false
set_option linter.unusedSimpArgs false
open Go.RowKit Go.Extern.Stop Go.Stop Go.Extern

theorem part_of {d n : Nat} (hd : 16777216 ≤ d) (h1 : 1 ≤ n) (h2 : n < 2048) : 1 ≤ d / 2048 * n ∧ d / 2048 * n < d := by
  have a := Nat.mul_le_mul_left (d / 2048) (show n ≤ 2047 by omega)
  have b := Nat.mul_le_mul_left (d / 2048) h1
  omega
theorem chance_nat {p : Int} (h : chance p = true) : 1 ≤ p.toNat ∧ p.toNat < 2048 := by
  unfold chance at h
  rw [Bool.and_eq_true, decide_eq_true_iff, decide_eq_true_iff] at h
  omega
theorem codE_ok {N : Nat} {p : Int} {up : Bool} {s : Ec} (hk : okE N s) (hw : 16777216 ≤ s.wid) : okE (N + 4) (codE s p up) ∧ 16777216 ≤ (codE s p up).wid := by
  unfold codE
  split
  · rename_i hc
    obtain ⟨c1, c2⟩ := chance_nat hc
    obtain ⟨a, b⟩ := part_of hw c1 c2
    exact parE_ok hk a b
  · exact ⟨hk.mono (by omega), hw⟩
theorem flaE_ok {N : Nat} {up : Bool} {s : Ec} (hk : okE N s) (hw : 16777216 ≤ s.wid) : okE (N + 4) (parE s (s.wid / 2) up) ∧ 16777216 ≤ (parE s (s.wid / 2) up).wid := parE_ok hk (by omega) (by omega)
theorem newE_ok : okE 0 newE := ⟨Nat.le_refl _, ⟨by decide, by decide⟩, by decide, by decide, fun x hx => by cases hx⟩
/-- no carry goes out at the top -/
def ncI (s : Ec) : Prop := -1 ≤ s.held ∧ (s.held = -1 → s.low + s.wid ≤ 4294967296)
theorem len_stp {s : Ec} (h : ncI s) : lenE (stpE s) = lenE s + 1 ∧ ncI (stpE s) := by
  obtain ⟨D, hd, r, l, d⟩ := s
  obtain ⟨h1, h2⟩ := h
  have h1 : -1 ≤ hd := h1
  have h2 : hd = -1 → l + d ≤ 4294967296 := h2
  by_cases hT : l / 16777216 = 255
  · have e : stpE ⟨D, hd, r, l, d⟩ = ⟨D, hd, r + 1, l % 16777216 * 256, d * 256⟩ := by
      unfold stpE shfE
      rw [if_pos hT]
    rw [e]
    refine ⟨?_, h1, fun hh => ?_⟩
    · show D.length + (r + 1) + 4 + (if 0 ≤ hd then 1 else 0) = D.length + r + 4 + (if 0 ≤ hd then 1 else 0) + 1
      omega
    · have := h2 hh
      show l % 16777216 * 256 + d * 256 ≤ 4294967296
      omega
  · have e : stpE ⟨D, hd, r, l, d⟩ = ⟨D ++ (hdE ⟨D, hd, r, l, d⟩ ++ List.replicate r 255), ((l / 16777216 : Nat) : Int), 0, l % 16777216 * 256, d * 256⟩ := by
      unfold stpE shfE
      rw [if_neg hT]
    rw [e]
    obtain ⟨T, hTT⟩ : ∃ T, l / 16777216 = T := ⟨_, rfl⟩
    rw [hTT]
    refine ⟨?_, by show (-1 : Int) ≤ (T : Int); omega, fun hh => by have hh : (T : Int) = -1 := hh; omega⟩
    show (D ++ (hdE ⟨D, hd, r, l, d⟩ ++ List.replicate r 255)).length + 0 + 4 + (if (0 : Int) ≤ (T : Int) then 1 else 0) = D.length + r + 4 + (if 0 ≤ hd then 1 else 0) + 1
    rw [if_pos (by omega), List.length_append, List.length_append, List.length_replicate]
    unfold hdE
    show D.length + ((if 0 ≤ hd then [(hd % 256).toNat] else []).length + r) + 0 + 4 + 1 = _
    split <;> simp <;> omega
theorem len_mid {s : Ec} (h : ncI s) {w : Nat} (hw : w < s.wid) (up : Bool) : lenE (midE s w up) = lenE s ∧ ncI (midE s w up) := by
  obtain ⟨D, hd, r, l, d⟩ := s
  obtain ⟨h1, h2⟩ := h
  have h1 : -1 ≤ hd := h1
  have h2 : hd = -1 → l + d ≤ 4294967296 := h2
  have hw : w < d := hw
  cases up with
  | false => exact ⟨rfl, h1, fun hh => by have := h2 hh; show l + w ≤ _; omega⟩
  | true =>
    by_cases hc : 4294967296 ≤ l + w
    · have hh : 0 ≤ hd := by
        by_cases e : hd = -1
        · have := h2 e; omega
        · omega
      have e : midE ⟨D, hd, r, l, d⟩ w true = carE ⟨D, hd, r, l + w - 4294967296, d - w⟩ := by
        show upE _ _ = _
        unfold upE
        rw [if_pos hc]
      rw [e]
      by_cases hr : r = 0
      · subst hr
        refine ⟨?_, by show -1 ≤ hd + 1; omega, fun e => by have e : hd + 1 = -1 := e; omega⟩
        show D.length + 0 + 4 + (if 0 ≤ hd + 1 then 1 else 0) = D.length + 0 + 4 + (if 0 ≤ hd then 1 else 0)
        rw [if_pos (by omega), if_pos hh]
      · have e : carE ⟨D, hd, r, l + w - 4294967296, d - w⟩ = ⟨D ++ (((hd + 1) % 256).toNat :: List.replicate (r - 1) 0), 0, 0, l + w - 4294967296, d - w⟩ := by
          unfold carE
          rw [if_neg hr]
        rw [e]
        refine ⟨?_, by show (-1 : Int) ≤ 0; omega, fun e => by have e : (0 : Int) = -1 := e; omega⟩
        show (D ++ (((hd + 1) % 256).toNat :: List.replicate (r - 1) 0)).length + 0 + 4 + 1 = D.length + r + 4 + (if 0 ≤ hd then 1 else 0)
        rw [if_pos hh, List.length_append, List.length_cons, List.length_replicate]
        omega
    · have e : midE ⟨D, hd, r, l, d⟩ w true = ⟨D, hd, r, l + w, d - w⟩ := by
        show upE _ _ = _
        unfold upE
        rw [if_neg hc]
      rw [e]
      exact ⟨rfl, h1, fun hh => by have := h2 hh; show l + w + (d - w) ≤ _; omega⟩
theorem trim_le (l : List Nat) : (trimE l).length ≤ l.length := by
  induction l with
  | nil => exact Nat.le_refl _
  | cons x t ih =>
    show (if x = 0 ∧ trimE t = [] then [] else x :: trimE t).length ≤ t.length + 1
    split
    · exact Nat.zero_le _
    · show (trimE t).length + 1 ≤ _
      omega
def nu (l : List Nat) : Nat := l.foldl (fun v x => v * 256 + x) 0
theorem nu_fold (l : List Nat) (v : Nat) : l.foldl (fun v x => v * 256 + x) v = v * 256 ^ l.length + nu l := by
  induction l generalizing v with
  | nil => show v = v * 1 + 0; omega
  | cons x t ih =>
    show t.foldl _ (v * 256 + x) = v * 256 ^ (t.length + 1) + t.foldl _ (0 * 256 + x)
    rw [ih (v * 256 + x), ih (0 * 256 + x), Nat.pow_succ, Nat.add_mul, Nat.zero_mul, Nat.zero_add, Nat.mul_assoc v, Nat.mul_comm 256, Nat.add_assoc]
theorem nu_app (a b : List Nat) : nu (a ++ b) = nu a * 256 ^ b.length + nu b := by
  unfold nu
  rw [List.foldl_append, nu_fold]
  rfl
theorem nu_zero (k : Nat) : nu (List.replicate k 0) = 0 := by
  induction k with
  | zero => rfl
  | succ k ih => rw [List.replicate_succ', nu_app, ih]; rfl
theorem nu_full (k : Nat) : nu (List.replicate k 255) + 1 = 256 ^ k := by
  induction k with
  | zero => rfl
  | succ k ih =>
    rw [List.replicate_succ', nu_app, Nat.pow_succ, ← ih]
    show nu (List.replicate k 255) * 256 + 255 + 1 = _
    omega
/-- the bytes above the low, as a number; the number -/
def hiE (s : Ec) : Nat := nu (s.done ++ hdE s ++ List.replicate s.run 255)
def vE (s : Ec) : Nat := hiE s * 4294967296 + s.low
theorem nu_all (s : Ec) (h : s.low < 4294967296) : nu (allE s) = vE s := by
  unfold allE vE hiE
  rw [nu_app]
  show _ * 256 ^ 4 + ((((0 * 256 + s.low / 16777216 % 256) * 256 + s.low / 65536 % 256) * 256 + s.low / 256 % 256) * 256 + s.low % 256) = _ * 4294967296 + s.low
  have : (256 : Nat) ^ 4 = 4294967296 := by decide
  rw [this]
  omega
/-- what holds of an encoder's state -/
def hI (s : Ec) : Prop := (-1 ≤ s.held ∧ s.held ≤ 255) ∧ (s.held = -1 ∨ s.held = 255 → s.low + s.wid ≤ 4294967296) ∧ s.low < 4294967296 ∧ s.wid < 4294967296
theorem hi_form (D : List Nat) (hd : Int) (r l d : Nat) : hiE ⟨D, hd, r, l, d⟩ + 1 = (nu (D ++ hdE ⟨D, hd, r, l, d⟩) + 1) * 256 ^ r := by
  unfold hiE
  show nu (D ++ hdE ⟨D, hd, r, l, d⟩ ++ List.replicate r 255) + 1 = _
  rw [nu_app, List.length_replicate, Nat.add_mul, Nat.one_mul, ← nu_full r]
  omega
theorem hd_nu (D : List Nat) {hd : Int} (r l d : Nat) (h0 : 0 ≤ hd) (h1 : hd ≤ 255) : nu (D ++ hdE ⟨D, hd, r, l, d⟩) = nu D * 256 + hd.toNat := by
  have e : hdE ⟨D, hd, r, l, d⟩ = [hd.toNat] := by
    unfold hdE
    show (if 0 ≤ hd then [(hd % 256).toNat] else []) = _
    rw [if_pos h0]
    congr 1
    omega
  rw [e, nu_app]
  show nu D * 256 ^ 1 + (0 * 256 + hd.toNat) = _
  omega
theorem hi_car {D : List Nat} {hd : Int} {r : Nat} (l d : Nat) (h0 : 0 ≤ hd) (h1 : hd ≤ 254) : hiE (carE ⟨D, hd, r, l, d⟩) = hiE ⟨D, hd, r, l, d⟩ + 1 := by
  rw [hi_form, hd_nu D r l d h0 (by omega)]
  by_cases hr : r = 0
  · subst hr
    have e : carE ⟨D, hd, 0, l, d⟩ = ⟨D, hd + 1, 0, l, d⟩ := rfl
    rw [e]
    have := hi_form D (hd + 1) 0 l d
    rw [hd_nu D 0 l d (by omega) (by omega)] at this
    rw [Nat.pow_zero] at this ⊢
    omega
  · obtain ⟨q, rfl⟩ : ∃ q, r = q + 1 := ⟨r - 1, by omega⟩
    have e : carE ⟨D, hd, q + 1, l, d⟩ = ⟨D ++ (((hd + 1) % 256).toNat :: List.replicate q 0), 0, 0, l, d⟩ := by
      unfold carE
      rw [if_neg hr]
      rfl
    rw [e]
    have e2 : ((hd + 1) % 256).toNat = hd.toNat + 1 := by omega
    have := hi_form (D ++ (((hd + 1) % 256).toNat :: List.replicate q 0)) 0 0 l d
    rw [hd_nu _ 0 l d (by omega) (by omega), Nat.pow_zero, nu_app, e2] at this
    have e3 : nu ((hd.toNat + 1) :: List.replicate q 0) = (hd.toNat + 1) * 256 ^ q := by
      have := nu_app [hd.toNat + 1] (List.replicate q 0)
      rw [nu_zero, List.length_replicate] at this
      show nu ([hd.toNat + 1] ++ List.replicate q 0) = _
      rw [this]
      show (0 * 256 + (hd.toNat + 1)) * 256 ^ q + 0 = _
      rw [Nat.zero_mul, Nat.zero_add, Nat.add_zero]
    rw [e3, List.length_cons, List.length_replicate] at this
    rw [e2]
    have e4 : nu D * 256 ^ (q + 1) = nu D * 256 * 256 ^ q := by rw [Nat.pow_succ, Nat.mul_assoc, Nat.mul_comm 256]
    rw [e4, ← Nat.add_mul] at this
    rw [Nat.pow_succ, Nat.mul_comm (256 ^ q) 256, ← Nat.mul_assoc, ← Nat.add_assoc] at *
    have e5 : (nu D * 256 + hd.toNat + 1) * 256 * 256 ^ q = (nu D * 256 + hd.toNat + 1) * 256 ^ q * 256 := by rw [Nat.mul_assoc, Nat.mul_comm 256, ← Nat.mul_assoc]
    rw [e5]
    show hiE ⟨D ++ ((hd.toNat + 1) :: List.replicate q 0), 0, 0, l, d⟩ = _
    have e6 : (0 : Int).toNat = 0 := rfl
    omega
theorem hI_nc {s : Ec} (h : hI s) : ncI s := ⟨h.1.1, fun e => h.2.1 (.inl e)⟩
theorem hI_new : hI newE := ⟨⟨by decide, by decide⟩, fun _ => by decide, by decide, by decide⟩
theorem vE_mk (D : List Nat) (hd : Int) (r l d : Nat) : vE ⟨D, hd, r, l, d⟩ = hiE ⟨D, hd, r, l, d⟩ * 4294967296 + l := by unfold vE; rfl
theorem hi_low (D : List Nat) (hd : Int) (r l d m e : Nat) : hiE ⟨D, hd, r, l, d⟩ = hiE ⟨D, hd, r, m, e⟩ := by unfold hiE hdE; rfl
theorem mid_v {s : Ec} (h : hI s) {w : Nat} (hw : w < s.wid) (up : Bool) : vE (midE s w up) = vE s + (if up then w else 0) ∧ hI (midE s w up) := by
  obtain ⟨D, hd, r, l, d⟩ := s
  obtain ⟨⟨h1, h2⟩, h3, h4, h5⟩ := h
  have h1 : -1 ≤ hd := h1
  have h2 : hd ≤ 255 := h2
  have h3 : hd = -1 ∨ hd = 255 → l + d ≤ 4294967296 := h3
  have h4 : l < 4294967296 := h4
  have h5 : d < 4294967296 := h5
  have hw : w < d := hw
  cases up with
  | false => exact ⟨by rw [if_neg (by decide), Nat.add_zero]; show vE ⟨D, hd, r, l, w⟩ = _; rw [vE_mk, vE_mk, hi_low D hd r l w l d], ⟨h1, h2⟩, fun e => by have := h3 e; show l + w ≤ _; omega, h4, by show w < _; omega⟩
  | true =>
    by_cases hc : 4294967296 ≤ l + w
    · have hh : 0 ≤ hd ∧ hd ≤ 254 := by
        by_cases e : hd = -1 ∨ hd = 255
        · have := h3 e; omega
        · omega
      have e : midE ⟨D, hd, r, l, d⟩ w true = carE ⟨D, hd, r, l + w - 4294967296, d - w⟩ := by
        show upE _ _ = _
        unfold upE
        rw [if_pos hc]
      rw [e]
      have hv := hi_car (D := D) (r := r) (l + w - 4294967296) (d - w) hh.1 hh.2
      have hlw : (carE ⟨D, hd, r, l + w - 4294967296, d - w⟩).low = l + w - 4294967296 ∧ (carE ⟨D, hd, r, l + w - 4294967296, d - w⟩).wid = d - w ∧ (0 ≤ (carE ⟨D, hd, r, l + w - 4294967296, d - w⟩).held ∧ (carE ⟨D, hd, r, l + w - 4294967296, d - w⟩).held ≤ 255) := by
        unfold carE
        split
        · exact ⟨rfl, rfl, by show 0 ≤ hd + 1; omega, by show hd + 1 ≤ 255; omega⟩
        · exact ⟨rfl, rfl, by show (0 : Int) ≤ 0; omega, by show (0 : Int) ≤ 255; omega⟩
      obtain ⟨c, hcc⟩ : ∃ c, carE ⟨D, hd, r, l + w - 4294967296, d - w⟩ = c := ⟨_, rfl⟩
      rw [hcc] at hv hlw ⊢
      obtain ⟨k1, k2, k3, k4⟩ := hlw
      rw [hi_low D hd r _ _ l d] at hv
      refine ⟨?_, ⟨by omega, k4⟩, fun _ => by omega, by omega, by omega⟩
      rw [if_pos rfl, vE_mk D hd r l d]
      unfold vE
      rw [hv, k1]
      omega
    · have e : midE ⟨D, hd, r, l, d⟩ w true = ⟨D, hd, r, l + w, d - w⟩ := by
        show upE _ _ = _
        unfold upE
        rw [if_neg hc]
      rw [e]
      refine ⟨?_, ⟨h1, h2⟩, fun e => by have := h3 e; show l + w + (d - w) ≤ _; omega, by show l + w < _; omega, by show d - w < _; omega⟩
      rw [if_pos rfl, vE_mk, vE_mk, hi_low D hd r (l + w) (d - w) l d]
      omega
theorem stp_v {s : Ec} (h : hI s) (hw : s.wid < 16777216) : vE (stpE s) = vE s * 256 ∧ hI (stpE s) ∧ lenE (stpE s) = lenE s + 1 := by
  have hl := (len_stp (hI_nc h)).1
  obtain ⟨D, hd, r, l, d⟩ := s
  obtain ⟨⟨h1, h2⟩, h3, h4, h5⟩ := h
  have h1 : -1 ≤ hd := h1
  have h2 : hd ≤ 255 := h2
  have h3 : hd = -1 ∨ hd = 255 → l + d ≤ 4294967296 := h3
  have h4 : l < 4294967296 := h4
  have hw : d < 16777216 := hw
  by_cases hT : l / 16777216 = 255
  · have e : stpE ⟨D, hd, r, l, d⟩ = ⟨D, hd, r + 1, l % 16777216 * 256, d * 256⟩ := by
      unfold stpE shfE
      rw [if_pos hT]
    rw [e] at hl ⊢
    refine ⟨?_, ⟨⟨h1, h2⟩, fun hh => by have := h3 hh; show l % 16777216 * 256 + d * 256 ≤ _; omega, by show l % 16777216 * 256 < _; omega, by show d * 256 < _; omega⟩, hl⟩
    have e2 : hiE ⟨D, hd, r + 1, l % 16777216 * 256, d * 256⟩ = hiE ⟨D, hd, r, l, d⟩ * 256 + 255 := by
      unfold hiE
      show nu (D ++ hdE ⟨D, hd, r, l, d⟩ ++ List.replicate (r + 1) 255) = nu (D ++ hdE ⟨D, hd, r, l, d⟩ ++ List.replicate r 255) * 256 + 255
      rw [List.replicate_succ', ← List.append_assoc, nu_app]
      rfl
    show hiE ⟨D, hd, r + 1, l % 16777216 * 256, d * 256⟩ * 4294967296 + l % 16777216 * 256 = (hiE ⟨D, hd, r, l, d⟩ * 4294967296 + l) * 256
    rw [e2]
    omega
  · have e : stpE ⟨D, hd, r, l, d⟩ = ⟨D ++ (hdE ⟨D, hd, r, l, d⟩ ++ List.replicate r 255), ((l / 16777216 : Nat) : Int), 0, l % 16777216 * 256, d * 256⟩ := by
      unfold stpE shfE
      rw [if_neg hT]
    rw [e] at hl ⊢
    have hT2 : l / 16777216 < 255 := by omega
    refine ⟨?_, ⟨⟨by show (-1 : Int) ≤ ((l / 16777216 : Nat) : Int); omega, by show ((l / 16777216 : Nat) : Int) ≤ 255; omega⟩, fun hh => by have hh : ((l / 16777216 : Nat) : Int) = -1 ∨ ((l / 16777216 : Nat) : Int) = 255 := hh; omega, by show l % 16777216 * 256 < _; omega, by show d * 256 < _; omega⟩, hl⟩
    have e2 : hiE ⟨D ++ (hdE ⟨D, hd, r, l, d⟩ ++ List.replicate r 255), ((l / 16777216 : Nat) : Int), 0, l % 16777216 * 256, d * 256⟩ = hiE ⟨D, hd, r, l, d⟩ * 256 + l / 16777216 := by
      unfold hiE
      show nu (D ++ (hdE ⟨D, hd, r, l, d⟩ ++ List.replicate r 255) ++ hdE ⟨D ++ (hdE ⟨D, hd, r, l, d⟩ ++ List.replicate r 255), ((l / 16777216 : Nat) : Int), 0, l % 16777216 * 256, d * 256⟩ ++ []) = nu (D ++ hdE ⟨D, hd, r, l, d⟩ ++ List.replicate r 255) * 256 + l / 16777216
      rw [List.append_nil, hd_nu _ 0 _ _ (by omega) (by omega), List.append_assoc]
      congr 1
    show hiE ⟨D ++ (hdE ⟨D, hd, r, l, d⟩ ++ List.replicate r 255), ((l / 16777216 : Nat) : Int), 0, l % 16777216 * 256, d * 256⟩ * 4294967296 + l % 16777216 * 256 = (hiE ⟨D, hd, r, l, d⟩ * 4294967296 + l) * 256
    rw [e2]
    omega
/-- a number of n bytes lies within what an encoder has narrowed to -/
def inE (X n : Nat) (s : Ec) : Prop := ∃ k, n = lenE s + k ∧ vE s * 256 ^ k ≤ X ∧ X < (vE s + s.wid) * 256 ^ k
theorem in_stp {X n : Nat} {s : Ec} (h : hI s) (hw : s.wid < 16777216) (hi : inE X n (stpE s)) : inE X n s := by
  obtain ⟨k, h1, h2, h3⟩ := hi
  obtain ⟨v1, -, v3⟩ := stp_v h hw
  rw [v1] at h2 h3
  rw [v3] at h1
  refine ⟨k + 1, by omega, ?_, ?_⟩
  · rw [Nat.pow_succ', ← Nat.mul_assoc]
    exact h2
  · have e : (stpE s).wid = s.wid * 256 := rfl
    rw [e, ← Nat.add_mul] at h3
    rw [Nat.pow_succ', ← Nat.mul_assoc]
    exact h3
theorem hI_nrm : ∀ (f : Nat) {s : Ec}, hI s → hI (nrmE f s)
  | 0, _, h => h
  | f + 1, s, h => by
    show hI (if s.wid < 16777216 then nrmE f (stpE s) else s)
    split
    · rename_i hw
      exact hI_nrm f (stp_v h hw).2.1
    · exact h
theorem in_nrm {X n : Nat} : ∀ (f : Nat) {s : Ec}, hI s → inE X n (nrmE f s) → inE X n s
  | 0, _, _, hi => hi
  | f + 1, s, h, hi => by
    have hi : inE X n (if s.wid < 16777216 then nrmE f (stpE s) else s) := hi
    split at hi
    · rename_i hw
      exact in_stp h hw (in_nrm f (stp_v h hw).2.1 hi)
    · exact hi
theorem in_mid {X n w : Nat} {s : Ec} {up : Bool} (h : hI s) (hw : w < s.wid) (hi : inE X n (midE s w up)) : inE X n s := by
  obtain ⟨k, h1, h2, h3⟩ := hi
  rw [(len_mid (hI_nc h) hw up).1] at h1
  rw [(mid_v h hw up).1] at h2 h3
  rw [midE_wid] at h3
  refine ⟨k, h1, Nat.le_trans (Nat.mul_le_mul_right _ (Nat.le_add_right _ _)) h2, Nat.lt_of_lt_of_le h3 (Nat.mul_le_mul_right _ ?_)⟩
  cases up
  · show vE s + 0 + w ≤ _
    omega
  · show vE s + w + (s.wid - w) ≤ _
    omega
theorem hI_par {w : Nat} {s : Ec} {up : Bool} (h : hI s) (hw : w < s.wid) : hI (parE s w up) := hI_nrm 3 (mid_v h hw up).2
theorem in_par {X n w : Nat} {s : Ec} {up : Bool} (h : hI s) (hw : w < s.wid) (hi : inE X n (parE s w up)) : inE X n (midE s w up) ∧ inE X n s := by
  have := in_nrm 3 (mid_v h hw up).2 hi
  exact ⟨this, in_mid h hw this⟩
theorem trim_mem (l : List Nat) : ∀ x ∈ trimE l, x ∈ l := by
  induction l with
  | nil => intro x hx; cases hx
  | cons y t ih =>
    intro x hx
    have hx : x ∈ (if y = 0 ∧ trimE t = [] then [] else y :: trimE t) := hx
    split at hx
    · cases hx
    · rcases List.mem_cons.1 hx with rfl | hx
      · exact List.mem_cons_self
      · exact List.mem_cons_of_mem _ (ih x hx)
theorem all_lt {N : Nat} {s : Ec} (h : okE N s) : ∀ x ∈ allE s, x < 256 := by
  intro x hx
  unfold allE at hx
  rcases List.mem_append.1 hx with hx | hx
  · rcases List.mem_append.1 hx with hx | hx
    · rcases List.mem_append.1 hx with hx | hx
      · exact h.2.2.2.2 x hx
      · exact hdE_lt s x hx
    · rw [List.eq_of_mem_replicate hx]; decide
  · simp only [List.mem_cons, List.not_mem_nil, or_false] at hx
    omega
end Go.Proofs.YtpofabebmeickaaGreatDoor

/- Plain: what was coded comes back. -/
namespace Go.Proofs.YtpofabebmeickaaGreatDoor
set_option linter.unusedVariables false
set_option linter.unusedSimpArgs false
open Go.RowKit Go.Extern.Stop Go.Stop Go.Extern

end Go.Proofs.YtpofabebmeickaaGreatDoor

/- A document's encoder of bits (kinref12): plain: its bytes are the landed encoder's. -/
namespace Go.Proofs.YtpofabebmeickaaGreatDoor
set_option linter.unusedVariables false
set_option linter.unusedSimpArgs false
open Go.RowKit Go.Extern.Stop Go.Stop Go.Extern

/-- a number added to bytes, the last byte the lowest: the bytes, what is left over -/
def adX : List Nat → Nat → List Nat × Nat
  | [], v => ([], v)
  | x :: t, v => ((adX t v).2 + x) % 256 :: (adX t v).1 |> fun l => (l, ((adX t v).2 + x) / 256)
theorem adX_cons (x : Nat) (t : List Nat) (v : Nat) : adX (x :: t) v = (((adX t v).2 + x) % 256 :: (adX t v).1, ((adX t v).2 + x) / 256) := rfl
theorem adX_len (l : List Nat) (v : Nat) : (adX l v).1.length = l.length := by
  induction l with
  | nil => rfl
  | cons x t ih => rw [adX_cons]; simp [ih]
theorem adX_lt (l : List Nat) (v : Nat) : ∀ x ∈ (adX l v).1, x < 256 := by
  induction l with
  | nil => intro x hx; cases hx
  | cons y t ih =>
    rw [adX_cons]
    intro x hx
    rcases List.mem_cons.1 hx with rfl | hx
    · omega
    · exact ih x hx
theorem adX_zero : ∀ (l : List Nat), (∀ x ∈ l, x < 256) → adX l 0 = (l, 0)
  | [], _ => rfl
  | x :: t, h => by
    have hx := h x (List.mem_cons_self ..)
    rw [adX_cons, adX_zero t (fun y hy => h y (List.mem_cons_of_mem _ hy))]
    have e1 : (0 + x) % 256 = x := by omega
    have e2 : (0 + x) / 256 = 0 := by omega
    rw [e1, e2]
theorem adX_app (a b : List Nat) (v : Nat) : adX (a ++ b) v = ((adX a (adX b v).2).1 ++ (adX b v).1, (adX a (adX b v).2).2) := by
  induction a with
  | nil => rfl
  | cons x t ih => rw [List.cons_append, adX_cons, ih, adX_cons]; rfl
theorem nu_cons (x : Nat) (t : List Nat) : nu (x :: t) = x * 256 ^ t.length + nu t := by
  have := nu_app [x] t
  rw [List.singleton_append] at this
  rw [this]
  have : nu [x] = x := by unfold nu; simp
  rw [this]
theorem nu_lt : ∀ (l : List Nat), (∀ x ∈ l, x < 256) → nu l < 256 ^ l.length
  | [], _ => by decide
  | x :: t, h => by
    have hx := h x (List.mem_cons_self ..)
    have ih := nu_lt t (fun y hy => h y (List.mem_cons_of_mem _ hy))
    rw [nu_cons, List.length_cons, Nat.pow_succ]
    generalize 256 ^ t.length = P at *
    have : x * P ≤ 255 * P := Nat.mul_le_mul_right _ (by omega)
    omega
theorem nu_inj : ∀ (a b : List Nat), a.length = b.length → (∀ x ∈ a, x < 256) → (∀ x ∈ b, x < 256) → nu a = nu b → a = b
  | [], [], _, _, _, _ => rfl
  | [], _ :: _, h, _, _, _ => by simp at h
  | _ :: _, [], h, _, _, _ => by simp at h
  | x :: s, y :: t, h, ha, hb, e => by
    have hl : s.length = t.length := by simpa using h
    have h1 := nu_lt s (fun z hz => ha z (List.mem_cons_of_mem _ hz))
    have h2 := nu_lt t (fun z hz => hb z (List.mem_cons_of_mem _ hz))
    rw [nu_cons, nu_cons, hl] at e
    rw [hl] at h1
    generalize 256 ^ t.length = P at *
    have hxy : x = y := by
      rcases Nat.lt_trichotomy x y with k | k | k
      · exfalso
        have : (x + 1) * P ≤ y * P := Nat.mul_le_mul_right _ k
        rw [Nat.add_mul] at this
        omega
      · exact k
      · exfalso
        have : (y + 1) * P ≤ x * P := Nat.mul_le_mul_right _ k
        rw [Nat.add_mul] at this
        omega
    subst hxy
    rw [nu_inj s t hl (fun z hz => ha z (List.mem_cons_of_mem _ hz)) (fun z hz => hb z (List.mem_cons_of_mem _ hz)) (by omega)]
theorem adX_nu (l : List Nat) (v : Nat) : nu (adX l v).1 + (adX l v).2 * 256 ^ l.length = nu l + v := by
  induction l with
  | nil => show 0 + v * 1 = 0 + v; omega
  | cons x t ih =>
    rw [adX_cons]
    show nu (((adX t v).2 + x) % 256 :: (adX t v).1) + ((adX t v).2 + x) / 256 * 256 ^ (t.length + 1) = _
    rw [nu_cons, nu_cons, adX_len, Nat.pow_succ]
    generalize (adX t v).2 = c at *
    generalize (adX t v).1 = s at *
    have hc : c + x = (c + x) / 256 * 256 + (c + x) % 256 := by omega
    generalize (c + x) / 256 = q at *
    generalize (c + x) % 256 = r at *
    generalize 256 ^ t.length = P at *
    have e1 : (c + x) * P = q * (P * 256) + r * P := by rw [hc, Nat.add_mul, Nat.mul_assoc, Nat.mul_comm 256 P]
    rw [Nat.add_mul] at e1
    omega
/-- an encoder of the document's: its bytes, its width -/
structure Xe where
  bs : List Nat
  rr : Nat
def stpX' (s : Xe) : Xe := ⟨s.bs ++ [0], s.rr * 256⟩
def nrmX' : Nat → Xe → Xe
  | 0, s => s
  | f + 1, s => if s.rr < 16777216 then nrmX' f (stpX' s) else s
def midX' (s : Xe) (w : Nat) (up : Bool) : Xe := if up then ⟨(adX s.bs w).1, s.rr - w⟩ else ⟨s.bs, w⟩
def parX' (s : Xe) (w : Nat) (up : Bool) : Xe := nrmX' 3 (midX' s w up)
def newX : Xe := ⟨[0, 0, 0, 0], 4294967295⟩
/-- the two are alike -/
def alX (N : Nat) (s : Ec) (x : Xe) : Prop := (okE N s ∧ hI s) ∧ x.bs = allE s ∧ x.rr = s.wid
theorem alX.mono {N M : Nat} {s : Ec} {x : Xe} (h : alX N s x) (k : N ≤ M) : alX M s x := ⟨⟨h.1.1.mono k, h.1.2⟩, h.2⟩
theorem al_new : alX 0 newE newX := ⟨⟨newE_ok, hI_new⟩, by decide +kernel, rfl⟩
theorem al_nu {N : Nat} {s : Ec} {x : Xe} (h : alX N s x) : x.bs.length = lenE s ∧ nu x.bs = vE s ∧ ∀ y ∈ x.bs, y < 256 := by
  obtain ⟨⟨h1, h2⟩, h3, h4⟩ := h
  rw [h3]
  exact ⟨allE_len s, nu_all s h2.2.2.1, all_lt h1⟩
theorem al_of {N : Nat} {s : Ec} {x : Xe} (h1 : okE N s) (h2 : hI s) (h3 : x.rr = s.wid) (h4 : x.bs.length = lenE s) (h5 : nu x.bs = vE s) (h6 : ∀ y ∈ x.bs, y < 256) : alX N s x :=
  ⟨⟨h1, h2⟩, nu_inj _ _ (by rw [h4, allE_len]) h6 (all_lt h1) (by rw [h5, nu_all s h2.2.2.1]), h3⟩
theorem al_stp {N : Nat} {s : Ec} {x : Xe} (h : alX N s x) (hw : s.wid < 16777216) : alX (N + 1) (stpE s) (stpX' x) := by
  obtain ⟨a1, a2, a3⟩ := al_nu h
  obtain ⟨v1, v2, v3⟩ := stp_v h.1.2 hw
  refine al_of (stpE_ok h.1.1 hw) v2 (by show x.rr * 256 = s.wid * 256; rw [h.2.2]) ?_ ?_ ?_
  · show (x.bs ++ [0]).length = _
    rw [List.length_append, a1, v3]
    rfl
  · show nu (x.bs ++ [0]) = _
    rw [nu_app, a2, v1]
    show vE s * (256 ^ 1) + nu [0] = _
    have : nu [0] = 0 := by decide
    omega
  · intro y hy
    rcases List.mem_append.1 hy with hy | hy
    · exact a3 y hy
    · rw [List.mem_singleton.1 hy]; decide
theorem al_mid {N w : Nat} {s : Ec} {x : Xe} (h : alX N s x) (hw : w < s.wid) (up : Bool) : alX (N + 1) (midE s w up) (midX' x w up) := by
  obtain ⟨a1, a2, a3⟩ := al_nu h
  obtain ⟨v1, v2⟩ := mid_v h.1.2 hw up
  have hk := midE_ok (up := up) h.1.1 (Nat.le_of_lt hw)
  have hl := (len_mid (hI_nc h.1.2) hw up).1
  refine al_of hk v2 ?_ ?_ ?_ ?_
  · rw [midE_wid, ← h.2.2]
    unfold midX'
    cases up <;> rfl
  · rw [hl, ← a1]
    unfold midX'
    cases up
    · rfl
    · exact adX_len _ _
  · cases up
    · show nu x.bs = _
      rw [v1, a2]
      simp
    · show nu (adX x.bs w).1 = _
      have e1 := adX_nu x.bs w
      have e2 := nu_lt _ (all_lt hk)
      rw [nu_all _ v2.2.2.1, v1, allE_len, hl, ← a1, ← a2] at e2
      rw [v1, ← a2]
      have e2 : nu x.bs + w < 256 ^ x.bs.length := by simpa using e2
      have e3 : nu x.bs + (if true then w else 0) = nu x.bs + w := by simp
      rw [e3]
      generalize 256 ^ x.bs.length = P at *
      rcases Nat.eq_zero_or_pos (adX x.bs w).2 with k | k
      · rw [k] at e1
        omega
      · exfalso
        have : 1 * P ≤ (adX x.bs w).2 * P := Nat.mul_le_mul_right _ k
        omega
  · unfold midX'
    cases up
    · exact a3
    · exact adX_lt _ _
theorem al_nrm {N : Nat} : ∀ (f : Nat) {s : Ec} {x : Xe}, alX N s x → alX (N + f) (nrmE f s) (nrmX' f x)
  | 0, _, _, h => h
  | f + 1, s, x, h => by
    show alX _ (if s.wid < 16777216 then nrmE f (stpE s) else s) (if x.rr < 16777216 then nrmX' f (stpX' x) else x)
    rw [h.2.2]
    by_cases hw : s.wid < 16777216
    · rw [if_pos hw, if_pos hw]
      have := al_nrm (N := N + 1) f (al_stp h hw)
      rw [show N + 1 + f = N + (f + 1) by omega] at this
      exact this
    · rw [if_neg hw, if_neg hw]
      exact h.mono (by omega)
theorem al_par {N w : Nat} {s : Ec} {x : Xe} (h : alX N s x) (hw : w < s.wid) (up : Bool) : alX (N + 4) (parE s w up) (parX' x w up) := by
  have := al_nrm 3 (al_mid h hw up)
  exact this
def codX' (x : Xe) (p : Int) (up : Bool) : Xe := if chance p then parX' x (x.rr / 2048 * p.toNat) up else x
theorem al_flat {N : Nat} {s : Ec} {x : Xe} (h : alX N s x) (hw : 16777216 ≤ s.wid) (up : Bool) : alX (N + 4) (parE s (s.wid / 2) up) (parX' x (x.rr / 2) up) := by
  rw [h.2.2]
  exact al_par h (by omega) up
theorem al_code {N : Nat} {s : Ec} {x : Xe} (h : alX N s x) (hw : 16777216 ≤ s.wid) (p : Int) (up : Bool) : alX (N + 4) (codE s p up) (codX' x p up) := by
  unfold codE codX'
  cases hc : chance p
  · exact h.mono (by omega)
  · obtain ⟨c1, c2⟩ := chance_nat hc
    rw [h.2.2]
    exact al_par h (part_of hw c1 c2).2 up
end Go.Proofs.YtpofabebmeickaaGreatDoor

/- kinref12.Encoder: its cells; NewEncoder, add, Len: contracts over this seat's translation. -/
namespace Go.Proofs.YtpofabebmeickaaGreatDoor
set_option linter.unusedVariables false
set_option linter.unusedSimpArgs false
open Go.RowKit Go.Extern.Stop Go.Stop Go.Extern

def XeBox (w : World) (b : Nat) (v : Value) (r : Nat) : Prop := (w.cell? ⟨b, 0, none⟩ = some v ∧ w.cell? ⟨b, 1, none⟩ = some (.int .i64 (r : Int))) ∧
  w.frozen? ⟨b, 0, none⟩ = false ∧ w.frozen? ⟨b, 1, none⟩ = false
section
variable {w w' : World} {b : Nat} {v : Value} {r : Nat}
theorem XeBox.same (x : XeBox w b v r) (k : w'.heap[b]? = w.heap[b]?) : XeBox w' b v r := by
  obtain ⟨⟨c0, c1⟩, f0, f1⟩ := x
  have c : ∀ i, w'.cell? ⟨b, i, none⟩ = w.cell? ⟨b, i, none⟩ := fun i => World.cell?_of_block (a := ⟨b, i, none⟩) k
  have f : ∀ i, w'.frozen? ⟨b, i, none⟩ = w.frozen? ⟨b, i, none⟩ := fun i => World.frozen?_of_block (a := ⟨b, i, none⟩) k
  exact ⟨⟨(c 0).trans c0, (c 1).trans c1⟩, (f 0).trans f0, (f 1).trans f1⟩
theorem XeBox.lt (x : XeBox w b v r) : b < w.heap.size := Ext.lt (p := ⟨b, 0, none⟩) x.1.1
theorem XeBox.ext (x : XeBox w b v r) (k : Ext w w') : XeBox w' b v r := x.same (k.block x.lt)
theorem XeBox.set0 (x : XeBox w b v r) (u : Value) : XeBox (w.setCell ⟨b, 0, none⟩ u) b u r := by
  obtain ⟨⟨c0, c1⟩, f0, f1⟩ := x
  exact ⟨⟨World.cell?_setCell_same _ _ _ c0, (cell_off_ne _ (by decide)).trans c1⟩, by simpa using f0, by simpa using f1⟩
theorem XeBox.set1 (x : XeBox w b v r) (k : Nat) : XeBox (w.setCell ⟨b, 1, none⟩ (.int .i64 (k : Int))) b v k := by
  obtain ⟨⟨c0, c1⟩, f0, f1⟩ := x
  exact ⟨⟨(cell_off_ne _ (by decide)).trans c0, World.cell?_setCell_same _ _ _ c1⟩, by simpa using f0, by simpa using f1⟩
end
def XeAt (w : World) (b : Nat) (B : Nat → Prop) (s : Xe) : Prop := ∃ v, XeBox w b v s.rr ∧ EcRow w b B v s.bs
theorem XeAt.ext {w w' : World} {b : Nat} {B : Nat → Prop} {s : Xe} (h : XeAt w b B s) (k : Ext w w') : XeAt w' b B s := by
  obtain ⟨v, h1, h2⟩ := h
  exact ⟨v, h1.ext k, h2.ext k⟩
/-- what bounds it -/
def okX' (N : Nat) (s : Xe) : Prop := s.bs.length ≤ N ∧ s.rr < 4294967296 ∧ ∀ x ∈ s.bs, x < 256
theorem al_ok {N : Nat} {s : Ec} {x : Xe} (h : alX N s x) : okX' (N + 5) x := by
  obtain ⟨a1, a2, a3⟩ := al_nu h
  refine ⟨?_, by rw [h.2.2]; exact h.1.1.2.2.2.1, a3⟩
  rw [a1]
  have := h.1.1.1
  unfold lenE
  split <;> omega
def XePost (w : World) (b : Nat) (B : Nat → Prop) (s : Xe) (e : Ending) (w' : World) : Prop := e = .returned (.tuple #[]) ∧ XeAt w' b B s ∧ PKp b B w w'
def NXPost (w : World) (e : Ending) (w' : World) : Prop := ∃ b g cap, e = .returned (.pointer (some ⟨b, 0, none⟩)) ∧ w.heap.size ≤ b ∧ g ≠ b ∧ XeBox w' b (.slice (some ⟨g, 0, none⟩) 4 cap) 4294967295 ∧ w'.ownsRow w.heap.size 5 1 (.slice (some ⟨g, 0, none⟩) 4 cap) 4 (byC [0, 0, 0, 0]) ∧ Ext w w'
set_option maxRecDepth 20000 in
theorem newxe_any (w : World) : Calls Tryz.prog 32 #[] w (NXPost w) := by
  obtain ⟨i0, hi, hz0, hz1, hz2⟩ := info_parts infoU8
  go_enter Tryz.func32, Tryz.ntmps32
  go_wp2_with (at_make; refine wpList_make_full _ rfl _ _ 53 rfl w.heap.size 5 i0 (.int .u8 0) 1 Tryz.underlying53 hi hz0 hz1 .i64 .i64 _ _ 4 rfl rfl rfl rfl (by rw [hz2]; omega) (by unfold maxLen; omega) (Nat.le_refl _) ?_; intro w2 hown hgrow)
  have hE : Ext w w2 := Below.grown (Ext.refl w) hgrow (Nat.le_refl _) (fun k hk => by cases hk)
  have hm : (madeCells (Value.int .u8 0).cells (4 * 1)).toList = byC [0, 0, 0, 0] := by kernel_rfl
  rw [hm] at hown
  have hg := (hown.lt w.heap.size rfl).2
  go_ret
  exact ⟨w2.heap.size, w.heap.size, 4, rfl, hE.size, by omega, ⟨⟨by simp, by simp⟩, by simp, by simp⟩, ownsRow_ext hown ((Ext.refl w2).alloc _), hE.alloc _⟩
/-- the loop of a sum: what is done of it -/
theorem ad_fin {L S : List Nat} {v V k : Nat} (hb : ∀ x ∈ L, x < 256) (h : adX (L.drop k) v = (S, V)) (h0 : k = 0 ∨ V = 0) : L.take k ++ S = (adX L v).1 := by
  have e : adX L v = adX (L.take k ++ L.drop k) v := by rw [List.take_append_drop]
  rw [e, adX_app, h]
  show _ = (adX (L.take k) V).1 ++ S
  rcases h0 with rfl | rfl
  · rfl
  · rw [adX_zero _ (fun x hx => hb x (List.mem_of_mem_take hx))]
theorem ad_step {L S : List Nat} {v V k x : Nat} (h : adX (L.drop (k + 1)) v = (S, V)) (hx : L[k]? = some x) : adX (L.drop k) v = ((V + x) % 256 :: S, (V + x) / 256) ∧ (byC (L.take (k + 1) ++ S)).set k (.int .u8 (((V + x) % 256 : Nat) : Int)) = byC (L.take k ++ ((V + x) % 256 :: S)) := by
  obtain ⟨hk, rfl⟩ := List.getElem?_eq_some_iff.1 hx
  refine ⟨by rw [List.drop_eq_getElem_cons hk, adX_cons, h], ?_⟩
  rw [List.take_succ_eq_append_getElem hk, List.append_assoc]
  simp only [byC, List.map_append, List.map_cons, List.map_nil, List.singleton_append]
  rw [List.set_append_right _ _ (by simp; omega)]
  have e : min k L.length = k := by omega
  simp [e]
/-- a row's cell, and what a store into it leaves -/
theorem er_cell {w : World} {b : Nat} {B : Nat → Prop} {v : Value} {xs : List Nat} {k x : Nat} (h : EcRow w b B v xs) (hx : xs[k]? = some x) : ∃ g cap, v = .slice (some ⟨g, 0, none⟩) xs.length cap ∧ g ≠ b ∧ ¬ B g ∧ w.cell? ⟨g, k, none⟩ = some (.int .u8 (x : Int)) ∧ w.frozen? ⟨g, k, none⟩ = false := by
  have hk : k < xs.length := (List.getElem?_eq_some_iff.1 hx).1
  obtain ⟨h1, h2, h3, h4⟩ := h
  rcases id h1.2 with ⟨-, h0⟩ | ⟨g, cap, cur, rfl, hb, hg, -⟩
  · omega
  · have hgb : g ≠ b := fun e => h2 g rfl (e ▸ h3)
    have hc := h1.cells (g := g) rfl k (.int .u8 (x : Int)) (by simp [byC, hx])
    refine ⟨g, cap, rfl, hgb, h2 g rfl, ?_, by simp [World.frozen?, hg]⟩
    have e : (⟨g, 0, none⟩ : Addr).add k = ⟨g, k, none⟩ := by unfold Addr.add; split <;> simp_all
    rw [e] at hc
    exact hc
theorem er_set {w : World} {b g cap n k y : Nat} {B : Nat → Prop} {xs ys : List Nat} (h : EcRow w b B (.slice (some ⟨g, 0, none⟩) n cap) xs) (hl : ys.length = xs.length) (hy : (byC xs).set k (.int .u8 (y : Int)) = byC ys) :
    EcRow (w.setCell ⟨g, k, none⟩ (.int .u8 (y : Int))) b B (.slice (some ⟨g, 0, none⟩) n cap) ys ∧ PKp b B w (w.setCell ⟨g, k, none⟩ (.int .u8 (y : Int))) := by
  obtain ⟨h1, h2, h3, h4⟩ := h
  obtain rfl : n = xs.length := by
    rcases h1.2 with ⟨e, -⟩ | ⟨_, _, _, e, -⟩
    · cases e
    · simp only [Value.slice.injEq] at e
      exact e.2.1
  obtain ⟨j1, j2⟩ := h1.stored k (.int .u8 (y : Int))
  rw [hy] at j1
  exact ⟨⟨by rw [hl]; exact j1, h2, h3, by simpa using h4⟩, own_apartP (b := b) h1 h2 j2⟩
set_option maxRecDepth 20000 in
set_option maxHeartbeats 4000000 in
theorem xadd_any (b : Nat) (B : Nat → Prop) (N v : Nat) (s : Xe) (w : World) (h : XeAt w b B s) (hk : okX' N s) (hN : N ≤ 100000000) (hv : v < 4294967296) : Calls Tryz.prog 116 #[.pointer (some ⟨b, 0, none⟩), .int .i64 (v : Int)] w (XePost w b B ⟨(adX s.bs v).1, s.rr⟩) := by
  obtain ⟨u, hB, hR⟩ := h
  obtain ⟨L, r⟩ := s
  obtain ⟨k1, k2, k3⟩ := hk
  have k1 : L.length ≤ N := k1
  have k3 : ∀ x ∈ L, x < 256 := k3
  have hB : XeBox w b u r := hB
  have hR : EcRow w b B u L := hR
  obtain ⟨a, c, rfl⟩ := hR.form
  obtain ⟨n, hn⟩ : ∃ n, L.length = n := ⟨_, rfl⟩
  have HN := Lib.hid hn
  have HK3 := Lib.hid k3
  have hB0 := hB
  have hR0 := hR
  rw [hn] at hB0 hR0
  have HB0 := Lib.hid hB0
  have HR0 := Lib.hid hR0
  obtain ⟨⟨c0, c1⟩, f0, f1⟩ := hB
  rw [hn] at c0 k1
  have hn2 : n ≤ 100000000 := by omega
  have s0 : IntKind.i64.wrap ((n : Int) - 1) = (n : Int) - 1 := by rw [IntKind.wrap_i64]; omega
  obtain ⟨R, hR9⟩ : ∃ R, (adX L v).1 = R := ⟨_, rfl⟩
  have HRR := Lib.hid hR9
  show Calls Tryz.prog 116 _ w (XePost w b B ⟨(adX L v).1, r⟩)
  rw [hR9]
  clear hB hR hn k3 k1 hN hB0 hR0 hR9
  go_enter Tryz.func116, Tryz.ntmps116
  go_wp2_with fail
  go_loopw [1, 4] (fun vv iv wr => ∃ (k V : Nat) (S : List Nat), k ≤ n ∧ V < 4294967296 ∧ vv = .int .i64 (V : Int) ∧ iv = .int .i64 ((k : Int) - 1) ∧ Hid (adX (L.drop k) v = (S, V)) ∧ Hid (XeBox wr b (.slice a n c) r) ∧ Hid (EcRow wr b B (.slice a n c) (L.take k ++ S)) ∧ Hid (PKp b B w wr)) (fun _ iv _ => (intOf iv + 1).toNat)
  case atStart =>
    refine ⟨n, v, [], Nat.le_refl _, hv, rfl, rfl, ?_, HB0.out, ?_, PKp.refl b B w⟩
    · show _ = _
      rw [← HN.out, List.drop_length]
      rfl
    · show EcRow _ _ _ _ _
      rw [← HN.out, List.take_length, List.append_nil]
      have := HR0.out
      rw [← HN.out] at this
      exact this
  case round =>
    clear HB0 HR0 c0 c1 f0 f1
    obtain ⟨k, V, S, hk, hV, rfl, rfl, HAD, HB, HR, HW⟩ := hrel
    obtain ⟨⟨c0, c1⟩, f0, f1⟩ := HB.out
    have HE : Hid (k = 0 ∨ V = 0 → L.take k ++ S = R) := fun h0 => by rw [← HRR.out]; exact ad_fin HK3.out HAD.out h0
    cases k with
    | zero =>
      have x1 : ¬ (0 : Int) ≤ ((0 : Nat) : Int) - 1 := by omega
      have HR1 : Hid (EcRow wr b B (.slice a n c) R) := by show EcRow _ _ _ _ _; rw [← HE.out (.inl rfl)]; exact HR.out
      clear HE HR HAD
      go_wp2
      go_end0
      exact ⟨rfl, ⟨_, HB.out, HR1.out⟩, HW.out⟩
    | succ k =>
      have e0 : (((k + 1 : Nat) : Int) - 1) = (k : Int) := by omega
      rw [e0]
      have x1 : (0 : Int) ≤ (k : Int) := by omega
      by_cases hV0 : V = 0
      · have x2 : ¬ (0 : Int) < (V : Int) := by omega
        have HR1 : Hid (EcRow wr b B (.slice a n c) R) := by show EcRow _ _ _ _ _; rw [← HE.out (.inr hV0)]; exact HR.out
        clear HE HR HAD
        go_wp2
        go_end0
        exact ⟨rfl, ⟨_, HB.out, HR1.out⟩, HW.out⟩
      · have x2 : (0 : Int) < (V : Int) := by omega
        obtain ⟨x, hx⟩ : ∃ x, L[k]? = some x := ⟨_, List.getElem?_eq_getElem (by rw [HN.out]; omega)⟩
        have hx2 : x < 256 := HK3.out x (List.mem_of_getElem? hx)
        obtain ⟨hs1, hs2⟩ := ad_step HAD.out hx
        have hxx : (L.take (k + 1) ++ S)[k]? = some x := by
          rw [List.getElem?_append_left (by rw [List.length_take, HN.out]; omega), List.getElem?_take]
          simp [hx]
        obtain ⟨g, cap, e, hgb, -, cg, fg⟩ := er_cell HR.out hxx
        simp only [Value.slice.injEq] at e
        obtain ⟨rfl, -, rfl⟩ := e
        have hkl : k + 1 ≤ L.length := by rw [HN.out]; exact hk
        obtain ⟨hs3, hs4⟩ := er_set HR.out (by simp only [List.length_append, List.length_take, List.length_cons]; omega) hs2
        obtain ⟨Z, hZ⟩ : ∃ Z, (V + x) % 256 = Z := ⟨_, rfl⟩
        obtain ⟨Q, hQ⟩ : ∃ Q, (V + x) / 256 = Q := ⟨_, rfl⟩
        rw [hZ] at hs1 hs3 hs4
        rw [hQ] at hs1
        have s1 : IntKind.i64.wrap ((V : Int) + (x : Int)) = ((V + x : Nat) : Int) := by rw [IntKind.wrap_i64]; omega
        have s2 : IntKind.u8.wrap ((V + x : Nat) : Int) = (Z : Int) := by rw [IntKind.wrap_u8]; omega
        have s3 : ((V + x : Nat) : Int) / 256 = (Q : Int) := by omega
        have s4 : IntKind.i64.wrap (x : Int) = (x : Int) := by rw [IntKind.wrap_i64]; omega
        have s5 : IntKind.i64.wrap ((k : Int) - 1) = (k : Int) - 1 := by rw [IntKind.wrap_i64]; omega
        have hQ4 : Q < 4294967296 := by omega
        have x3 : (k : Int) < (n : Int) := by omega
        have HAD2 := Lib.hid hs1
        have HR2 := Lib.hid hs3
        have HW2 := Lib.hid (HW.out.trans hs4)
        have HB2 := Lib.hid (HB.out.same (w' := wr.setCell ⟨g, k, none⟩ (.int .u8 (Z : Int))) (Below.heap_setCell _ _ _ _ (fun e => hgb e.symm)))
        generalize V + x = VX at s1 s2 s3
        clear hs1 hs2 hs3 hs4 hx hxx hkl HAD HR HW HE hZ hQ
        go_wp2
        go_roundw
        case rel => exact ⟨k, Q, _, by omega, hQ4, rfl, rfl, HAD2.out, HB2.out, HR2.out, HW2.out⟩
        case measure => simp [intOf]
end Go.Proofs.YtpofabebmeickaaGreatDoor

/- kinref12.Encoder: narrows, Flat, Code: contracts over this seat's translation. -/
namespace Go.Proofs.YtpofabebmeickaaGreatDoor
set_option linter.unusedVariables false
set_option linter.unusedSimpArgs false
open Go.RowKit Go.Extern.Stop Go.Stop Go.Extern

theorem midX'_ok {N w : Nat} {s : Xe} {up : Bool} (h : okX' N s) (hw : w ≤ s.rr) : okX' N (midX' s w up) ∧ (midX' s w up).rr = if up then s.rr - w else w := by
  obtain ⟨h1, h2, h3⟩ := h
  cases up
  · exact ⟨⟨h1, by show w < _; omega, h3⟩, rfl⟩
  · refine ⟨⟨?_, by show s.rr - w < _; omega, adX_lt _ _⟩, rfl⟩
    show (adX s.bs w).1.length ≤ N
    rw [adX_len]
    exact h1
theorem stpX'_ok {N : Nat} {s : Xe} (h : okX' N s) (hw : s.rr < 16777216) : okX' (N + 1) (stpX' s) := by
  obtain ⟨h1, h2, h3⟩ := h
  refine ⟨?_, by show s.rr * 256 < _; omega, fun x hx => ?_⟩
  · show (s.bs ++ [0]).length ≤ _
    rw [List.length_append]
    exact Nat.add_le_add_right h1 1
  · rcases List.mem_append.1 hx with hx | hx
    · exact h3 x hx
    · rw [List.mem_singleton.1 hx]; decide
theorem okX'.mono {N M : Nat} {s : Xe} (h : okX' N s) (k : N ≤ M) : okX' M s := ⟨Nat.le_trans h.1 k, h.2⟩
theorem xe_push {W w' : World} {b n : Nat} {B : Nat → Prop} {v v' : Value} {r x : Nat} {xs : List Nat} (hB : XeBox W b v r) (hR : EcRow W b B v xs) (hn : xs.length = n) (h1 : w'.ownsRow 0 5 1 v' (n + 1) (byC xs ++ [.int .u8 (x : Int)])) (h2 : W.grownBy w' v.ownBlock) (hf : ∀ g, v'.ownBlock = some g → v.ownBlock = some g ∨ W.heap.size ≤ g) :
    XeBox w' b v r ∧ XeBox (w'.setCell ⟨b, 0, none⟩ v') b v' r ∧ EcRow (w'.setCell ⟨b, 0, none⟩ v') b B v' (xs ++ [x]) ∧ PKp b B W (w'.setCell ⟨b, 0, none⟩ v') := by
  obtain ⟨r1, r2, r3, r4⟩ := hR
  have hbl : w'.heap[b]? = W.heap[b]? := h2.block b hB.lt (fun e => r2 _ e.symm r3)
  have hv : ∀ g, v'.ownBlock = some g → ¬ B g := fun g hg hb => (hf g hg).elim (fun h => r2 g h hb) (fun h => by have := r4 g hb; omega)
  have h3 : w'.ownsRow 0 5 1 v' (xs ++ [x]).length (byC (xs ++ [x])) := by
    rw [List.length_append, hn]
    have : byC (xs ++ [x]) = byC xs ++ [.int .u8 (x : Int)] := by simp [byC]
    rw [this]
    exact h1
  exact ⟨hB.same hbl, (hB.same hbl).set0 v', ⟨own_set_ne h3 _ (fun e => hv _ e r3), hv, r3, fun g hg => by simpa using Nat.lt_of_lt_of_le (r4 g hg) h2.size⟩, (own_apartP (b := b) r1 r2 h2).trans (PKp.of_kp ((Kp.refl b w').set 0 v'))⟩
theorem XeAt.lt {w : World} {b : Nat} {B : Nat → Prop} {s : Xe} (h : XeAt w b B s) : b < w.heap.size := by obtain ⟨_, h, _⟩ := h; exact h.lt
theorem XeAt.wide {w : World} {b : Nat} {B : Nat → Prop} {s : Xe} (h : XeAt w b B s) (k : Nat) : XeAt (w.setCell ⟨b, 1, none⟩ (.int .i64 (k : Int))) b B { s with rr := k } := by
  obtain ⟨v, h1, h2⟩ := h
  exact ⟨v, h1.set1 k, h2.set 1 _⟩
set_option maxRecDepth 20000 in
set_option maxHeartbeats 4000000 in
theorem xnarr_any (b : Nat) (B : Nat → Prop) (N wd : Nat) (up : Bool) (s : Xe) (w : World) (h : XeAt w b B s) (hk : okX' N s) (hN : N ≤ 90000000) (h1 : 1 ≤ wd) (h2 : wd < s.rr) : Calls Tryz.prog 108 #[.pointer (some ⟨b, 0, none⟩), .int .i64 (wd : Int), .bool up] w (XePost w b B (parX' s wd up)) := by
  obtain ⟨R, hR⟩ : ∃ R, parX' s wd up = R := ⟨_, rfl⟩
  rw [hR]
  have hok := midX'_ok (up := up) hk (Nat.le_of_lt h2)
  have hwd : 16777216 ≤ (midX' s wd up).rr * 256 ^ 3 := by
    rw [hok.2]
    show 16777216 ≤ _ * 16777216
    split <;> omega
  have HMK : Hid (okX' N (midX' s wd up) ∧ nrmX' 3 (midX' s wd up) = R ∧ 16777216 ≤ (midX' s wd up).rr * 256 ^ 3) := ⟨hok.1, hR, hwd⟩
  have k5 := hk.2.1
  clear hok hR hwd
  cases up
  · have HA2 := Lib.hid (h.wide wd)
    have HK2 : Hid (okX' N { s with rr := wd } ∧ nrmX' 3 { s with rr := wd } = R ∧ 16777216 ≤ wd * 256 ^ 3) := HMK.out
    have HW2 := Lib.hid (PKp.of_kp (B := B) ((Kp.refl b w).set 1 (.int .i64 (wd : Int))))
    obtain ⟨v, ⟨⟨c0, c1⟩, f0, f1⟩, -⟩ := h
    clear hk HMK k5 h1 h2 c0
    go_enter Tryz.func108, Tryz.ntmps108
    -- in hand: w2, s2; HA2 : XeAt w2 b B s2; HK2 : okX' N s2, nrmX' 3 s2 = R, wide; HW2 : PKp b B w w2
    go_wp2_with fail
    go_loopg [] (3) (fun f wr => ∃ t : Xe, Hid (XeAt wr b B t) ∧ Hid (f ≤ 3 ∧ okX' (N + (3 - f)) t ∧ nrmX' f t = R ∧ 16777216 ≤ t.rr * 256 ^ f) ∧ Hid (PKp b B w wr))
    case atStart => exact ⟨_, HA2.out, ⟨Nat.le_refl _, HK2.out⟩, HW2.out⟩
    case round =>
      clear HA2 HK2 HW2
      obtain ⟨t, HA, HK, HW⟩ := hrel
      obtain ⟨u, hB3, hR3⟩ := HA.out
      have k3 : t.rr < 4294967296 := HK.out.2.1.2.1
      obtain ⟨a3, cap3, rfl⟩ := hR3.form
      obtain ⟨⟨c0, c1⟩, f0, f1⟩ := id hB3
      obtain ⟨D, hD⟩ : ∃ D, t.rr = D := ⟨_, rfl⟩
      rw [hD] at c1 k3 hB3
      have HD := Lib.hid hD
      by_cases hlt : D < 16777216
      · have x1 : (D : Int) < 16777216 := by omega
        have s1 : IntKind.i64.wrap ((D : Int) * 256) = ((D * 256 : Nat) : Int) := by rw [IntKind.wrap_i64]; omega
        obtain ⟨D2, hD2⟩ : ∃ D2, D * 256 = D2 := ⟨_, rfl⟩
        rw [hD2] at s1
        obtain ⟨j1, j2, j3, j4⟩ := HK.out
        have hg : ∃ g, gk = g + 1 := by
          cases gk with
          | zero => exfalso; have := HD.out; simp at j4; omega
          | succ g => exact ⟨g, rfl⟩
        obtain ⟨g, rfl⟩ := hg
        have j5 : nrmX' g (stpX' t) = R := by
          rw [← j3]
          show _ = (if t.rr < 16777216 then nrmX' g (stpX' t) else t)
          rw [if_pos (by rw [hD]; exact hlt)]
        have j6 : 16777216 ≤ (stpX' t).rr * 256 ^ g := by
          show 16777216 ≤ t.rr * 256 * 256 ^ g
          rw [Nat.mul_assoc, ← Nat.pow_succ']
          exact j4
        have j7 := stpX'_ok j2 (by rw [hD]; exact hlt)
        have HJ : Hid (g ≤ 3 ∧ okX' (N + (3 - g)) (stpX' t) ∧ nrmX' g (stpX' t) = R ∧ 16777216 ≤ (stpX' t).rr * 256 ^ g) := ⟨by omega, by rw [show N + (3 - g) = N + (3 - (g + 1)) + 1 by omega]; exact j7, j5, j6⟩
        have HST : Hid (stpX' t = ⟨t.bs ++ [0], D2⟩) := by show _ = _; unfold stpX'; rw [hD, hD2]
        obtain ⟨E, hE⟩ : ∃ E, t.bs = E := ⟨_, rfl⟩
        have hEn : E.length ≤ 100000000 := by rw [← hE]; have := j2.1; omega
        rw [hE] at hR3 hB3 c0 HST
        have HB3 := Lib.hid hB3
        have HR3 := Lib.hid hR3
        obtain ⟨n, hn⟩ : ∃ n, E.length = n := ⟨_, rfl⟩
        have HN := Lib.hid hn
        rw [hn] at c0 HB3 HR3 hEn
        have HRO : Hid (wr.ownsRow 0 5 1 (.slice a3 n cap3) n (byC E)) := by have := HR3.out.1; rw [hn] at this; exact this
        clear hD2 j1 j2 j3 j4 j5 j6 j7 hB3 hR3 hD hE hn HA
        go_wp2_with (at_builtin; refine push_u8f rfl _ _ 53 rfl Tryz.underlying53 (.slice a3 n cap3) n _ 0 (by rfl) HRO.out (by rfl) (by omega) ?_; intro g8 cp8 w8 h1 h2 hf; obtain ⟨HBa, HBb, HRb, HKb⟩ := xe_push HB3.out HR3.out HN.out h1 h2 hf; have HBA := Lib.hid HBa; have HBB := Lib.hid HBb; have HRB := Lib.hid HRb; have HKB := Lib.hid HKb; obtain ⟨⟨a0, a1⟩, z0, z1⟩ := HBA.out; obtain ⟨⟨b0, b1⟩, y0, y1⟩ := HBB.out; clear h1 h2 hf HBa HBb HRb HKb)
        have HAf : Hid (XeAt _ b B ⟨E ++ [0], D⟩) := ⟨_, HBB.out, HRB.out⟩
        have HDf := Lib.hid (HAf.out.wide D2)
        have HKf := Lib.hid ((HW.out.trans HKB.out).trans (PKp.of_kp ((Kp.refl b _).set 1 (.int .i64 (D2 : Int)))))
        go_roundg (g)
        all_goals first
          | exact ⟨stpX' t, by rw [HST.out]; exact HDf.out, HJ.out, HKf.out⟩
          | omega
      · have x1 : ¬ (D : Int) < 16777216 := by omega
        have HR : Hid (t = R) := by
          show _ = _
          rw [← HK.out.2.2.1]
          cases gk with
          | zero => rfl
          | succ g => show _ = (if t.rr < 16777216 then _ else t); rw [if_neg (by rw [HD.out]; exact hlt)]
        clear hB3 hR3 hD
        go_wp2
        go_end0
        exact ⟨rfl, by rw [← HR.out]; exact HA.out, HW.out⟩
  · have UA := Lib.hid (xadd_any b B N wd s w h hk (by omega) (by omega))
    obtain ⟨d, hd⟩ : ∃ d, s.rr = d := ⟨_, rfl⟩
    obtain ⟨d1, hd1⟩ : ∃ d1, d - wd = d1 := ⟨_, rfl⟩
    have s2 : IntKind.i64.wrap ((d : Int) - (wd : Int)) = (d1 : Int) := by rw [IntKind.wrap_i64]; omega
    obtain ⟨L2, hL2⟩ : ∃ L2, (adX s.bs wd).1 = L2 := ⟨_, rfl⟩
    rw [hL2, hd] at UA
    have HK2 : Hid (okX' N ⟨L2, d1⟩ ∧ nrmX' 3 ⟨L2, d1⟩ = R ∧ 16777216 ≤ d1 * 256 ^ 3) := by
      have := HMK.out
      have e : midX' s wd true = ⟨L2, d1⟩ := by show (⟨(adX s.bs wd).1, s.rr - wd⟩ : Xe) = _; rw [hL2, hd, hd1]
      rw [e] at this
      exact this
    clear h hk HMK k5 h1 h2 hd hd1 hL2
    go_enter Tryz.func108, Tryz.ntmps108
    go_wp2_with fail
    refine (UA.out).mono ?_; rintro e w7 ⟨rfl, hA7, hW7⟩
    have HA2 := Lib.hid (hA7.wide d1)
    have HW2 := Lib.hid (hW7.trans (PKp.of_kp (B := B) ((Kp.refl b w7).set 1 (.int .i64 (d1 : Int)))))
    obtain ⟨v, ⟨⟨c0, c1⟩, f0, f1⟩, -⟩ := hA7
    clear hW7 c0
    -- in hand: w2, s2; HA2 : XeAt w2 b B s2; HK2 : okX' N s2, nrmX' 3 s2 = R, wide; HW2 : PKp b B w w2
    go_wp2_with fail
    go_loopg [] (3) (fun f wr => ∃ t : Xe, Hid (XeAt wr b B t) ∧ Hid (f ≤ 3 ∧ okX' (N + (3 - f)) t ∧ nrmX' f t = R ∧ 16777216 ≤ t.rr * 256 ^ f) ∧ Hid (PKp b B w wr))
    case atStart => exact ⟨_, HA2.out, ⟨Nat.le_refl _, HK2.out⟩, HW2.out⟩
    case round =>
      clear HA2 HK2 HW2
      obtain ⟨t, HA, HK, HW⟩ := hrel
      obtain ⟨u, hB3, hR3⟩ := HA.out
      have k3 : t.rr < 4294967296 := HK.out.2.1.2.1
      obtain ⟨a3, cap3, rfl⟩ := hR3.form
      obtain ⟨⟨c0, c1⟩, f0, f1⟩ := id hB3
      obtain ⟨D, hD⟩ : ∃ D, t.rr = D := ⟨_, rfl⟩
      rw [hD] at c1 k3 hB3
      have HD := Lib.hid hD
      by_cases hlt : D < 16777216
      · have x1 : (D : Int) < 16777216 := by omega
        have s1 : IntKind.i64.wrap ((D : Int) * 256) = ((D * 256 : Nat) : Int) := by rw [IntKind.wrap_i64]; omega
        obtain ⟨D2, hD2⟩ : ∃ D2, D * 256 = D2 := ⟨_, rfl⟩
        rw [hD2] at s1
        obtain ⟨j1, j2, j3, j4⟩ := HK.out
        have hg : ∃ g, gk = g + 1 := by
          cases gk with
          | zero => exfalso; have := HD.out; simp at j4; omega
          | succ g => exact ⟨g, rfl⟩
        obtain ⟨g, rfl⟩ := hg
        have j5 : nrmX' g (stpX' t) = R := by
          rw [← j3]
          show _ = (if t.rr < 16777216 then nrmX' g (stpX' t) else t)
          rw [if_pos (by rw [hD]; exact hlt)]
        have j6 : 16777216 ≤ (stpX' t).rr * 256 ^ g := by
          show 16777216 ≤ t.rr * 256 * 256 ^ g
          rw [Nat.mul_assoc, ← Nat.pow_succ']
          exact j4
        have j7 := stpX'_ok j2 (by rw [hD]; exact hlt)
        have HJ : Hid (g ≤ 3 ∧ okX' (N + (3 - g)) (stpX' t) ∧ nrmX' g (stpX' t) = R ∧ 16777216 ≤ (stpX' t).rr * 256 ^ g) := ⟨by omega, by rw [show N + (3 - g) = N + (3 - (g + 1)) + 1 by omega]; exact j7, j5, j6⟩
        have HST : Hid (stpX' t = ⟨t.bs ++ [0], D2⟩) := by show _ = _; unfold stpX'; rw [hD, hD2]
        obtain ⟨E, hE⟩ : ∃ E, t.bs = E := ⟨_, rfl⟩
        have hEn : E.length ≤ 100000000 := by rw [← hE]; have := j2.1; omega
        rw [hE] at hR3 hB3 c0 HST
        have HB3 := Lib.hid hB3
        have HR3 := Lib.hid hR3
        obtain ⟨n, hn⟩ : ∃ n, E.length = n := ⟨_, rfl⟩
        have HN := Lib.hid hn
        rw [hn] at c0 HB3 HR3 hEn
        have HRO : Hid (wr.ownsRow 0 5 1 (.slice a3 n cap3) n (byC E)) := by have := HR3.out.1; rw [hn] at this; exact this
        clear hD2 j1 j2 j3 j4 j5 j6 j7 hB3 hR3 hD hE hn HA
        go_wp2_with (at_builtin; refine push_u8f rfl _ _ 53 rfl Tryz.underlying53 (.slice a3 n cap3) n _ 0 (by rfl) HRO.out (by rfl) (by omega) ?_; intro g8 cp8 w8 h1 h2 hf; obtain ⟨HBa, HBb, HRb, HKb⟩ := xe_push HB3.out HR3.out HN.out h1 h2 hf; have HBA := Lib.hid HBa; have HBB := Lib.hid HBb; have HRB := Lib.hid HRb; have HKB := Lib.hid HKb; obtain ⟨⟨a0, a1⟩, z0, z1⟩ := HBA.out; obtain ⟨⟨b0, b1⟩, y0, y1⟩ := HBB.out; clear h1 h2 hf HBa HBb HRb HKb)
        have HAf : Hid (XeAt _ b B ⟨E ++ [0], D⟩) := ⟨_, HBB.out, HRB.out⟩
        have HDf := Lib.hid (HAf.out.wide D2)
        have HKf := Lib.hid ((HW.out.trans HKB.out).trans (PKp.of_kp ((Kp.refl b _).set 1 (.int .i64 (D2 : Int)))))
        go_roundg (g)
        all_goals first
          | exact ⟨stpX' t, by rw [HST.out]; exact HDf.out, HJ.out, HKf.out⟩
          | omega
      · have x1 : ¬ (D : Int) < 16777216 := by omega
        have HR : Hid (t = R) := by
          show _ = _
          rw [← HK.out.2.2.1]
          cases gk with
          | zero => rfl
          | succ g => show _ = (if t.rr < 16777216 then _ else t); rw [if_neg (by rw [HD.out]; exact hlt)]
        clear hB3 hR3 hD
        go_wp2
        go_end0
        exact ⟨rfl, by rw [← HR.out]; exact HA.out, HW.out⟩
set_option maxRecDepth 20000 in
set_option maxHeartbeats 4000000 in
theorem xeflat_any (b : Nat) (B : Nat → Prop) (N : Nat) (up : Bool) (s : Xe) (w : World) (h : XeAt w b B s) (hk : okX' N s) (hN : N ≤ 90000000) (hw : 16777216 ≤ s.rr) : Calls Tryz.prog 94 #[.pointer (some ⟨b, 0, none⟩), .bool up] w (XePost w b B (parX' s (s.rr / 2) up)) := by
  have UP := Lib.hid (xnarr_any b B N (s.rr / 2) up s w h hk hN (by omega) (by omega))
  obtain ⟨v, ⟨⟨c0, c1⟩, f0, f1⟩, -⟩ := h
  obtain ⟨R, hR⟩ : ∃ R, parX' s (s.rr / 2) up = R := ⟨_, rfl⟩
  rw [hR] at UP ⊢
  have hd4 := hk.2.1
  obtain ⟨d, hd⟩ : ∃ d, s.rr = d := ⟨_, rfl⟩
  rw [hd] at c1 UP hd4
  obtain ⟨q, hq⟩ : ∃ q, d / 2 = q := ⟨_, rfl⟩
  have s1 : Int.tdiv (d : Int) 2 = (q : Int) := by rw [← hq, show (2 : Int) = ((2 : Nat) : Int) from rfl, Int.ofNat_tdiv]
  have s2 : IntKind.i64.wrap (q : Int) = (q : Int) := by rw [IntKind.wrap_i64]; omega
  rw [hq] at UP
  clear hR hd hq hk hw c0
  go_enter Tryz.func94, Tryz.ntmps94
  go_wp2_with fail
  refine (UP.out).mono ?_; rintro e w7 ⟨rfl, hA7, hW7⟩
  go_wp2
  go_end0
  exact ⟨rfl, hA7, hW7⟩
theorem chance_of {p : Int} (h : ¬ chance p = true) : p < 1 ∨ (¬ p < 1 ∧ 2047 < p) := by
  by_cases h1 : p < 1
  · exact .inl h1
  · refine .inr ⟨h1, ?_⟩
    refine Int.lt_of_not_ge fun h2 => h ?_
    unfold chance
    rw [decide_eq_true (by omega : 1 ≤ p), decide_eq_true (by omega : p < 2048)]
    rfl
theorem PKp.setNew {b : Nat} {B : Nat → Prop} {u v : World} (h : PKp b B u v) {p : Addr} (hp : u.heap.size ≤ p.block) (x : Value) : PKp b B u (v.setCell p x) :=
  ⟨⟨h.1.1, h.1.2.1, h.1.2.2⟩, by simpa using h.2.1, fun i hi hn hb => (Below.heap_setCell v p x i (by omega)).trans (h.2.2 i hi hn hb)⟩
theorem ResAt.pkp {w w' : World} {C b : Nat} {B : Nat → Prop} (h : ResAt w C) (k : PKp b B w w') (hb : C ≠ b) (hC : ¬ u8Blk w C) : ResAt w' C := by
  obtain ⟨h0, h1, h2, h3⟩ := h
  have e := k.2.2 C (Ext.lt (p := ⟨C, 0, none⟩) h0) hb (.inr hC)
  exact ⟨(World.cell?_of_block (a := ⟨C, 0, none⟩) e).trans h0, (World.cell?_of_block (a := ⟨C, 1, none⟩) e).trans h1, (World.frozen?_of_block (a := ⟨C, 0, none⟩) e).trans h2, (World.frozen?_of_block (a := ⟨C, 1, none⟩) e).trans h3⟩
theorem EcRow.ne8 {w : World} {b C : Nat} {B : Nat → Prop} {v : Value} {xs : List Nat} (h : EcRow w b B v xs) (hC : ¬ u8Blk w C) : v.ownBlock ≠ some C := by
  rcases h.1.2 with ⟨rfl, -⟩ | ⟨g, cap, cur, rfl, -, hg, -⟩
  · intro e; simp [Value.ownBlock] at e
  · intro e
    simp only [Value.ownBlock, Option.some.injEq] at e
    subst e
    exact hC ⟨cur, (0, 0), hg⟩
theorem EcRow.kpo {w w' : World} {b C : Nat} {B : Nat → Prop} {v : Value} {xs : List Nat} (h : EcRow w b B v xs) (k : Kp C w w') (hC : ¬ u8Blk w C) : EcRow w' b B v xs :=
  ⟨h.1.kept (row := some C) k (.inr (h.ne8 hC)), h.2.1, h.2.2.1, fun g hg => Nat.lt_of_lt_of_le (h.2.2.2 g hg) k.size⟩
theorem XeAt.kpo {w w' : World} {b C : Nat} {B : Nat → Prop} {s : Xe} (h : XeAt w b B s) (k : Kp C w w') (hb : b ≠ C) (hC : ¬ u8Blk w C) : XeAt w' b B s := by
  obtain ⟨v, h1, h2⟩ := h
  exact ⟨v, h1.same (k.block h1.lt hb), h2.kpo k hC⟩
theorem PKp.no8 {b C : Nat} {B : Nat → Prop} {w w' : World} (k : PKp b B w w') (hC : ¬ u8Blk w C) (hs : C < w.heap.size) (hb : C ≠ b) : ¬ u8Blk w' C := fun ⟨cs, fr, e⟩ => hC ⟨cs, fr, by rw [← k.2.2 C hs hb (.inr hC)]; exact e⟩
/-- a document's error of a chance, in whatever world -/
def chC (p : Int) : Int := if chance p then 0 else 3
def XcPost (w : World) (b : Nat) (B : Nat → Prop) (p : Int) (s : Xe) (e : Ending) (w' : World) : Prop := e = .returned (.agg #[.int .i64 (chC p), .slice none 0 0]) ∧ XeAt w' b B s ∧ PKp b B w w'
set_option maxRecDepth 20000 in
set_option maxHeartbeats 4000000 in
theorem xecode_any (b : Nat) (B : Nat → Prop) (N : Nat) (p : Int) (up : Bool) (s : Xe) (w : World) (h : XeAt w b B s) (hk : okX' N s) (hN : N ≤ 90000000) (hw : 16777216 ≤ s.rr) : Calls Tryz.prog 96 #[.pointer (some ⟨b, 0, none⟩), .int .i64 p, .bool up] w (XcPost w b B p (codX' s p up)) := by
  have A1 : Ext w (w.alloc (.cells #[.int .i64 0, .slice none 0 0] 46)) := (Ext.refl w).alloc _
  have HA1 := Lib.hid (h.ext A1)
  have HR1 := Lib.hid (ResAt.new w)
  have HK1 := Lib.hid (PKp.of_ext (b := b) (B := B) A1)
  have hbw : b < w.heap.size := h.lt
  have hRb : w.heap.size ≠ b := by omega
  have hbR : b ≠ w.heap.size := by omega
  have HU1 : Hid (¬ u8Blk (w.alloc (.cells #[.int .i64 0, .slice none 0 0] 46)) w.heap.size) := by
    rintro ⟨cs, fr, e⟩
    rw [heap_alloc_new] at e
    simp at e
  by_cases hc : chance p = true
  · have HF : Hid (chC p = 0) := if_pos hc
    have HS : Hid (codX' s p up = parX' s (s.rr / 2048 * p.toNat) up) := if_pos hc
    have hc2 := hc
    unfold chance at hc2
    rw [Bool.and_eq_true, decide_eq_true_iff, decide_eq_true_iff] at hc2
    obtain ⟨n, rfl⟩ : ∃ n : Nat, p = (n : Int) := ⟨p.toNat, by omega⟩
    have hn : ((n : Int)).toNat = n := by omega
    rw [hn] at HS
    obtain ⟨d, hd⟩ : ∃ d, s.rr = d := ⟨_, rfl⟩
    obtain ⟨q, hq⟩ : ∃ q, d / 2048 = q := ⟨_, rfl⟩
    obtain ⟨W, hW⟩ : ∃ W, q * n = W := ⟨_, rfl⟩
    have hd4 : d < 4294967296 := by rw [← hd]; exact hk.2.1
    have h1 : q * n ≤ q * 2047 := Nat.mul_le_mul_left q (by omega)
    have h2 : q * 1 ≤ q * n := Nat.mul_le_mul_left q (by omega)
    have UP := Lib.hid (xnarr_any b B N W up s _ HA1.out hk hN (by omega) (by omega))
    rw [hd, hq, hW] at HS
    rw [← HS.out] at UP
    have s1 : Int.tdiv (d : Int) 2048 = (q : Int) := by rw [← hq, show (2048 : Int) = ((2048 : Nat) : Int) from rfl, Int.ofNat_tdiv]
    have s2 : IntKind.i64.wrap (q : Int) = (q : Int) := by rw [IntKind.wrap_i64]; omega
    have s4 : IntKind.i64.wrap ((q : Int) * (n : Int)) = (W : Int) := by rw [← Int.natCast_mul, hW, IntKind.wrap_i64]; omega
    have p1 : ¬ (n : Int) < 1 := by omega
    have p2 : ¬ (2047 : Int) < (n : Int) := by omega
    obtain ⟨v, ⟨⟨c0, c1⟩, f0, f1⟩, -⟩ := HA1.out
    rw [hd] at c1
    obtain ⟨R, hR⟩ : ∃ R, codX' s (n : Int) up = R := ⟨_, rfl⟩
    rw [hR] at UP ⊢
    clear hR HS hn hc2 hd hq hW hk hw h1 h2 c0 hc h
    go_enter Tryz.func96, Tryz.ntmps96
    go_wp2_with fail
    refine (UP.out).mono ?_; rintro e w7 ⟨rfl, hA7, hW7⟩
    obtain ⟨r0, r1, r2, r3⟩ := HR1.out.pkp hW7 hRb HU1.out
    have HKf := Lib.hid (((HK1.out.trans hW7).setNew (p := ⟨w.heap.size, 0, none⟩) (Nat.le_refl _) (.int .i64 0)).setNew (p := ⟨w.heap.size, 1, none⟩) (Nat.le_refl _) (.slice none 0 0))
    have HXf := Lib.hid (hA7.kpo (((Kp.refl w.heap.size w7).set 0 (.int .i64 0)).set 1 (.slice none 0 0)) hbR (hW7.no8 HU1.out (by simp) hRb))
    obtain ⟨y0, y1⟩ := res_cells (c := 0) r0 r1 (.slice none 0 0)
    clear hA7 hW7
    go_wp2
    exact bodyPost_ret (v := .agg #[.int .i64 0, .slice none 0 0]) (by simp [results, Tryz.results96, go_sem, y0, y1]) rfl ⟨by rw [HF.out], HXf.out, HKf.out⟩
  · have hpp := chance_of hc
    have hc : chance p = false := by simpa using hc
    have HF : Hid (chC p = 3) := by show (if chance p then _ else _) = _; rw [hc]; rfl
    have HS : Hid (codX' s p up = s) := by show (if chance p then _ else _) = _; rw [hc]; rfl
    clear h hk hw hc
    rcases hpp with p1 | ⟨p1, p2⟩
    all_goals (
      go_enter Tryz.func96, Tryz.ntmps96
      go_wp2_with fail
      refine (fail_any 3 _).mono ?_; rintro e w7 ⟨rfl, hx7⟩
      obtain ⟨r0, r1, r2, r3⟩ := HR1.out.ext hx7
      have HKf := Lib.hid (((HK1.out.ext hx7).setNew (p := ⟨w.heap.size, 0, none⟩) (Nat.le_refl _) (.int .i64 3)).setNew (p := ⟨w.heap.size, 1, none⟩) (Nat.le_refl _) (.slice none 0 0))
      have HXf := Lib.hid ((HA1.out.ext hx7).kpo (((Kp.refl w.heap.size w7).set 0 (.int .i64 3)).set 1 (.slice none 0 0)) hbR ((PKp.of_ext (b := b) (B := B) hx7).no8 HU1.out (by simp) hRb))
      obtain ⟨y0, y1⟩ := res_cells (c := 3) r0 r1 (.slice none 0 0)
      clear hx7
      go_wp2
      exact bodyPost_ret (v := .agg #[.int .i64 3, .slice none 0 0]) (by simp [results, Tryz.results96, go_sem, y0, y1]) rfl ⟨by rw [HF.out], by rw [HS.out]; exact HXf.out, HKf.out⟩)
end Go.Proofs.YtpofabebmeickaaGreatDoor

