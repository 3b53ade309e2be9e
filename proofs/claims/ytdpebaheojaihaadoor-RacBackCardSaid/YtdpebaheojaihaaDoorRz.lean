/- kinlaw12.codes; RacZeros: the walk. -/
import Derived.Test.YtdpebaheojaihaaDoorRf1
import Derived.Test.YtdpebaheojaihaaDoorOpT
namespace Go.Proofs.YtdpebaheojaihaaDoor
set_option linter.unusedVariables false
set_option linter.unusedSimpArgs false
open Go.RowKit Go.Extern.Stop Go.Stop Go.Extern

def nxO (s : Ec) (o : Ot) : Ec := if o.1 = 0 then parE s (s.wid / 2) o.2 else codE s o.1 o.2
def okO (o : Ot) : Bool := decide (o.1 = 0) || chance o.1
theorem nxO_ok {N : Nat} {o : Ot} {s : Ec} (hk : okE N s) (hw : 16777216 ≤ s.wid) : okE (N + 4) (nxO s o) ∧ 16777216 ≤ (nxO s o).wid := by
  unfold nxO
  split
  · exact flaE_ok hk hw
  · exact codE_ok hk hw
def CoPost (w : World) (b B : Nat) (v : Bool) (s : Ec) (e : Ending) (w' : World) : Prop := e = .returned (.bool v) ∧ EcAt w' b B s ∧ WKp b B w w'
set_option maxRecDepth 20000 in
set_option maxHeartbeats 4000000 in
theorem codes_any (b B N : Nat) (p : Int) (up : Bool) (s : Ec) (w : World) (h : EcAt w b B s) (hk : okE N s) (hN : N ≤ 900000) (hw : 16777216 ≤ s.wid) : Calls Tryd.prog 31 #[.pointer (some ⟨b, 0, none⟩), .agg #[.int .i64 p, .bool up]] w (CoPost w b B (okO (p, up)) (nxO s (p, up))) := by
  have A1 : Ext w (w.alloc (.cells #[.int .i64 p, .bool up] 29)) := (Ext.refl w).alloc _
  have HA := Lib.hid (h.ext A1)
  have HW := Lib.hid (WKp.of_ext (b := b) (B := B) A1)
  by_cases hp : p = 0
  · have HS : Hid (nxO s (p, up) = parE s (s.wid / 2) up) := if_pos hp
    have HO : Hid (okO (p, up) = true) := by show (decide (p = 0) || _) = true; rw [decide_eq_true hp]; rfl
    have t1 : (p == 0) = true := by rw [beq_iff_eq]; exact hp
    have UF := Lib.hid (enflat_any b B N up s _ HA.out hk hN hw)
    rw [← HS.out] at UF
    obtain ⟨R, hR⟩ : ∃ R, nxO s (p, up) = R := ⟨_, rfl⟩
    rw [hR] at UF ⊢
    clear hR HS h hk hw A1 hp
    go_enter Tryd.func31, Tryd.ntmps31
    go_wp2_with fail
    refine (UF.out).mono ?_; rintro e w2 ⟨rfl, hA2, hW2⟩
    go_wp2
    go_ret
    exact ⟨by rw [HO.out]; rfl, hA2, HW.out.trans hW2⟩
  · have HS : Hid (nxO s (p, up) = codE s p up) := if_neg hp
    have HO : Hid (okO (p, up) = chance p) := by show (decide (p = 0) || _) = chance p; rw [decide_eq_false hp]; rfl
    have t1 : (p == 0) = false := by rw [beq_eq_false_iff_ne]; exact hp
    have UF := Lib.hid (encode_any b B N p up s _ HA.out hk hN hw)
    rw [← HS.out] at UF
    obtain ⟨R, hR⟩ : ∃ R, nxO s (p, up) = R := ⟨_, rfl⟩
    rw [hR] at UF ⊢
    clear hR HS h hk hw A1 hp
    cases hc : chance p with
    | true =>
      have HC := Lib.hid hc
      clear hc
      go_enter Tryd.func31, Tryd.ntmps31
      go_wp2_with fail
      refine (UF.out).mono ?_; rintro e w2 ⟨x, rfl, hx, hA2, hW2⟩
      rw [HC.out] at hx
      obtain rfl : x = .nilIface := hx
      go_wp2
      go_ret
      exact ⟨by rw [HO.out, HC.out]; rfl, hA2, HW.out.trans hW2⟩
    | false =>
      have HC := Lib.hid hc
      clear hc
      go_enter Tryd.func31, Tryd.ntmps31
      go_wp2_with fail
      refine (UF.out).mono ?_; rintro e w2 ⟨x, rfl, hx, hA2, hW2⟩
      rw [HC.out] at hx
      obtain ⟨tx, qx, rfl⟩ := ErrIs.ne (w := w2) (a := ([], 3)) hx
      go_wp2
      go_ret
      exact ⟨by rw [HO.out, HC.out]; rfl, hA2, HW.out.trans hW2⟩
/-- nothing but the lower part -/
def zI (s : Ec) (t : Dc) : Prop := s.low = 0 ∧ s.run = 0 ∧ (∀ x ∈ s.done, x = 0) ∧ (s.held = -1 ∨ s.held = 0) ∧ s.wid = t.wid ∧ lenE s = t.pos ∧ t.num = 0 ∧ t.over = false
theorem zI_step {s : Ec} {t : Dc} (h : zI s t) : zI (stpE s) (stpD [] t) := by
  obtain ⟨h1, h2, h3, h4, h5, h6, h7, h8⟩ := h
  obtain ⟨D, hd, r, l, d⟩ := s
  have k1 : l = 0 := h1
  have k2 : r = 0 := h2
  have k3 : ∀ x ∈ D, x = 0 := h3
  have k4 : hd = -1 ∨ hd = 0 := h4
  have k5 : d = t.wid := h5
  clear h1 h2 h3 h4 h5
  subst k1
  subst k2
  have e : stpE ⟨D, hd, 0, 0, d⟩ = ⟨D ++ hdE ⟨D, hd, 0, 0, d⟩, 0, 0, 0, d * 256⟩ := by simp [stpE, shfE]
  rw [e]
  refine ⟨rfl, rfl, fun x hx => ?_, .inr rfl, by show d * 256 = t.wid * 256; rw [← k5], ?_, ?_, h8⟩
  · rcases List.mem_append.1 hx with hx | hx
    · exact k3 x hx
    · unfold hdE at hx
      split at hx
      · rw [List.mem_singleton] at hx
        rcases k4 with k4 | k4
        · rename_i h; have h : 0 ≤ hd := h; omega
        · rw [hx]; show (hd % 256).toNat = 0; rw [k4]; rfl
      · cases hx
  · show lenE _ = t.pos + 1
    rw [← h6]
    rcases k4 with k4 | k4
    · subst k4
      show (D ++ []).length + 0 + 4 + 1 = D.length + 0 + 4 + 0 + 1
      rw [List.append_nil]
    · subst k4
      show (D ++ [0]).length + 0 + 4 + 1 = D.length + 0 + 4 + 1 + 1
      rw [List.length_append]
      rfl
  · show t.num * 256 % 18446744073709551616 + 0 = 0
    rw [h7]
theorem zI_nrm : ∀ (f : Nat) {s : Ec} {t : Dc}, zI s t → zI (nrmE f s) (nrmD [] f t)
  | 0, _, _, h => h
  | f + 1, s, t, h => by
    show zI (if s.wid < 16777216 then nrmE f (stpE s) else s) (if t.wid < 16777216 then nrmD [] f (stpD [] t) else t)
    have e : s.wid = t.wid := h.2.2.2.2.1
    by_cases hw : s.wid < 16777216
    · rw [if_pos hw, if_pos (by rw [← e]; exact hw)]
      exact zI_nrm f (zI_step h)
    · rw [if_neg hw, if_neg (by rw [← e]; exact hw)]
      exact h
theorem zI_part {s : Ec} {t : Dc} {w : Nat} (h : zI s t) (hw : 1 ≤ w) : zI (parE s w false) (parD [] t w) ∧ upD t w = false := by
  obtain ⟨h1, h2, h3, h4, h5, h6, h7, h8⟩ := h
  have hu : upD t w = false := by
    unfold upD
    rw [h7, h8, decide_eq_false (by omega)]
    rfl
  refine ⟨?_, hu⟩
  have e : midD t w = { t with wid := w } := by unfold midD; rw [hu]; rfl
  unfold parE parD
  rw [e]
  exact zI_nrm 3 (s := { s with wid := w }) ⟨h1, h2, h3, h4, rfl, h6, h7, h8⟩
theorem zI_new : zI newE (newD []) := ⟨rfl, rfl, fun x hx => (by cases hx), .inl rfl, (by decide +kernel), (by decide +kernel), (by decide +kernel), (by decide +kernel)⟩
theorem zI_op {s : Ec} {t : Dc} (p : Int) (h : zI s t) (hw : 16777216 ≤ s.wid) : zI (nxO s (p, false)) (if p = 0 then parD [] t (t.wid / 2) else codD [] t p) ∧ upD t (t.wid / 2) = false ∧ codU t p = false := by
  have e : s.wid = t.wid := h.2.2.2.2.1
  have hf := zI_part (w := t.wid / 2) h (by omega)
  refine ⟨?_, hf.2, ?_⟩
  · unfold nxO
    by_cases hp : p = 0
    · rw [if_pos hp, if_pos hp, e]
      exact hf.1
    · rw [if_neg hp, if_neg hp]
      unfold codE codD
      by_cases hc : chance p = true
      · obtain ⟨c1, c2⟩ := chance_nat hc
        rw [if_pos hc, if_pos hc, e]
        exact (zI_part h (part_of (by omega) c1 c2).1).1
      · rw [if_neg hc, if_neg hc]
        exact h
  · unfold codU
    by_cases hc : chance p = true
    · obtain ⟨c1, c2⟩ := chance_nat hc
      rw [if_pos hc]
      exact (zI_part h (part_of (by omega) c1 c2).1).2
    · rw [if_neg hc]
theorem trim_zero {l : List Nat} (h : ∀ x ∈ l, x = 0) : trimE l = [] := by
  induction l with
  | nil => rfl
  | cons x t ih =>
    show (if x = 0 ∧ trimE t = [] then [] else x :: trimE t) = []
    rw [if_pos ⟨h x List.mem_cons_self, ih fun y hy => h y (List.mem_cons_of_mem _ hy)⟩]
theorem zI_all {s : Ec} {t : Dc} (h : zI s t) : trimE (allE s) = [] := by
  obtain ⟨h1, h2, h3, h4, -⟩ := h
  refine trim_zero fun x hx => ?_
  unfold allE at hx
  rw [h1, h2] at hx
  rcases List.mem_append.1 hx with hx | hx
  · rcases List.mem_append.1 hx with hx | hx
    · rcases List.mem_append.1 hx with hx | hx
      · exact h3 x hx
      · unfold hdE at hx
        split at hx
        · rw [List.mem_singleton] at hx
          rcases h4 with h4 | h4
          · omega
          · rw [hx, h4]; rfl
        · cases hx
    · cases hx
  · simp only [List.mem_cons, List.not_mem_nil, or_false] at hx
    rcases hx with rfl | rfl | rfl | rfl <;> rfl
end Go.Proofs.YtdpebaheojaihaaDoor
