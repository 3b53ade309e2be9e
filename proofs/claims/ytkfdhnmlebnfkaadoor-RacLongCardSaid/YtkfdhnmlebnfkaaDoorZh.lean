/- Contracts of this seat: Rf1, Rz, Rs, Rb1, Rb2, Rb3, Rb4, Rb5. -/
import Derived.Test.YtkfdhnmlebnfkaaDoorRa7
import Derived.Test.YtkfdhnmlebnfkaaDoorZg
import Derived.Test.YtkfdhnmlebnfkaaDoorZb
import Derived.Deep.RegionLaw
/- kinlaw12.first: its contract over this seat's translation. -/
namespace Go.Proofs.YtkfdhnmlebnfkaaDoor
set_option linter.unusedVariables false
set_option linter.unusedSimpArgs false
open Go.RowKit Go.Extern.Stop Go.Stop Go.Extern

theorem part_of {d n : Nat} (hd : 16777216 ≤ d) (h1 : 1 ≤ n) (h2 : n < 2048) : 1 ≤ d / 2048 * n ∧ d / 2048 * n < d := by
  have a := Nat.mul_le_mul_left (d / 2048) (show n ≤ 2047 by omega)
  have b := Nat.mul_le_mul_left (d / 2048) h1
  omega
theorem chance_nat {p : Int} (h : chance p = true) : 1 ≤ p.toNat ∧ p.toNat < 2048 := by
  unfold chance at h
  rw [Bool.and_eq_true, decide_eq_true_iff, decide_eq_true_iff] at h
  omega
theorem codE_ok {N : Nat} {p : Int} {up : Bool} {s : Ec} (hk : okE N s) (hw : 16777216 ≤ s.wid) : okE (N + 4) (codE s p up) ∧ 16777216 ≤ (codE s p up).wid := by
  unfold codE
  split
  · rename_i hc
    obtain ⟨c1, c2⟩ := chance_nat hc
    obtain ⟨a, b⟩ := part_of hw c1 c2
    exact parE_ok hk a b
  · exact ⟨hk.mono (by omega), hw⟩
theorem flaE_ok {N : Nat} {up : Bool} {s : Ec} (hk : okE N s) (hw : 16777216 ≤ s.wid) : okE (N + 4) (parE s (s.wid / 2) up) ∧ 16777216 ≤ (parE s (s.wid / 2) up).wid := parE_ok hk (by omega) (by omega)
theorem codD_ok {bs : List Nat} (hb : ∀ x ∈ bs, x < 256) {N : Nat} {p : Int} {s : Dc} (hk : okD N s) (hw : 16777216 ≤ s.wid) : okD (N + 3) (codD bs s p) ∧ 16777216 ≤ (codD bs s p).wid := by
  unfold codD
  split
  · rename_i hc
    obtain ⟨c1, c2⟩ := chance_nat hc
    obtain ⟨a, b⟩ := part_of hw c1 c2
    exact parD_ok hb hk a b
  · exact ⟨hk.mono (by omega), hw⟩
theorem flaD_ok {bs : List Nat} (hb : ∀ x ∈ bs, x < 256) {N : Nat} {s : Dc} (hk : okD N s) (hw : 16777216 ≤ s.wid) : okD (N + 3) (parD bs s (s.wid / 2)) ∧ 16777216 ≤ (parD bs s (s.wid / 2)).wid := parD_ok hb hk (by omega) (by omega)
theorem newE_ok : okE 0 newE := ⟨Nat.le_refl _, ⟨by decide, by decide⟩, by decide, by decide, fun x hx => by cases hx⟩
/-- a decoder beside an encoder's call -/
theorem DcAt.wkp {F : Nat → Prop} {w w' : World} {d b B : Nat} {bs : List Nat} {s : Dc} (h : DcAt F w d bs s) (k : WKp b B w w') (hd : d ≠ b) (hdB : d < B) (hF : ∀ g, ¬ F g → g < B ∧ g ≠ b) : DcAt F w' d bs s := by
  obtain ⟨a, cap, h1, h3, h4⟩ := h
  refine ⟨a, cap, h1.same (k.2.2 d h1.lt hd (.inl hdB)), ⟨?_, h3.2⟩, h4⟩
  obtain ⟨a', cap', e, e1, e2, e3, e4⟩ := h3.1
  refine ⟨a', cap', e, e1, e2, e3, fun g off ha j u hu => ?_⟩
  have c := e4 g off ha j u hu
  simp only [Value.slice.injEq] at e
  obtain ⟨rfl, -, -⟩ := e
  obtain ⟨f1, f2⟩ := hF g (h4 g off ha).2
  exact k.cell c f1 f2
theorem EcAt.kp {w w' : World} {b B d : Nat} {s : Ec} (h : EcAt w b B s) (k : Kp d w w') (hd : b ≠ d) (hdB : d < B) : EcAt w' b B s := by
  obtain ⟨v, h1, h2, h3, h4⟩ := h
  refine ⟨v, h1.same (k.block h1.lt hd), ?_, h3, Nat.le_trans h4 k.size⟩
  refine h2.kept (row := some d) k (.inr ?_)
  intro e
  have := (h2.lt d e).1
  omega
theorem s12 : trimE (allE (codE (codE newE 1024 false) 1024 true)) = [63, 255, 252] ∧ lenE (codE (codE newE 1024 false) 1024 true) = 4 ∧ chance 1024 = true ∧ chance 2048 = false := by decide +kernel
theorem d12 : upD (newD []) ((newD []).wid / 2) = false ∧ ovrD [] (parD [] (newD []) ((newD []).wid / 2)) = 4 := by decide +kernel
theorem st12 : strOf [63, 255, 252] = ⟨#[63, 255, 252]⟩ := by kernel_rfl
set_option maxHeartbeats 8000000 in
set_option maxRecDepth 20000 in
theorem first12_any (w : World) (hg : EtIs w) : Calls Tryd.prog 11 #[] w fun e w' => e = .returned (.bool true) ∧ Ext w w' := by
  have HG := Lib.hid hg
  clear hg
  obtain ⟨t1, t2, t3, t4⟩ := s12
  obtain ⟨t5, t6⟩ := d12
  have HT1 := Lib.hid t1
  have HT2 := Lib.hid t2
  have HT3 := Lib.hid t3
  have HT4 := Lib.hid t4
  have HT5 := Lib.hid t5
  have HT6 := Lib.hid t6
  clear t1 t2 t3 t4 t5 t6
  go_enter Tryd.func11, Tryd.ntmps11
  go_wp2_with fail
  refine (newen_any _).mono ?_; rintro e w1 ⟨b, rfl, hb, hbx, hx1⟩
  have HX1 := Lib.hid hx1
  have HBX := Lib.hid hbx
  clear hx1 hbx
  go_wp2_with fail
  refine (newdc_any [] _ _ (Bys.nil _)).mono ?_; rintro e w2 ⟨d, rfl, hd, hD2, hx2⟩
  have hbd : b < w1.heap.size := HBX.out.lt
  have hdB : d < w2.heap.size := by obtain ⟨_, _, h, _⟩ := hD2; exact h.lt
  have hA2 : EcAt w2 b w2.heap.size newE := EcAt.new (HBX.out.ext hx2) (by have := hx2.size; omega) (Nat.le_refl _)
  have HX2 := Lib.hid (HX1.out.trans hx2)
  have hF : ∀ g, ¬ (g < w1.heap.size ∨ w2.heap.size ≤ g) → g < w2.heap.size ∧ g ≠ b := fun g h => by omega
  have hbB : w.heap.size ≤ b := hb
  have hwB : w.heap.size ≤ w2.heap.size := HX2.out.size
  have hdb : d ≠ b := by omega
  obtain ⟨B, hB⟩ : ∃ B, w2.heap.size = B := ⟨_, rfl⟩
  rw [hB] at hD2 hdB hA2 hF hwB
  obtain ⟨F, hFF⟩ : ∃ F : Nat → Prop, (fun g => g < w1.heap.size ∨ B ≤ g) = F := ⟨_, rfl⟩
  have hF2 : ∀ g, ¬ F g → g < B ∧ g ≠ b := by rw [← hFF]; exact hF
  rw [hFF] at hD2
  have HFF := Lib.hid hF2
  have HD2 := Lib.hid hD2
  have HA2 := Lib.hid hA2
  clear hA2 hD2 hF hF2 hFF hx2 HBX HX1 hB
  have HO1 := Lib.hid (codE_ok (p := 1024) (up := false) newE_ok (by decide))
  have HO2 := Lib.hid (codE_ok (p := 1024) (up := true) HO1.out.1 HO1.out.2)
  go_wp2_with fail
  refine (encode_any b B 0 1024 false newE w2 HA2.out newE_ok (by omega) (by decide)).mono ?_; rintro e w3 ⟨x3, rfl, he3, hA3, hk3⟩
  rw [HT3.out] at he3
  obtain rfl : x3 = .nilIface := he3
  have HA3 := Lib.hid hA3
  have HD3 := Lib.hid (HD2.out.wkp hk3 hdb hdB HFF.out)
  have HX3 := Lib.hid (WKp.out HX2.out hk3 hbB hwB)
  clear hA3 hk3 HA2 HD2 HX2
  go_wp2_with fail
  refine (encode_any b B 4 1024 true _ w3 HA3.out HO1.out.1 (by omega) HO1.out.2).mono ?_; rintro e w4 ⟨x4, rfl, he4, hA4, hk4⟩
  rw [HT3.out] at he4
  obtain rfl : x4 = .nilIface := he4
  have HA4 := Lib.hid hA4
  have HD4 := Lib.hid (HD3.out.wkp hk4 hdb hdB HFF.out)
  have HX4 := Lib.hid (WKp.out HX3.out hk4 hbB hwB)
  clear hA4 hk4 HA3 HD3 HX3
  obtain ⟨s2, hs2⟩ : ∃ s2, codE (codE newE 1024 false) 1024 true = s2 := ⟨_, rfl⟩
  rw [hs2] at HA4 HT1 HT2 HO2
  clear hs2 HO1
  have HS3 : Hid (codE s2 2048 true = s2) := by show (if chance 2048 then _ else s2) = s2; rw [HT4.out]; rfl
  go_wp2_with fail
  refine (encode_any b B 8 2048 true s2 w4 HA4.out HO2.out.1 (by omega) HO2.out.2).mono ?_; rintro e w5 ⟨x5, rfl, he5, hA5, hk5⟩
  rw [HT4.out] at he5
  rw [HS3.out] at hA5
  obtain ⟨hz5, -, -⟩ := he5
  obtain rfl : x5 = .iface 35 (.int .i64 3) := hz5
  have HA5 := Lib.hid hA5
  have HD5 := Lib.hid (HD4.out.wkp hk5 hdb hdB HFF.out)
  have HX5 := Lib.hid (WKp.out HX4.out hk5 hbB hwB)
  clear hA5 hk5 HA4 HD4 HX4
  go_wp2_with fail
  refine (fail_any 3 _).mono ?_; rintro e w6 ⟨rfl, hx6⟩
  have HA6 := Lib.hid (HA5.out.ext hx6)
  have HD6 := Lib.hid (HD5.out.ext hx6)
  have HX6 := Lib.hid (HX5.out.trans hx6)
  clear hx6 HA5 HD5 HX5
  go_wp2_with fail
  refine (same_fall (some ([], 3)) _ _ _ _ (HG.out.ext HX6.out) (ErrIs.code (by decide)) (RErrIs.code (by decide))).mono ?_; rintro e w7 ⟨rfl, hx7⟩
  have HA7 := Lib.hid (HA6.out.ext hx7)
  have HD7 := Lib.hid (HD6.out.ext hx7)
  have HX7 := Lib.hid (HX6.out.trans hx7)
  clear hx7 HA6 HD6 HX6
  go_wp2_with fail
  refine (enend_any b B 8 s2 w7 HA7.out HO2.out.1 (by omega)).mono ?_; rintro e w8 ⟨g8, k8, c8, rfl, hl8, ho8, hx8⟩
  rw [HT1.out] at hl8 ho8
  obtain rfl : 3 = k8 := hl8
  have HA8 := Lib.hid (HA7.out.ext hx8)
  have HD8 := Lib.hid (HD7.out.ext hx8)
  have HX8 := Lib.hid (HX7.out.trans hx8)
  have cv := conv_bys (Bys_n ho8 rfl (by decide) (by omega))
  rw [st12] at cv
  clear hx8 HA7 HD7 HX7 ho8
  go_wp2_with fail
  refine (enlen_any b B 8 s2 w8 HA8.out HO2.out.1 (by omega)).mono ?_; rintro e w9 ⟨rfl, hx9⟩
  rw [HT2.out]
  have HD9 := Lib.hid (HD8.out.ext hx9)
  have HX9 := Lib.hid (HX8.out.trans hx9)
  clear hx9 HA8 HD8 HX8 cv
  have HON := Lib.hid (newD_ok (bs := []) (by simp))
  go_wp2_with fail
  refine (dflat_any F d 4 [] (newD []) w9 HD9.out HON.out.1 (by omega) (by rw [HON.out.2.1]; decide)).mono ?_; rintro e wa ⟨rfl, hDa, hka⟩
  rw [HT5.out]
  have HDa := Lib.hid hDa
  have HXa := Lib.hid (Kp.out HX9.out hka (by omega))
  have HOa := Lib.hid (flaD_ok (bs := []) (by simp) HON.out.1 (by rw [HON.out.2.1]; decide))
  clear hDa hka HD9 HX9
  go_wp2_with fail
  refine (dover_any F d 7 [] _ wa HDa.out HOa.out.1 (by omega) (by simp)).mono ?_; rintro e wb ⟨rfl, hxb⟩
  rw [HT6.out]
  go_wp2
  go_ret
  exact ⟨rfl, HXa.out.trans hxb⟩
end Go.Proofs.YtkfdhnmlebnfkaaDoor

/- kinlaw12.codes; RacZeros: the walk. -/
namespace Go.Proofs.YtkfdhnmlebnfkaaDoor
set_option linter.unusedVariables false
set_option linter.unusedSimpArgs false
open Go.RowKit Go.Extern.Stop Go.Stop Go.Extern

def nxO (s : Ec) (o : Ot) : Ec := if o.1 = 0 then parE s (s.wid / 2) o.2 else codE s o.1 o.2
def okO (o : Ot) : Bool := decide (o.1 = 0) || chance o.1
theorem nxO_ok {N : Nat} {o : Ot} {s : Ec} (hk : okE N s) (hw : 16777216 ≤ s.wid) : okE (N + 4) (nxO s o) ∧ 16777216 ≤ (nxO s o).wid := by
  unfold nxO
  split
  · exact flaE_ok hk hw
  · exact codE_ok hk hw
def CoPost (w : World) (b B : Nat) (v : Bool) (s : Ec) (e : Ending) (w' : World) : Prop := e = .returned (.bool v) ∧ EcAt w' b B s ∧ WKp b B w w'
set_option maxRecDepth 20000 in
set_option maxHeartbeats 4000000 in
theorem codes_any (b B N : Nat) (p : Int) (up : Bool) (s : Ec) (w : World) (h : EcAt w b B s) (hk : okE N s) (hN : N ≤ 900000) (hw : 16777216 ≤ s.wid) : Calls Tryd.prog 55 #[.pointer (some ⟨b, 0, none⟩), .agg #[.int .i64 p, .bool up]] w (CoPost w b B (okO (p, up)) (nxO s (p, up))) := by
  have A1 : Ext w (w.alloc (.cells #[.int .i64 p, .bool up] 29)) := (Ext.refl w).alloc _
  have HA := Lib.hid (h.ext A1)
  have HW := Lib.hid (WKp.of_ext (b := b) (B := B) A1)
  by_cases hp : p = 0
  · have HS : Hid (nxO s (p, up) = parE s (s.wid / 2) up) := if_pos hp
    have HO : Hid (okO (p, up) = true) := by show (decide (p = 0) || _) = true; rw [decide_eq_true hp]; rfl
    have t1 : (p == 0) = true := by rw [beq_iff_eq]; exact hp
    have UF := Lib.hid (enflat_any b B N up s _ HA.out hk hN hw)
    rw [← HS.out] at UF
    obtain ⟨R, hR⟩ : ∃ R, nxO s (p, up) = R := ⟨_, rfl⟩
    rw [hR] at UF ⊢
    clear hR HS h hk hw A1 hp
    go_enter Tryd.func55, Tryd.ntmps55
    go_wp2_with fail
    refine (UF.out).mono ?_; rintro e w2 ⟨rfl, hA2, hW2⟩
    go_wp2
    go_ret
    exact ⟨by rw [HO.out]; rfl, hA2, HW.out.trans hW2⟩
  · have HS : Hid (nxO s (p, up) = codE s p up) := if_neg hp
    have HO : Hid (okO (p, up) = chance p) := by show (decide (p = 0) || _) = chance p; rw [decide_eq_false hp]; rfl
    have t1 : (p == 0) = false := by rw [beq_eq_false_iff_ne]; exact hp
    have UF := Lib.hid (encode_any b B N p up s _ HA.out hk hN hw)
    rw [← HS.out] at UF
    obtain ⟨R, hR⟩ : ∃ R, nxO s (p, up) = R := ⟨_, rfl⟩
    rw [hR] at UF ⊢
    clear hR HS h hk hw A1 hp
    cases hc : chance p with
    | true =>
      have HC := Lib.hid hc
      clear hc
      go_enter Tryd.func55, Tryd.ntmps55
      go_wp2_with fail
      refine (UF.out).mono ?_; rintro e w2 ⟨x, rfl, hx, hA2, hW2⟩
      rw [HC.out] at hx
      obtain rfl : x = .nilIface := hx
      go_wp2
      go_ret
      exact ⟨by rw [HO.out, HC.out]; rfl, hA2, HW.out.trans hW2⟩
    | false =>
      have HC := Lib.hid hc
      clear hc
      go_enter Tryd.func55, Tryd.ntmps55
      go_wp2_with fail
      refine (UF.out).mono ?_; rintro e w2 ⟨x, rfl, hx, hA2, hW2⟩
      rw [HC.out] at hx
      obtain ⟨tx, qx, rfl⟩ := ErrIs.ne (w := w2) (a := ([], 3)) hx
      go_wp2
      go_ret
      exact ⟨by rw [HO.out, HC.out]; rfl, hA2, HW.out.trans hW2⟩
/-- nothing but the lower part -/
def zI (s : Ec) (t : Dc) : Prop := s.low = 0 ∧ s.run = 0 ∧ (∀ x ∈ s.done, x = 0) ∧ (s.held = -1 ∨ s.held = 0) ∧ s.wid = t.wid ∧ lenE s = t.pos ∧ t.num = 0 ∧ t.over = false
theorem zI_step {s : Ec} {t : Dc} (h : zI s t) : zI (stpE s) (stpD [] t) := by
  obtain ⟨h1, h2, h3, h4, h5, h6, h7, h8⟩ := h
  obtain ⟨D, hd, r, l, d⟩ := s
  have k1 : l = 0 := h1
  have k2 : r = 0 := h2
  have k3 : ∀ x ∈ D, x = 0 := h3
  have k4 : hd = -1 ∨ hd = 0 := h4
  have k5 : d = t.wid := h5
  clear h1 h2 h3 h4 h5
  subst k1
  subst k2
  have e : stpE ⟨D, hd, 0, 0, d⟩ = ⟨D ++ hdE ⟨D, hd, 0, 0, d⟩, 0, 0, 0, d * 256⟩ := by simp [stpE, shfE]
  rw [e]
  refine ⟨rfl, rfl, fun x hx => ?_, .inr rfl, by show d * 256 = t.wid * 256; rw [← k5], ?_, ?_, h8⟩
  · rcases List.mem_append.1 hx with hx | hx
    · exact k3 x hx
    · unfold hdE at hx
      split at hx
      · rw [List.mem_singleton] at hx
        rcases k4 with k4 | k4
        · rename_i h; have h : 0 ≤ hd := h; omega
        · rw [hx]; show (hd % 256).toNat = 0; rw [k4]; rfl
      · cases hx
  · show lenE _ = t.pos + 1
    rw [← h6]
    rcases k4 with k4 | k4
    · subst k4
      show (D ++ []).length + 0 + 4 + 1 = D.length + 0 + 4 + 0 + 1
      rw [List.append_nil]
    · subst k4
      show (D ++ [0]).length + 0 + 4 + 1 = D.length + 0 + 4 + 1 + 1
      rw [List.length_append]
      rfl
  · show t.num * 256 % 18446744073709551616 + 0 = 0
    rw [h7]
theorem zI_nrm : ∀ (f : Nat) {s : Ec} {t : Dc}, zI s t → zI (nrmE f s) (nrmD [] f t)
  | 0, _, _, h => h
  | f + 1, s, t, h => by
    show zI (if s.wid < 16777216 then nrmE f (stpE s) else s) (if t.wid < 16777216 then nrmD [] f (stpD [] t) else t)
    have e : s.wid = t.wid := h.2.2.2.2.1
    by_cases hw : s.wid < 16777216
    · rw [if_pos hw, if_pos (by rw [← e]; exact hw)]
      exact zI_nrm f (zI_step h)
    · rw [if_neg hw, if_neg (by rw [← e]; exact hw)]
      exact h
theorem zI_part {s : Ec} {t : Dc} {w : Nat} (h : zI s t) (hw : 1 ≤ w) : zI (parE s w false) (parD [] t w) ∧ upD t w = false := by
  obtain ⟨h1, h2, h3, h4, h5, h6, h7, h8⟩ := h
  have hu : upD t w = false := by
    unfold upD
    rw [h7, h8, decide_eq_false (by omega)]
    rfl
  refine ⟨?_, hu⟩
  have e : midD t w = { t with wid := w } := by unfold midD; rw [hu]; rfl
  unfold parE parD
  rw [e]
  exact zI_nrm 3 (s := { s with wid := w }) ⟨h1, h2, h3, h4, rfl, h6, h7, h8⟩
theorem zI_new : zI newE (newD []) := ⟨rfl, rfl, fun x hx => (by cases hx), .inl rfl, (by decide +kernel), (by decide +kernel), (by decide +kernel), (by decide +kernel)⟩
theorem zI_op {s : Ec} {t : Dc} (p : Int) (h : zI s t) (hw : 16777216 ≤ s.wid) : zI (nxO s (p, false)) (if p = 0 then parD [] t (t.wid / 2) else codD [] t p) ∧ upD t (t.wid / 2) = false ∧ codU t p = false := by
  have e : s.wid = t.wid := h.2.2.2.2.1
  have hf := zI_part (w := t.wid / 2) h (by omega)
  refine ⟨?_, hf.2, ?_⟩
  · unfold nxO
    by_cases hp : p = 0
    · rw [if_pos hp, if_pos hp, e]
      exact hf.1
    · rw [if_neg hp, if_neg hp]
      unfold codE codD
      by_cases hc : chance p = true
      · obtain ⟨c1, c2⟩ := chance_nat hc
        rw [if_pos hc, if_pos hc, e]
        exact (zI_part h (part_of (by omega) c1 c2).1).1
      · rw [if_neg hc, if_neg hc]
        exact h
  · unfold codU
    by_cases hc : chance p = true
    · obtain ⟨c1, c2⟩ := chance_nat hc
      rw [if_pos hc]
      exact (zI_part h (part_of (by omega) c1 c2).1).2
    · rw [if_neg hc]
theorem trim_zero {l : List Nat} (h : ∀ x ∈ l, x = 0) : trimE l = [] := by
  induction l with
  | nil => rfl
  | cons x t ih =>
    show (if x = 0 ∧ trimE t = [] then [] else x :: trimE t) = []
    rw [if_pos ⟨h x List.mem_cons_self, ih fun y hy => h y (List.mem_cons_of_mem _ hy)⟩]
theorem zI_all {s : Ec} {t : Dc} (h : zI s t) : trimE (allE s) = [] := by
  obtain ⟨h1, h2, h3, h4, -⟩ := h
  refine trim_zero fun x hx => ?_
  unfold allE at hx
  rw [h1, h2] at hx
  rcases List.mem_append.1 hx with hx | hx
  · rcases List.mem_append.1 hx with hx | hx
    · rcases List.mem_append.1 hx with hx | hx
      · exact h3 x hx
      · unfold hdE at hx
        split at hx
        · rw [List.mem_singleton] at hx
          rcases h4 with h4 | h4
          · omega
          · rw [hx, h4]; rfl
        · cases hx
    · cases hx
  · simp only [List.mem_cons, List.not_mem_nil, or_false] at hx
    rcases hx with rfl | rfl | rfl | rfl <;> rfl
end Go.Proofs.YtkfdhnmlebnfkaaDoor

/- How many bytes an encoder has: plain; a chance that is refused. -/
namespace Go.Proofs.YtkfdhnmlebnfkaaDoor
set_option linter.unusedVariables false
set_option linter.unusedSimpArgs false
open Go.RowKit Go.Extern.Stop Go.Stop Go.Extern

/-- no carry goes out at the top -/
def ncI (s : Ec) : Prop := -1 ≤ s.held ∧ (s.held = -1 → s.low + s.wid ≤ 4294967296)
theorem len_stp {s : Ec} (h : ncI s) : lenE (stpE s) = lenE s + 1 ∧ ncI (stpE s) := by
  obtain ⟨D, hd, r, l, d⟩ := s
  obtain ⟨h1, h2⟩ := h
  have h1 : -1 ≤ hd := h1
  have h2 : hd = -1 → l + d ≤ 4294967296 := h2
  by_cases hT : l / 16777216 = 255
  · have e : stpE ⟨D, hd, r, l, d⟩ = ⟨D, hd, r + 1, l % 16777216 * 256, d * 256⟩ := by
      unfold stpE shfE
      rw [if_pos hT]
    rw [e]
    refine ⟨?_, h1, fun hh => ?_⟩
    · show D.length + (r + 1) + 4 + (if 0 ≤ hd then 1 else 0) = D.length + r + 4 + (if 0 ≤ hd then 1 else 0) + 1
      omega
    · have := h2 hh
      show l % 16777216 * 256 + d * 256 ≤ 4294967296
      omega
  · have e : stpE ⟨D, hd, r, l, d⟩ = ⟨D ++ (hdE ⟨D, hd, r, l, d⟩ ++ List.replicate r 255), ((l / 16777216 : Nat) : Int), 0, l % 16777216 * 256, d * 256⟩ := by
      unfold stpE shfE
      rw [if_neg hT]
    rw [e]
    obtain ⟨T, hTT⟩ : ∃ T, l / 16777216 = T := ⟨_, rfl⟩
    rw [hTT]
    refine ⟨?_, by show (-1 : Int) ≤ (T : Int); omega, fun hh => by have hh : (T : Int) = -1 := hh; omega⟩
    show (D ++ (hdE ⟨D, hd, r, l, d⟩ ++ List.replicate r 255)).length + 0 + 4 + (if (0 : Int) ≤ (T : Int) then 1 else 0) = D.length + r + 4 + (if 0 ≤ hd then 1 else 0) + 1
    rw [if_pos (by omega), List.length_append, List.length_append, List.length_replicate]
    unfold hdE
    show D.length + ((if 0 ≤ hd then [(hd % 256).toNat] else []).length + r) + 0 + 4 + 1 = _
    split <;> simp <;> omega
theorem len_mid {s : Ec} (h : ncI s) {w : Nat} (hw : w < s.wid) (up : Bool) : lenE (midE s w up) = lenE s ∧ ncI (midE s w up) := by
  obtain ⟨D, hd, r, l, d⟩ := s
  obtain ⟨h1, h2⟩ := h
  have h1 : -1 ≤ hd := h1
  have h2 : hd = -1 → l + d ≤ 4294967296 := h2
  have hw : w < d := hw
  cases up with
  | false => exact ⟨rfl, h1, fun hh => by have := h2 hh; show l + w ≤ _; omega⟩
  | true =>
    by_cases hc : 4294967296 ≤ l + w
    · have hh : 0 ≤ hd := by
        by_cases e : hd = -1
        · have := h2 e; omega
        · omega
      have e : midE ⟨D, hd, r, l, d⟩ w true = carE ⟨D, hd, r, l + w - 4294967296, d - w⟩ := by
        show upE _ _ = _
        unfold upE
        rw [if_pos hc]
      rw [e]
      by_cases hr : r = 0
      · subst hr
        refine ⟨?_, by show -1 ≤ hd + 1; omega, fun e => by have e : hd + 1 = -1 := e; omega⟩
        show D.length + 0 + 4 + (if 0 ≤ hd + 1 then 1 else 0) = D.length + 0 + 4 + (if 0 ≤ hd then 1 else 0)
        rw [if_pos (by omega), if_pos hh]
      · have e : carE ⟨D, hd, r, l + w - 4294967296, d - w⟩ = ⟨D ++ (((hd + 1) % 256).toNat :: List.replicate (r - 1) 0), 0, 0, l + w - 4294967296, d - w⟩ := by
          unfold carE
          rw [if_neg hr]
        rw [e]
        refine ⟨?_, by show (-1 : Int) ≤ 0; omega, fun e => by have e : (0 : Int) = -1 := e; omega⟩
        show (D ++ (((hd + 1) % 256).toNat :: List.replicate (r - 1) 0)).length + 0 + 4 + 1 = D.length + r + 4 + (if 0 ≤ hd then 1 else 0)
        rw [if_pos hh, List.length_append, List.length_cons, List.length_replicate]
        omega
    · have e : midE ⟨D, hd, r, l, d⟩ w true = ⟨D, hd, r, l + w, d - w⟩ := by
        show upE _ _ = _
        unfold upE
        rw [if_neg hc]
      rw [e]
      exact ⟨rfl, h1, fun hh => by have := h2 hh; show l + w + (d - w) ≤ _; omega⟩
theorem len_nrm : ∀ (f : Nat) {s : Ec}, ncI s → lenE s ≤ lenE (nrmE f s) ∧ ncI (nrmE f s)
  | 0, _, h => ⟨Nat.le_refl _, h⟩
  | f + 1, s, h => by
    show lenE s ≤ lenE (if s.wid < 16777216 then nrmE f (stpE s) else s) ∧ ncI (if s.wid < 16777216 then nrmE f (stpE s) else s)
    split
    · obtain ⟨h1, h2⟩ := len_stp h
      obtain ⟨h3, h4⟩ := len_nrm f h2
      exact ⟨by omega, h4⟩
    · exact ⟨Nat.le_refl _, h⟩
theorem len_par {s : Ec} (h : ncI s) {w : Nat} (hw : w < s.wid) (up : Bool) : lenE s ≤ lenE (parE s w up) ∧ ncI (parE s w up) := by
  obtain ⟨h1, h2⟩ := len_mid h hw up
  obtain ⟨h3, h4⟩ := len_nrm 3 h2
  exact ⟨by rw [← h1]; exact h3, h4⟩
/-- as many bytes as n flat bits can make -/
def szI (n : Nat) (s : Ec) : Prop := ncI s ∧ ∃ k r, lenE s = 4 + k ∧ 8 * k + r ≤ n ∧ r ≤ 7 ∧ 2 ^ (31 - r) ≤ s.wid
theorem szI_new : szI 0 newE := ⟨⟨by decide, fun _ => by decide⟩, 0, 0, by decide +kernel, by decide, by decide, by decide +kernel⟩
theorem szI_flat {n : Nat} {s : Ec} (h : szI n s) (up : Bool) : szI (n + 1) (parE s (s.wid / 2) up) := by
  obtain ⟨hn, k, r, h1, h2, h3, h4⟩ := h
  obtain ⟨q, hq⟩ : ∃ q, 2 ^ (30 - r) = q := ⟨_, rfl⟩
  have h5 : 2 ^ (31 - r) = q * 2 := by rw [← hq, ← Nat.pow_succ]; congr 1; omega
  rw [h5] at h4
  have hq1 : 2 ^ 23 ≤ q := by rw [← hq]; exact Nat.pow_le_pow_right (by decide) (by omega)
  have hq2 : r ≤ 6 → 2 ^ 24 ≤ q := fun h => by rw [← hq]; exact Nat.pow_le_pow_right (by decide) (by omega)
  have hq1 : 8388608 ≤ q := hq1
  have hq2 : r ≤ 6 → 16777216 ≤ q := hq2
  have hw : s.wid / 2 < s.wid := by omega
  obtain ⟨l1, l2⟩ := len_mid hn hw up
  have hm := @midE_wid (s.wid / 2) s up
  obtain ⟨m, hm1⟩ : ∃ m, midE s (s.wid / 2) up = m := ⟨_, rfl⟩
  have hmw : q ≤ m.wid := by
    rw [← hm1, hm]
    split <;> omega
  rw [hm1] at l1 l2
  have e : parE s (s.wid / 2) up = nrmE 3 m := by unfold parE; rw [hm1]
  rw [e]
  by_cases hx : m.wid < 16777216
  · have hr : r = 7 := by
      by_cases h : r ≤ 6
      · have := hq2 h; omega
      · omega
    have e2 : nrmE 3 m = stpE m := by
      show (if m.wid < 16777216 then (if (stpE m).wid < 16777216 then _ else stpE m) else m) = _
      rw [if_pos hx, if_neg (by show ¬ m.wid * 256 < 16777216; omega)]
    obtain ⟨s1, s2⟩ := len_stp l2
    rw [e2]
    refine ⟨s2, k + 1, 0, by rw [s1, l1, h1]; omega, by omega, by omega, ?_⟩
    show 2147483648 ≤ m.wid * 256
    omega
  · have e2 : nrmE 3 m = m := by
      show (if m.wid < 16777216 then _ else m) = _
      rw [if_neg hx]
    rw [e2]
    by_cases hr : r ≤ 6
    · refine ⟨l2, k, r + 1, by rw [l1, h1], by omega, by omega, ?_⟩
      rw [show 31 - (r + 1) = 30 - r by omega, hq]
      exact hmw
    · refine ⟨l2, k, r, by rw [l1, h1], by omega, h3, ?_⟩
      rw [show 31 - r = 24 by omega]
      show 16777216 ≤ m.wid
      omega
theorem szI_len {n : Nat} {s : Ec} (h : szI n s) : 4 ≤ lenE s ∧ lenE s ≤ n / 8 + 4 := by
  obtain ⟨-, k, r, h1, h2, h3, h4⟩ := h
  omega
theorem trim_le (l : List Nat) : (trimE l).length ≤ l.length := by
  induction l with
  | nil => exact Nat.le_refl _
  | cons x t ih =>
    show (if x = 0 ∧ trimE t = [] then [] else x :: trimE t).length ≤ t.length + 1
    split
    · exact Nat.zero_le _
    · show (trimE t).length + 1 ≤ _
      omega
set_option maxRecDepth 20000 in
theorem encode_no (b : Nat) (p : Int) (up : Bool) (w : World) (hc : chance p = false) : Calls Tryd.prog 17 #[.pointer (some ⟨b, 0, none⟩), .int .i64 p, .bool up] w fun e w' => e = .returned (.iface 35 (.int .i64 3)) ∧ w = w' := by
  have HCH := Lib.hid hc
  clear hc
  go_enter Tryd.func17, Tryd.ntmps17
  go_wp2_with fail
  refine (ischance_any _ _).mono ?_; rintro e w1 ⟨rfl, rfl⟩
  rw [HCH.out]
  go_wp2
  go_ret
  exact ⟨rfl, rfl⟩
end Go.Proofs.YtkfdhnmlebnfkaaDoor

/- An encoder's bytes as one number; what it narrows to, a decoder finds: plain. -/
namespace Go.Proofs.YtkfdhnmlebnfkaaDoor
set_option linter.unusedVariables false
set_option linter.unusedSimpArgs false
open Go.RowKit Go.Extern.Stop Go.Stop Go.Extern

def nu (l : List Nat) : Nat := l.foldl (fun v x => v * 256 + x) 0
theorem nu_fold (l : List Nat) (v : Nat) : l.foldl (fun v x => v * 256 + x) v = v * 256 ^ l.length + nu l := by
  induction l generalizing v with
  | nil => show v = v * 1 + 0; omega
  | cons x t ih =>
    show t.foldl _ (v * 256 + x) = v * 256 ^ (t.length + 1) + t.foldl _ (0 * 256 + x)
    rw [ih (v * 256 + x), ih (0 * 256 + x), Nat.pow_succ, Nat.add_mul, Nat.zero_mul, Nat.zero_add, Nat.mul_assoc v, Nat.mul_comm 256, Nat.add_assoc]
theorem nu_app (a b : List Nat) : nu (a ++ b) = nu a * 256 ^ b.length + nu b := by
  unfold nu
  rw [List.foldl_append, nu_fold]
  rfl
theorem nu_zero (k : Nat) : nu (List.replicate k 0) = 0 := by
  induction k with
  | zero => rfl
  | succ k ih => rw [List.replicate_succ', nu_app, ih]; rfl
theorem nu_full (k : Nat) : nu (List.replicate k 255) + 1 = 256 ^ k := by
  induction k with
  | zero => rfl
  | succ k ih =>
    rw [List.replicate_succ', nu_app, Nat.pow_succ, ← ih]
    show nu (List.replicate k 255) * 256 + 255 + 1 = _
    omega
/-- the bytes above the low, as a number; the number -/
def hiE (s : Ec) : Nat := nu (s.done ++ hdE s ++ List.replicate s.run 255)
def vE (s : Ec) : Nat := hiE s * 4294967296 + s.low
theorem nu_all (s : Ec) (h : s.low < 4294967296) : nu (allE s) = vE s := by
  unfold allE vE hiE
  rw [nu_app]
  show _ * 256 ^ 4 + ((((0 * 256 + s.low / 16777216 % 256) * 256 + s.low / 65536 % 256) * 256 + s.low / 256 % 256) * 256 + s.low % 256) = _ * 4294967296 + s.low
  have : (256 : Nat) ^ 4 = 4294967296 := by decide
  rw [this]
  omega
/-- what holds of an encoder's state -/
def hI (s : Ec) : Prop := (-1 ≤ s.held ∧ s.held ≤ 255) ∧ (s.held = -1 ∨ s.held = 255 → s.low + s.wid ≤ 4294967296) ∧ s.low < 4294967296 ∧ s.wid < 4294967296
theorem hi_form (D : List Nat) (hd : Int) (r l d : Nat) : hiE ⟨D, hd, r, l, d⟩ + 1 = (nu (D ++ hdE ⟨D, hd, r, l, d⟩) + 1) * 256 ^ r := by
  unfold hiE
  show nu (D ++ hdE ⟨D, hd, r, l, d⟩ ++ List.replicate r 255) + 1 = _
  rw [nu_app, List.length_replicate, Nat.add_mul, Nat.one_mul, ← nu_full r]
  omega
theorem hd_nu (D : List Nat) {hd : Int} (r l d : Nat) (h0 : 0 ≤ hd) (h1 : hd ≤ 255) : nu (D ++ hdE ⟨D, hd, r, l, d⟩) = nu D * 256 + hd.toNat := by
  have e : hdE ⟨D, hd, r, l, d⟩ = [hd.toNat] := by
    unfold hdE
    show (if 0 ≤ hd then [(hd % 256).toNat] else []) = _
    rw [if_pos h0]
    congr 1
    omega
  rw [e, nu_app]
  show nu D * 256 ^ 1 + (0 * 256 + hd.toNat) = _
  omega
theorem hi_car {D : List Nat} {hd : Int} {r : Nat} (l d : Nat) (h0 : 0 ≤ hd) (h1 : hd ≤ 254) : hiE (carE ⟨D, hd, r, l, d⟩) = hiE ⟨D, hd, r, l, d⟩ + 1 := by
  rw [hi_form, hd_nu D r l d h0 (by omega)]
  by_cases hr : r = 0
  · subst hr
    have e : carE ⟨D, hd, 0, l, d⟩ = ⟨D, hd + 1, 0, l, d⟩ := rfl
    rw [e]
    have := hi_form D (hd + 1) 0 l d
    rw [hd_nu D 0 l d (by omega) (by omega)] at this
    rw [Nat.pow_zero] at this ⊢
    omega
  · obtain ⟨q, rfl⟩ : ∃ q, r = q + 1 := ⟨r - 1, by omega⟩
    have e : carE ⟨D, hd, q + 1, l, d⟩ = ⟨D ++ (((hd + 1) % 256).toNat :: List.replicate q 0), 0, 0, l, d⟩ := by
      unfold carE
      rw [if_neg hr]
      rfl
    rw [e]
    have e2 : ((hd + 1) % 256).toNat = hd.toNat + 1 := by omega
    have := hi_form (D ++ (((hd + 1) % 256).toNat :: List.replicate q 0)) 0 0 l d
    rw [hd_nu _ 0 l d (by omega) (by omega), Nat.pow_zero, nu_app, e2] at this
    have e3 : nu ((hd.toNat + 1) :: List.replicate q 0) = (hd.toNat + 1) * 256 ^ q := by
      have := nu_app [hd.toNat + 1] (List.replicate q 0)
      rw [nu_zero, List.length_replicate] at this
      show nu ([hd.toNat + 1] ++ List.replicate q 0) = _
      rw [this]
      show (0 * 256 + (hd.toNat + 1)) * 256 ^ q + 0 = _
      rw [Nat.zero_mul, Nat.zero_add, Nat.add_zero]
    rw [e3, List.length_cons, List.length_replicate] at this
    rw [e2]
    have e4 : nu D * 256 ^ (q + 1) = nu D * 256 * 256 ^ q := by rw [Nat.pow_succ, Nat.mul_assoc, Nat.mul_comm 256]
    rw [e4, ← Nat.add_mul] at this
    rw [Nat.pow_succ, Nat.mul_comm (256 ^ q) 256, ← Nat.mul_assoc, ← Nat.add_assoc] at *
    have e5 : (nu D * 256 + hd.toNat + 1) * 256 * 256 ^ q = (nu D * 256 + hd.toNat + 1) * 256 ^ q * 256 := by rw [Nat.mul_assoc, Nat.mul_comm 256, ← Nat.mul_assoc]
    rw [e5]
    show hiE ⟨D ++ ((hd.toNat + 1) :: List.replicate q 0), 0, 0, l, d⟩ = _
    have e6 : (0 : Int).toNat = 0 := rfl
    omega
end Go.Proofs.YtkfdhnmlebnfkaaDoor

/- What was coded comes back: plain. -/
namespace Go.Proofs.YtkfdhnmlebnfkaaDoor
set_option linter.unusedVariables false
set_option linter.unusedSimpArgs false
open Go.RowKit Go.Extern.Stop Go.Stop Go.Extern

theorem hI_nc {s : Ec} (h : hI s) : ncI s := ⟨h.1.1, fun e => h.2.1 (.inl e)⟩
theorem hI_new : hI newE := ⟨⟨by decide, by decide⟩, fun _ => by decide, by decide, by decide⟩
theorem vE_mk (D : List Nat) (hd : Int) (r l d : Nat) : vE ⟨D, hd, r, l, d⟩ = hiE ⟨D, hd, r, l, d⟩ * 4294967296 + l := by unfold vE; rfl
theorem hi_low (D : List Nat) (hd : Int) (r l d m e : Nat) : hiE ⟨D, hd, r, l, d⟩ = hiE ⟨D, hd, r, m, e⟩ := by unfold hiE hdE; rfl
theorem mid_v {s : Ec} (h : hI s) {w : Nat} (hw : w < s.wid) (up : Bool) : vE (midE s w up) = vE s + (if up then w else 0) ∧ hI (midE s w up) := by
  obtain ⟨D, hd, r, l, d⟩ := s
  obtain ⟨⟨h1, h2⟩, h3, h4, h5⟩ := h
  have h1 : -1 ≤ hd := h1
  have h2 : hd ≤ 255 := h2
  have h3 : hd = -1 ∨ hd = 255 → l + d ≤ 4294967296 := h3
  have h4 : l < 4294967296 := h4
  have h5 : d < 4294967296 := h5
  have hw : w < d := hw
  cases up with
  | false => exact ⟨by rw [if_neg (by decide), Nat.add_zero]; show vE ⟨D, hd, r, l, w⟩ = _; rw [vE_mk, vE_mk, hi_low D hd r l w l d], ⟨h1, h2⟩, fun e => by have := h3 e; show l + w ≤ _; omega, h4, by show w < _; omega⟩
  | true =>
    by_cases hc : 4294967296 ≤ l + w
    · have hh : 0 ≤ hd ∧ hd ≤ 254 := by
        by_cases e : hd = -1 ∨ hd = 255
        · have := h3 e; omega
        · omega
      have e : midE ⟨D, hd, r, l, d⟩ w true = carE ⟨D, hd, r, l + w - 4294967296, d - w⟩ := by
        show upE _ _ = _
        unfold upE
        rw [if_pos hc]
      rw [e]
      have hv := hi_car (D := D) (r := r) (l + w - 4294967296) (d - w) hh.1 hh.2
      have hlw : (carE ⟨D, hd, r, l + w - 4294967296, d - w⟩).low = l + w - 4294967296 ∧ (carE ⟨D, hd, r, l + w - 4294967296, d - w⟩).wid = d - w ∧ (0 ≤ (carE ⟨D, hd, r, l + w - 4294967296, d - w⟩).held ∧ (carE ⟨D, hd, r, l + w - 4294967296, d - w⟩).held ≤ 255) := by
        unfold carE
        split
        · exact ⟨rfl, rfl, by show 0 ≤ hd + 1; omega, by show hd + 1 ≤ 255; omega⟩
        · exact ⟨rfl, rfl, by show (0 : Int) ≤ 0; omega, by show (0 : Int) ≤ 255; omega⟩
      obtain ⟨c, hcc⟩ : ∃ c, carE ⟨D, hd, r, l + w - 4294967296, d - w⟩ = c := ⟨_, rfl⟩
      rw [hcc] at hv hlw ⊢
      obtain ⟨k1, k2, k3, k4⟩ := hlw
      rw [hi_low D hd r _ _ l d] at hv
      refine ⟨?_, ⟨by omega, k4⟩, fun _ => by omega, by omega, by omega⟩
      rw [if_pos rfl, vE_mk D hd r l d]
      unfold vE
      rw [hv, k1]
      omega
    · have e : midE ⟨D, hd, r, l, d⟩ w true = ⟨D, hd, r, l + w, d - w⟩ := by
        show upE _ _ = _
        unfold upE
        rw [if_neg hc]
      rw [e]
      refine ⟨?_, ⟨h1, h2⟩, fun e => by have := h3 e; show l + w + (d - w) ≤ _; omega, by show l + w < _; omega, by show d - w < _; omega⟩
      rw [if_pos rfl, vE_mk, vE_mk, hi_low D hd r (l + w) (d - w) l d]
      omega
theorem stp_v {s : Ec} (h : hI s) (hw : s.wid < 16777216) : vE (stpE s) = vE s * 256 ∧ hI (stpE s) ∧ lenE (stpE s) = lenE s + 1 := by
  have hl := (len_stp (hI_nc h)).1
  obtain ⟨D, hd, r, l, d⟩ := s
  obtain ⟨⟨h1, h2⟩, h3, h4, h5⟩ := h
  have h1 : -1 ≤ hd := h1
  have h2 : hd ≤ 255 := h2
  have h3 : hd = -1 ∨ hd = 255 → l + d ≤ 4294967296 := h3
  have h4 : l < 4294967296 := h4
  have hw : d < 16777216 := hw
  by_cases hT : l / 16777216 = 255
  · have e : stpE ⟨D, hd, r, l, d⟩ = ⟨D, hd, r + 1, l % 16777216 * 256, d * 256⟩ := by
      unfold stpE shfE
      rw [if_pos hT]
    rw [e] at hl ⊢
    refine ⟨?_, ⟨⟨h1, h2⟩, fun hh => by have := h3 hh; show l % 16777216 * 256 + d * 256 ≤ _; omega, by show l % 16777216 * 256 < _; omega, by show d * 256 < _; omega⟩, hl⟩
    have e2 : hiE ⟨D, hd, r + 1, l % 16777216 * 256, d * 256⟩ = hiE ⟨D, hd, r, l, d⟩ * 256 + 255 := by
      unfold hiE
      show nu (D ++ hdE ⟨D, hd, r, l, d⟩ ++ List.replicate (r + 1) 255) = nu (D ++ hdE ⟨D, hd, r, l, d⟩ ++ List.replicate r 255) * 256 + 255
      rw [List.replicate_succ', ← List.append_assoc, nu_app]
      rfl
    show hiE ⟨D, hd, r + 1, l % 16777216 * 256, d * 256⟩ * 4294967296 + l % 16777216 * 256 = (hiE ⟨D, hd, r, l, d⟩ * 4294967296 + l) * 256
    rw [e2]
    omega
  · have e : stpE ⟨D, hd, r, l, d⟩ = ⟨D ++ (hdE ⟨D, hd, r, l, d⟩ ++ List.replicate r 255), ((l / 16777216 : Nat) : Int), 0, l % 16777216 * 256, d * 256⟩ := by
      unfold stpE shfE
      rw [if_neg hT]
    rw [e] at hl ⊢
    have hT2 : l / 16777216 < 255 := by omega
    refine ⟨?_, ⟨⟨by show (-1 : Int) ≤ ((l / 16777216 : Nat) : Int); omega, by show ((l / 16777216 : Nat) : Int) ≤ 255; omega⟩, fun hh => by have hh : ((l / 16777216 : Nat) : Int) = -1 ∨ ((l / 16777216 : Nat) : Int) = 255 := hh; omega, by show l % 16777216 * 256 < _; omega, by show d * 256 < _; omega⟩, hl⟩
    have e2 : hiE ⟨D ++ (hdE ⟨D, hd, r, l, d⟩ ++ List.replicate r 255), ((l / 16777216 : Nat) : Int), 0, l % 16777216 * 256, d * 256⟩ = hiE ⟨D, hd, r, l, d⟩ * 256 + l / 16777216 := by
      unfold hiE
      show nu (D ++ (hdE ⟨D, hd, r, l, d⟩ ++ List.replicate r 255) ++ hdE ⟨D ++ (hdE ⟨D, hd, r, l, d⟩ ++ List.replicate r 255), ((l / 16777216 : Nat) : Int), 0, l % 16777216 * 256, d * 256⟩ ++ []) = nu (D ++ hdE ⟨D, hd, r, l, d⟩ ++ List.replicate r 255) * 256 + l / 16777216
      rw [List.append_nil, hd_nu _ 0 _ _ (by omega) (by omega), List.append_assoc]
      congr 1
    show hiE ⟨D ++ (hdE ⟨D, hd, r, l, d⟩ ++ List.replicate r 255), ((l / 16777216 : Nat) : Int), 0, l % 16777216 * 256, d * 256⟩ * 4294967296 + l % 16777216 * 256 = (hiE ⟨D, hd, r, l, d⟩ * 4294967296 + l) * 256
    rw [e2]
    omega
/-- a number of n bytes lies within what an encoder has narrowed to -/
def inE (X n : Nat) (s : Ec) : Prop := ∃ k, n = lenE s + k ∧ vE s * 256 ^ k ≤ X ∧ X < (vE s + s.wid) * 256 ^ k
theorem in_stp {X n : Nat} {s : Ec} (h : hI s) (hw : s.wid < 16777216) (hi : inE X n (stpE s)) : inE X n s := by
  obtain ⟨k, h1, h2, h3⟩ := hi
  obtain ⟨v1, -, v3⟩ := stp_v h hw
  rw [v1] at h2 h3
  rw [v3] at h1
  refine ⟨k + 1, by omega, ?_, ?_⟩
  · rw [Nat.pow_succ', ← Nat.mul_assoc]
    exact h2
  · have e : (stpE s).wid = s.wid * 256 := rfl
    rw [e, ← Nat.add_mul] at h3
    rw [Nat.pow_succ', ← Nat.mul_assoc]
    exact h3
theorem hI_nrm : ∀ (f : Nat) {s : Ec}, hI s → hI (nrmE f s)
  | 0, _, h => h
  | f + 1, s, h => by
    show hI (if s.wid < 16777216 then nrmE f (stpE s) else s)
    split
    · rename_i hw
      exact hI_nrm f (stp_v h hw).2.1
    · exact h
theorem in_nrm {X n : Nat} : ∀ (f : Nat) {s : Ec}, hI s → inE X n (nrmE f s) → inE X n s
  | 0, _, _, hi => hi
  | f + 1, s, h, hi => by
    have hi : inE X n (if s.wid < 16777216 then nrmE f (stpE s) else s) := hi
    split at hi
    · rename_i hw
      exact in_stp h hw (in_nrm f (stp_v h hw).2.1 hi)
    · exact hi
theorem in_mid {X n w : Nat} {s : Ec} {up : Bool} (h : hI s) (hw : w < s.wid) (hi : inE X n (midE s w up)) : inE X n s := by
  obtain ⟨k, h1, h2, h3⟩ := hi
  rw [(len_mid (hI_nc h) hw up).1] at h1
  rw [(mid_v h hw up).1] at h2 h3
  rw [midE_wid] at h3
  refine ⟨k, h1, Nat.le_trans (Nat.mul_le_mul_right _ (Nat.le_add_right _ _)) h2, Nat.lt_of_lt_of_le h3 (Nat.mul_le_mul_right _ ?_)⟩
  cases up
  · show vE s + 0 + w ≤ _
    omega
  · show vE s + w + (s.wid - w) ≤ _
    omega
theorem hI_par {w : Nat} {s : Ec} {up : Bool} (h : hI s) (hw : w < s.wid) : hI (parE s w up) := hI_nrm 3 (mid_v h hw up).2
theorem in_par {X n w : Nat} {s : Ec} {up : Bool} (h : hI s) (hw : w < s.wid) (hi : inE X n (parE s w up)) : inE X n (midE s w up) ∧ inE X n s := by
  have := in_nrm 3 (mid_v h hw up).2 hi
  exact ⟨this, in_mid h hw this⟩
/-- the first bytes as a number -/
def pn (bs : List Nat) : Nat → Nat
  | 0 => 0
  | m + 1 => pn bs m * 256 + bs.getD m 0
theorem pn_congr {a b : List Nat} (h : ∀ j, a.getD j 0 = b.getD j 0) : ∀ m, pn a m = pn b m
  | 0 => rfl
  | m + 1 => by
    show pn a m * 256 + a.getD m 0 = pn b m * 256 + b.getD m 0
    rw [pn_congr h m, h m]
theorem pn_nu (l : List Nat) : ∀ m, m ≤ l.length → pn l m = nu (l.take m)
  | 0, _ => rfl
  | m + 1, h => by
    show pn l m * 256 + l.getD m 0 = nu (l.take (m + 1))
    rw [pn_nu l m (by omega), List.take_add_one, nget_of_lt (by omega), nu_app]
    show _ = nu (l.take m) * 256 ^ 1 + (0 * 256 + l.getD m 0)
    omega
theorem trim_getD (l : List Nat) (j : Nat) : (trimE l).getD j 0 = l.getD j 0 := by
  induction l generalizing j with
  | nil => rfl
  | cons x t ih =>
    show (if x = 0 ∧ trimE t = [] then [] else x :: trimE t).getD j 0 = _
    split
    · rename_i h
      obtain ⟨rfl, h2⟩ := h
      cases j with
      | zero => rfl
      | succ j =>
        have := ih j
        rw [h2] at this
        show 0 = t.getD j 0
        rw [← this]
        rfl
    · cases j with
      | zero => rfl
      | succ j =>
        show (trimE t).getD j 0 = t.getD j 0
        exact ih j
theorem pn_end {s : Ec} (h : hI s) : pn (trimE (allE s)) (lenE s) = vE s := by
  rw [pn_congr (trim_getD _), pn_nu _ _ (by rw [allE_len]; exact Nat.le_refl _), ← allE_len, List.take_length, nu_all s h.2.2.1]
theorem pn_cut {bs : List Nat} (hb : ∀ x ∈ bs, x < 256) (m : Nat) : ∀ k, pn bs m * 256 ^ k ≤ pn bs (m + k) ∧ pn bs (m + k) < (pn bs m + 1) * 256 ^ k
  | 0 => ⟨by rw [Nat.pow_zero, Nat.mul_one]; exact Nat.le_refl _, by rw [Nat.pow_zero, Nat.mul_one]; exact Nat.lt_succ_self _⟩
  | k + 1 => by
    obtain ⟨h1, h2⟩ := pn_cut hb m k
    have hx := getD_lt hb (m + k)
    have e : pn bs (m + (k + 1)) = pn bs (m + k) * 256 + bs.getD (m + k) 0 := rfl
    rw [e, Nat.pow_succ, ← Nat.mul_assoc, ← Nat.mul_assoc]
    omega
theorem in_p {bs : List Nat} (hb : ∀ x ∈ bs, x < 256) {n : Nat} {s : Ec} (h : inE (pn bs n) n s) : vE s ≤ pn bs (lenE s) ∧ pn bs (lenE s) < vE s + s.wid := by
  obtain ⟨k, rfl, h2, h3⟩ := h
  obtain ⟨c1, c2⟩ := pn_cut hb (lenE s) k
  have a := Nat.lt_of_mul_lt_mul_right (Nat.lt_of_le_of_lt h2 c2)
  have b := Nat.lt_of_mul_lt_mul_right (Nat.lt_of_le_of_lt c1 h3)
  omega
/-- a decoder that follows an encoder -/
def bkI (bs : List Nat) (s : Ec) (t : Dc) : Prop := t.pos = lenE s ∧ t.wid = s.wid ∧ t.over = false ∧ t.num + vE s = pn bs (lenE s)
theorem bk_stp {bs : List Nat} {s : Ec} {t : Dc} (h : hI s) (hw : s.wid < 16777216) (hn : t.num < s.wid) (hk : bkI bs s t) : bkI bs (stpE s) (stpD bs t) := by
  obtain ⟨k1, k2, k3, k4⟩ := hk
  obtain ⟨v1, -, v3⟩ := stp_v h hw
  refine ⟨by show t.pos + 1 = _; rw [v3, k1], by show t.wid * 256 = s.wid * 256; rw [k2], k3, ?_⟩
  show t.num * 256 % 18446744073709551616 + bs.getD t.pos 0 + vE (stpE s) = pn bs (lenE (stpE s))
  rw [v3, v1, k1]
  show _ = pn bs (lenE s) * 256 + bs.getD (lenE s) 0
  rw [← k4]
  omega
theorem bk_nrm {bs : List Nat} (hb : ∀ x ∈ bs, x < 256) {n : Nat} : ∀ (f : Nat) {s : Ec} {t : Dc}, hI s → inE (pn bs n) n (nrmE f s) → bkI bs s t → bkI bs (nrmE f s) (nrmD bs f t)
  | 0, _, _, _, _, hk => hk
  | f + 1, s, t, h, hi, hk => by
    have hin := in_p hb (in_nrm (f + 1) h hi)
    have hi : inE (pn bs n) n (if s.wid < 16777216 then nrmE f (stpE s) else s) := hi
    show bkI bs (if s.wid < 16777216 then nrmE f (stpE s) else s) (if t.wid < 16777216 then nrmD bs f (stpD bs t) else t)
    have e := hk.2.1
    have hn : t.num < s.wid := by have := hk.2.2.2; omega
    by_cases hw : s.wid < 16777216
    · rw [if_pos hw] at hi ⊢
      rw [if_pos (by rw [e]; exact hw)]
      exact bk_nrm hb f (stp_v h hw).2.1 hi (bk_stp h hw hn hk)
    · rw [if_neg hw, if_neg (by rw [e]; exact hw)]
      exact hk
theorem bk_mid {bs : List Nat} (hb : ∀ x ∈ bs, x < 256) {n w : Nat} {s : Ec} {t : Dc} {up : Bool} (h : hI s) (hw : w < s.wid) (hi : inE (pn bs n) n (midE s w up)) (hk : bkI bs s t) : bkI bs (midE s w up) (midD t w) ∧ upD t w = up := by
  obtain ⟨k1, k2, k3, k4⟩ := hk
  obtain ⟨p1, p2⟩ := in_p hb hi
  obtain ⟨q1, q2⟩ := in_p hb (in_mid h hw hi)
  rw [(len_mid (hI_nc h) hw up).1, (mid_v h hw up).1] at p1 p2
  rw [midE_wid] at p2
  have hr := h.2.2.2
  have hu : upD t w = up := by
    unfold upD
    rw [k3]
    cases up
    · have p2 : pn bs (lenE s) < vE s + 0 + w := p2
      rw [decide_eq_false (by omega)]
      rfl
    · have p1 : vE s + w ≤ pn bs (lenE s) := p1
      rw [decide_eq_true (by omega)]
      rfl
  refine ⟨?_, hu⟩
  unfold midD bkI
  rw [hu, (len_mid (hI_nc h) hw up).1, (mid_v h hw up).1, midE_wid]
  cases up
  · refine ⟨k1, rfl, k3, ?_⟩
    show t.num + (vE s + 0) = _
    omega
  · have p1 : vE s + w ≤ pn bs (lenE s) := p1
    refine ⟨k1, by show t.wid - w = s.wid - w; rw [k2], k3, ?_⟩
    show (t.num + (18446744073709551616 - w)) % 18446744073709551616 + (vE s + w) = _
    omega
theorem bk_par {bs : List Nat} (hb : ∀ x ∈ bs, x < 256) {n w : Nat} {s : Ec} {t : Dc} {up : Bool} (h : hI s) (hw : w < s.wid) (hi : inE (pn bs n) n (parE s w up)) (hk : bkI bs s t) : bkI bs (parE s w up) (parD bs t w) ∧ upD t w = up := by
  obtain ⟨i1, i2⟩ := in_par h hw hi
  obtain ⟨b1, b2⟩ := bk_mid hb h hw i1 hk
  exact ⟨bk_nrm hb 3 (mid_v h hw up).2 hi b1, b2⟩
/-- an operation that is taken -/
theorem nxO_part {s : Ec} {o : Ot} (hw : 16777216 ≤ s.wid) (ho : okO o = true) : ∃ w, w < s.wid ∧ nxO s o = parE s w o.2 ∧ (o.1 = 0 → w = s.wid / 2) ∧ (o.1 ≠ 0 → chance o.1 = true ∧ w = s.wid / 2048 * o.1.toNat) := by
  unfold nxO
  by_cases h0 : o.1 = 0
  · rw [if_pos h0]
    exact ⟨s.wid / 2, by omega, rfl, fun _ => rfl, fun h => absurd h0 h⟩
  · have hc : chance o.1 = true := by
      unfold okO at ho
      rw [decide_eq_false h0] at ho
      exact ho
    obtain ⟨c1, c2⟩ := chance_nat hc
    obtain ⟨-, b⟩ := part_of hw c1 c2
    rw [if_neg h0]
    unfold codE
    rw [if_pos hc]
    exact ⟨_, b, rfl, fun h => absurd h h0, fun _ => ⟨hc, rfl⟩⟩
theorem nxO_h {s : Ec} {o : Ot} (h : hI s) (hw : 16777216 ≤ s.wid) : hI (nxO s o) := by
  by_cases ho : okO o = true
  · obtain ⟨w, h1, h2, -⟩ := nxO_part hw ho
    rw [h2]
    exact hI_par h h1
  · have h0 : o.1 ≠ 0 := fun e => ho (by unfold okO; rw [decide_eq_true e]; rfl)
    have hc : ¬ chance o.1 = true := fun e => ho (by unfold okO; rw [e, Bool.or_true])
    unfold nxO codE
    rw [if_neg h0, if_neg hc]
    exact h
theorem nxO_no {s : Ec} {o : Ot} (ho : okO o = false) : nxO s o = s := by
  have h0 : o.1 ≠ 0 := fun e => by unfold okO at ho; rw [decide_eq_true e] at ho; cases ho
  have hc : ¬ chance o.1 = true := fun e => by unfold okO at ho; rw [e, Bool.or_true] at ho; cases ho
  unfold nxO codE
  rw [if_neg h0, if_neg hc]
def runE (l : List Ot) : Ec := l.foldl nxO newE
theorem run_snoc (l : List Ot) (o : Ot) : runE (l ++ [o]) = nxO (runE l) o := by
  unfold runE
  rw [List.foldl_append]
  rfl
theorem run_ok (l : List Ot) : okE (4 * l.length) (runE l) ∧ 16777216 ≤ (runE l).wid ∧ hI (runE l) := by
  have key : ∀ (l : List Ot) (s : Ec) (N : Nat), okE N s → 16777216 ≤ s.wid → hI s → okE (N + 4 * l.length) (l.foldl nxO s) ∧ 16777216 ≤ (l.foldl nxO s).wid ∧ hI (l.foldl nxO s) := by
    intro l
    induction l with
    | nil => intro s N h1 h2 h3; exact ⟨h1, h2, h3⟩
    | cons o l ih =>
      intro s N h1 h2 h3
      obtain ⟨a, b⟩ := nxO_ok (o := o) h1 h2
      obtain ⟨c, d⟩ := ih (nxO s o) (N + 4) a b (nxO_h h3 h2)
      exact ⟨c.mono (by simp; omega), d⟩
  have := key l newE 0 newE_ok (by decide) hI_new
  rwa [Nat.zero_add] at this
theorem in_run {X n : Nat} (a : List Ot) : ∀ (l : List Ot), (∀ o ∈ l, okO o = true) → inE X n (runE (a ++ l)) → inE X n (runE a) := by
  intro l
  induction l generalizing a with
  | nil => intro _ h; rwa [List.append_nil] at h
  | cons o l ih =>
    intro ho h
    have := ih (a ++ [o]) (fun x hx => ho x (List.mem_cons_of_mem _ hx)) (by rw [List.append_assoc]; exact h)
    rw [run_snoc] at this
    obtain ⟨-, r2, r3⟩ := run_ok a
    obtain ⟨w, h1, h2, -⟩ := nxO_part r2 (ho o List.mem_cons_self)
    rw [h2] at this
    exact (in_par r3 h1 this).2
/-- what the bytes of all of them say -/
def bsE (l : List Ot) : List Nat := trimE (allE (runE l))
theorem in_end {l : List Ot} (ho : ∀ o ∈ l, okO o = true) (i : Nat) : inE (pn (bsE l) (lenE (runE l))) (lenE (runE l)) (runE (l.take i)) := by
  obtain ⟨-, r2, r3⟩ := run_ok l
  refine in_run (l.take i) (l.drop i) (fun o h => ho o (List.mem_of_mem_drop h)) ?_
  rw [List.take_append_drop]
  refine ⟨0, rfl, ?_, ?_⟩
  · show _ ≤ pn (trimE _) _
    rw [pn_end r3, Nat.pow_zero, Nat.mul_one]
    exact Nat.le_refl _
  · show pn (trimE _) _ < _
    rw [pn_end r3, Nat.pow_zero, Nat.mul_one]
    omega
theorem trim_mem (l : List Nat) : ∀ x ∈ trimE l, x ∈ l := by
  induction l with
  | nil => intro x hx; cases hx
  | cons y t ih =>
    intro x hx
    have hx : x ∈ (if y = 0 ∧ trimE t = [] then [] else y :: trimE t) := hx
    split at hx
    · cases hx
    · rcases List.mem_cons.1 hx with rfl | hx
      · exact List.mem_cons_self
      · exact List.mem_cons_of_mem _ (ih x hx)
theorem all_lt {N : Nat} {s : Ec} (h : okE N s) : ∀ x ∈ allE s, x < 256 := by
  intro x hx
  unfold allE at hx
  rcases List.mem_append.1 hx with hx | hx
  · rcases List.mem_append.1 hx with hx | hx
    · rcases List.mem_append.1 hx with hx | hx
      · exact h.2.2.2.2 x hx
      · exact hdE_lt s x hx
    · rw [List.eq_of_mem_replicate hx]; decide
  · simp only [List.mem_cons, List.not_mem_nil, or_false] at hx
    omega
theorem bsE_lt (l : List Ot) : ∀ x ∈ bsE l, x < 256 := fun x hx => all_lt (run_ok l).1 x (trim_mem _ x hx)
theorem mv_pn {bs : List Nat} (hb : ∀ x ∈ bs, x < 256) : ∀ k, k ≤ 4 → (mvN bs k).pos = k ∧ (mvN bs k).num = pn bs k := by
  intro k
  induction k with
  | zero => intro _; exact ⟨rfl, rfl⟩
  | succ k ih =>
    intro hk
    obtain ⟨i1, i2⟩ := ih (by omega)
    obtain ⟨-, -, -, m4⟩ := mvN_is bs hb k (by omega)
    have m5 : (mvN bs k).num < 256 ^ 4 := Nat.lt_of_lt_of_le m4 (Nat.pow_le_pow_right (by decide) (by omega))
    have m5 : (mvN bs k).num < 4294967296 := m5
    have e1 : mvN bs (k + 1) = mvD bs (mvN bs k) := rfl
    have e2 : pn bs (k + 1) = pn bs k * 256 + bs.getD k 0 := rfl
    rw [e1, e2]
    unfold mvD
    rw [i1, ← i2]
    refine ⟨rfl, ?_⟩
    show (mvN bs k).num * 256 % 18446744073709551616 + bs.getD k 0 = (mvN bs k).num * 256 + bs.getD k 0
    omega
theorem bk_new {l : List Ot} (ho : ∀ o ∈ l, okO o = true) : bkI (bsE l) newE (newD (bsE l)) := by
  have hb := bsE_lt l
  have hp : pn (bsE l) 4 < 4294967295 := by
    have := (in_p hb (in_end ho 0)).2
    rw [show vE (runE (l.take 0)) + (runE (l.take 0)).wid = 4294967295 by rw [List.take_zero]; decide +kernel, show lenE (runE (l.take 0)) = 4 by rw [List.take_zero]; decide +kernel] at this
    exact this
  generalize bsE l = bs at *
  obtain ⟨k1, k2⟩ := mv_pn hb 4 (Nat.le_refl _)
  have e0 : vE newE = 0 := by decide +kernel
  have e1 : lenE newE = 4 := by decide +kernel
  refine ⟨by rw [e1]; exact k1, (newD_ok hb).2.1, ?_, ?_⟩
  · show decide (4294967295 ≤ (mvN bs 4).num) = false
    rw [k2, decide_eq_false_iff_not]
    omega
  · rw [e0, e1, Nat.add_zero]
    exact k2
/-- one operation comes back -/
theorem bk_op {l : List Ot} (ho : ∀ o ∈ l, okO o = true) {i : Nat} {o : Ot} (hu : l[i]? = some o) {t : Dc} (hk : bkI (bsE l) (runE (l.take i)) t) :
    (o.1 = 0 → bkI (bsE l) (runE (l.take (i + 1))) (parD (bsE l) t (t.wid / 2)) ∧ upD t (t.wid / 2) = o.2) ∧
    (o.1 ≠ 0 → chance o.1 = true ∧ bkI (bsE l) (runE (l.take (i + 1))) (codD (bsE l) t o.1) ∧ codU t o.1 = o.2) := by
  have hb := bsE_lt l
  have hi := in_end ho (i + 1)
  have e : l.take (i + 1) = l.take i ++ [o] := by rw [List.take_add_one, hu]; rfl
  rw [e, run_snoc] at hi ⊢
  obtain ⟨-, r2, r3⟩ := run_ok (l.take i)
  obtain ⟨w, h1, h2, h3, h4⟩ := nxO_part r2 (ho o (List.mem_of_getElem? hu))
  rw [h2] at hi ⊢
  have := bk_par hb r3 h1 hi hk
  have hw := hk.2.1
  refine ⟨fun h0 => ?_, fun h0 => ?_⟩
  · rw [hw, ← h3 h0]
    exact this
  · obtain ⟨c1, c2⟩ := h4 h0
    refine ⟨c1, ?_⟩
    unfold codD codU
    rw [if_pos c1, if_pos c1, hw, ← c2]
    exact this
end Go.Proofs.YtkfdhnmlebnfkaaDoor

/- A list of operations of the call's own beside an encoder, and then beside a decoder. -/
namespace Go.Proofs.YtkfdhnmlebnfkaaDoor
set_option linter.unusedVariables false
set_option linter.unusedSimpArgs false
open Go.RowKit Go.Extern.Stop Go.Stop Go.Extern

theorem infoOt : (Tryd.prog.info? 29).map (fun i => (i.zero, i.size, i.bytes)) = some (some (.agg #[.int .i64 0, .bool false]), 2, 16) := by kernel_rfl
def otc (o : Ot) : List Value := [.int .i64 o.1, .bool o.2]
def otcs (D : List Ot) : List Value := D.flatMap otc
theorem otcs_app (D : List Ot) (o : Ot) : otcs (D ++ [o]) = otcs D ++ otc o := by simp [otcs]
theorem otcs_get : ∀ (D : List Ot) (q : Nat) (o : Ot), D[q]? = some o → (otcs D)[q * 2]? = some (.int .i64 o.1) ∧ (otcs D)[q * 2 + 1]? = some (.bool o.2)
  | [], q, o, h => by simp at h
  | a :: D, 0, o, h => by
    simp only [List.getElem?_cons_zero, Option.some.injEq] at h
    subst h
    exact ⟨rfl, rfl⟩
  | a :: D, q + 1, o, h => by
    simp only [List.getElem?_cons_succ] at h
    obtain ⟨h1, h2⟩ := otcs_get D q o h
    have e : otcs (a :: D) = otc a ++ otcs D := by simp [otcs]
    have l : (otc a).length = 2 := rfl
    rw [e]
    refine ⟨?_, ?_⟩
    · rw [List.getElem?_append_right (by omega), l, show (q + 1) * 2 - 2 = q * 2 by omega]; exact h1
    · rw [List.getElem?_append_right (by omega), l, show (q + 1) * 2 + 1 - 2 = q * 2 + 1 by omega]; exact h2
theorem push_ot {ops : Array Oper} {rest : List Oper} {o : Oper} {a : Act} {Q : Exit → Act → World → Prop} {Wd : World} {base : Nat} (hgd : o.guard = none) (s y : Operand) (t : TypeId)
    (ho : o.op = .call { callee := .builtin .append, args := #[s, y], argTypes := #[t, t] }) (ht : Tryd.prog.underlying t = some (.slice 29))
    (v : Value) (n : Nat) (xs : List Value) (p : Ot) (hs : a.eval s = v) (hown : Wd.ownsRow base 29 2 v n xs) (hx : a.eval y = .slice (some ⟨Wd.heap.size, 0, none⟩) 1 1) (hb : base ≤ Wd.heap.size) (hn : n ≤ 1000000)
    (h : ∀ v' w', w'.ownsRow base 29 2 v' (n + 1) (xs ++ otc p) → Wd.grownBy w' v.ownBlock → wpList Tryd.prog ops Q rest (a.put o.dst v') w') :
    wpList Tryd.prog ops Q (o :: rest) a (Wd.alloc (.cells #[.int .i64 p.1, .bool p.2] 29)) := by
  obtain ⟨i0, hi, hz0, hz1, hz2⟩ := info_parts infoOt
  refine wpList_append_own _ hgd s y t ho base 29 i0 _ 2 16 ht hi hz0 hz1 hz2 rfl (by decide) v n xs hs (hown.alloc _) ⟨Wd.heap.size, 0, none⟩ 1 1 (otc p) hx rfl (World.news_of_block (cs := #[.int .i64 p.1, .bool p.2]) (t := 29) (fr := (0, 0)) (heap_alloc_new Wd _)) ?_ (by unfold maxLen; omega) (by omega) (by simp; omega) ?_
  · intro x hx
    simp only [otc, List.mem_cons, List.not_mem_nil, or_false] at hx
    rcases hx with rfl | rfl <;> rfl
  intro v' w' h1 h2 _
  refine h v' w' h1 ⟨h2.os, h2.tape, h2.output, Nat.le_trans (by simp) h2.size, fun k hk hne => ?_⟩
  exact (h2.block k (by simp; omega) hne).trans (Below.heap_alloc Wd _ k hk)
theorem ot_own_wkp {w w' : World} {b B : Nat} {v : Value} {n : Nat} {xs : List Value} (h : w.ownsRow B 29 2 v n xs) (k : WKp b B w w') (hb : b < B) : w'.ownsRow B 29 2 v n xs := by
  obtain ⟨hl, h⟩ := h
  refine ⟨hl, ?_⟩
  rcases h with h | ⟨g, cap, cur, rfl, hg, hgg, rest⟩
  · exact Or.inl h
  · refine Or.inr ⟨g, cap, cur, rfl, hg, ?_, rest⟩
    rw [k.2.2 g (Array.getElem?_eq_some_iff.1 hgg).1 (by omega) (.inr ?_)]
    · exact hgg
    · rintro ⟨cs, fr, e⟩
      rw [hgg] at e
      simp only [Option.some.injEq, Obj.cells.injEq] at e
      exact absurd e.2.1 (by decide)
theorem EcAt.grown {w w' : World} {b B : Nat} {s : Ec} {v : Value} {n : Nat} {xs : List Value} (h : EcAt w b B s) (o : w.ownsRow B 29 2 v n xs) (g : w.grownBy w' v.ownBlock) : EcAt w' b B s := by
  obtain ⟨u, h1, h2, h3, h4⟩ := h
  have hbv : some b ≠ v.ownBlock := fun e => by have := (o.lt b e.symm).1; omega
  refine ⟨u, h1.same (g.block b h1.lt hbv), h2.kept g ?_, h3, Nat.le_trans h4 g.size⟩
  rcases h2.2 with ⟨rfl, -⟩ | ⟨g1, c1, cur1, rfl, -, hg1, -⟩
  · exact .inl rfl
  · right
    intro e
    rcases o.2 with ⟨rfl, -⟩ | ⟨g2, c2, cur2, rfl, -, hg2, -⟩
    · simp [Value.ownBlock] at e
    · simp only [Value.ownBlock, Option.some.injEq] at e
      subst e
      rw [hg1] at hg2
      simp only [Option.some.injEq, Obj.cells.injEq] at hg2
      exact absurd hg2.2.1 (by decide)
theorem ot_own_slice {w : World} {base n : Nat} {v : Value} {xs : List Value} (h : w.ownsRow base 29 2 v n xs) : ∃ a cap, v = .slice a n cap := by
  obtain ⟨hl, h⟩ := h
  rcases h with ⟨h1, h2⟩ | ⟨g, cap, cur, e, -⟩
  · exact ⟨none, 0, by rw [h1, h2]⟩
  · exact ⟨some ⟨g, 0, none⟩, cap, e⟩
theorem ot_own_cells {w : World} {base n : Nat} {a : Option Addr} {cap : Nat} {D : List Ot} (h : w.ownsRow base 29 2 (.slice a n cap) n (otcs D)) (hn : 0 < n) : ∃ g, a = some ⟨g, 0, none⟩ ∧ (base ≤ g ∧ g < w.heap.size) ∧ ∀ q o, D[q]? = some o → OtIn w g (q * 2) o := by
  obtain ⟨hl, h' | ⟨g, cap', cur, e', hb, hg, h1, h2, hs, ht⟩⟩ := h
  · omega
  · simp only [Value.slice.injEq] at e'
    obtain ⟨rfl, -, rfl⟩ := e'
    have cell : ∀ j v, (otcs D)[j]? = some v → w.cell? ⟨g, j, none⟩ = some v := by
      intro j v hj
      rw [← ht, List.getElem?_take] at hj
      split at hj
      · simp [World.cell?, hg]
        simpa using hj
      · cases hj
    refine ⟨g, rfl, ⟨hb, (Array.getElem?_eq_some_iff.1 hg).1⟩, fun q o hq => ?_⟩
    obtain ⟨c0, c1⟩ := otcs_get D q o hq
    exact ⟨cell _ _ c0, cell _ _ c1⟩
/-- the operations that were done, in a row of the call's own, not at c -/
def OnAt (w : World) (c : Nat) (oa : Option Addr) (D : List Ot) : Prop := 0 < D.length → ∃ g, oa = some ⟨g, 0, none⟩ ∧ g ≠ c ∧ ∀ q o, D[q]? = some o → OtIn w g (q * 2) o
theorem OnAt.kp {w w' : World} {c : Nat} {oa : Option Addr} {D : List Ot} (h : OnAt w c oa D) (k : Kp c w w') : OnAt w' c oa D := fun h0 => by
  obtain ⟨g, e, hg, hq⟩ := h h0
  refine ⟨g, e, hg, fun q o ho => ?_⟩
  obtain ⟨c0, c1⟩ := hq q o ho
  exact ⟨k.cell c0 hg, k.cell c1 hg⟩
theorem OnAt.of {w w' : World} {base n c cap : Nat} {oa : Option Addr} {D : List Ot} (h : w.ownsRow base 29 2 (.slice oa n cap) n (otcs D)) (hn : D.length = n) (k : Ext w w') (hc : w.heap.size ≤ c) : OnAt w' c oa D := fun h0 => by
  obtain ⟨g, e, hg, hq⟩ := ot_own_cells h (by omega)
  exact ⟨g, e, by omega, fun q o ho => (hq q o ho).ext k⟩
theorem EcBox.kp {w w' : World} {b c : Nat} {v : Value} {h : Int} {r l d : Nat} (x : EcBox w b v h r l d) (k : Kp c w w') (hb : b ≠ c) : EcBox w' b v h r l d := x.same (k.block x.lt hb)
set_option maxRecDepth 20000 in
theorem enlen_box (b N n c : Nat) (a : Option Addr) (s : Ec) (w : World) (hB : EcBox w b (.slice a n c) s.held s.run s.low s.wid) (hn : s.done.length = n) (hk : okE N s) (hN : N ≤ 1000000) : Calls Tryd.prog 19 #[.pointer (some ⟨b, 0, none⟩)] w fun e w' => e = .returned (.int .i64 (lenE s : Int)) ∧ Ext w w' := by
  obtain ⟨D, hd, r, l, d⟩ := s
  have hB : EcBox w b (.slice a n c) hd r l d := hB
  have hn : D.length = n := hn
  have k1 : D.length + r ≤ N := hk.1
  have k2 : -1 ≤ hd := hk.2.1.1
  obtain ⟨⟨c0, c1, c2, c3, c4⟩, f0, f1, f2, f3, f4⟩ := hB
  obtain ⟨L, hL⟩ : ∃ L, lenE ⟨D, hd, r, l, d⟩ = L := ⟨_, rfl⟩
  have HL : Hid (L = D.length + r + 4 + if 0 ≤ hd then 1 else 0) := hL.symm
  rw [hL]
  rw [hn] at k1 HL
  clear hL hn hk
  have e1 : IntKind.i64.wrap ((n : Int) + (r : Int)) = (n : Int) + (r : Int) := by rw [IntKind.wrap_i64]; omega
  have e2 : IntKind.i64.wrap ((n : Int) + (r : Int) + 4) = (n : Int) + (r : Int) + 4 := by rw [IntKind.wrap_i64]; omega
  have e3 : IntKind.i64.wrap ((n : Int) + (r : Int) + 4 + 1) = (n : Int) + (r : Int) + 4 + 1 := by rw [IntKind.wrap_i64]; omega
  by_cases h0 : 0 ≤ hd
  · have HL2 : Hid ((L : Int) = (n : Int) + (r : Int) + 4 + 1) := by show _ = _; have := HL.out; rw [if_pos h0] at this; omega
    clear HL
    go_enter Tryd.func19, Tryd.ntmps19
    go_wp2_with fail
    go_quiet (fail)
    have c1' := ((Ext.refl w).drewN nq).cell c1
    go_wp2
    go_ret
    exact ⟨by rw [HL2.out]; rfl, (Ext.refl w).drewN _⟩
  · have HL2 : Hid ((L : Int) = (n : Int) + (r : Int) + 4) := by show _ = _; have := HL.out; rw [if_neg h0] at this; omega
    clear HL
    go_enter Tryd.func19, Tryd.ntmps19
    go_wp2_with fail
    go_quiet (fail)
    have c1' := ((Ext.refl w).drewN nq).cell c1
    go_wp2
    go_ret
    exact ⟨by rw [HL2.out]; rfl, (Ext.refl w).drewN _⟩
end Go.Proofs.YtkfdhnmlebnfkaaDoor

/- kinlaw12.RacBack: the walk. -/
namespace Go.Proofs.YtkfdhnmlebnfkaaDoor
set_option linter.unusedVariables false
set_option linter.unusedSimpArgs false
open Go.RowKit Go.Extern.Stop Go.Stop Go.Extern

theorem ok_app {D : List Ot} {o : Ot} (h : ∀ x ∈ D, okO x = true) (k : okO o = true) : ∀ x ∈ D ++ [o], okO x = true := fun x hx => by
  rcases List.mem_append.1 hx with hx | hx
  · exact h x hx
  · rw [List.mem_singleton.1 hx]; exact k
/-- what the bytes of all of them are -/
theorem bs_len (D : List Ot) : (bsE D).length ≤ lenE (runE D) ∧ lenE (runE D) ≤ 4 * D.length + 5 := by
  refine ⟨?_, ?_⟩
  · rw [← allE_len]
    exact trim_le _
  · have := (run_ok D).1.1
    unfold lenE
    split <;> omega
set_option maxHeartbeats 8000000 in
set_option maxRecDepth 20000 in
theorem back_law (L : List Ot) (v : Value) (w : World) (hg : EtIs w) (hL : Ots w v L) : Calls Tryd.prog 24 #[v] w fun e w' => e = .returned (.bool true) ∧ Ext w w' := by
  have HG := Lib.hid hg
  have hm := hL.small
  have HOT := Lib.hid hL
  obtain ⟨la, lc, rfl⟩ := hL.form
  obtain ⟨m, hm'⟩ : ∃ m, m = L.length := ⟨_, rfl⟩
  rw [← hm'] at HOT hm ⊢
  have HM := Lib.hid hm'
  unfold maxLen at hm
  clear hg hL hm'
  go_enter Tryd.func24, Tryd.ntmps24
  go_wp2_with fail
  refine (first12_any _ HG.out).mono ?_; rintro e w0 ⟨rfl, hx0⟩
  go_wp2_with fail
  refine (newen_any _).mono ?_; rintro e w1 ⟨b, rfl, hb, hbx, hx1⟩
  have HX1 := Lib.hid (hx0.trans hx1)
  have hwb : w.heap.size ≤ b := by have := hx0.size; omega
  have hbB : b < w1.heap.size := hbx.lt
  have hA1 : EcAt w1 b w1.heap.size newE := EcAt.new hbx hbB (Nat.le_refl _)
  have hwB : w.heap.size ≤ w1.heap.size := HX1.out.size
  obtain ⟨B, hB⟩ : ∃ B, w1.heap.size = B := ⟨_, rfl⟩
  rw [hB] at hA1 hwB hbB
  have HA1 := Lib.hid hA1
  have HBS : Hid (∀ (wr : World) {s : Ec}, EcAt wr b B s → B ≤ wr.heap.size) := fun wr s h => by obtain ⟨_, _, _, _, h4⟩ := h; exact h4
  clear hx0 hx1 hb hbx hA1 hB
  go_wp2_with fail
  go_loopw [4, 5] (fun ov iv wr => ∃ (i k : Nat) (D : List Ot), ((i ≤ m ∧ i ≤ 4000) ∧ k ≤ i) ∧ iv = .int .i64 (i : Int) ∧ Hid ((∀ o ∈ D, okO o = true) ∧ D.length = k) ∧ Hid (wr.ownsRow B 29 2 ov k (otcs D)) ∧ Hid (EcAt wr b B (runE D)) ∧ Hid (Ext w wr)) (fun _ iv _ => 4000 - (intOf iv).toNat)
  case atStart => exact ⟨0, 0, [], ⟨⟨Nat.zero_le _, Nat.zero_le _⟩, Nat.le_refl _⟩, rfl, ⟨fun _ h => (by cases h), rfl⟩, World.ownsRow_nil _ _ _ _, HA1.out, HX1.out⟩
  case round =>
    clear HA1 HX1
    obtain ⟨i, k, D, ⟨⟨hi, hi4⟩, hk⟩, rfl, HD, HOW, HEC, HE⟩ := hrel
    obtain ⟨oa, ocp, rfl⟩ := ot_own_slice HOW.out
    by_cases hlt : i < m
    · by_cases hl4 : i < 4000
      · obtain ⟨⟨p, up⟩, hU⟩ : ∃ o, L[i]? = some o := ⟨_, List.getElem?_eq_getElem (by rw [← HM.out]; exact hlt)⟩
        obtain ⟨g, off, rfl, hq⟩ := HOT.out.had (by have := HM.out; omega)
        have HOP := Lib.hid (hq i _ hU)
        obtain ⟨c0, c1⟩ := HOP.out.ext HE.out
        have c0 : wr.cell? ⟨g, off + i * 2, none⟩ = some (.int .i64 p) := c0
        have c1 : wr.cell? ⟨g, off + i * 2 + 1, none⟩ = some (.bool up) := c1
        have x1 : (0 : Int) ≤ (i : Int) := by omega
        have x2 : (i : Int) < (m : Int) := by omega
        have x3 : (i : Int) < 4000 := by omega
        have hDk := HD.out.2
        obtain ⟨r1, r2, -⟩ := run_ok D
        have UC := Lib.hid (codes_any b B _ p up (runE D) wr HEC.out r1 (by omega) r2)
        clear hq hU r1 r2 hDk
        by_cases hok : okO (p, up) = true
        · have HOK := Lib.hid hok
          have hS : nxO (runE D) (p, up) = runE (D ++ [(p, up)]) := (run_snoc D (p, up)).symm
          rw [hok, hS] at UC
          clear hok hS
          go_wp2_with fail
          refine (UC.out).mono ?_; rintro e wc ⟨rfl, hA4, hk4⟩
          have HWC := Lib.hid hA4
          have HOC := Lib.hid (ot_own_wkp HOW.out hk4 hbB)
          have HEX := Lib.hid (WKp.out HE.out hk4 hwb hwB)
          have hBC := HEX.out.size
          obtain ⟨q0, q1⟩ := HOP.out.ext HEX.out
          have q0 : wc.cell? ⟨g, off + i * 2, none⟩ = some (.int .i64 p) := q0
          have q1 : wc.cell? ⟨g, off + i * 2 + 1, none⟩ = some (.bool up) := q1
          have hBs := HBS.out wc HWC.out
          clear hA4 hk4 c0 c1 HOW HEC HE
          go_wp2_with (at_builtin; refine push_ot rfl _ _ 22 rfl Tryd.underlying22 _ k _ (p, up) rfl HOC.out (by show Value.slice (some ⟨wc.heap.size, 0, none⟩) 1 1 = _; simp) hBs (by omega) ?_; intro v8 w8 h1 h2; have HO8 := Lib.hid h1; have HW8 := Lib.hid (HWC.out.grown HOC.out h2); have HE8 := Lib.hid (HEX.out.of_below (Below.grown (Below.refl _ _) h2 (Nat.le_trans hwB hBs) (fun k hk => Nat.le_trans hwB (HOC.out.lt k hk).1)) (Nat.le_refl _)); clear h1 h2)
          go_roundw
          case rel =>
            refine ⟨i + 1, k + 1, D ++ [(p, up)], ⟨⟨by omega, by omega⟩, by omega⟩, by go_num, ⟨ok_app HD.out.1 HOK.out, by have := HD.out.2; simp [this]⟩, ?_, HW8.out, HE8.out⟩
            show World.ownsRow _ _ _ _ _ _ _
            rw [otcs_app]; exact HO8.out
          case measure => simp [intOf]; omega
        · have hok : okO (p, up) = false := by simpa using hok
          rw [hok, nxO_no hok] at UC
          clear hok
          go_wp2_with fail
          refine (UC.out).mono ?_; rintro e wc ⟨rfl, hA4, hk4⟩
          have HWC := Lib.hid hA4
          have HOC := Lib.hid (ot_own_wkp HOW.out hk4 hbB)
          have HEX := Lib.hid (WKp.out HE.out hk4 hwb hwB)
          clear hA4 hk4 c0 c1 HOW HEC HE
          go_wp2
          go_roundw
          case rel => exact ⟨i + 1, k, D, ⟨⟨by omega, by omega⟩, by omega⟩, by go_num, HD.out, HOC.out, HWC.out, HEX.out⟩
          case measure => simp [intOf]; omega
      · have x3 : ¬ (i : Int) < 4000 := by omega
        have x2 : (i : Int) < (m : Int) := by omega
        obtain ⟨uv, hbx, hrow⟩ := id HEC.out
        obtain ⟨ua, uc, rfl⟩ := hrow.form
        have hDk := HD.out.2
        have UE := Lib.hid (enend_any b B _ (runE D) wr HEC.out (run_ok D).1 (by omega))
        have hbwr : b < wr.heap.size := hbx.lt
        have HBX0 := Lib.hid hbx
        clear hbx hrow
        go_wp2_with fail
        refine (UE.out).mono ?_; rintro e w3 ⟨g3, n8, cp3, rfl, hn8, ho3, hx3⟩
        have HY3 := Lib.hid (Bys_n (bs := bsE D) ho3 hn8 (bsE_lt D) (by have := bs_len D; have : (bsE D).length = n8 := hn8; omega))
        have HN8 : Hid ((bsE D).length = n8) := hn8
        clear hn8 ho3
        go_wp2_with fail
        refine (newdc_any (bsE D) _ _ HY3.out).mono ?_; rintro e w4 ⟨d, rfl, hd4, r4, hx4⟩
        have hx34 := hx3.trans hx4
        have hdr : wr.heap.size ≤ d := Nat.le_trans hx3.size hd4
        have HD4 := Lib.hid (r4.mono (E := fun _ => False) (fun g h => h.elim))
        have HON := Lib.hid (OnAt.of HOW.out HD.out.2 hx34 hdr)
        have hbd : b ≠ d := by omega
        have HBX := Lib.hid (HBX0.out.ext hx34)
        have HE4 := Lib.hid (HE.out.trans hx34)
        have hwd : w.heap.size ≤ d := Nat.le_trans HE.out.size hdr
        have HK0 : Hid (bkI (bsE D) (runE (D.take 0)) (newD (bsE D)) ∧ okD (4 + 3 * 0) (newD (bsE D)) ∧ 16777216 ≤ (newD (bsE D)).wid) := ⟨bk_new HD.out.1, (newD_ok (bsE_lt D)).1, by rw [(newD_ok (bsE_lt D)).2.1]; decide⟩
        clear hx3 hx4 hx34 hd4 r4 hbwr hdr HEC HOW HE HY3 HBX0 UE
        go_wp2_with fail
        go_loopw [8] (fun iv wr => ∃ (j : Nat) (t : Dc), j ≤ k ∧ iv = .int .i64 (j : Int) ∧ Hid (bkI (bsE D) (runE (D.take j)) t ∧ okD (4 + 3 * j) t ∧ 16777216 ≤ t.wid) ∧ Hid (DcAt (fun _ => False) wr d (bsE D) t) ∧ Hid (OnAt wr d oa D) ∧ Hid (EcBox wr b (.slice ua (runE D).done.length uc) (runE D).held (runE D).run (runE D).low (runE D).wid) ∧ Hid (Ext w wr)) (fun iv _ => k - (intOf iv).toNat)
        case atStart => exact ⟨0, newD (bsE D), Nat.zero_le _, rfl, HK0.out, HD4.out, HON.out, HBX.out, HE4.out⟩
        case round =>
          clear HK0 HD4 HON HBX HE4
          obtain ⟨j, t, hj, rfl, HK, HDC, HON, HBX, HE⟩ := hrel
          by_cases hjk : j < k
          · obtain ⟨g2, hg2, hgc, hq2⟩ := HON.out (by omega)
            subst hg2
            obtain ⟨⟨p, up⟩, ho⟩ : ∃ o, D[j]? = some o := ⟨_, List.getElem?_eq_getElem (by omega)⟩
            obtain ⟨c0, c1⟩ := hq2 j _ ho
            have c0 : wr.cell? ⟨g2, j * 2, none⟩ = some (.int .i64 p) := c0
            have c1 : wr.cell? ⟨g2, j * 2 + 1, none⟩ = some (.bool up) := c1
            have HC1 := Lib.hid c1
            obtain ⟨z1, z2, z3⟩ := HK.out
            have zo := bk_op HD.out.1 ho z1
            have x4 : (0 : Int) ≤ (j : Int) := by omega
            have x5 : (j : Int) < (k : Int) := by omega
            have hN0 : 4 + 3 * j ≤ 900000 := by omega
            have he3 : 4 + 3 * j + 3 = 4 + 3 * (j + 1) := by omega
            by_cases hp : p = 0
            · have t1 : (p == 0) = true := by rw [beq_iff_eq]; exact hp
              obtain ⟨y1, y2⟩ := zo.1 hp
              have y2 : upD t (t.wid / 2) = up := y2
              have kd := flaD_ok (bsE_lt D) z2 z3
              have UF := Lib.hid (dflat_any (fun _ => False) d _ (bsE D) t wr HDC.out z2 hN0 z3)
              obtain ⟨t2, ht2⟩ : ∃ t2, parD (bsE D) t (t.wid / 2) = t2 := ⟨_, rfl⟩
              rw [ht2] at y1 kd
              rw [ht2, y2] at UF
              rw [he3] at kd
              have HK2 : Hid (bkI (bsE D) (runE (D.take (j + 1))) t2 ∧ okD (4 + 3 * (j + 1)) t2 ∧ 16777216 ≤ t2.wid) := ⟨y1, kd.1, kd.2⟩
              clear zo y1 y2 kd ht2 z1 z2 z3 hq2 ho hp c1
              go_wp2_with fail
              refine (UF.out).mono ?_; rintro e w6 ⟨rfl, hD6, hk6⟩
              have HD6 := Lib.hid hD6
              have c6 := hk6.cell HC1.out hgc
              have HK6 := Lib.hid hk6
              clear hD6 hk6
              go_wp2
              go_roundw
              case rel => exact ⟨j + 1, t2, by omega, by go_num, HK2.out, HD6.out, HON.out.kp HK6.out, HBX.out.kp HK6.out hbd, Kp.out HE.out HK6.out hwd⟩
              case measure => simp [intOf]; omega
            · have t1 : (p == 0) = false := by rw [beq_eq_false_iff_ne]; exact hp
              obtain ⟨yc, y1, y2⟩ := zo.2 hp
              have yc : chance p = true := yc
              have y2 : codU t p = up := y2
              have kd := codD_ok (p := p) (bsE_lt D) z2 z3
              have UF := Lib.hid (dcode_any (fun _ => False) d _ p (bsE D) t wr HDC.out z2 hN0 z3)
              have y1 : bkI (bsE D) (runE (D.take (j + 1))) (codD (bsE D) t p) := y1
              obtain ⟨t2, ht2⟩ : ∃ t2, codD (bsE D) t p = t2 := ⟨_, rfl⟩
              rw [ht2] at y1 kd
              rw [ht2, y2] at UF
              rw [he3] at kd
              have HK2 : Hid (bkI (bsE D) (runE (D.take (j + 1))) t2 ∧ okD (4 + 3 * (j + 1)) t2 ∧ 16777216 ≤ t2.wid) := ⟨y1, kd.1, kd.2⟩
              have HYC := Lib.hid yc
              clear zo y1 y2 kd ht2 z1 z2 z3 hq2 ho hp c1 yc
              go_wp2_with fail
              refine (UF.out).mono ?_; rintro e w6 ⟨x6, rfl, hx6, hD6, hk6⟩
              rw [HYC.out] at hx6
              obtain rfl : x6 = .nilIface := hx6
              have HD6 := Lib.hid hD6
              have c6 := hk6.cell HC1.out hgc
              have HK6 := Lib.hid hk6
              clear hD6 hk6
              go_wp2
              go_roundw
              case rel => exact ⟨j + 1, t2, by omega, by go_num, HK2.out, HD6.out, HON.out.kp HK6.out, HBX.out.kp HK6.out hbd, Kp.out HE.out HK6.out hwd⟩
              case measure => simp [intOf]; omega
          · obtain rfl : j = k := by omega
            have x5 : ¬ (j : Int) < (j : Int) := by omega
            have hpos : t.pos = lenE (runE D) := by
              have := HK.out.1.1
              rwa [List.take_of_length_le (by omega)] at this
            have hle := bs_len D
            obtain ⟨E, hE⟩ : ∃ E, lenE (runE D) = E := ⟨_, rfl⟩
            obtain ⟨V, hV⟩ : ∃ V, ovrD (bsE D) t = V := ⟨_, rfl⟩
            have hV2 : V = E - n8 := by rw [← hV, ← hE, ← HN8.out]; show t.pos - _ = _; rw [hpos]
            have UO := Lib.hid (fun w' (h : DcAt (fun _ => False) w' d (bsE D) t) => dover_any (fun _ => False) d _ (bsE D) t w' h HK.out.2.1 (by omega) (by omega))
            have UL := Lib.hid (fun w' h => enlen_box b _ _ uc ua (runE D) w' h rfl (run_ok D).1 (by omega))
            rw [hV] at UO
            rw [hE] at UL hle
            rw [HN8.out] at hle
            have e1 : IntKind.i64.wrap ((E : Int) - (n8 : Int)) = (V : Int) := by rw [IntKind.wrap_i64]; omega
            have e2 : (n8 : Int) ≤ (E : Int) := by omega
            clear hE hV hV2 hpos
            go_wp2_with fail
            refine (first12_any _ (HG.out.ext HE.out)).mono ?_; rintro e w5 ⟨rfl, hx5⟩
            have HD5 := Lib.hid (HDC.out.ext hx5)
            have HB5 := Lib.hid (HBX.out.ext hx5)
            have HE5 := Lib.hid (HE.out.trans hx5)
            clear hx5
            go_wp2_with fail
            refine (UO.out _ HD5.out).mono ?_; rintro e w6 ⟨rfl, hx6⟩
            have HB6 := Lib.hid (HB5.out.ext hx6)
            have HE6 := Lib.hid (HE5.out.trans hx6)
            clear hx6
            go_wp2_with fail
            refine (UL.out _ HB6.out).mono ?_; rintro e w7 ⟨rfl, hx7⟩
            have HB7 := Lib.hid (HB6.out.ext hx7)
            have HE7 := Lib.hid (HE6.out.trans hx7)
            clear hx7
            go_wp2_with fail
            refine (UL.out _ HB7.out).mono ?_; rintro e w8 ⟨rfl, hx8⟩
            go_wp2
            go_ret
            exact ⟨rfl, HE7.out.trans hx8⟩
    · have x2 : ¬ (i : Int) < (m : Int) := by omega
      obtain ⟨uv, hbx, hrow⟩ := id HEC.out
      obtain ⟨ua, uc, rfl⟩ := hrow.form
      have hDk := HD.out.2
      have UE := Lib.hid (enend_any b B _ (runE D) wr HEC.out (run_ok D).1 (by omega))
      have hbwr : b < wr.heap.size := hbx.lt
      have HBX0 := Lib.hid hbx
      clear hbx hrow
      go_wp2_with fail
      refine (UE.out).mono ?_; rintro e w3 ⟨g3, n8, cp3, rfl, hn8, ho3, hx3⟩
      have HY3 := Lib.hid (Bys_n (bs := bsE D) ho3 hn8 (bsE_lt D) (by have := bs_len D; have : (bsE D).length = n8 := hn8; omega))
      have HN8 : Hid ((bsE D).length = n8) := hn8
      clear hn8 ho3
      go_wp2_with fail
      refine (newdc_any (bsE D) _ _ HY3.out).mono ?_; rintro e w4 ⟨d, rfl, hd4, r4, hx4⟩
      have hx34 := hx3.trans hx4
      have hdr : wr.heap.size ≤ d := Nat.le_trans hx3.size hd4
      have HD4 := Lib.hid (r4.mono (E := fun _ => False) (fun g h => h.elim))
      have HON := Lib.hid (OnAt.of HOW.out HD.out.2 hx34 hdr)
      have hbd : b ≠ d := by omega
      have HBX := Lib.hid (HBX0.out.ext hx34)
      have HE4 := Lib.hid (HE.out.trans hx34)
      have hwd : w.heap.size ≤ d := Nat.le_trans HE.out.size hdr
      have HK0 : Hid (bkI (bsE D) (runE (D.take 0)) (newD (bsE D)) ∧ okD (4 + 3 * 0) (newD (bsE D)) ∧ 16777216 ≤ (newD (bsE D)).wid) := ⟨bk_new HD.out.1, (newD_ok (bsE_lt D)).1, by rw [(newD_ok (bsE_lt D)).2.1]; decide⟩
      clear hx3 hx4 hx34 hd4 r4 hbwr hdr HEC HOW HE HY3 HBX0 UE
      go_wp2_with fail
      go_loopw [8] (fun iv wr => ∃ (j : Nat) (t : Dc), j ≤ k ∧ iv = .int .i64 (j : Int) ∧ Hid (bkI (bsE D) (runE (D.take j)) t ∧ okD (4 + 3 * j) t ∧ 16777216 ≤ t.wid) ∧ Hid (DcAt (fun _ => False) wr d (bsE D) t) ∧ Hid (OnAt wr d oa D) ∧ Hid (EcBox wr b (.slice ua (runE D).done.length uc) (runE D).held (runE D).run (runE D).low (runE D).wid) ∧ Hid (Ext w wr)) (fun iv _ => k - (intOf iv).toNat)
      case atStart => exact ⟨0, newD (bsE D), Nat.zero_le _, rfl, HK0.out, HD4.out, HON.out, HBX.out, HE4.out⟩
      case round =>
        clear HK0 HD4 HON HBX HE4
        obtain ⟨j, t, hj, rfl, HK, HDC, HON, HBX, HE⟩ := hrel
        by_cases hjk : j < k
        · obtain ⟨g2, hg2, hgc, hq2⟩ := HON.out (by omega)
          subst hg2
          obtain ⟨⟨p, up⟩, ho⟩ : ∃ o, D[j]? = some o := ⟨_, List.getElem?_eq_getElem (by omega)⟩
          obtain ⟨c0, c1⟩ := hq2 j _ ho
          have c0 : wr.cell? ⟨g2, j * 2, none⟩ = some (.int .i64 p) := c0
          have c1 : wr.cell? ⟨g2, j * 2 + 1, none⟩ = some (.bool up) := c1
          have HC1 := Lib.hid c1
          obtain ⟨z1, z2, z3⟩ := HK.out
          have zo := bk_op HD.out.1 ho z1
          have x4 : (0 : Int) ≤ (j : Int) := by omega
          have x5 : (j : Int) < (k : Int) := by omega
          have hN0 : 4 + 3 * j ≤ 900000 := by omega
          have he3 : 4 + 3 * j + 3 = 4 + 3 * (j + 1) := by omega
          by_cases hp : p = 0
          · have t1 : (p == 0) = true := by rw [beq_iff_eq]; exact hp
            obtain ⟨y1, y2⟩ := zo.1 hp
            have y2 : upD t (t.wid / 2) = up := y2
            have kd := flaD_ok (bsE_lt D) z2 z3
            have UF := Lib.hid (dflat_any (fun _ => False) d _ (bsE D) t wr HDC.out z2 hN0 z3)
            obtain ⟨t2, ht2⟩ : ∃ t2, parD (bsE D) t (t.wid / 2) = t2 := ⟨_, rfl⟩
            rw [ht2] at y1 kd
            rw [ht2, y2] at UF
            rw [he3] at kd
            have HK2 : Hid (bkI (bsE D) (runE (D.take (j + 1))) t2 ∧ okD (4 + 3 * (j + 1)) t2 ∧ 16777216 ≤ t2.wid) := ⟨y1, kd.1, kd.2⟩
            clear zo y1 y2 kd ht2 z1 z2 z3 hq2 ho hp c1
            go_wp2_with fail
            refine (UF.out).mono ?_; rintro e w6 ⟨rfl, hD6, hk6⟩
            have HD6 := Lib.hid hD6
            have c6 := hk6.cell HC1.out hgc
            have HK6 := Lib.hid hk6
            clear hD6 hk6
            go_wp2
            go_roundw
            case rel => exact ⟨j + 1, t2, by omega, by go_num, HK2.out, HD6.out, HON.out.kp HK6.out, HBX.out.kp HK6.out hbd, Kp.out HE.out HK6.out hwd⟩
            case measure => simp [intOf]; omega
          · have t1 : (p == 0) = false := by rw [beq_eq_false_iff_ne]; exact hp
            obtain ⟨yc, y1, y2⟩ := zo.2 hp
            have yc : chance p = true := yc
            have y2 : codU t p = up := y2
            have kd := codD_ok (p := p) (bsE_lt D) z2 z3
            have UF := Lib.hid (dcode_any (fun _ => False) d _ p (bsE D) t wr HDC.out z2 hN0 z3)
            have y1 : bkI (bsE D) (runE (D.take (j + 1))) (codD (bsE D) t p) := y1
            obtain ⟨t2, ht2⟩ : ∃ t2, codD (bsE D) t p = t2 := ⟨_, rfl⟩
            rw [ht2] at y1 kd
            rw [ht2, y2] at UF
            rw [he3] at kd
            have HK2 : Hid (bkI (bsE D) (runE (D.take (j + 1))) t2 ∧ okD (4 + 3 * (j + 1)) t2 ∧ 16777216 ≤ t2.wid) := ⟨y1, kd.1, kd.2⟩
            have HYC := Lib.hid yc
            clear zo y1 y2 kd ht2 z1 z2 z3 hq2 ho hp c1 yc
            go_wp2_with fail
            refine (UF.out).mono ?_; rintro e w6 ⟨x6, rfl, hx6, hD6, hk6⟩
            rw [HYC.out] at hx6
            obtain rfl : x6 = .nilIface := hx6
            have HD6 := Lib.hid hD6
            have c6 := hk6.cell HC1.out hgc
            have HK6 := Lib.hid hk6
            clear hD6 hk6
            go_wp2
            go_roundw
            case rel => exact ⟨j + 1, t2, by omega, by go_num, HK2.out, HD6.out, HON.out.kp HK6.out, HBX.out.kp HK6.out hbd, Kp.out HE.out HK6.out hwd⟩
            case measure => simp [intOf]; omega
        · obtain rfl : j = k := by omega
          have x5 : ¬ (j : Int) < (j : Int) := by omega
          have hpos : t.pos = lenE (runE D) := by
            have := HK.out.1.1
            rwa [List.take_of_length_le (by omega)] at this
          have hle := bs_len D
          obtain ⟨E, hE⟩ : ∃ E, lenE (runE D) = E := ⟨_, rfl⟩
          obtain ⟨V, hV⟩ : ∃ V, ovrD (bsE D) t = V := ⟨_, rfl⟩
          have hV2 : V = E - n8 := by rw [← hV, ← hE, ← HN8.out]; show t.pos - _ = _; rw [hpos]
          have UO := Lib.hid (fun w' (h : DcAt (fun _ => False) w' d (bsE D) t) => dover_any (fun _ => False) d _ (bsE D) t w' h HK.out.2.1 (by omega) (by omega))
          have UL := Lib.hid (fun w' h => enlen_box b _ _ uc ua (runE D) w' h rfl (run_ok D).1 (by omega))
          rw [hV] at UO
          rw [hE] at UL hle
          rw [HN8.out] at hle
          have e1 : IntKind.i64.wrap ((E : Int) - (n8 : Int)) = (V : Int) := by rw [IntKind.wrap_i64]; omega
          have e2 : (n8 : Int) ≤ (E : Int) := by omega
          clear hE hV hV2 hpos
          go_wp2_with fail
          refine (first12_any _ (HG.out.ext HE.out)).mono ?_; rintro e w5 ⟨rfl, hx5⟩
          have HD5 := Lib.hid (HDC.out.ext hx5)
          have HB5 := Lib.hid (HBX.out.ext hx5)
          have HE5 := Lib.hid (HE.out.trans hx5)
          clear hx5
          go_wp2_with fail
          refine (UO.out _ HD5.out).mono ?_; rintro e w6 ⟨rfl, hx6⟩
          have HB6 := Lib.hid (HB5.out.ext hx6)
          have HE6 := Lib.hid (HE5.out.trans hx6)
          clear hx6
          go_wp2_with fail
          refine (UL.out _ HB6.out).mono ?_; rintro e w7 ⟨rfl, hx7⟩
          have HB7 := Lib.hid (HB6.out.ext hx7)
          have HE7 := Lib.hid (HE6.out.trans hx7)
          clear hx7
          go_wp2_with fail
          refine (UL.out _ HB7.out).mono ?_; rintro e w8 ⟨rfl, hx8⟩
          go_wp2
          go_ret
          exact ⟨rfl, HE7.out.trans hx8⟩
end Go.Proofs.YtkfdhnmlebnfkaaDoor

/- kinlaw12.RacLong: the walk. -/
namespace Go.Proofs.YtkfdhnmlebnfkaaDoor
set_option linter.unusedVariables false
set_option linter.unusedSimpArgs false
open Go.RowKit Go.Extern.Stop Go.Stop Go.Extern

theorem push_ot2 {ops : Array Oper} {rest : List Oper} {o : Oper} {a : Act} {Q : Exit → Act → World → Prop} {Wd : World} {base : Nat} (hgd : o.guard = none) (s y : Operand) (t : TypeId)
    (ho : o.op = .call { callee := .builtin .append, args := #[s, y], argTypes := #[t, t] }) (ht : Tryd.prog.underlying t = some (.slice 29))
    (v : Value) (n : Nat) (xs : List Value) (p q : Ot) (hs : a.eval s = v) (hown : Wd.ownsRow base 29 2 v n xs) (hx : a.eval y = .slice (some ⟨Wd.heap.size, 0, none⟩) 2 2) (hb : base ≤ Wd.heap.size) (hn : n ≤ 1000000)
    (h : ∀ v' w', w'.ownsRow base 29 2 v' (n + 2) (xs ++ (otc p ++ otc q)) → Wd.grownBy w' v.ownBlock → wpList Tryd.prog ops Q rest (a.put o.dst v') w') :
    wpList Tryd.prog ops Q (o :: rest) a (Wd.alloc (.cells #[.int .i64 p.1, .bool p.2, .int .i64 q.1, .bool q.2] 29)) := by
  obtain ⟨i0, hi, hz0, hz1, hz2⟩ := info_parts infoOt
  refine wpList_append_own _ hgd s y t ho base 29 i0 _ 2 16 ht hi hz0 hz1 hz2 rfl (by decide) v n xs hs (hown.alloc _) ⟨Wd.heap.size, 0, none⟩ 2 2 (otc p ++ otc q) hx rfl (World.news_of_block (cs := #[.int .i64 p.1, .bool p.2, .int .i64 q.1, .bool q.2]) (t := 29) (fr := (0, 0)) (heap_alloc_new Wd _)) ?_ (by unfold maxLen; omega) (by omega) (by simp; omega) ?_
  · intro x hx
    simp only [otc, List.mem_append, List.mem_cons, List.not_mem_nil, or_false] at hx
    rcases hx with (rfl | rfl) | (rfl | rfl) <;> rfl
  intro v' w' h1 h2 _
  refine h v' w' h1 ⟨h2.os, h2.tape, h2.output, Nat.le_trans (by simp) h2.size, fun k hk hne => ?_⟩
  exact (h2.block k (by simp; omega) hne).trans (Below.heap_alloc Wd _ k hk)
theorem Ots.of_owns {w : World} {base n : Nat} {v : Value} {D : List Ot} (h : w.ownsRow base 29 2 v n (otcs D)) (hn : D.length = n) (hb : ∀ o ∈ D, -9223372036854775808 ≤ o.1 ∧ o.1 ≤ 9223372036854775807) : Ots w v D := by
  subst hn
  obtain ⟨hl, h' | ⟨g, cap, cur, rfl, hb', hg, h1, h2, hs, ht⟩⟩ := id h
  · refine ⟨⟨none, 0, by rw [h'.1, h'.2], by omega, Nat.zero_le _, fun h0 => absurd h0 (by omega)⟩, hb⟩
  · refine ⟨⟨_, cap, rfl, h1, h2, fun h0 => ?_⟩, hb⟩
    obtain ⟨g', e, -, hq⟩ := ot_own_cells h h0
    simp only [Option.some.injEq, Addr.mk.injEq, and_true] at e
    subst e
    exact ⟨g, 0, rfl, fun q o ho => by rw [Nat.zero_add]; exact hq q o ho⟩
/-- the list at work -/
def LgD (D : List Ot) : Prop := ∀ o ∈ D, -9223372036854775808 ≤ o.1 ∧ o.1 ≤ 9223372036854775807
theorem LgD.app {D : List Ot} {o : Ot} (h : LgD D) (k : -9223372036854775808 ≤ o.1 ∧ o.1 ≤ 9223372036854775807) : LgD (D ++ [o]) := fun x hx => by
  rcases List.mem_append.1 hx with hx | hx
  · exact h x hx
  · rw [List.mem_singleton.1 hx]; exact k
theorem lg_grown {w W W' : World} {n : Nat} {v : Value} {xs : List Value} (hE : Ext w W) (ho : W.ownsRow w.heap.size 29 2 v n xs) (g : W.grownBy W' v.ownBlock) : Ext w W' :=
  hE.of_below (Below.grown (Below.refl _ _) g hE.size (fun k hk => (ho.lt k hk).1)) (Nat.le_refl _)
set_option maxHeartbeats 8000000 in
set_option maxRecDepth 20000 in
theorem long_law (p n m : Int) (up : Bool) (w : World) (hg : EtIs w) (hp : -9223372036854775808 ≤ p ∧ p ≤ 9223372036854775807) : Calls Tryd.prog 4 #[.int .i64 p, .int .i64 n, .int .i64 m, .bool up] w fun e w' => e = .returned (.bool true) ∧ Ext w w' := by
  have HG := Lib.hid hg
  by_cases hr : ¬ ((0 ≤ n ∧ 0 ≤ m) ∧ n ≤ 4000 ∧ m ≤ 4000)
  · clear hg
    go_enter Tryd.func4, Tryd.ntmps4
    go_wp2_with fail
    refine (first12_any _ HG.out).mono ?_; rintro e w0 ⟨rfl, hx0⟩
    by_cases h1 : n < 0
    · go_wp2_with fail
      refine (first12_any _ (HG.out.ext hx0)).mono ?_; rintro e w2 ⟨rfl, hx2⟩
      go_wp2
      go_ret
      exact ⟨rfl, hx0.trans hx2⟩
    · by_cases h2 : m < 0
      · go_wp2_with fail
        refine (first12_any _ (HG.out.ext hx0)).mono ?_; rintro e w2 ⟨rfl, hx2⟩
        go_wp2
        go_ret
        exact ⟨rfl, hx0.trans hx2⟩
      · by_cases h3 : 4000 < n
        · go_wp2_with fail
          refine (first12_any _ (HG.out.ext hx0)).mono ?_; rintro e w2 ⟨rfl, hx2⟩
          go_wp2
          go_ret
          exact ⟨rfl, hx0.trans hx2⟩
        · have h4 : 4000 < m := by omega
          go_wp2_with fail
          refine (first12_any _ (HG.out.ext hx0)).mono ?_; rintro e w2 ⟨rfl, hx2⟩
          go_wp2
          go_ret
          exact ⟨rfl, hx0.trans hx2⟩
  obtain ⟨⟨h1, h2⟩, h3, h4⟩ := Decidable.not_not.1 hr
  clear hr
  obtain ⟨n, rfl⟩ : ∃ k : Nat, n = (k : Int) := ⟨n.toNat, by omega⟩
  obtain ⟨m, rfl⟩ : ∃ k : Nat, m = (k : Int) := ⟨m.toNat, by omega⟩
  have h1 : ¬ (n : Int) < 0 := by omega
  have h2 : ¬ (m : Int) < 0 := by omega
  have h3 : ¬ 4000 < (n : Int) := by omega
  have h4 : ¬ 4000 < (m : Int) := by omega
  clear hg
  go_enter Tryd.func4, Tryd.ntmps4
  go_wp2_with fail
  refine (first12_any _ HG.out).mono ?_; rintro e w0 ⟨rfl, hx0⟩
  have HX0 := Lib.hid hx0
  clear hx0
  go_wp2_with fail
  go_loopw [9, 10] (fun ov iv wr => ∃ (i : Nat) (D : List Ot), i ≤ n ∧ iv = .int .i64 (i : Int) ∧ Hid (LgD D ∧ D.length = i) ∧ Hid (wr.ownsRow w.heap.size 29 2 ov i (otcs D)) ∧ Hid (Ext w wr)) (fun _ iv _ => n - (intOf iv).toNat)
  case atStart => exact ⟨0, [], Nat.zero_le _, rfl, ⟨fun _ h => (by cases h), rfl⟩, World.ownsRow_nil _ _ _ _, HX0.out⟩
  case round =>
    clear HX0
    obtain ⟨i, D, hi, rfl, HD, HOW, HE⟩ := hrel
    obtain ⟨oa, ocp, rfl⟩ := ot_own_slice HOW.out
    have hBs := HE.out.size
    by_cases hlt : i < n
    · have x2 : (i : Int) < (n : Int) := by omega
      go_wp2_with (at_builtin; refine push_ot rfl _ _ 22 rfl Tryd.underlying22 _ i _ (p, up) rfl HOW.out (by show Value.slice (some ⟨wr.heap.size, 0, none⟩) 1 1 = _; simp) hBs (by omega) ?_; intro v8 w8 h1 h2; have HO8 := Lib.hid h1; have HE8 := Lib.hid (lg_grown HE.out HOW.out h2); clear h1 h2)
      go_roundw
      case rel =>
        refine ⟨i + 1, D ++ [(p, up)], by omega, by go_num, ⟨HD.out.1.app hp, by have := HD.out.2; simp [this]⟩, ?_, HE8.out⟩
        show World.ownsRow _ _ _ _ _ _ _
        rw [otcs_app]; exact HO8.out
      case measure => simp [intOf]; omega
    · obtain rfl : i = n := by omega
      have x2 : ¬ (i : Int) < (i : Int) := by omega
      go_wp2_with fail
      go_loopw [9, 11] (fun ov iv wr => ∃ (j : Nat) (D : List Ot), j ≤ m ∧ iv = .int .i64 (j : Int) ∧ Hid (LgD D ∧ D.length = i + 2 * j) ∧ Hid (wr.ownsRow w.heap.size 29 2 ov (i + 2 * j) (otcs D)) ∧ Hid (Ext w wr)) (fun _ iv _ => m - (intOf iv).toNat)
      case atStart => exact ⟨0, D, Nat.zero_le _, rfl, HD.out, HOW.out, HE.out⟩
      case round =>
        clear HD HOW HE hBs
        obtain ⟨j, D, hj, rfl, HD, HOW, HE⟩ := hrel
        obtain ⟨oa, ocp, rfl⟩ := ot_own_slice HOW.out
        have hBs := HE.out.size
        by_cases hlt : j < m
        · have x3 : (j : Int) < (m : Int) := by omega
          obtain ⟨r1, hr1⟩ : ∃ r, j % 2047 = r := ⟨_, rfl⟩
          obtain ⟨r3, hr3⟩ : ∃ r, j % 3 = r := ⟨_, rfl⟩
          obtain ⟨P, hP⟩ : ∃ P, 1 + r1 = P := ⟨_, rfl⟩
          have s1 : Int.tmod (j : Int) 2047 = (r1 : Int) := by rw [← hr1, show (2047 : Int) = ((2047 : Nat) : Int) from rfl, Int.ofNat_tmod]
          have s2 : IntKind.i64.wrap (1 + (r1 : Int)) = (P : Int) := by rw [IntKind.wrap_i64]; omega
          have s3 : Int.tmod (j : Int) 3 = (r3 : Int) := by rw [← hr3, show (3 : Int) = ((3 : Nat) : Int) from rfl, Int.ofNat_tmod]
          have hP2 : -9223372036854775808 ≤ (P : Int) ∧ (P : Int) ≤ 9223372036854775807 := by omega
          obtain ⟨Z, hZ⟩ : ∃ Z, ((r3 : Int) == 0) = Z := ⟨_, rfl⟩
          obtain ⟨N, hN⟩ : ∃ N, i + 2 * j = N := ⟨_, rfl⟩
          rw [hN] at HOW ⊢
          have hNb : N ≤ 1000000 := by omega
          have HNN := Lib.hid hN
          have HPP := Lib.hid hP2
          clear hr1 hr3 hP hN hP2
          go_wp2_with (at_builtin; refine push_ot2 rfl _ _ 22 rfl Tryd.underlying22 _ N _ ((P : Int), !up) (0, Z) rfl HOW.out (by show Value.slice (some ⟨wr.heap.size, 0, none⟩) 2 2 = _; simp) hBs hNb ?_; intro v8 w8 h1 h2; have HO8 := Lib.hid h1; have HE8 := Lib.hid (lg_grown HE.out HOW.out h2); clear h1 h2)
          go_roundw
          case rel =>
            refine ⟨j + 1, D ++ [((P : Int), !up), (0, Z)], by omega, by go_num, ⟨fun o ho => ?_, by have := HD.out.2; simp [this]; omega⟩, ?_, HE8.out⟩
            · rcases List.mem_append.1 ho with ho | ho
              · exact HD.out.1 o ho
              · simp only [List.mem_cons, List.not_mem_nil, or_false] at ho
                rcases ho with rfl | rfl
                · exact HPP.out
                · exact ⟨(by show (-9223372036854775808 : Int) ≤ 0; decide), (by show (0 : Int) ≤ 9223372036854775807; decide)⟩
            · show World.ownsRow _ _ _ _ _ _ _
              have e1 : otcs (D ++ [((P : Int), !up), (0, Z)]) = otcs D ++ (otc ((P : Int), !up) ++ otc (0, Z)) := by simp [otcs]
              have e2 : i + 2 * (j + 1) = N + 2 := by have := HNN.out; omega
              rw [e1, e2]; exact HO8.out
          case measure => simp [intOf]; omega
        · have x3 : ¬ (j : Int) < (m : Int) := by omega
          have UB := Lib.hid (back_law D _ _ (HG.out.ext HE.out) (Ots.of_owns HOW.out HD.out.2 HD.out.1))
          go_wp2_with fail
          refine (UB.out).mono ?_; rintro e w5 ⟨rfl, hx5⟩
          go_wp2
          go_ret
          exact ⟨rfl, HE.out.trans hx5⟩
end Go.Proofs.YtkfdhnmlebnfkaaDoor
