/- kinlaw12.first: its contract over this seat's translation. -/
import Derived.Test.YtdpebaheojaihaaDoorRa7
import Derived.Test.YtdpebaheojaihaaDoorRe3
import Derived.Test.YtdpebaheojaihaaDoorBst
namespace Go.Proofs.YtdpebaheojaihaaDoor
set_option linter.unusedVariables false
set_option linter.unusedSimpArgs false
open Go.RowKit Go.Extern.Stop Go.Stop Go.Extern

theorem part_of {d n : Nat} (hd : 16777216 ≤ d) (h1 : 1 ≤ n) (h2 : n < 2048) : 1 ≤ d / 2048 * n ∧ d / 2048 * n < d := by
  have a := Nat.mul_le_mul_left (d / 2048) (show n ≤ 2047 by omega)
  have b := Nat.mul_le_mul_left (d / 2048) h1
  omega
theorem chance_nat {p : Int} (h : chance p = true) : 1 ≤ p.toNat ∧ p.toNat < 2048 := by
  unfold chance at h
  rw [Bool.and_eq_true, decide_eq_true_iff, decide_eq_true_iff] at h
  omega
theorem codE_ok {N : Nat} {p : Int} {up : Bool} {s : Ec} (hk : okE N s) (hw : 16777216 ≤ s.wid) : okE (N + 4) (codE s p up) ∧ 16777216 ≤ (codE s p up).wid := by
  unfold codE
  split
  · rename_i hc
    obtain ⟨c1, c2⟩ := chance_nat hc
    obtain ⟨a, b⟩ := part_of hw c1 c2
    exact parE_ok hk a b
  · exact ⟨hk.mono (by omega), hw⟩
theorem flaE_ok {N : Nat} {up : Bool} {s : Ec} (hk : okE N s) (hw : 16777216 ≤ s.wid) : okE (N + 4) (parE s (s.wid / 2) up) ∧ 16777216 ≤ (parE s (s.wid / 2) up).wid := parE_ok hk (by omega) (by omega)
theorem codD_ok {bs : List Nat} (hb : ∀ x ∈ bs, x < 256) {N : Nat} {p : Int} {s : Dc} (hk : okD N s) (hw : 16777216 ≤ s.wid) : okD (N + 3) (codD bs s p) ∧ 16777216 ≤ (codD bs s p).wid := by
  unfold codD
  split
  · rename_i hc
    obtain ⟨c1, c2⟩ := chance_nat hc
    obtain ⟨a, b⟩ := part_of hw c1 c2
    exact parD_ok hb hk a b
  · exact ⟨hk.mono (by omega), hw⟩
theorem flaD_ok {bs : List Nat} (hb : ∀ x ∈ bs, x < 256) {N : Nat} {s : Dc} (hk : okD N s) (hw : 16777216 ≤ s.wid) : okD (N + 3) (parD bs s (s.wid / 2)) ∧ 16777216 ≤ (parD bs s (s.wid / 2)).wid := parD_ok hb hk (by omega) (by omega)
theorem newE_ok : okE 0 newE := ⟨Nat.le_refl _, ⟨by decide, by decide⟩, by decide, by decide, fun x hx => by cases hx⟩
/-- a decoder beside an encoder's call -/
theorem DcAt.wkp {F : Nat → Prop} {w w' : World} {d b B : Nat} {bs : List Nat} {s : Dc} (h : DcAt F w d bs s) (k : WKp b B w w') (hd : d ≠ b) (hdB : d < B) (hF : ∀ g, ¬ F g → g < B ∧ g ≠ b) : DcAt F w' d bs s := by
  obtain ⟨a, cap, h1, h3, h4⟩ := h
  refine ⟨a, cap, h1.same (k.2.2 d h1.lt hd (.inl hdB)), ⟨?_, h3.2⟩, h4⟩
  obtain ⟨a', cap', e, e1, e2, e3, e4⟩ := h3.1
  refine ⟨a', cap', e, e1, e2, e3, fun g off ha j u hu => ?_⟩
  have c := e4 g off ha j u hu
  simp only [Value.slice.injEq] at e
  obtain ⟨rfl, -, -⟩ := e
  obtain ⟨f1, f2⟩ := hF g (h4 g off ha).2
  exact k.cell c f1 f2
theorem EcAt.kp {w w' : World} {b B d : Nat} {s : Ec} (h : EcAt w b B s) (k : Kp d w w') (hd : b ≠ d) (hdB : d < B) : EcAt w' b B s := by
  obtain ⟨v, h1, h2, h3, h4⟩ := h
  refine ⟨v, h1.same (k.block h1.lt hd), ?_, h3, Nat.le_trans h4 k.size⟩
  refine h2.kept (row := some d) k (.inr ?_)
  intro e
  have := (h2.lt d e).1
  omega
theorem s12 : trimE (allE (codE (codE newE 1024 false) 1024 true)) = [63, 255, 252] ∧ lenE (codE (codE newE 1024 false) 1024 true) = 4 ∧ chance 1024 = true ∧ chance 2048 = false := by decide +kernel
theorem d12 : upD (newD []) ((newD []).wid / 2) = false ∧ ovrD [] (parD [] (newD []) ((newD []).wid / 2)) = 4 := by decide +kernel
theorem st12 : strOf [63, 255, 252] = ⟨#[63, 255, 252]⟩ := by kernel_rfl
set_option maxHeartbeats 8000000 in
set_option maxRecDepth 20000 in
theorem first12_any (w : World) (hg : EtIs w) : Calls Tryd.prog 9 #[] w fun e w' => e = .returned (.bool true) ∧ Ext w w' := by
  have HG := Lib.hid hg
  clear hg
  obtain ⟨t1, t2, t3, t4⟩ := s12
  obtain ⟨t5, t6⟩ := d12
  have HT1 := Lib.hid t1
  have HT2 := Lib.hid t2
  have HT3 := Lib.hid t3
  have HT4 := Lib.hid t4
  have HT5 := Lib.hid t5
  have HT6 := Lib.hid t6
  clear t1 t2 t3 t4 t5 t6
  go_enter Tryd.func9, Tryd.ntmps9
  go_wp2_with fail
  refine (newen_any _).mono ?_; rintro e w1 ⟨b, rfl, hb, hbx, hx1⟩
  have HX1 := Lib.hid hx1
  have HBX := Lib.hid hbx
  clear hx1 hbx
  go_wp2_with fail
  refine (newdc_any [] _ _ (Bys.nil _)).mono ?_; rintro e w2 ⟨d, rfl, hd, hD2, hx2⟩
  have hbd : b < w1.heap.size := HBX.out.lt
  have hdB : d < w2.heap.size := by obtain ⟨_, _, h, _⟩ := hD2; exact h.lt
  have hA2 : EcAt w2 b w2.heap.size newE := EcAt.new (HBX.out.ext hx2) (by have := hx2.size; omega) (Nat.le_refl _)
  have HX2 := Lib.hid (HX1.out.trans hx2)
  have hF : ∀ g, ¬ (g < w1.heap.size ∨ w2.heap.size ≤ g) → g < w2.heap.size ∧ g ≠ b := fun g h => by omega
  have hbB : w.heap.size ≤ b := hb
  have hwB : w.heap.size ≤ w2.heap.size := HX2.out.size
  have hdb : d ≠ b := by omega
  obtain ⟨B, hB⟩ : ∃ B, w2.heap.size = B := ⟨_, rfl⟩
  rw [hB] at hD2 hdB hA2 hF hwB
  obtain ⟨F, hFF⟩ : ∃ F : Nat → Prop, (fun g => g < w1.heap.size ∨ B ≤ g) = F := ⟨_, rfl⟩
  have hF2 : ∀ g, ¬ F g → g < B ∧ g ≠ b := by rw [← hFF]; exact hF
  rw [hFF] at hD2
  have HFF := Lib.hid hF2
  have HD2 := Lib.hid hD2
  have HA2 := Lib.hid hA2
  clear hA2 hD2 hF hF2 hFF hx2 HBX HX1 hB
  have HO1 := Lib.hid (codE_ok (p := 1024) (up := false) newE_ok (by decide))
  have HO2 := Lib.hid (codE_ok (p := 1024) (up := true) HO1.out.1 HO1.out.2)
  go_wp2_with fail
  refine (encode_any b B 0 1024 false newE w2 HA2.out newE_ok (by omega) (by decide)).mono ?_; rintro e w3 ⟨x3, rfl, he3, hA3, hk3⟩
  rw [HT3.out] at he3
  obtain rfl : x3 = .nilIface := he3
  have HA3 := Lib.hid hA3
  have HD3 := Lib.hid (HD2.out.wkp hk3 hdb hdB HFF.out)
  have HX3 := Lib.hid (WKp.out HX2.out hk3 hbB hwB)
  clear hA3 hk3 HA2 HD2 HX2
  go_wp2_with fail
  refine (encode_any b B 4 1024 true _ w3 HA3.out HO1.out.1 (by omega) HO1.out.2).mono ?_; rintro e w4 ⟨x4, rfl, he4, hA4, hk4⟩
  rw [HT3.out] at he4
  obtain rfl : x4 = .nilIface := he4
  have HA4 := Lib.hid hA4
  have HD4 := Lib.hid (HD3.out.wkp hk4 hdb hdB HFF.out)
  have HX4 := Lib.hid (WKp.out HX3.out hk4 hbB hwB)
  clear hA4 hk4 HA3 HD3 HX3
  obtain ⟨s2, hs2⟩ : ∃ s2, codE (codE newE 1024 false) 1024 true = s2 := ⟨_, rfl⟩
  rw [hs2] at HA4 HT1 HT2 HO2
  clear hs2 HO1
  have HS3 : Hid (codE s2 2048 true = s2) := by show (if chance 2048 then _ else s2) = s2; rw [HT4.out]; rfl
  go_wp2_with fail
  refine (encode_any b B 8 2048 true s2 w4 HA4.out HO2.out.1 (by omega) HO2.out.2).mono ?_; rintro e w5 ⟨x5, rfl, he5, hA5, hk5⟩
  rw [HT4.out] at he5
  rw [HS3.out] at hA5
  obtain ⟨hz5, -, -⟩ := he5
  obtain rfl : x5 = .iface 35 (.int .i64 3) := hz5
  have HA5 := Lib.hid hA5
  have HD5 := Lib.hid (HD4.out.wkp hk5 hdb hdB HFF.out)
  have HX5 := Lib.hid (WKp.out HX4.out hk5 hbB hwB)
  clear hA5 hk5 HA4 HD4 HX4
  go_wp2_with fail
  refine (fail_any 3 _).mono ?_; rintro e w6 ⟨rfl, hx6⟩
  have HA6 := Lib.hid (HA5.out.ext hx6)
  have HD6 := Lib.hid (HD5.out.ext hx6)
  have HX6 := Lib.hid (HX5.out.trans hx6)
  clear hx6 HA5 HD5 HX5
  go_wp2_with fail
  refine (same_fall (some ([], 3)) _ _ _ _ (HG.out.ext HX6.out) (ErrIs.code (by decide)) (RErrIs.code (by decide))).mono ?_; rintro e w7 ⟨rfl, hx7⟩
  have HA7 := Lib.hid (HA6.out.ext hx7)
  have HD7 := Lib.hid (HD6.out.ext hx7)
  have HX7 := Lib.hid (HX6.out.trans hx7)
  clear hx7 HA6 HD6 HX6
  go_wp2_with fail
  refine (enend_any b B 8 s2 w7 HA7.out HO2.out.1 (by omega)).mono ?_; rintro e w8 ⟨g8, k8, c8, rfl, hl8, ho8, hx8⟩
  rw [HT1.out] at hl8 ho8
  obtain rfl : 3 = k8 := hl8
  have HA8 := Lib.hid (HA7.out.ext hx8)
  have HD8 := Lib.hid (HD7.out.ext hx8)
  have HX8 := Lib.hid (HX7.out.trans hx8)
  have cv := conv_bys (Bys_n ho8 rfl (by decide) (by omega))
  rw [st12] at cv
  clear hx8 HA7 HD7 HX7 ho8
  go_wp2_with fail
  refine (enlen_any b B 8 s2 w8 HA8.out HO2.out.1 (by omega)).mono ?_; rintro e w9 ⟨rfl, hx9⟩
  rw [HT2.out]
  have HD9 := Lib.hid (HD8.out.ext hx9)
  have HX9 := Lib.hid (HX8.out.trans hx9)
  clear hx9 HA8 HD8 HX8 cv
  have HON := Lib.hid (newD_ok (bs := []) (by simp))
  go_wp2_with fail
  refine (dflat_any F d 4 [] (newD []) w9 HD9.out HON.out.1 (by omega) (by rw [HON.out.2.1]; decide)).mono ?_; rintro e wa ⟨rfl, hDa, hka⟩
  rw [HT5.out]
  have HDa := Lib.hid hDa
  have HXa := Lib.hid (Kp.out HX9.out hka (by omega))
  have HOa := Lib.hid (flaD_ok (bs := []) (by simp) HON.out.1 (by rw [HON.out.2.1]; decide))
  clear hDa hka HD9 HX9
  go_wp2_with fail
  refine (dover_any F d 7 [] _ wa HDa.out HOa.out.1 (by omega) (by simp)).mono ?_; rintro e wb ⟨rfl, hxb⟩
  rw [HT6.out]
  go_wp2
  go_ret
  exact ⟨rfl, HXa.out.trans hxb⟩
end Go.Proofs.YtdpebaheojaihaaDoor
