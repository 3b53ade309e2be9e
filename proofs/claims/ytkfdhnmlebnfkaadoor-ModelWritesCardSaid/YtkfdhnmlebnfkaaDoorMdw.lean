/- kinlaw13.ModelWrites: the walk. -/
import Derived.Test.YtkfdhnmlebnfkaaDoorZj
import Derived.Test.YtkfdhnmlebnfkaaDoorZk
import Derived.Deep.RegionLaw
import Derived.Deep.CutRange
import Derived.Deep.RegionHeld3
namespace Go.Proofs.YtkfdhnmlebnfkaaDoor
set_option linter.unusedVariables false
set_option linter.unusedSimpArgs false
open Go.RowKit Go.Extern.Stop Go.Stop Go.Extern

theorem DwF.obj (a : Nat) : Obj (DwF a) := ⟨fun h => h.lt, fun h => h.same⟩
def Ral (N : Nat) (s : Ec) (x : Xe) : Prop := alX N s x ∧ 16777216 ≤ s.wid
theorem ral_ok {N : Nat} {s : Ms Ec} {t : Ms Xe} (h : rS Ral N s t) : okS okEm N s ∧ okS okXm (N + 5) t := by
  obtain ⟨h1, h2, h3, h4⟩ := h
  exact ⟨⟨h2, h3.1.1, h4⟩, by rw [← h1]; exact h2, al_ok h3, by rw [h3.2.2]; exact h4⟩
theorem ral_new : rS Ral 0 ⟨ch0, newE⟩ ⟨ch0, newX⟩ := ⟨rfl, ch0_ok, al_new, by decide⟩
theorem WrF.ch' {a : Nat} {w : World} {F : Nat → Prop} {s : Ms Ec} (h : WrF a w F s) : ChAt w a 0 s.ch := by obtain ⟨_, _, _, h, _⟩ := h; exact h
/-- both chances, at any world -/
theorem two_ch {a c : Nat} {w0 w : World} {s : Ms Ec} {t : Ms Xe} (k : Int) (h : Uno (Sep (WrF a) (DwF c)) w0 w (s, t)) :
    (Calls Tryd.prog 30 #[.pointer (some ⟨a, 0, none⟩), .int .i64 k] w fun e w' => e = .returned (.int .i64 (chV s.ch k)) ∧ w = w') ∧ (Calls Tryd.prog 31 #[.pointer (some ⟨c, 0, none⟩), .int .i64 k] w fun e w' => e = .returned (.int .i64 (chV t.ch k)) ∧ w = w') := by
  obtain ⟨_, h1⟩ := h.l
  obtain ⟨_, h2⟩ := h.r
  exact ⟨mwch_any a k s.ch w h1.ch', dch_any c k t.ch w h2.ch⟩
theorem uw_end {a c N : Nat} {w0 w : World} {s : Ms Ec} {t : Ms Xe} (h : Uno (Sep (WrF a) (DwF c)) w0 w (s, t)) (hk : okS okEm N s) (hN : N ≤ 900000) : Calls Tryd.prog 32 #[.pointer (some ⟨a, 0, none⟩)] w (EePost w s.co) := by
  obtain ⟨G, h1⟩ := h.l
  exact mwend_any a N s G w h1 hk hN
theorem ux_end {a c N xb : Nat} {w0 w : World} {s : Ms Ec} {t : Ms Xe} (h : Uno (Sep (WrF a) (DwF c)) w0 w (s, t)) (cx : w.cell? ⟨c, 1, none⟩ = some (.pointer (some ⟨xb, 0, none⟩))) (hk : okS okXm N t) (hN : N ≤ 900000) : Calls Tryd.prog 23 #[.pointer (some ⟨xb, 0, none⟩)] w (XvPost w (trimE t.co.bs)) := by
  obtain ⟨_, b, G, h1, _, ⟨_, h3⟩, _⟩ := h.r
  rw [cx] at h3
  simp only [Option.some.injEq, Value.pointer.injEq, Addr.mk.injEq, and_true] at h3
  subst h3
  exact xnf_end xb N t.co G w h1 hk.2 hN
set_option maxHeartbeats 8000000 in
set_option maxRecDepth 20000 in
theorem mwrites_law (L : List Mo) (v : Value) (x : Int) (w : World) (hL : Mos w v L) : Calls Tryd.prog 5 #[v, .int .i64 x] w fun e w' => e = .returned (.bool true) ∧ Ext w w' := by
  have hm := hL.small
  obtain ⟨la, lc, rfl⟩ := hL.form
  obtain ⟨m, hm'⟩ : ∃ m, L.length = m := ⟨_, rfl⟩
  have HNL := Lib.hid hm'
  have HOT : Hid (Mos w (.slice la m lc) L) := by show Mos _ _ _; rw [← hm']; exact hL
  rw [hm'] at hm ⊢
  unfold maxLen at hm
  clear hL hm'
  go_enter Tryd.func5, Tryd.ntmps5
  go_wp2_with fail
  refine (first13_any _).mono ?_; rintro e w1 ⟨rfl, hx1⟩
  have HE1 := Lib.hid hx1
  clear hx1
  go_wp2_with fail
  refine (mwnew_any _).mono ?_; rintro e w2 ⟨a, F, rfl, hF, hW, hx2⟩
  have HU2 : Hid (Uno (WrF a) w w2 ⟨ch0, newE⟩) := Uno.first hW (HE1.out.trans hx2) (fun k hk => Nat.le_trans HE1.out.size (hF k hk))
  clear hF hW hx2 HE1
  go_wp2_with fail
  refine (dwnew_any _).mono ?_; rintro e w3 ⟨c, G, rfl, hG, hD, hx3⟩
  have HU3 := Lib.hid (HU2.out.add (WrF.obj a) hx3 hD hG)
  clear hG hD hx3 HU2
  go_wp2_with fail
  go_loopw [7] (fun iv wr => ∃ (i : Nat) (s : Ms Ec) (t : Ms Xe), (i ≤ m ∧ i ≤ 2000) ∧ iv = .int .i64 (i : Int) ∧ Hid (rS Ral (64 * i) s t) ∧ Hid (Uno (Sep (WrF a) (DwF c)) w wr (s, t))) (fun iv _ => m - (intOf iv).toNat)
  case atStart => exact ⟨0, _, _, ⟨Nat.zero_le _, Nat.zero_le _⟩, rfl, ral_new, HU3.out⟩
  case round =>
    clear HU3
    obtain ⟨i, s, t, ⟨hi, hi2⟩, rfl, HJ, HU⟩ := hrel
    by_cases hlt : i < m
    · by_cases hl2 : i < 2000
      · obtain ⟨o, hU⟩ : ∃ o, L[i]? = some o := ⟨_, List.getElem?_eq_getElem (by rw [HNL.out]; exact hlt)⟩
        obtain ⟨g, off, rfl, hq⟩ := HOT.out.had (by rw [HNL.out]; omega)
        have HQ := Lib.hid (hq i _ hU)
        obtain ⟨c0, c1, c2, c3⟩ := HQ.out.ext HU.out.out
        have x1 : (0 : Int) ≤ (i : Int) := by omega
        have x2 : (i : Int) < (m : Int) := by omega
        have x3 : (i : Int) < 2000 := by omega
        have hN4 : 64 * i ≤ 899000 := by omega
        have hN5 : 64 * i + 5 ≤ 899000 := by omega
        obtain ⟨q1, q2⟩ := ral_ok HJ.out
        obtain ⟨a1, a2⟩ := ask_r mrE o HJ.out
        obtain ⟨⟨R, s2⟩, es⟩ : ∃ r, askM mE s o = r := ⟨_, rfl⟩
        obtain ⟨⟨R', t2⟩, et⟩ : ∃ r, askM mX t o = r := ⟨_, rfl⟩
        have UA := Lib.hid (fun w' t' (h : Uno (Sep (WrF a) (DwF c)) w w' (s, t')) => h.pl (DwF.obj c) (fun G h => mwask_any a (64 * i) o s G w' h q1 hN4))
        have UX := Lib.hid (fun w' s' (h : Uno (Sep (WrF a) (DwF c)) w w' (s', t)) => h.pr (WrF.obj a) (fun G h => dwask_any c (64 * i + 5) o t G w' h q2 hN5))
        rw [es] at UA a1 a2
        rw [et] at UX a1 a2
        obtain rfl : R = R' := a1
        have HJ2 : Hid (rS Ral (64 * (i + 1)) s2 t2) := a2
        have HCH : Hid (t2.ch = s2.ch) := a2.1.symm
        have O2 := (WrF.obj a).sep (DwF.obj c)
        have HUD := Lib.hid (HU.out.ext O2 (Ext.refl _).drew)
        obtain ⟨d0, d1, d2, d3⟩ := HQ.out.ext HUD.out.out
        clear q1 q2 a2 es et hU hq HJ
        go_wp2_with fail
        go_cut [55] from 25 to 55 (fun s55 wx => s55 = .bool false ∧ Hid (Uno (Sep (WrF a) (DwF c)) w wx (s2, t2)))
        case first =>
          have KS : Hid (∀ w', Ext w w' → w'.cell? ⟨g, off + i * 4, none⟩ = some (.int .i64 o.k) ∧ w'.cell? ⟨g, off + i * 4 + 1, none⟩ = some (.int .i64 o.c) ∧ w'.cell? ⟨g, off + i * 4 + 2, none⟩ = some (.int .i64 o.v) ∧ w'.cell? ⟨g, off + i * 4 + 3, none⟩ = some (.bool o.b) ∧ Ext w w') := fun w' h => by
            obtain ⟨k0, k1, k2, k3⟩ := HQ.out.ext h
            exact ⟨k0, k1, k2, k3, h⟩
          have EW : Ext w wr := HU.out.out
          go_region_held3 (fun w' => w'.cell? ⟨g, off + i * 4, none⟩ = some (.int .i64 o.k) ∧ w'.cell? ⟨g, off + i * 4 + 1, none⟩ = some (.int .i64 o.c) ∧ w'.cell? ⟨g, off + i * 4 + 2, none⟩ = some (.int .i64 o.v) ∧ w'.cell? ⟨g, off + i * 4 + 3, none⟩ = some (.bool o.b) ∧ Ext w w')
            (first | assumption | (go_split_ands; exact KS.out _ (by repeat (first | exact Ext.refl _ | assumption | refine Ext.drew ?_ | refine Ext.trans ?_ (by assumption)))))
            ((first
              | (go_at_call 28; (first
                  | (refine (UA.out _ _ (HU.out.ext O2 (show Ext wr _ from (by first | exact Ext.refl _ | exact (Ext.refl _).drew | assumption)))).mono ?_; rintro e w5 ⟨rfl, h5⟩; have H5 := Lib.hid h5; have E5 := h5.out; clear h5)
                  | (refine (UA.out _ _ (H5.out.ext O2 (show Ext w5 _ from (by first | exact Ext.refl _ | exact (Ext.refl _).drew | assumption)))).mono ?_; rintro e w6 ⟨rfl, h6⟩; have H6 := Lib.hid h6; have E6 := h6.out; clear h6)))
              | (go_at_call 29; (first
                  | (refine (UX.out _ _ (HU.out.ext O2 (show Ext wr _ from (by first | exact Ext.refl _ | exact (Ext.refl _).drew | assumption)))).mono ?_; rintro e w5 ⟨rfl, h5⟩; have H5 := Lib.hid h5; have E5 := h5.out; clear h5)
                  | (refine (UX.out _ _ (H5.out.ext O2 (show Ext w5 _ from (by first | exact Ext.refl _ | exact (Ext.refl _).drew | assumption)))).mono ?_; rintro e w6 ⟨rfl, h6⟩; have H6 := Lib.hid h6; have E6 := h6.out; clear h6)))
              | (go_at_call 30; refine (two_ch _ (H6.out.ext O2 (show Ext w6 _ from (by first | exact Ext.refl _ | exact (Ext.refl _).drew | assumption)))).1.mono ?_; rintro e w7 ⟨rfl, rfl⟩)
              | (go_at_call 31; refine (two_ch _ (H6.out.ext O2 (show Ext w6 _ from (by first | exact Ext.refl _ | exact (Ext.refl _).drew | assumption)))).2.mono ?_; rintro e w7 ⟨rfl, rfl⟩; rw [HCH.out])))
          all_goals go_wp2_with fail
          all_goals go_meet
          all_goals exact ⟨rfl, H6.out.ext O2 (show Ext w6 _ from (by first | exact Ext.refl _ | exact (Ext.refl _).drew | assumption))⟩
        case rest =>
          obtain ⟨wz, hwz⟩ : ∃ wz, wz = wc := ⟨_, rfl⟩
          subst hwz
          obtain ⟨rfl, HUz⟩ := hcut
          clear HU HUD d0 d1 d2 d3 c0 c1 c2 c3 UA UX HCH
          go_wp2
          go_roundw
          case rel => exact ⟨i + 1, s2, t2, ⟨by omega, by omega⟩, by go_num, HJ2.out, HUz.out⟩
          case measure => simp [intOf]; omega
      · have x3 : ¬ (i : Int) < 2000 := by omega
        have x2 : (i : Int) < (m : Int) := by omega
        -- in hand: wr, s, t: HJ : rS Ral (64 * i) s t, HU : Uno (Sep (WrF a) (DwF c)) w wr (s, t)
        have hN4 : 64 * i ≤ 899000 := by omega
        go_wp2_with fail
        go_loopw [8] (fun iv wi => ∃ j : Nat, j ≤ 67 ∧ iv = .int .i64 ((j : Int) - 1) ∧ Hid (Uno (Sep (WrF a) (DwF c)) w wi (s, t))) (fun iv _ => 67 - (intOf iv + 1).toNat)
        case atStart => exact ⟨0, Nat.zero_le _, rfl, HU.out⟩
        case round =>
          clear HU
          obtain ⟨j, hj, rfl, HU⟩ := hrel
          by_cases hlt2 : j < 67
          · obtain ⟨J, hJ⟩ : ∃ J : Int, (j : Int) - 1 = J := ⟨_, rfl⟩
            have z1 : J < 66 := by omega
            have z2 : IntKind.i64.wrap (J + 1) = J + 1 := by rw [IntKind.wrap_i64]; omega
            have HJ9 := Lib.hid hJ
            rw [hJ]
            clear hJ
            obtain ⟨u1, u2⟩ := two_ch J HU.out
            rw [show t.ch = s.ch from HJ.out.1.symm] at u2
            obtain ⟨V, hV⟩ : ∃ V, chV s.ch J = V := ⟨_, rfl⟩
            rw [hV] at u1 u2
            have U1 := Lib.hid u1
            have U2 := Lib.hid u2
            clear u1 u2 hV
            go_wp2_with fail
            refine (U1.out).mono ?_; rintro e w5 ⟨rfl, rfl⟩
            go_wp2_with fail
            refine (U2.out).mono ?_; rintro e w6 ⟨rfl, rfl⟩
            go_wp2
            go_roundw
            case rel => exact ⟨j + 1, by omega, by have := HJ9.out; congr 1; omega, HU.out⟩
            case measure => have := HJ9.out; simp [intOf]; omega
          · have z1 : ¬ ((j : Int) - 1) < 66 := by omega
            obtain ⟨q1, q2⟩ := ral_ok HJ.out
            have HQ1 := Lib.hid q1
            have HQ2 := Lib.hid q2
            have HAL := Lib.hid HJ.out.2.2.1
            have HCH := Lib.hid HJ.out.1
            have hL9 : (trimE (allE s.co)).length ≤ 900000 := by
              have h1 := trim_le (allE s.co)
              rw [allE_len] at h1
              have h2 := q1.2.1.1
              have h3 : lenE s.co ≤ s.co.done.length + s.co.run + 5 := by unfold lenE; split <;> omega
              omega
            have HLT := Lib.hid (fun (y : Nat) (hy : y ∈ trimE (allE s.co)) => all_lt q1.2.1 y (trim_mem _ y hy))
            clear q1 q2
            have HU' := HU
            obtain ⟨_, hd⟩ := HU'.out.r
            obtain ⟨xb, _, hx1, -, ⟨-, cx⟩, -⟩ := hd
            clear hx1 HU'
            have O2 := (WrF.obj a).sep (DwF.obj c)
            have KS : Hid (∀ w', Ext wr w' → w'.cell? ⟨c, 1, none⟩ = some (.pointer (some ⟨xb, 0, none⟩)) ∧ Ext wr w') := fun w' h => ⟨h.cell cx, h⟩
            obtain ⟨bs, hbs⟩ : ∃ bs, trimE (allE s.co) = bs := ⟨_, rfl⟩
            have UE : Hid (∀ w', Ext wr w' → Calls Tryd.prog 32 #[.pointer (some ⟨a, 0, none⟩)] w' (XvPost w' bs)) := fun w' h => by
              refine (uw_end (HU.out.ext O2 h) HQ1.out (by omega)).mono ?_
              rintro e w8 ⟨g8, k8, c8, rfl, hl8, ho8, hx8⟩
              rw [hbs] at hl8 ho8
              have hL := HLT.out
              rw [hbs] at hL hL9
              exact ⟨_, rfl, Bys_n ho8 hl8 hL (by omega), by rw [hl8]; exact ho8, hx8⟩
            have UX : Hid (∀ w', Ext wr w' → Calls Tryd.prog 23 #[.pointer (some ⟨xb, 0, none⟩)] w' (XvPost w' bs)) := fun w' h => by
              rw [← hbs, ← HAL.out.2.1]
              exact ux_end (HU.out.ext O2 h) (h.cell cx) HQ2.out (by omega)
            have UC1 : Hid (∀ w', Ext wr w' → Calls Tryd.prog 30 #[.pointer (some ⟨a, 0, none⟩), .int .i64 x] w' fun e w'' => e = .returned (.int .i64 (chV s.ch x)) ∧ w' = w'') := fun w' h => (two_ch x (HU.out.ext O2 h)).1
            have UC2 : Hid (∀ w', Ext wr w' → Calls Tryd.prog 31 #[.pointer (some ⟨c, 0, none⟩), .int .i64 x] w' fun e w'' => e = .returned (.int .i64 (chV s.ch x)) ∧ w' = w'') := fun w' h => by
              have := (two_ch x (HU.out.ext O2 h)).2
              rw [show t.ch = s.ch from HCH.out.symm] at this
              exact this
            obtain ⟨V, hV⟩ : ∃ V, chV s.ch x = V := ⟨_, rfl⟩
            rw [hV] at UC1 UC2
            have HEW := Lib.hid HU.out.out
            clear hV hbs HQ1 HQ2 HAL HCH HLT hL9 HJ hN4
            go_wp2_with fail
            go_region_held3 (fun w' => w'.cell? ⟨c, 1, none⟩ = some (.pointer (some ⟨xb, 0, none⟩)) ∧ Ext wr w')
              (first | assumption | (go_split_ands; exact KS.out _ (by repeat (first | exact Ext.refl _ | assumption | refine Ext.drew ?_ | refine Ext.trans ?_ (by assumption)))))
              ((first
                | (go_at_call 25; obtain ⟨_, hE1⟩ : _ ∧ Ext wr _ := (by assumption); refine (first13_any _).mono ?_; rintro e w6 ⟨rfl, hx6⟩; have E6 := hE1.trans hx6; clear hE1)
                | (go_at_call 30; obtain ⟨_, hE1⟩ : _ ∧ Ext wr _ := (by assumption); refine (UC1.out _ hE1).mono ?_; rintro e w7 ⟨rfl, rfl⟩; clear hE1)
                | (go_at_call 31; obtain ⟨_, hE1⟩ : _ ∧ Ext wr _ := (by assumption); refine (UC2.out _ hE1).mono ?_; rintro e w7 ⟨rfl, rfl⟩; clear hE1)
                | (go_at_call 32; obtain ⟨_, hE1⟩ : _ ∧ Ext wr _ := (by assumption); refine (UE.out _ hE1).mono ?_; rintro e w8 ⟨u8, rfl, hy8, -, hx8⟩; have E8 := hE1.trans hx8; have HY := Lib.hid hy8; clear hE1 hy8)
                | (go_at_call 23; obtain ⟨_, hE1⟩ : _ ∧ Ext wr _ := (by assumption); refine (UX.out _ hE1).mono ?_; rintro e w9 ⟨u9, rfl, hy9, -, hx9⟩; have E9 := hE1.trans hx9; have HX := Lib.hid hy9; clear hE1 hy9)
                | (go_at_call 21; refine (bytes_same bs _ _ _ (HY.out.ext (by repeat (first | exact Ext.refl _ | assumption | refine Ext.drew ?_ | refine Ext.trans ?_ (by assumption)))) (HX.out.ext (by repeat (first | exact Ext.refl _ | assumption | refine Ext.drew ?_ | refine Ext.trans ?_ (by assumption))))).mono ?_; rintro e w10 ⟨rfl, rfl⟩)))
            all_goals obtain ⟨_, hE9⟩ : _ ∧ Ext wr _ := by assumption
            all_goals go_wp2
            all_goals go_ret
            all_goals exact ⟨rfl, HEW.out.trans hE9⟩
    · have x2 : ¬ (i : Int) < (m : Int) := by omega
      -- in hand: wr, s, t: HJ : rS Ral (64 * i) s t, HU : Uno (Sep (WrF a) (DwF c)) w wr (s, t)
      have hN4 : 64 * i ≤ 899000 := by omega
      go_wp2_with fail
      go_loopw [8] (fun iv wi => ∃ j : Nat, j ≤ 67 ∧ iv = .int .i64 ((j : Int) - 1) ∧ Hid (Uno (Sep (WrF a) (DwF c)) w wi (s, t))) (fun iv _ => 67 - (intOf iv + 1).toNat)
      case atStart => exact ⟨0, Nat.zero_le _, rfl, HU.out⟩
      case round =>
        clear HU
        obtain ⟨j, hj, rfl, HU⟩ := hrel
        by_cases hlt2 : j < 67
        · obtain ⟨J, hJ⟩ : ∃ J : Int, (j : Int) - 1 = J := ⟨_, rfl⟩
          have z1 : J < 66 := by omega
          have z2 : IntKind.i64.wrap (J + 1) = J + 1 := by rw [IntKind.wrap_i64]; omega
          have HJ9 := Lib.hid hJ
          rw [hJ]
          clear hJ
          obtain ⟨u1, u2⟩ := two_ch J HU.out
          rw [show t.ch = s.ch from HJ.out.1.symm] at u2
          obtain ⟨V, hV⟩ : ∃ V, chV s.ch J = V := ⟨_, rfl⟩
          rw [hV] at u1 u2
          have U1 := Lib.hid u1
          have U2 := Lib.hid u2
          clear u1 u2 hV
          go_wp2_with fail
          refine (U1.out).mono ?_; rintro e w5 ⟨rfl, rfl⟩
          go_wp2_with fail
          refine (U2.out).mono ?_; rintro e w6 ⟨rfl, rfl⟩
          go_wp2
          go_roundw
          case rel => exact ⟨j + 1, by omega, by have := HJ9.out; congr 1; omega, HU.out⟩
          case measure => have := HJ9.out; simp [intOf]; omega
        · have z1 : ¬ ((j : Int) - 1) < 66 := by omega
          obtain ⟨q1, q2⟩ := ral_ok HJ.out
          have HQ1 := Lib.hid q1
          have HQ2 := Lib.hid q2
          have HAL := Lib.hid HJ.out.2.2.1
          have HCH := Lib.hid HJ.out.1
          have hL9 : (trimE (allE s.co)).length ≤ 900000 := by
            have h1 := trim_le (allE s.co)
            rw [allE_len] at h1
            have h2 := q1.2.1.1
            have h3 : lenE s.co ≤ s.co.done.length + s.co.run + 5 := by unfold lenE; split <;> omega
            omega
          have HLT := Lib.hid (fun (y : Nat) (hy : y ∈ trimE (allE s.co)) => all_lt q1.2.1 y (trim_mem _ y hy))
          clear q1 q2
          have HU' := HU
          obtain ⟨_, hd⟩ := HU'.out.r
          obtain ⟨xb, _, hx1, -, ⟨-, cx⟩, -⟩ := hd
          clear hx1 HU'
          have O2 := (WrF.obj a).sep (DwF.obj c)
          have KS : Hid (∀ w', Ext wr w' → w'.cell? ⟨c, 1, none⟩ = some (.pointer (some ⟨xb, 0, none⟩)) ∧ Ext wr w') := fun w' h => ⟨h.cell cx, h⟩
          obtain ⟨bs, hbs⟩ : ∃ bs, trimE (allE s.co) = bs := ⟨_, rfl⟩
          have UE : Hid (∀ w', Ext wr w' → Calls Tryd.prog 32 #[.pointer (some ⟨a, 0, none⟩)] w' (XvPost w' bs)) := fun w' h => by
            refine (uw_end (HU.out.ext O2 h) HQ1.out (by omega)).mono ?_
            rintro e w8 ⟨g8, k8, c8, rfl, hl8, ho8, hx8⟩
            rw [hbs] at hl8 ho8
            have hL := HLT.out
            rw [hbs] at hL hL9
            exact ⟨_, rfl, Bys_n ho8 hl8 hL (by omega), by rw [hl8]; exact ho8, hx8⟩
          have UX : Hid (∀ w', Ext wr w' → Calls Tryd.prog 23 #[.pointer (some ⟨xb, 0, none⟩)] w' (XvPost w' bs)) := fun w' h => by
            rw [← hbs, ← HAL.out.2.1]
            exact ux_end (HU.out.ext O2 h) (h.cell cx) HQ2.out (by omega)
          have UC1 : Hid (∀ w', Ext wr w' → Calls Tryd.prog 30 #[.pointer (some ⟨a, 0, none⟩), .int .i64 x] w' fun e w'' => e = .returned (.int .i64 (chV s.ch x)) ∧ w' = w'') := fun w' h => (two_ch x (HU.out.ext O2 h)).1
          have UC2 : Hid (∀ w', Ext wr w' → Calls Tryd.prog 31 #[.pointer (some ⟨c, 0, none⟩), .int .i64 x] w' fun e w'' => e = .returned (.int .i64 (chV s.ch x)) ∧ w' = w'') := fun w' h => by
            have := (two_ch x (HU.out.ext O2 h)).2
            rw [show t.ch = s.ch from HCH.out.symm] at this
            exact this
          obtain ⟨V, hV⟩ : ∃ V, chV s.ch x = V := ⟨_, rfl⟩
          rw [hV] at UC1 UC2
          have HEW := Lib.hid HU.out.out
          clear hV hbs HQ1 HQ2 HAL HCH HLT hL9 HJ hN4
          go_wp2_with fail
          go_region_held3 (fun w' => w'.cell? ⟨c, 1, none⟩ = some (.pointer (some ⟨xb, 0, none⟩)) ∧ Ext wr w')
            (first | assumption | (go_split_ands; exact KS.out _ (by repeat (first | exact Ext.refl _ | assumption | refine Ext.drew ?_ | refine Ext.trans ?_ (by assumption)))))
            ((first
              | (go_at_call 25; obtain ⟨_, hE1⟩ : _ ∧ Ext wr _ := (by assumption); refine (first13_any _).mono ?_; rintro e w6 ⟨rfl, hx6⟩; have E6 := hE1.trans hx6; clear hE1)
              | (go_at_call 30; obtain ⟨_, hE1⟩ : _ ∧ Ext wr _ := (by assumption); refine (UC1.out _ hE1).mono ?_; rintro e w7 ⟨rfl, rfl⟩; clear hE1)
              | (go_at_call 31; obtain ⟨_, hE1⟩ : _ ∧ Ext wr _ := (by assumption); refine (UC2.out _ hE1).mono ?_; rintro e w7 ⟨rfl, rfl⟩; clear hE1)
              | (go_at_call 32; obtain ⟨_, hE1⟩ : _ ∧ Ext wr _ := (by assumption); refine (UE.out _ hE1).mono ?_; rintro e w8 ⟨u8, rfl, hy8, -, hx8⟩; have E8 := hE1.trans hx8; have HY := Lib.hid hy8; clear hE1 hy8)
              | (go_at_call 23; obtain ⟨_, hE1⟩ : _ ∧ Ext wr _ := (by assumption); refine (UX.out _ hE1).mono ?_; rintro e w9 ⟨u9, rfl, hy9, -, hx9⟩; have E9 := hE1.trans hx9; have HX := Lib.hid hy9; clear hE1 hy9)
              | (go_at_call 21; refine (bytes_same bs _ _ _ (HY.out.ext (by repeat (first | exact Ext.refl _ | assumption | refine Ext.drew ?_ | refine Ext.trans ?_ (by assumption)))) (HX.out.ext (by repeat (first | exact Ext.refl _ | assumption | refine Ext.drew ?_ | refine Ext.trans ?_ (by assumption))))).mono ?_; rintro e w10 ⟨rfl, rfl⟩)))
          all_goals obtain ⟨_, hE9⟩ : _ ∧ Ext wr _ := by assumption
          all_goals go_wp2
          all_goals go_ret
          all_goals exact ⟨rfl, HEW.out.trans hE9⟩
end Go.Proofs.YtkfdhnmlebnfkaaDoor
