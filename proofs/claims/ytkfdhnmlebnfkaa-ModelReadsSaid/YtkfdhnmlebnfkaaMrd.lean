/- kinlaw13.ModelReads: the walk. -/
import Derived.Test.YtkfdhnmlebnfkaaZj
import Derived.Test.YtkfdhnmlebnfkaaZk
import Derived.Deep.CutRange
import Derived.Deep.RegionHeld3
namespace Go.Proofs.Ytkfdhnmlebnfkaa
set_option linter.unusedVariables false
set_option linter.unusedSimpArgs false
open Go.RowKit Go.Extern.Stop Go.Stop Go.Extern

theorem DrF.obj (a d : Nat) (bs : List Nat) : Obj (DrF a d bs) := ⟨fun h => h.lt, fun h => h.same⟩
theorem RdF.ch2 {a : Nat} {bs : List Nat} {w : World} {F : Nat → Prop} {s : Ms Dc} (h : RdF a bs w F s) : ChAt w a 0 s.ch := by obtain ⟨_, _, _, h, _⟩ := h; exact h
def Rbl (N : Nat) (s : Dc) (x : Xc) : Prop := lkI s x ∧ okD N s ∧ okX N x ∧ 16777216 ≤ s.wid
theorem rbl_ok {N : Nat} {s : Ms Dc} {t : Ms Xc} (h : rS Rbl N s t) : okS okDm N s ∧ okS okYm N t := by
  obtain ⟨h1, h2, h3, h4, h5, h6⟩ := h
  exact ⟨⟨h2, h4, h6⟩, by rw [← h1]; exact h2, h5, by rw [← h3.2.1]; exact h6⟩
theorem rbl_new {bs : List Nat} (hb : ∀ x ∈ bs, x < 256) : rS Rbl 4 ⟨ch0, newD bs⟩ ⟨ch0, nxN bs 4⟩ := ⟨rfl, ch0_ok, lk_new hb, (newD_ok hb).1, nxN_ok bs 4, by rw [(newD_ok hb).2.1]; decide⟩
section
variable {d c y : Nat} {bs : List Nat} {w0 w : World} {s : Ms Dc} {t : Ms Xc}
theorem two_r (k : Int) (h : Uno (Sep (RdF d bs) (DrF c y bs)) w0 w (s, t)) :
    (Calls Try.prog 14 #[.pointer (some ⟨d, 0, none⟩), .int .i64 k] w fun e w' => e = .returned (.int .i64 (chV s.ch k)) ∧ w = w') ∧ (Calls Try.prog 15 #[.pointer (some ⟨c, 0, none⟩), .int .i64 k] w fun e w' => e = .returned (.int .i64 (chV t.ch k)) ∧ w = w') := by
  obtain ⟨_, h1⟩ := h.l
  obtain ⟨_, h2⟩ := h.r
  exact ⟨mrch_any d k s.ch w h1.ch2, dch_any c k t.ch w h2.ch⟩
theorem two_o {N : Nat} (h : Uno (Sep (RdF d bs) (DrF c y bs)) w0 w (s, t)) (hr : rS Rbl N s t) (hN : N ≤ 900000) (hl : bs.length ≤ 1000000) :
    (Calls Try.prog 12 #[.pointer (some ⟨d, 0, none⟩)] w fun e w' => e = .returned (.int .i64 (ovrD bs s.co : Int)) ∧ Ext w w') ∧ (Calls Try.prog 13 #[.pointer (some ⟨y, 0, none⟩)] w fun e w' => e = .returned (.int .i64 (ovrD bs s.co : Int)) ∧ Ext w w') ∧ w.cell? ⟨c, 2, none⟩ = some (.pointer (some ⟨y, 0, none⟩)) := by
  obtain ⟨G, h1⟩ := h.l
  obtain ⟨_, E, h2, -, h3, -⟩ := h.r
  obtain ⟨o1, o2⟩ := rbl_ok hr
  refine ⟨mrover_any d N bs s G w h1 o1 hN hl, ?_, h3.2⟩
  have := xover_any E y N bs t.co w h2 o2.2.1 hN hl
  rwa [show ovrX bs t.co = ovrD bs s.co by unfold ovrD ovrX; rw [hr.2.2.1.1]] at this
theorem two_c (h : Uno (Sep (RdF d bs) (DrF c y bs)) w0 w (s, t)) : w.cell? ⟨c, 2, none⟩ = some (.pointer (some ⟨y, 0, none⟩)) := by
  obtain ⟨_, E, h2, -, h3, -⟩ := h.r
  exact h3.2
end
set_option maxHeartbeats 8000000 in
set_option maxRecDepth 20000 in
theorem mreads_law (bs : List Nat) (L : List Mo) (v u : Value) (w : World) (rb : Row w v bs.length (bs.map fun x : Nat => Value.int .u8 (x : Int))) (hb : ∀ x ∈ bs, x < 256) (hL : Mos w u L) : Calls Try.prog 3 #[v, u] w fun e w' => e = .returned (.bool true) ∧ Ext w w' := by
  have hm := hL.small
  obtain ⟨la, lc, rfl⟩ := hL.form
  obtain ⟨ba, bc, rfl⟩ := rb.form
  obtain ⟨m, hm'⟩ : ∃ m, L.length = m := ⟨_, rfl⟩
  obtain ⟨n, hn⟩ : ∃ n, bs.length = n := ⟨_, rfl⟩
  have HNL := Lib.hid hm'
  have HNB := Lib.hid hn
  have HOT : Hid (Mos w (.slice la m lc) L) := by show Mos _ _ _; rw [← hm']; exact hL
  rw [hm'] at hm ⊢
  rw [hn] at rb ⊢
  unfold maxLen at hm
  by_cases h1 : 20000 < n
  · have h1' : (20000 : Int) < (n : Int) := by omega
    clear hL rb hm' hn hb
    go_enter Try.func3, Try.ntmps3
    go_wp2_with fail
    refine (first13_any _).mono ?_; rintro e w1 ⟨rfl, hx1⟩
    go_wp2_with fail
    refine (first13_any _).mono ?_; rintro e w2 ⟨rfl, hx2⟩
    go_wp2
    go_ret
    exact ⟨rfl, hx1.trans hx2⟩
  have h1' : ¬ (20000 : Int) < (n : Int) := by omega
  have HB : Hid (Bys w (.slice ba n bc) bs) := ⟨by rw [hn]; exact rb, hb, by rw [hn]; omega⟩
  have HBB := Lib.hid hb
  have hbl : bs.length ≤ 1000000 := by omega
  have UC := Lib.hid (cpb_any bs)
  have UN := Lib.hid (mrnew_any bs)
  have UX := Lib.hid (drnew_any bs)
  clear hL rb hm' hn hb
  go_enter Try.func3, Try.ntmps3
  go_wp2_with fail
  refine (first13_any _).mono ?_; rintro e w1 ⟨rfl, hx1⟩
  go_wp2_with fail
  refine (UC.out _ _ (HB.out.ext hx1)).mono ?_; rintro e w2 ⟨u2, rfl, ho2, hx2⟩
  have hy2 := Bys.of_owns ho2 HBB.out (by omega)
  obtain ⟨a2, c2, rfl⟩ := hy2.form
  have hcs : CsN w2 w1.heap.size w2.heap.size a2 n := by
    have := CsN.of (n := bs.length) ho2 rfl
    rw [HNB.out] at this
    exact this
  have HY2 := Lib.hid hy2
  have HCS := Lib.hid hcs
  have HE2 := Lib.hid (hx1.trans hx2)
  have hw1 : w.heap.size ≤ w1.heap.size := hx1.size
  rw [HNB.out] at HY2 ⊢
  clear ho2 hy2 hcs hx1 hx2
  go_wp2_with fail
  refine (UN.out _ _ HY2.out).mono ?_; rintro e w3 ⟨d, F, rfl, hF, hD3, hx3⟩
  have HF := Lib.hid hF
  have HD3 := Lib.hid hD3
  have HCS3 := Lib.hid (HCS.out.ext hx3)
  have HE3 := Lib.hid (HE2.out.trans hx3)
  have hw2 : w.heap.size ≤ w2.heap.size := HE2.out.size
  clear hD3 hx3 hF HCS HE2 HY2
  go_wp2_with fail
  go_loopw [7] (fun iv wi => ∃ i : Nat, i ≤ n ∧ iv = .int .i64 (i : Int) ∧ Hid (CsN wi w1.heap.size w2.heap.size a2 n) ∧ Hid (RdF d bs wi F ⟨ch0, newD bs⟩) ∧ Hid (Ext w wi)) (fun iv _ => n - (intOf iv).toNat)
  case atStart => exact ⟨0, Nat.zero_le _, rfl, HCS3.out, HD3.out, HE3.out⟩
  case round =>
    clear HCS3 HD3 HE3
    obtain ⟨wi, hwi⟩ : ∃ wi, wi = wr := ⟨_, rfl⟩
    subst hwi
    obtain ⟨i, hi, rfl, HC, HD, HE⟩ := hrel
    by_cases hlt : i < n
    · obtain ⟨g, rfl, ⟨hg1, hg2⟩, hcell⟩ := HC.out (by omega)
      obtain ⟨⟨x, cx⟩, fx⟩ := hcell i hlt
      obtain ⟨y, hy, ey⟩ := xor_b (x : Int)
      have x1 : (0 : Int) ≤ (i : Int) := by omega
      have x2 : (i : Int) < (n : Int) := by omega
      clear hcell
      go_wp2
      go_roundw
      case rel => exact ⟨i + 1, by omega, by go_num, HC.out.set, HD.out.same (fun k hk => Below.heap_setCell _ _ _ _ (show k ≠ g by have := HF.out k hk; omega)), HE.out.setCell (p := ⟨g, i, none⟩) (by show w.heap.size ≤ g; omega) _⟩
      case measure => simp [intOf]; omega
    · have x2 : ¬ (i : Int) < (n : Int) := by omega
      have HU0 : Hid (Uno (RdF d bs) w wi ⟨ch0, newD bs⟩) := Uno.first HD.out HE.out (fun k hk => Nat.le_trans hw2 (HF.out k hk))
      go_wp2_with fail
      refine (UX.out _ _ (HB.out.ext HE.out)).mono ?_; rintro e w5 ⟨c, y, G, rfl, hG, hX5, hx5⟩
      have HU5 := Lib.hid (HU0.out.add (RdF.obj d bs) hx5 hX5 hG)
      have O1 := RdF.obj d bs
      have O2 := DrF.obj c y bs
      have O3 := O1.sep O2
      clear hX5 hx5 hG HC HD HE HU0 hlt x2 hi
      go_wp2_with fail
      go_loopw [9] (fun iv wr => ∃ (i : Nat) (s : Ms Dc) (t : Ms Xc), (i ≤ m ∧ i ≤ 2000) ∧ iv = .int .i64 (i : Int) ∧ Hid (rS Rbl (4 + 64 * i) s t) ∧ Hid (Uno (Sep (RdF d bs) (DrF c y bs)) w wr (s, t))) (fun iv _ => m - (intOf iv).toNat)
      case atStart => exact ⟨0, _, _, ⟨Nat.zero_le _, Nat.zero_le _⟩, rfl, rbl_new HBB.out, HU5.out⟩
      case round =>
        clear HU5
        obtain ⟨i, s, t, ⟨hi, hi2⟩, rfl, HJ, HU⟩ := hrel
        by_cases hlt : i < m
        · by_cases hl2 : i < 2000
          · obtain ⟨o, hU⟩ : ∃ o, L[i]? = some o := ⟨_, List.getElem?_eq_getElem (by rw [HNL.out]; exact hlt)⟩
            obtain ⟨g, off, rfl, hq⟩ := HOT.out.had (by rw [HNL.out]; omega)
            have HQ := Lib.hid (hq i _ hU)
            obtain ⟨c0, c1, c2', c3⟩ := HQ.out.ext HU.out.out
            have x1 : (0 : Int) ≤ (i : Int) := by omega
            have x2 : (i : Int) < (m : Int) := by omega
            have x3 : (i : Int) < 2000 := by omega
            have hN4 : 4 + 64 * i ≤ 899000 := by omega
            have hN9 : 4 + 64 * (i + 1) ≤ 899000 := by omega
            obtain ⟨q1, q2⟩ := rbl_ok HJ.out
            obtain ⟨a1, a2'⟩ := ask_r (mrD HBB.out) o HJ.out
            obtain ⟨⟨R, s2⟩, es⟩ : ∃ r, askM (mD bs) s o = r := ⟨_, rfl⟩
            obtain ⟨⟨R', t2⟩, et⟩ : ∃ r, askM (mY bs) t o = r := ⟨_, rfl⟩
            have UA := Lib.hid (fun w' t' (h : Uno (Sep (RdF d bs) (DrF c y bs)) w w' (s, t')) => h.pl O2 (fun G h => mrask_any d (4 + 64 * i) bs HBB.out o s G w' h q1 hN4))
            have UW := Lib.hid (fun w' s' (h : Uno (Sep (RdF d bs) (DrF c y bs)) w w' (s', t)) => h.pr O1 (fun G h => drask_any c (4 + 64 * i) y bs o t G w' h q2 hN4))
            rw [es] at UA a1 a2'
            rw [et] at UW a1 a2'
            obtain rfl : R = R' := a1
            have HJ2 : Hid (rS Rbl (4 + 64 * (i + 1)) s2 t2) := a2'
            have UO := Lib.hid (fun w' (h : Uno (Sep (RdF d bs) (DrF c y bs)) w w' (s2, t2)) => two_o h HJ2.out (by omega) hbl)
            obtain ⟨V, hV⟩ : ∃ V, ovrD bs s2.co = V := ⟨_, rfl⟩
            rw [hV] at UO
            have EW : Ext w wr := HU.out.out
            have d0 : wr.cell? ⟨c, 2, none⟩ = some (.pointer (some ⟨y, 0, none⟩)) := (two_o HU.out HJ.out (by omega) hbl).2.2
            clear q1 q2 a2' es et hU hq hV
            go_wp2_with fail
            go_cut [72] from 49 to 72 (fun s72 wx => s72 = .bool false ∧ Hid (Uno (Sep (RdF d bs) (DrF c y bs)) w wx (s2, t2)))
            case first =>
              have KS : Hid (∀ w', Ext w w' → w'.cell? ⟨c, 2, none⟩ = some (.pointer (some ⟨y, 0, none⟩)) → w'.cell? ⟨g, off + i * 4, none⟩ = some (.int .i64 o.k) ∧ w'.cell? ⟨g, off + i * 4 + 1, none⟩ = some (.int .i64 o.c) ∧ w'.cell? ⟨g, off + i * 4 + 2, none⟩ = some (.int .i64 o.v) ∧ w'.cell? ⟨g, off + i * 4 + 3, none⟩ = some (.bool o.b) ∧ w'.cell? ⟨c, 2, none⟩ = some (.pointer (some ⟨y, 0, none⟩)) ∧ Ext w w') := fun w' h k => by
                obtain ⟨k0, k1, k2, k3⟩ := HQ.out.ext h
                exact ⟨k0, k1, k2, k3, k, h⟩
              go_region_held3 (fun w' => w'.cell? ⟨g, off + i * 4, none⟩ = some (.int .i64 o.k) ∧ w'.cell? ⟨g, off + i * 4 + 1, none⟩ = some (.int .i64 o.c) ∧ w'.cell? ⟨g, off + i * 4 + 2, none⟩ = some (.int .i64 o.v) ∧ w'.cell? ⟨g, off + i * 4 + 3, none⟩ = some (.bool o.b) ∧ w'.cell? ⟨c, 2, none⟩ = some (.pointer (some ⟨y, 0, none⟩)) ∧ Ext w w')
                (first | assumption | (go_split_ands; exact KS.out _ (by first | assumption | exact Ext.drew (by assumption)) (by first | assumption | exact ((Ext.refl _).drew).cell (by assumption))))
                ((first
                  | (go_at_call 10; (first
                      | (refine (UA.out _ _ (HU.out.ext O3 (show Ext wr _ from (by first | exact Ext.refl _ | exact (Ext.refl _).drew | assumption)))).mono ?_; rintro e w5 ⟨rfl, h5⟩; have H5 := Lib.hid h5; have E5 := h5.out; have d5 := two_c h5; clear h5)
                      | (refine (UA.out _ _ (H5.out.ext O3 (show Ext w5 _ from (by first | exact Ext.refl _ | exact (Ext.refl _).drew | assumption)))).mono ?_; rintro e w6 ⟨rfl, h6⟩; have H6 := Lib.hid h6; have E6 := h6.out; have d6 := two_c h6; clear h6)))
                  | (go_at_call 11; (first
                      | (refine (UW.out _ _ (HU.out.ext O3 (show Ext wr _ from (by first | exact Ext.refl _ | exact (Ext.refl _).drew | assumption)))).mono ?_; rintro e w5 ⟨rfl, h5⟩; have H5 := Lib.hid h5; have E5 := h5.out; have d5 := two_c h5; clear h5)
                      | (refine (UW.out _ _ (H5.out.ext O3 (show Ext w5 _ from (by first | exact Ext.refl _ | exact (Ext.refl _).drew | assumption)))).mono ?_; rintro e w6 ⟨rfl, h6⟩; have H6 := Lib.hid h6; have E6 := h6.out; have d6 := two_c h6; clear h6)))
                  | (go_at_call 12; (first
                      | (refine (UO.out _ (H6.out.ext O3 (show Ext w6 _ from (by first | exact Ext.refl _ | assumption)))).1.mono ?_; rintro e w7 ⟨rfl, hx7⟩; have H7 := Lib.hid (H6.out.ext O3 hx7); have E7 := H7.out.out; have d7 := two_c H7.out)
                      | (refine (UO.out _ (H7.out.ext O3 (show Ext w7 _ from (by first | exact Ext.refl _ | assumption)))).1.mono ?_; rintro e w8 ⟨rfl, hx8⟩; have H8 := Lib.hid (H7.out.ext O3 hx8); have E8 := H8.out.out; have d8 := two_c H8.out)))
                  | (go_at_call 13; (first
                      | (refine (UO.out _ (H6.out.ext O3 (show Ext w6 _ from (by first | exact Ext.refl _ | assumption)))).2.1.mono ?_; rintro e w7 ⟨rfl, hx7⟩; have H7 := Lib.hid (H6.out.ext O3 hx7); have E7 := H7.out.out; have d7 := two_c H7.out)
                      | (refine (UO.out _ (H7.out.ext O3 (show Ext w7 _ from (by first | exact Ext.refl _ | assumption)))).2.1.mono ?_; rintro e w8 ⟨rfl, hx8⟩; have H8 := Lib.hid (H7.out.ext O3 hx8); have E8 := H8.out.out; have d8 := two_c H8.out)))))
              all_goals go_wp2_with fail
              all_goals go_meet
              all_goals exact ⟨rfl, H8.out⟩
            case rest =>
              obtain ⟨wz, hwz⟩ : ∃ wz, wz = wc := ⟨_, rfl⟩
              subst hwz
              obtain ⟨rfl, HUz⟩ := hcut
              clear HU c0 c1 c2' c3 d0 UA UW UO EW HJ
              go_wp2
              go_roundw
              case rel => exact ⟨i + 1, s2, t2, ⟨by omega, by omega⟩, by go_num, HJ2.out, HUz.out⟩
              case measure => simp [intOf]; omega
          · have x3 : ¬ (i : Int) < 2000 := by omega
            have x2 : (i : Int) < (m : Int) := by omega
            -- in hand: wr, i, s, t: HJ : rS Rbl (4 + 64 * i) s t, HU : Uno (Sep (RdF d bs) (DrF c y bs)) w wr (s, t)
            go_wp2_with fail
            go_loopw [10] (fun iv wi => ∃ j : Nat, j ≤ 67 ∧ iv = .int .i64 ((j : Int) - 1) ∧ Hid (Uno (Sep (RdF d bs) (DrF c y bs)) w wi (s, t))) (fun iv _ => 67 - (intOf iv + 1).toNat)
            case atStart => exact ⟨0, Nat.zero_le _, rfl, HU.out⟩
            case round =>
              clear HU
              obtain ⟨j, hj, rfl, HU⟩ := hrel
              by_cases hlt2 : j < 67
              · obtain ⟨J, hJ⟩ : ∃ J : Int, (j : Int) - 1 = J := ⟨_, rfl⟩
                have z1 : J < 66 := by omega
                have z2 : IntKind.i64.wrap (J + 1) = J + 1 := by rw [IntKind.wrap_i64]; omega
                have HJ9 := Lib.hid hJ
                rw [hJ]
                clear hJ
                obtain ⟨u1, u2⟩ := two_r J HU.out
                rw [show t.ch = s.ch from HJ.out.1.symm] at u2
                obtain ⟨V, hV⟩ : ∃ V, chV s.ch J = V := ⟨_, rfl⟩
                rw [hV] at u1 u2
                have U1 := Lib.hid u1
                have U2 := Lib.hid u2
                clear u1 u2 hV
                go_wp2_with fail
                refine (U1.out).mono ?_; rintro e w5 ⟨rfl, rfl⟩
                go_wp2_with fail
                refine (U2.out).mono ?_; rintro e w6 ⟨rfl, rfl⟩
                go_wp2
                go_roundw
                case rel => exact ⟨j + 1, by omega, by have := HJ9.out; congr 1; omega, HU.out⟩
                case measure => have := HJ9.out; simp [intOf]; omega
              · have z1 : ¬ ((j : Int) - 1) < 66 := by omega
                go_wp2_with fail
                refine (first13_any _).mono ?_; rintro e w6 ⟨rfl, hx6⟩
                go_wp2
                go_ret
                exact ⟨rfl, HU.out.out.trans hx6⟩
        · have x2 : ¬ (i : Int) < (m : Int) := by omega
          -- in hand: wr, i, s, t: HJ : rS Rbl (4 + 64 * i) s t, HU : Uno (Sep (RdF d bs) (DrF c y bs)) w wr (s, t)
          go_wp2_with fail
          go_loopw [10] (fun iv wi => ∃ j : Nat, j ≤ 67 ∧ iv = .int .i64 ((j : Int) - 1) ∧ Hid (Uno (Sep (RdF d bs) (DrF c y bs)) w wi (s, t))) (fun iv _ => 67 - (intOf iv + 1).toNat)
          case atStart => exact ⟨0, Nat.zero_le _, rfl, HU.out⟩
          case round =>
            clear HU
            obtain ⟨j, hj, rfl, HU⟩ := hrel
            by_cases hlt2 : j < 67
            · obtain ⟨J, hJ⟩ : ∃ J : Int, (j : Int) - 1 = J := ⟨_, rfl⟩
              have z1 : J < 66 := by omega
              have z2 : IntKind.i64.wrap (J + 1) = J + 1 := by rw [IntKind.wrap_i64]; omega
              have HJ9 := Lib.hid hJ
              rw [hJ]
              clear hJ
              obtain ⟨u1, u2⟩ := two_r J HU.out
              rw [show t.ch = s.ch from HJ.out.1.symm] at u2
              obtain ⟨V, hV⟩ : ∃ V, chV s.ch J = V := ⟨_, rfl⟩
              rw [hV] at u1 u2
              have U1 := Lib.hid u1
              have U2 := Lib.hid u2
              clear u1 u2 hV
              go_wp2_with fail
              refine (U1.out).mono ?_; rintro e w5 ⟨rfl, rfl⟩
              go_wp2_with fail
              refine (U2.out).mono ?_; rintro e w6 ⟨rfl, rfl⟩
              go_wp2
              go_roundw
              case rel => exact ⟨j + 1, by omega, by have := HJ9.out; congr 1; omega, HU.out⟩
              case measure => have := HJ9.out; simp [intOf]; omega
            · have z1 : ¬ ((j : Int) - 1) < 66 := by omega
              go_wp2_with fail
              refine (first13_any _).mono ?_; rintro e w6 ⟨rfl, hx6⟩
              go_wp2
              go_ret
              exact ⟨rfl, HU.out.out.trans hx6⟩
end Go.Proofs.Ytkfdhnmlebnfkaa
