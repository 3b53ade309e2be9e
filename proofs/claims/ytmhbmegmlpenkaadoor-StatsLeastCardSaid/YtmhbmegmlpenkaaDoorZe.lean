/- Contracts of this seat: RGr, Sg, WtL, Wa, OpC, SoM, So. -/
import Derived.Test.YtmhbmegmlpenkaaDoorZd
import Derived.Deep.RegionWith
import Derived.Deep.CutRange
import Derived.BigRegion
import Derived.BigQuiet
import Derived.Deep.QuietTactic
import Derived.Deep.RegionHeld3
/- kinref16.Groups: its contract over this seat's translation. -/
namespace Go.Proofs.YtmhbmegmlpenkaaDoor
set_option linter.unusedVariables false
set_option linter.unusedSimpArgs false
open Go.RowKit Go.Extern.Stop Go.Stop Go.Extern

def RGPost (w : World) (G : List (Int × Int)) (f : Fall) (e : Ending) (w' : World) : Prop := ∃ u c a m k, e = .returned (.tuple #[u, .agg #[.int .i64 c, .slice a m k]]) ∧ Ext w w' ∧ Row w' u G.length (gcells G) ∧ RErrIs w' f c (.slice a m k)
set_option maxRecDepth 20000 in
set_option maxHeartbeats 1000000 in
theorem rgroups_bad (L : List Fr) (cut gop : Int) (a : Option Addr) (n cap : Nat) (w : World) (h : Fms w (.slice a n cap) L) (hb : (cut < 0 ∨ 16320 < cut ∨ gop < 1 ∨ 16 < gop) ∨ n = 0 ∨ 16 < n) :
    Calls Tryd.prog 37 #[.slice a n cap, .int .i64 cut, .int .i64 gop] w (RGPost w (grpV L cut gop) (grpAns L cut gop)) := by
  have hn := h.len
  by_cases hc : cut < 0 ∨ 16320 < cut ∨ gop < 1 ∨ 16 < gop
  · have hr : grpAns L cut gop = range := by unfold grpAns; rw [if_pos hc]
    have HR := Lib.hid hr
    have HV : Hid (grpV L cut gop = []) := by show _ = _; unfold grpV; rw [hr]; rfl
    clear hb hr hn h
    by_cases c1 : cut < 0
    · clear hc
      have RV := ResAt.new w
      have E0 : Ext w (w.alloc (.cells #[.int .i64 0, .slice none 0 0] 41)) := (Ext.refl w).alloc _
      go_enter Tryd.func37, Tryd.ntmps37
      go_wp2_with fail
      revert RV E0
      generalize w.alloc (.cells #[.int .i64 0, .slice none 0 0] 41) = w0
      intro RV E0
      refine (fail_any 3 _).mono ?_; rintro e w9 ⟨rfl, hx9⟩
      obtain ⟨r0, r1, f0, f1⟩ := RV.ext hx9
      have E9 := E0.trans hx9
      clear RV E0 hx9
      go_wp2
      obtain ⟨e0, e1⟩ := res_cells (c := 3) r0 r1 (.slice none 0 0)
      exact bodyPost_ret (v := .tuple #[.slice none 0 0, .agg #[.int .i64 3, .slice none 0 0]]) (by simp [results, Tryd.results37, go_sem, e0, e1]) rfl ⟨_, _, _, _, _, rfl, (E9.setCell (p := ⟨w.heap.size, 0, none⟩) (Nat.le_refl _) _).setCell (p := ⟨w.heap.size, 1, none⟩) (Nat.le_refl _) _, by rw [HV.out]; exact Row.nil _, by rw [HR.out]; exact RErrIs.code (by decide)⟩
    · by_cases c2 : 16320 < cut
      · clear hc
        have RV := ResAt.new w
        have E0 : Ext w (w.alloc (.cells #[.int .i64 0, .slice none 0 0] 41)) := (Ext.refl w).alloc _
        go_enter Tryd.func37, Tryd.ntmps37
        go_wp2_with fail
        revert RV E0
        generalize w.alloc (.cells #[.int .i64 0, .slice none 0 0] 41) = w0
        intro RV E0
        refine (fail_any 3 _).mono ?_; rintro e w9 ⟨rfl, hx9⟩
        obtain ⟨r0, r1, f0, f1⟩ := RV.ext hx9
        have E9 := E0.trans hx9
        clear RV E0 hx9
        go_wp2
        obtain ⟨e0, e1⟩ := res_cells (c := 3) r0 r1 (.slice none 0 0)
        exact bodyPost_ret (v := .tuple #[.slice none 0 0, .agg #[.int .i64 3, .slice none 0 0]]) (by simp [results, Tryd.results37, go_sem, e0, e1]) rfl ⟨_, _, _, _, _, rfl, (E9.setCell (p := ⟨w.heap.size, 0, none⟩) (Nat.le_refl _) _).setCell (p := ⟨w.heap.size, 1, none⟩) (Nat.le_refl _) _, by rw [HV.out]; exact Row.nil _, by rw [HR.out]; exact RErrIs.code (by decide)⟩
      · by_cases c3 : gop < 1
        · clear hc
          have RV := ResAt.new w
          have E0 : Ext w (w.alloc (.cells #[.int .i64 0, .slice none 0 0] 41)) := (Ext.refl w).alloc _
          go_enter Tryd.func37, Tryd.ntmps37
          go_wp2_with fail
          revert RV E0
          generalize w.alloc (.cells #[.int .i64 0, .slice none 0 0] 41) = w0
          intro RV E0
          refine (fail_any 3 _).mono ?_; rintro e w9 ⟨rfl, hx9⟩
          obtain ⟨r0, r1, f0, f1⟩ := RV.ext hx9
          have E9 := E0.trans hx9
          clear RV E0 hx9
          go_wp2
          obtain ⟨e0, e1⟩ := res_cells (c := 3) r0 r1 (.slice none 0 0)
          exact bodyPost_ret (v := .tuple #[.slice none 0 0, .agg #[.int .i64 3, .slice none 0 0]]) (by simp [results, Tryd.results37, go_sem, e0, e1]) rfl ⟨_, _, _, _, _, rfl, (E9.setCell (p := ⟨w.heap.size, 0, none⟩) (Nat.le_refl _) _).setCell (p := ⟨w.heap.size, 1, none⟩) (Nat.le_refl _) _, by rw [HV.out]; exact Row.nil _, by rw [HR.out]; exact RErrIs.code (by decide)⟩
        · have c4 : 16 < gop := by omega
          clear hc
          have RV := ResAt.new w
          have E0 : Ext w (w.alloc (.cells #[.int .i64 0, .slice none 0 0] 41)) := (Ext.refl w).alloc _
          go_enter Tryd.func37, Tryd.ntmps37
          go_wp2_with fail
          revert RV E0
          generalize w.alloc (.cells #[.int .i64 0, .slice none 0 0] 41) = w0
          intro RV E0
          refine (fail_any 3 _).mono ?_; rintro e w9 ⟨rfl, hx9⟩
          obtain ⟨r0, r1, f0, f1⟩ := RV.ext hx9
          have E9 := E0.trans hx9
          clear RV E0 hx9
          go_wp2
          obtain ⟨e0, e1⟩ := res_cells (c := 3) r0 r1 (.slice none 0 0)
          exact bodyPost_ret (v := .tuple #[.slice none 0 0, .agg #[.int .i64 3, .slice none 0 0]]) (by simp [results, Tryd.results37, go_sem, e0, e1]) rfl ⟨_, _, _, _, _, rfl, (E9.setCell (p := ⟨w.heap.size, 0, none⟩) (Nat.le_refl _) _).setCell (p := ⟨w.heap.size, 1, none⟩) (Nat.le_refl _) _, by rw [HV.out]; exact Row.nil _, by rw [HR.out]; exact RErrIs.code (by decide)⟩
  · have hb2 : n = 0 ∨ 16 < n := by
      rcases hb with hb | hb
      · exact absurd hb hc
      · exact hb
    have hr : grpAns L cut gop = form := by unfold grpAns; rw [if_neg hc, if_pos (by omega)]
    have HR := Lib.hid hr
    have HV : Hid (grpV L cut gop = []) := by show _ = _; unfold grpV; rw [hr]; rfl
    have c1 : ¬ cut < 0 := by omega
    have c2 : ¬ 16320 < cut := by omega
    have c3 : ¬ gop < 1 := by omega
    have c4 : ¬ 16 < gop := by omega
    clear hb hr hn h hc
    by_cases n0 : n = 0
    · subst n0
      clear hb2
      have RV := ResAt.new w
      have E0 : Ext w (w.alloc (.cells #[.int .i64 0, .slice none 0 0] 41)) := (Ext.refl w).alloc _
      go_enter Tryd.func37, Tryd.ntmps37
      go_wp2_with fail
      revert RV E0
      generalize w.alloc (.cells #[.int .i64 0, .slice none 0 0] 41) = w0
      intro RV E0
      refine (fail_any 2 _).mono ?_; rintro e w9 ⟨rfl, hx9⟩
      obtain ⟨r0, r1, f0, f1⟩ := RV.ext hx9
      have E9 := E0.trans hx9
      clear RV E0 hx9
      go_wp2
      obtain ⟨e0, e1⟩ := res_cells (c := 2) r0 r1 (.slice none 0 0)
      exact bodyPost_ret (v := .tuple #[.slice none 0 0, .agg #[.int .i64 2, .slice none 0 0]]) (by simp [results, Tryd.results37, go_sem, e0, e1]) rfl ⟨_, _, _, _, _, rfl, (E9.setCell (p := ⟨w.heap.size, 0, none⟩) (Nat.le_refl _) _).setCell (p := ⟨w.heap.size, 1, none⟩) (Nat.le_refl _) _, by rw [HV.out]; exact Row.nil _, by rw [HR.out]; exact RErrIs.code (by decide)⟩
    · have n1 : (16 : Int) < (n : Int) := by omega
      have n2 : ((n : Int) == 0) = false := by simp; omega
      clear hb2 n0
      have RV := ResAt.new w
      have E0 : Ext w (w.alloc (.cells #[.int .i64 0, .slice none 0 0] 41)) := (Ext.refl w).alloc _
      go_enter Tryd.func37, Tryd.ntmps37
      go_wp2_with fail
      revert RV E0
      generalize w.alloc (.cells #[.int .i64 0, .slice none 0 0] 41) = w0
      intro RV E0
      refine (fail_any 2 _).mono ?_; rintro e w9 ⟨rfl, hx9⟩
      obtain ⟨r0, r1, f0, f1⟩ := RV.ext hx9
      have E9 := E0.trans hx9
      clear RV E0 hx9
      go_wp2
      obtain ⟨e0, e1⟩ := res_cells (c := 2) r0 r1 (.slice none 0 0)
      exact bodyPost_ret (v := .tuple #[.slice none 0 0, .agg #[.int .i64 2, .slice none 0 0]]) (by simp [results, Tryd.results37, go_sem, e0, e1]) rfl ⟨_, _, _, _, _, rfl, (E9.setCell (p := ⟨w.heap.size, 0, none⟩) (Nat.le_refl _) _).setCell (p := ⟨w.heap.size, 1, none⟩) (Nat.le_refl _) _, by rw [HV.out]; exact Row.nil _, by rw [HR.out]; exact RErrIs.code (by decide)⟩
theorem an_err {L : List Fr} {k : Nat} {w w' : World} {c : Int} {v : Value} (h : RErrIs w (ansAt L k) c v) : RErrIs w' (ansAt L k) c v := by
  cases hw : ansAt L k with
  | none => rw [hw] at h; exact h
  | some f =>
    obtain ⟨pe, cd⟩ := f
    have hpe : pe = [] := frAns_path hw
    subst hpe
    rw [hw] at h
    exact ⟨h.1, h.2.1, Row.zero h.2.2⟩
theorem grpL_one {L : List Fr} {cut gop : Int} (hc : 0 ≤ cut) (hg : 1 ≤ gop) : grpL L cut gop 1 = [(0, 1)] := by
  have hu : unlAt L 0 = 0 := unlV_self _ _ _
  unfold grpL grpS
  rw [hu, if_neg (by simp only [grpS]; omega)]
  rfl
set_option maxRecDepth 20000 in
set_option maxHeartbeats 8000000 in
theorem rgroups_good (L : List Fr) (cut gop : Int) (a : Option Addr) (n cap : Nat) (w : World) (h : Fms w (.slice a n cap) L) (hsm : Hid (∀ (q : Nat) (f : Fr), L[q]? = some f → f.2.2.length ≤ 1000000)) (hc : 0 ≤ cut ∧ cut ≤ 16320) (hgp : 1 ≤ gop ∧ gop ≤ 16) (hn : 1 ≤ n ∧ n ≤ 16) :
    Calls Tryd.prog 37 #[.slice a n cap, .int .i64 cut, .int .i64 gop] w (RGPost w (grpV L cut gop) (grpAns L cut gop)) := by
  obtain ⟨i0, hi, hz0, hz1, hz2⟩ := info_parts infoGrp
  have hnl := h.len
  have HA : Hid (grpAns L cut gop = grpF L n) := by show _ = _; unfold grpAns; rw [if_neg (by omega), if_neg (by omega), hnl]
  have HN := Lib.hid hnl
  obtain ⟨g0, off, rfl⟩ := h.had (by omega)
  have HF := Lib.hid h
  obtain ⟨hc1, hc2⟩ := hc
  obtain ⟨hg1, hg2⟩ := hgp
  obtain ⟨hn1, hn2⟩ := hn
  have n2 : ((n : Int) == 0) = false := by simp; omega
  have r1 := mx2
  have RV := ResAt.new w
  have E0 : Ext w (w.alloc (.cells #[.int .i64 0, .slice none 0 0] 41)) := (Ext.refl w).alloc _
  have hS0 : w.heap.size + 1 ≤ (w.alloc (.cells #[.int .i64 0, .slice none 0 0] 41)).heap.size := by simp
  clear h hnl
  go_enter Tryd.func37, Tryd.ntmps37
  go_wp2_with fail
  go_loopw [8, 9] (fun gv iv wr => ∃ (k q : Nat) (a : Option Addr) (cap : Nat) (G : List (Int × Int)), k ≤ n ∧ iv = .int .i64 k ∧ gv = .slice a q cap ∧ Hid (wr.ownsRow (w.heap.size + 1) 69 2 (.slice a q cap) q (gcells G)) ∧ Hid (G.length = q ∧ grpF L k = none ∧ (k = 0 ∧ G = [] ∨ 1 ≤ k ∧ G = grpL L cut gop k)) ∧ q ≤ k ∧ Ext w wr ∧ Hid (ResAt wr w.heap.size) ∧ w.heap.size + 1 ≤ wr.heap.size) (fun _ iv _ => n - (intOf iv).toNat)
  case atStart => exact ⟨0, 0, none, 0, [], Nat.zero_le _, rfl, rfl, World.ownsRow_nil _ _ _ _, ⟨rfl, rfl, Or.inl ⟨rfl, rfl⟩⟩, Nat.le_refl _, E0, RV, hS0⟩
  case round =>
    clear RV E0 hS0
    obtain ⟨k, q, ga, gcap, G, hk, rfl, rfl, HO, HK, hq, hE, HRV, hS⟩ := hrel
    by_cases hlt : k < n
    · obtain ⟨f, hf⟩ : ∃ f, L[k]? = some f := ⟨_, List.getElem?_eq_getElem (by rw [← HN.out]; exact hlt)⟩
      obtain ⟨p, hp⟩ : ∃ p, L[k - 1]? = some p := ⟨_, List.getElem?_eq_getElem (by rw [← HN.out]; omega)⟩
      have hfd : frD L k = f := by unfold frD; rw [List.getD, hf]; rfl
      have hpd : frD L (k - 1) = p := by unfold frD; rw [List.getD, hp]; rfl
      have HAN : Hid (ansAt L k = frAns p.1 p.2.1 p.2.2 f.1 f.2.1 f.2.2) := by show _ = _; unfold ansAt; rw [hfd, hpd]
      have HUN : Hid (unlAt L k = unlV p.1 p.2.1 p.2.2 f.1 f.2.1 f.2.2) := by show _ = _; unfold unlAt; rw [hfd, hpd]
      obtain ⟨fa, fn, fc, p0, p1, p2, p3⟩ := (HF.out.at hf).ext hE
      obtain ⟨pa, pn, pc, q0, q1, q2, q3⟩ := (HF.out.at hp).ext hE
      have HC4 : Hid (Ints wr (.slice fa fn fc) f.2.2) := ⟨p3, Nat.le_trans (hsm.out _ _ hf) (by decide)⟩
      have HP4 : Hid (Ints wr (.slice pa pn pc) p.2.2) := ⟨q3, Nat.le_trans (hsm.out _ _ hp) (by decide)⟩
      have U := Lib.hid (fun w h k => runlike_any p.1 p.2.1 f.1 f.2.1 p.2.2 f.2.2 pa fa pn fn pc fc w h k)
      clear hf hp hfd hpd p3 q3
      obtain ⟨P, hP⟩ : ∃ P, P = k - 1 := ⟨_, rfl⟩
      have t1 : max ((k : Int) - 1) 0 = (P : Int) := by omega
      have t2 : IntKind.i64.wrap ((k : Int) - 1) = (k : Int) - 1 := by rw [IntKind.wrap_i64]; omega
      have t3 : (0 : Int) ≤ (P : Int) ∧ (P : Int) < (n : Int) := by omega
      have t4 : (0 : Int) ≤ (k : Int) ∧ (k : Int) < (n : Int) := by omega
      rw [← hP] at q0 q1 q2
      clear hP
      have AB : Ext wr (wr.alloc (.cells #[.int .i64 0, .slice none 0 0] 41)) := (Ext.refl wr).alloc _
      have hED : Ext wr (wr.alloc (.cells #[.int .i64 0, .slice none 0 0] 41)).drew := AB.drew
      have P0 := AB.cell p0
      have P1 := AB.cell p1
      have P2 := AB.cell p2
      have Q0 := AB.cell q0
      have Q1 := AB.cell q1
      have Q2 := AB.cell q2
      have EN : Hid (EAt (wr.alloc (.cells #[.int .i64 0, .slice none 0 0] 41)).drew wr.heap.size 0 (.slice none 0 0)) := (EAt.new wr 0 (.slice none 0 0) rfl).ext (Ext.refl _).drew
      have UU := Lib.hid (U.out _ (HP4.out.ext hED) (HC4.out.ext hED))
      have HED := Lib.hid hED
      have hD0 : Ext wr wr.drew := (Ext.refl wr).drew
      have UW := Lib.hid (U.out _ (HP4.out.ext hD0) (HC4.out.ext hD0))
      have HD0 := Lib.hid hD0
      clear AB hED hD0
      obtain ⟨u0, hu0⟩ : ∃ u0, u0 = unlV p.1 p.2.1 p.2.2 f.1 f.2.1 f.2.2 := ⟨_, rfl⟩
      rw [← hu0] at UU UW HUN
      rw [← HAN.out] at UU UW
      clear hu0 U HC4 HP4
      go_wp2_with fail
      go_cut [10, 11] from 43 to 56 (fun s10 s11 wx => ∃ (B : Nat) (ce : Int) (ea : Option Addr) (em ek : Nat), s10 = .int .i64 u0 ∧ s11 = .pointer (some ⟨B, 0, none⟩) ∧ Hid (EAt wx B ce (.slice ea em ek)) ∧ Hid (RErrIs wx (ansAt L k) ce (.slice ea em ek)) ∧ Hid (wx.ownsRow (w.heap.size + 1) 69 2 (.slice ga q gcap) q (gcells G)) ∧ Ext w wx ∧ Hid (ResAt wx w.heap.size) ∧ w.heap.size + 1 ≤ wx.heap.size)
      case first =>
        go_region_law (go_simp; go_at_call 74; (first | (refine UW.out.mono ?_; rintro e w5 ⟨ce, ea, em, ek, rfl, hx5, hex⟩; have EZ := Lib.hid (HD0.out.trans hx5)) | (refine UU.out.mono ?_; rintro e w5 ⟨ce, ea, em, ek, rfl, hx5, hex⟩; have EZ := Lib.hid (HED.out.trans hx5); have EB := Lib.hid (EN.out.ext hx5); obtain ⟨⟨b0, b1, b2, b3⟩, -⟩ := EB.out)))
        all_goals go_wp2_with fail
        all_goals go_meet
        all_goals
          first
            | exact ⟨w5.heap.size, ce, ea, em, ek, rfl, rfl, EAt.new w5 ce (.slice ea em ek) rfl, an_err hex, own_ext HO.out (EZ.out.alloc _), (hE.trans EZ.out).alloc _, HRV.out.ext (EZ.out.alloc _), Nat.le_trans hS (EZ.out.alloc _).size⟩
            | exact ⟨wr.heap.size, ce, ea, em, ek, rfl, rfl, EB.out.set ce (.slice ea em ek), an_err hex, EB.out.own (own_ext HO.out EZ.out) (by decide) ce (.slice ea em ek),
                ((hE.trans EZ.out).setCell (p := ⟨wr.heap.size, 0, none⟩) (Nat.le_of_succ_le hS) _).setCell (p := ⟨wr.heap.size, 1, none⟩) (Nat.le_of_succ_le hS) _,
                (HRV.out.ext EZ.out).under (((Below.refl (w.heap.size + 1) w5).setCell (p := ⟨wr.heap.size, 0, none⟩) hS _).setCell (p := ⟨wr.heap.size, 1, none⟩) hS _) (Nat.lt_succ_self _), by simp; exact Nat.le_trans hS EZ.out.size⟩
      case rest =>
        clear HO hE HRV hS EN UU HED UW HD0 P0 P1 P2 Q0 Q1 Q2 p0 p1 p2 q0 q1 q2 t1 t2 t3
        obtain ⟨B, ce, ea, em, ek, rfl, rfl, HEA, HRE, HO, hE, HRV, hS⟩ := hcut
        obtain ⟨⟨s0, s1, -, -⟩, -⟩ := HEA.out
        cases ha : ansAt L k with
        | some e0 =>
          obtain ⟨pe, cd⟩ := e0
          have hpe : pe = [] := frAns_path ha
          subst hpe
          rw [ha] at HRE
          obtain ⟨hce, hcd, hrow⟩ := HRE.out
          subst hce
          have hc0 : (ce == 0) = false := by simpa using hcd
          have HR : Hid (grpAns L cut gop = some ((scn, (k : Int)) :: [], ce)) := HA.out.trans (grpF_at HK.out.2.1 ha hlt)
          have HV : Hid (grpV L cut gop = []) := by show _ = _; unfold grpV; rw [HR.out]
          have HX := Lib.hid hrow
          have HCD := Lib.hid hcd
          clear ha hrow hcd HRE HO
          go_wp2_with fail
          refine (ok_any ce _ _).mono ?_; rintro e wA ⟨rfl, hxA⟩
          rw [hc0]
          have t0 := hxA.cell s0
          have t1 := hxA.cell s1
          have HX' := Lib.hid (HX.out.ext hxA)
          have RA := Lib.hid (HRV.out.ext hxA)
          have EA := hE.trans hxA
          have hSA : w.heap.size < wA.heap.size := Nat.lt_of_lt_of_le hS hxA.size
          clear s0 s1 hxA HX HRV hE HEA
          go_wp2_with fail
          refine (refIn_err scn (k : Int) ce _ [] _ HX'.out HCD.out (by decide)).mono ?_; rintro e w6 ⟨u6, rfl, ho6, hx6⟩
          obtain ⟨gu, gcap, rfl⟩ := own_addr2 ho6 (by omega)
          have HO6 := Lib.hid ho6
          obtain ⟨r0, r1, f0, f1⟩ := RA.out.ext hx6
          have E6 := EA.trans hx6
          clear t0 t1 ho6 hx6
          go_wp2
          obtain ⟨e0, e1⟩ := res_cells (c := ce) r0 r1 (.slice (some ⟨gu, 0, none⟩) 1 gcap)
          exact bodyPost_ret (v := .tuple #[.slice none 0 0, .agg #[.int .i64 ce, .slice (some ⟨gu, 0, none⟩) 1 gcap]]) (by simp [results, Tryd.results37, go_sem, e0, e1]) rfl ⟨_, _, _, _, _, rfl, (E6.setCell (p := ⟨w.heap.size, 0, none⟩) (Nat.le_refl _) _).setCell (p := ⟨w.heap.size, 1, none⟩) (Nat.le_refl _) _, by rw [HV.out]; exact Row.nil _, by rw [HR.out]; exact ⟨rfl, HCD.out, Row.of_owns (own_setCell_lt (own_setCell_lt HO6.out _ hSA) _ hSA)⟩⟩
        | none =>
          rw [ha] at HRE
          obtain ⟨rfl, hv⟩ := HRE.out
          simp only [Value.slice.injEq] at hv
          obtain ⟨rfl, rfl, rfl⟩ := hv
          have HFN := Lib.hid (grpF_next HK.out.2.1 ha)
          clear ha HRE
          go_wp2_with fail
          refine (ok_any 0 _ _).mono ?_; rintro e wA ⟨rfl, hxA⟩
          rw [show ((0 : Int) == 0) = true from rfl]
          have EA := hE.trans hxA
          have RA := Lib.hid (HRV.out.ext hxA)
          have HOA := Lib.hid (own_ext HO.out hxA)
          have hSA : w.heap.size + 1 ≤ wA.heap.size := Nat.le_trans hS hxA.size
          clear s0 s1 hxA HRV HO hE hS HEA
          rcases Nat.eq_zero_or_pos k with hk0 | hk1
          · have hG : G = [] := by
              rcases HK.out.2.2 with h | h
              · exact h.2
              · omega
            have hq0 : q = 0 := by rw [← HK.out.1, hG]; rfl
            have hke : ((k : Nat) : Int) = 0 := by omega
            have HNX : Hid ((G ++ [((k : Int), 1)]).length = q + 1 ∧ grpF L (k + 1) = none ∧ (k + 1 = 0 ∧ G ++ [((k : Int), 1)] = [] ∨ 1 ≤ k + 1 ∧ G ++ [((k : Int), 1)] = grpL L cut gop (k + 1))) := by
              refine ⟨by rw [hG, hq0]; rfl, HFN.out, Or.inr ⟨by omega, ?_⟩⟩
              rw [hke, hk0, hG]
              exact (grpL_one hc1 hg1).symm
            have i6 : IntKind.i64.wrap ((q : Int) - 1) = -1 := by rw [hq0]; decide
            clear HFN hG hke hk0 HUN hq0
            have A6 : Ext wA (wA.alloc (.cells #[.int .i64 (k : Int), .int .i64 1] 69)) := (Ext.refl wA).alloc _
            have HLR : Hid (Row (wA.alloc (.cells #[.int .i64 (k : Int), .int .i64 1] 69)) (.slice (some ⟨wA.heap.size, 0, none⟩) 1 1) 1 [.int .i64 (k : Int), .int .i64 1]) :=
              Row.of_owns (World.ownsRow_lit (e := 69) (base := wA.heap.size) (size := 2) wA #[.int .i64 (k : Int), .int .i64 1] 1 (Nat.le_refl _) (by unfold maxLen; omega) rfl)
            have HO6 := Lib.hid (own_ext HOA.out A6)
            have R6 := Lib.hid (RA.out.ext A6)
            have E6 := EA.trans A6
            have hS6 : w.heap.size + 1 ≤ (wA.alloc (.cells #[.int .i64 (k : Int), .int .i64 1] 69)).heap.size := Nat.le_trans hSA A6.size
            clear A6
            go_wp2_with (at_builtin; refine append_row rfl _ _ 60 rfl 69 i0 _ 2 16 Tryd.underlying60 hi hz0 hz1 hz2 rfl (by decide) _ q _ rfl HO6.out (.slice (some ⟨wA.heap.size, 0, none⟩) 1 1) 1 [.int .i64 (k : Int), .int .i64 1] rfl HLR.out rfl (by intro x hx; simp only [List.mem_cons, List.not_mem_nil, or_false] at hx; rcases hx with rfl | rfl <;> rfl) hS6 (by unfold maxLen; omega) (by omega) ?_; intro v' w8 h1 h2 _; have h4 : w8.ownsRow (w.heap.size + 1) 69 2 v' (q + 1) (gcells (G ++ [((k : Int), 1)])) := (by rw [gcells_snoc]; exact h1); clear h1; obtain ⟨g', cap', rfl⟩ := own_addr2 h4 (by omega); have HOW := Lib.hid h4; have E8 : Ext w w8 := E6.of_below h2 (Nat.le_succ _); have R8 := Lib.hid (R6.out.under h2 (Nat.lt_succ_self _)); have S8 := Nat.le_trans hS6 h2.size; clear h2 h4)
            go_roundw
            case rel => exact ⟨k + 1, q + 1, some ⟨g', 0, none⟩, cap', G ++ [((k : Int), 1)], by omega, by go_num, rfl, HOW.out, HNX.out, by omega, E8, R8.out, S8⟩
            case measure => simp [intOf]; omega
          · have hG : G = grpL L cut gop k := by
              rcases HK.out.2.2 with h | h
              · omega
              · exact h.2
            obtain ⟨⟨I, F, C⟩, hS⟩ : ∃ S, S = grpS L cut gop k := ⟨_, rfl⟩
            have hGI : G = I ++ [(F, C)] := by rw [hG]; unfold grpL; rw [← hS]
            have hcb := grpS_bound L cut gop k
            rw [← hS] at hcb
            obtain ⟨gq, hgq⟩ : ∃ gq, gq = I.length := ⟨_, rfl⟩
            have hqq : q = gq + 1 := by rw [← HK.out.1, hGI, List.length_append, hgq]; rfl
            have hci := gcells_at I F C
            rw [← hgq, ← hGI] at hci
            have hO' := HOA.out
            obtain ⟨gg, gc2, hgg⟩ := own_addr2 hO' (by omega)
            simp only [Value.slice.injEq, true_and] at hgg
            obtain ⟨rfl, rfl⟩ := hgg
            obtain ⟨cC, zC⟩ := own2_cell hO' hci.2
            have i6 : IntKind.i64.wrap ((q : Int) - 1) = (gq : Int) := by rw [IntKind.wrap_i64]; omega
            have i7 : (0 : Int) ≤ (gq : Int) ∧ (gq : Int) < (q : Int) := by omega
            have HSS := Lib.hid hS
            have HGI := Lib.hid hGI
            have HGQ := Lib.hid hgq
            have hqq2 : q ≤ k := hq
            have hb3 : 0 ≤ C ∧ C ≤ (k : Int) := hcb.2
            clear hci hO' hG hGI hgq hS hcb hqq
            by_cases hA : cut < u0
            · have HNX : Hid ((G ++ [((k : Int), 1)]).length = q + 1 ∧ grpF L (k + 1) = none ∧ (k + 1 = 0 ∧ G ++ [((k : Int), 1)] = [] ∨ 1 ≤ k + 1 ∧ G ++ [((k : Int), 1)] = grpL L cut gop (k + 1))) := by
                refine ⟨by rw [List.length_append, HK.out.1]; rfl, HFN.out, Or.inr ⟨by omega, ?_⟩⟩
                have hst : grpS L cut gop (k + 1) = (I ++ [(F, C)], (k : Int), 1) := by unfold grpS; rw [← HSS.out, if_pos (Or.inl (by rw [HUN.out]; exact hA))]
                unfold grpL
                rw [hst, HGI.out]
              have hA' : decide (cut < u0) = true := decide_eq_true hA
              clear cC zC
              have A6 : Ext wA (wA.alloc (.cells #[.int .i64 (k : Int), .int .i64 1] 69)) := (Ext.refl wA).alloc _
              have HLR : Hid (Row (wA.alloc (.cells #[.int .i64 (k : Int), .int .i64 1] 69)) (.slice (some ⟨wA.heap.size, 0, none⟩) 1 1) 1 [.int .i64 (k : Int), .int .i64 1]) :=
                Row.of_owns (World.ownsRow_lit (e := 69) (base := wA.heap.size) (size := 2) wA #[.int .i64 (k : Int), .int .i64 1] 1 (Nat.le_refl _) (by unfold maxLen; omega) rfl)
              have HO6 := Lib.hid (own_ext HOA.out A6)
              have R6 := Lib.hid (RA.out.ext A6)
              have E6 := EA.trans A6
              have hS6 : w.heap.size + 1 ≤ (wA.alloc (.cells #[.int .i64 (k : Int), .int .i64 1] 69)).heap.size := Nat.le_trans hSA A6.size
              clear A6
              go_wp2_with (at_builtin; refine append_row rfl _ _ 60 rfl 69 i0 _ 2 16 Tryd.underlying60 hi hz0 hz1 hz2 rfl (by decide) _ q _ rfl HO6.out (.slice (some ⟨wA.heap.size, 0, none⟩) 1 1) 1 [.int .i64 (k : Int), .int .i64 1] rfl HLR.out rfl (by intro x hx; simp only [List.mem_cons, List.not_mem_nil, or_false] at hx; rcases hx with rfl | rfl <;> rfl) hS6 (by unfold maxLen; omega) (by omega) ?_; intro v' w8 h1 h2 _; have h4 : w8.ownsRow (w.heap.size + 1) 69 2 v' (q + 1) (gcells (G ++ [((k : Int), 1)])) := (by rw [gcells_snoc]; exact h1); clear h1; obtain ⟨g', cap', rfl⟩ := own_addr2 h4 (by omega); have HOW := Lib.hid h4; have E8 : Ext w w8 := E6.of_below h2 (Nat.le_succ _); have R8 := Lib.hid (R6.out.under h2 (Nat.lt_succ_self _)); have S8 := Nat.le_trans hS6 h2.size; clear h2 h4)
              go_roundw
              case rel => exact ⟨k + 1, q + 1, some ⟨g', 0, none⟩, cap', G ++ [((k : Int), 1)], by omega, by go_num, rfl, HOW.out, HNX.out, by omega, E8, R8.out, S8⟩
              case measure => simp [intOf]; omega
            · by_cases hB : C = gop
              · have HNX : Hid ((G ++ [((k : Int), 1)]).length = q + 1 ∧ grpF L (k + 1) = none ∧ (k + 1 = 0 ∧ G ++ [((k : Int), 1)] = [] ∨ 1 ≤ k + 1 ∧ G ++ [((k : Int), 1)] = grpL L cut gop (k + 1))) := by
                  refine ⟨by rw [List.length_append, HK.out.1]; rfl, HFN.out, Or.inr ⟨by omega, ?_⟩⟩
                  have hst : grpS L cut gop (k + 1) = (I ++ [(F, C)], (k : Int), 1) := by unfold grpS; rw [← HSS.out, if_pos (Or.inr hB)]
                  unfold grpL
                  rw [hst, HGI.out]
                have hB' : (C == gop) = true := by simpa using hB
                clear hB
                have A6 : Ext wA (wA.alloc (.cells #[.int .i64 (k : Int), .int .i64 1] 69)) := (Ext.refl wA).alloc _
                have HLR : Hid (Row (wA.alloc (.cells #[.int .i64 (k : Int), .int .i64 1] 69)) (.slice (some ⟨wA.heap.size, 0, none⟩) 1 1) 1 [.int .i64 (k : Int), .int .i64 1]) :=
                  Row.of_owns (World.ownsRow_lit (e := 69) (base := wA.heap.size) (size := 2) wA #[.int .i64 (k : Int), .int .i64 1] 1 (Nat.le_refl _) (by unfold maxLen; omega) rfl)
                have HO6 := Lib.hid (own_ext HOA.out A6)
                have R6 := Lib.hid (RA.out.ext A6)
                have E6 := EA.trans A6
                have hS6 : w.heap.size + 1 ≤ (wA.alloc (.cells #[.int .i64 (k : Int), .int .i64 1] 69)).heap.size := Nat.le_trans hSA A6.size
                clear A6
                go_wp2_with (at_builtin; refine append_row rfl _ _ 60 rfl 69 i0 _ 2 16 Tryd.underlying60 hi hz0 hz1 hz2 rfl (by decide) _ q _ rfl HO6.out (.slice (some ⟨wA.heap.size, 0, none⟩) 1 1) 1 [.int .i64 (k : Int), .int .i64 1] rfl HLR.out rfl (by intro x hx; simp only [List.mem_cons, List.not_mem_nil, or_false] at hx; rcases hx with rfl | rfl <;> rfl) hS6 (by unfold maxLen; omega) (by omega) ?_; intro v' w8 h1 h2 _; have h4 : w8.ownsRow (w.heap.size + 1) 69 2 v' (q + 1) (gcells (G ++ [((k : Int), 1)])) := (by rw [gcells_snoc]; exact h1); clear h1; obtain ⟨g', cap', rfl⟩ := own_addr2 h4 (by omega); have HOW := Lib.hid h4; have E8 : Ext w w8 := E6.of_below h2 (Nat.le_succ _); have R8 := Lib.hid (R6.out.under h2 (Nat.lt_succ_self _)); have S8 := Nat.le_trans hS6 h2.size; clear h2 h4)
                go_roundw
                case rel => exact ⟨k + 1, q + 1, some ⟨g', 0, none⟩, cap', G ++ [((k : Int), 1)], by omega, by go_num, rfl, HOW.out, HNX.out, by omega, E8, R8.out, S8⟩
                case measure => simp [intOf]; omega
              · have HST : Hid (grpL L cut gop (k + 1) = I ++ [(F, C + 1)]) := by
                  show _ = _
                  have hst : grpS L cut gop (k + 1) = (I, F, C + 1) := by
                    unfold grpS
                    rw [← HSS.out, if_neg (by rw [HUN.out]; exact fun e => e.elim hA hB)]
                  unfold grpL
                  rw [hst]
                have hB' : (C == gop) = false := by simpa using hB
                have i4 : IntKind.i64.wrap (C + 1) = C + 1 := by rw [IntKind.wrap_i64]; omega
                have HOW := Lib.hid (own2_set (j := gq * 2 + 1) (.int .i64 (C + 1)) HOA.out)
                have hgb := (HOA.out.lt gg rfl).1
                clear hB
                go_wp2
                go_roundw
                case rel =>
                  refine ⟨k + 1, q, some ⟨gg, 0, none⟩, gcap, I ++ [(F, C + 1)], by omega, by go_num, rfl, ?_, ⟨?_, HFN.out, Or.inr ⟨by omega, HST.out.symm⟩⟩, by omega, EA.setCell (p := ⟨gg, gq * 2 + 1, none⟩) (Nat.le_of_succ_le hgb) _, RA.out.under ((Below.refl (w.heap.size + 1) wA).setCell (p := ⟨gg, gq * 2 + 1, none⟩) hgb _) (Nat.lt_succ_self _), by simp; exact hSA⟩
                  · have e := HOW.out
                    rw [HGI.out, HGQ.out, gcells_set, ← HGQ.out] at e
                    exact e
                  · have := HK.out.1
                    rw [HGI.out, List.length_append] at this
                    rw [List.length_append]
                    exact this
                case measure => simp [intOf]; omega
    · have hkn : ¬ (k : Int) < (n : Int) := by omega
      have hke : k = n := by omega
      have HR : Hid (grpAns L cut gop = none) := by show _ = _; rw [HA.out, ← hke]; exact HK.out.2.1
      have hGG : G = grpL L cut gop n := by
        rcases HK.out.2.2 with h | h
        · omega
        · rw [h.2, hke]
      have HV : Hid (grpV L cut gop = G) := by
        show _ = _
        unfold grpV
        rw [HR.out]
        show grpL L cut gop L.length = _
        rw [← HN.out, hGG]
      have HQ : Hid (q = G.length) := HK.out.1.symm
      obtain ⟨r0, r1, f0, f1⟩ := HRV.out
      have OH := Lib.hid (fun x y => own_setCell_lt (own_setCell_lt HO.out (p := ⟨w.heap.size, 0, none⟩) x (Nat.lt_succ_self _)) (p := ⟨w.heap.size, 1, none⟩) y (Nat.lt_succ_self _))
      clear hlt hke hGG
      go_wp2
      obtain ⟨e0, e1⟩ := res_cells (c := 0) r0 r1 (.slice none 0 0)
      exact bodyPost_ret (v := .tuple #[.slice ga q gcap, .agg #[.int .i64 0, .slice none 0 0]]) (by simp [results, Tryd.results37, go_sem, e0, e1]) rfl ⟨_, _, _, _, _, rfl, (hE.setCell (p := ⟨w.heap.size, 0, none⟩) (Nat.le_refl _) _).setCell (p := ⟨w.heap.size, 1, none⟩) (Nat.le_refl _) _, by rw [HV.out, ← HQ.out]; exact Row.of_owns (OH.out _ _), by rw [HR.out]; exact RErrIs.zero⟩
theorem rgroups_any (L : List Fr) (cut gop : Int) (v : Value) (w : World) (h : Fms w v L) (hsm : Hid (∀ (q : Nat) (f : Fr), L[q]? = some f → f.2.2.length ≤ 1000000)) :
    Calls Tryd.prog 37 #[v, .int .i64 cut, .int .i64 gop] w (RGPost w (grpV L cut gop) (grpAns L cut gop)) := by
  obtain ⟨a, cap, rfl⟩ := h.form
  by_cases hb : (cut < 0 ∨ 16320 < cut ∨ gop < 1 ∨ 16 < gop) ∨ L.length = 0 ∨ 16 < L.length
  · exact rgroups_bad L cut gop a _ cap w h hb
  · exact rgroups_good L cut gop a _ cap w h hsm (by omega) (by omega) (by omega)
theorem grpV_len (L : List Fr) (cut gop : Int) : (grpV L cut gop).length ≤ L.length + 1 := by
  unfold grpV
  split
  · have := (grpS_bound L cut gop L.length).1
    unfold grpL
    rw [List.length_append]
    show _ + 1 ≤ _
    omega
  · exact Nat.zero_le _
end Go.Proofs.YtmhbmegmlpenkaaDoor

/- kinlaw16.SceneGroups: the walk. -/
namespace Go.Proofs.YtmhbmegmlpenkaaDoor
set_option linter.unusedVariables false
set_option linter.unusedSimpArgs false
open Go.RowKit Go.Extern.Stop Go.Stop Go.Extern

set_option maxHeartbeats 4000000 in
set_option maxRecDepth 20000 in
theorem sgr_law (L : List Fr) (cut gop : Int) (v : Value) (w : World) (hg : EtIs w) (h : Fms w v L) :
    Calls Tryd.prog 9 #[v, .int .i64 cut, .int .i64 gop] w fun e w' => e = .returned (.bool true) ∧ Ext w w' := by
  obtain ⟨a, cap, rfl⟩ := h.form
  have HF := Lib.hid h
  clear h
  cases hp : pixB L with
  | false =>
    go_enter Tryd.func9, Tryd.ntmps9
    go_wp2_with fail
    refine (first16_any _ (hg.ext (by repeat (first | exact Ext.refl _ | assumption | refine Ext.alloc ?_ _ | refine Ext.drew ?_ | refine Ext.drewN ?_ _ | refine Ext.setCell ?_ (by first | exact Nat.le_refl _ | (simp; done) | omega) _ | refine Ext.trans ?_ (by assumption))))).mono ?_; rintro e w1 ⟨rfl, hx1⟩
    go_wp2_with fail
    refine (pix_all L _ _ (HF.out.ext (by repeat (first | exact Ext.refl _ | assumption | refine Ext.alloc ?_ _ | refine Ext.drew ?_ | refine Ext.drewN ?_ _ | refine Ext.setCell ?_ (by first | exact Nat.le_refl _ | (simp; done) | omega) _ | refine Ext.trans ?_ (by assumption))))).mono ?_; rintro e w2 ⟨rfl, hx2⟩
    have E2 := hx1.trans hx2
    clear hx1 hx2
    rw [hp]
    go_wp2_with fail
    refine (first16_any _ (hg.ext E2)).mono ?_; rintro e w9 ⟨rfl, hx9⟩
    go_wp2
    go_ret
    exact ⟨rfl, E2.trans hx9⟩
  | true =>
    have hsm := Lib.hid (pix_small hp)
    have hl := pixB_len hp
    have hl2 : L.length ≤ 1000000 := by omega
    have hv := grpV_len L cut gop
    have W1 := Lib.hid (fun v w (k1 : Fms w v L) => groups_any L cut gop v w k1 hsm)
    have W2 := Lib.hid (fun v w (k1 : Fms w v L) => rgroups_any L cut gop v w k1 hsm)
    have C1 := Lib.hid (fun v w (k1 : Fms w v L) => copy_frames L v w k1 (by omega) hsm)
    have S1 := Lib.hid (fun u v w (k1 : Fms w u L) (k2 : Fms w v L) => frames_same L u v w k1 k2 hl2 hsm)
    have G1 := Lib.hid (fun u v w (k1 : Row w u (grpV L cut gop).length (gcells (grpV L cut gop))) (k2 : Row w v (grpV L cut gop).length (gcells (grpV L cut gop))) => groups_same (grpV L cut gop) u v w k1 k2 (by omega))
    clear hl hl2 hv
    go_enter Tryd.func9, Tryd.ntmps9
    go_wp2_with fail
    refine (first16_any _ (hg.ext (by repeat (first | exact Ext.refl _ | assumption | refine Ext.alloc ?_ _ | refine Ext.drew ?_ | refine Ext.drewN ?_ _ | refine Ext.setCell ?_ (by first | exact Nat.le_refl _ | (simp; done) | omega) _ | refine Ext.trans ?_ (by assumption))))).mono ?_; rintro e w1 ⟨rfl, hx1⟩
    go_wp2_with fail
    refine (pix_all L _ _ (HF.out.ext (by repeat (first | exact Ext.refl _ | assumption | refine Ext.alloc ?_ _ | refine Ext.drew ?_ | refine Ext.drewN ?_ _ | refine Ext.setCell ?_ (by first | exact Nat.le_refl _ | (simp; done) | omega) _ | refine Ext.trans ?_ (by assumption))))).mono ?_; rintro e w2 ⟨rfl, hx2⟩
    have E2 := hx1.trans hx2
    clear hx1 hx2
    rw [hp]
    go_wp2_with fail
    refine (C1.out _ _ (HF.out.ext E2)).mono ?_; rintro e w3 ⟨u3, rfl, hc3, hx3⟩
    have HC := Lib.hid hc3
    have E3 := E2.trans hx3
    clear hc3 hx3 E2
    go_wp2_with fail
    refine (W1.out _ _ HC.out).mono ?_; rintro e w5 ⟨u5, x5, rfl, hx5, hr5, he5⟩
    have E5 := E3.trans hx5
    go_wp2_with fail
    refine (W2.out _ _ (HF.out.ext E5)).mono ?_; rintro e w6 ⟨u6, ce, ea, em, ek, rfl, hx6, hr6, he6⟩
    have A6 : Ext w6 (w6.alloc (.cells #[.int .i64 ce, .slice ea em ek] 41)) := (Ext.refl w6).alloc _
    have EA6 := Lib.hid (EAt.new w6 ce (.slice ea em ek) rfl)
    have E6 := (E5.trans hx6).trans A6
    have R5 := Lib.hid (hr5.ext (hx6.trans A6))
    have R6 := Lib.hid (hr6.ext A6)
    have X5 := Lib.hid (he5.ext (hx6.trans A6))
    have X6 := Lib.hid (he6.ext A6)
    have HC6 := Lib.hid (HC.out.ext (hx5.trans (hx6.trans A6)))
    clear hr5 hr6 he5 he6 hx5 hx6 A6 E5 E3 HC
    go_wp2_with fail
    revert EA6 E6 R5 R6 X5 X6 HC6
    generalize w6.alloc (.cells #[.int .i64 ce, .slice ea em ek] 41) = w7
    intro EA6 E6 R5 R6 X5 X6 HC6
    refine (first16_any _ (hg.ext E6)).mono ?_; rintro e w8 ⟨rfl, hx8⟩
    go_wp2_with fail
    refine (G1.out _ _ _ (R5.out.ext hx8) (R6.out.ext hx8)).mono ?_; rintro e w9 ⟨rfl, hx9⟩
    obtain ⟨⟨s0, s1, -, -⟩, -⟩ := EA6.out.ext (hx8.trans hx9)
    go_wp2_with fail
    refine (same_fall _ _ _ _ _ (hg.ext (E6.trans (hx8.trans hx9))) (X5.out.ext (hx8.trans hx9)) (X6.out.ext (hx8.trans hx9))).mono ?_; rintro e wA ⟨rfl, hxA⟩
    have E9 := (hx8.trans hx9).trans hxA
    go_wp2_with fail
    refine (S1.out _ _ _ (HC6.out.ext E9) (HF.out.ext (E6.trans E9))).mono ?_; rintro e wB ⟨rfl, hxB⟩
    go_wp2
    go_ret
    exact ⟨rfl, (E6.trans E9).trans hxB⟩
end Go.Proofs.YtmhbmegmlpenkaaDoor

/- Weights of frames in groups of one length, in one group, in two: plain. -/
namespace Go.Proofs.YtmhbmegmlpenkaaDoor
set_option linter.unusedVariables false
set_option linter.unusedSimpArgs false

/-- the first k groups of one length -/
def chG (n : Nat) (gop : Nat) (k : Nat) : List (Int × Int) := (List.range k).map fun q => (((q * gop : Nat) : Int), ((min gop (n - q * gop) : Nat) : Int))
theorem chG_len (n gop k : Nat) : (chG n gop k).length = k := by unfold chG; simp
theorem chG_succ (n gop k : Nat) : chG n gop (k + 1) = chG n gop k ++ [(((k * gop : Nat) : Int), ((min gop (n - k * gop) : Nat) : Int))] := by
  unfold chG
  rw [List.range_succ, List.map_append]
  rfl
/-- groups that lie one behind the other from a place to another -/
inductive Lies (N : Int) : Int → List (Int × Int) → Int → Prop
  | nil (a : Int) : Lies N a [] a
  | cons {a b : Int} {p : Int × Int} {G : List (Int × Int)} : p.1 = a → 1 ≤ p.2 → p.2 ≤ N - a → Lies N (a + p.2) G b → Lies N a (p :: G) b
theorem Lies.snoc {N a b : Int} {G : List (Int × Int)} (h : Lies N a G b) {p : Int × Int} (h1 : p.1 = b) (h2 : 1 ≤ p.2) (h3 : p.2 ≤ N - b) : Lies N a (G ++ [p]) (b + p.2) := by
  induction h with
  | nil a => exact .cons h1 h2 h3 (.nil _)
  | cons k1 k2 k3 _ ih => exact .cons k1 k2 k3 (ih h1 h3)
theorem Lies.cov {N a : Int} {G : List (Int × Int)} {b : Int} (h : Lies N a G b) : covS N G a = decide (b = N) := by
  induction h with
  | nil a => rfl
  | cons k1 k2 k3 _ ih => unfold covS; rw [if_neg (by omega)]; exact ih
theorem chG_lies (n gop : Nat) (hg : 1 ≤ gop) (k : Nat) (hk : ∀ q, q < k → q * gop < n) : Lies n 0 (chG n gop k) ((min (k * gop) n : Nat) : Int) := by
  induction k with
  | zero => simp [chG]; exact .nil _
  | succ k ih =>
    have hlt := hk k (by omega)
    have h := ih (fun q hq => hk q (by omega))
    rw [show min (k * gop) n = k * gop by omega] at h
    have h2 := h.snoc (p := (((k * gop : Nat) : Int), ((min gop (n - k * gop) : Nat) : Int))) rfl (by show (1 : Int) ≤ ((min gop (n - k * gop) : Nat) : Int); omega) (by show ((min gop (n - k * gop) : Nat) : Int) ≤ (n : Int) - ((k * gop : Nat) : Int); omega)
    rw [chG_succ]
    have e : ((k * gop : Nat) : Int) + ((min gop (n - k * gop) : Nat) : Int) = ((min ((k + 1) * gop) n : Nat) : Int) := by rw [Nat.succ_mul]; omega
    rw [← e]
    exact h2
/-- as many groups as n frames want -/
def chN (n gop : Nat) : Nat := (n + gop - 1) / gop
theorem chN_lt {n gop q : Nat} (hg : 1 ≤ gop) : q < chN n gop ↔ q * gop < n := by
  unfold chN
  rw [Nat.lt_div_iff_mul_lt (by omega)]
  omega
theorem chG_cov {n gop : Nat} (hg : 1 ≤ gop) (hn : 1 ≤ n) : covS n (chG n gop (chN n gop)) 0 = true := by
  have h := chG_lies n gop hg (chN n gop) (fun q hq => (chN_lt hg).1 hq)
  have hge : n ≤ chN n gop * gop := by
    have := (chN_lt (n := n) (q := chN n gop) hg).2
    omega
  rw [Lies.cov h, show min (chN n gop * gop) n = n by omega]
  exact decide_eq_true rfl
theorem chG_beg {n gop : Nat} (hg : 1 ≤ gop) {i : Nat} (hi : i < n) : begB (chG n gop (chN n gop)) i = decide (i % gop = 0) := by
  unfold begB
  rw [Bool.eq_iff_iff, List.any_eq_true]
  simp only [decide_eq_true_eq]
  constructor
  · rintro ⟨p, hp, he⟩
    unfold chG at hp
    obtain ⟨q, hq, rfl⟩ := List.mem_map.1 hp
    simp only [beq_iff_eq] at he
    have : i = q * gop := by omega
    rw [this]
    exact Nat.mul_mod_left q gop
  · intro h
    have hd : i / gop * gop = i := Nat.div_mul_cancel (Nat.dvd_of_mod_eq_zero h)
    refine ⟨_, List.mem_map.2 ⟨i / gop, List.mem_range.2 ((chN_lt hg).2 (by omega)), rfl⟩, ?_⟩
    simp only [beq_iff_eq]
    omega
theorem wtE_inAns {L : List Fr} {b : Bool} {k : Nat} (h : wtE L b k = none) : inAns (frD L k).1 (frD L k).2.1 (frD L k).2.2 = none := by
  unfold wtE at h
  split at h
  · exact h
  · obtain ⟨hm, -⟩ := frAns_none h
    unfold inAns
    rw [if_pos hm]
theorem wtL_none {L : List Fr} {G : List (Int × Int)} (h : wtAns L G = none) : wtL L G = rowL L.length (fun k => wtV L (begB G k) k) ∧ covB L.length G = true ∧ ∀ k, k < L.length → wtE L (begB G k) k = none := by
  refine ⟨by unfold wtL; rw [h], ?_⟩
  unfold wtAns range at h
  split at h
  · rename_i hc
    exact ⟨hc, wtF_none h⟩
  · cases h
theorem wtL_some {L : List Fr} {G : List (Int × Int)} {f : List (ByteArray × Int) × Int} (h : wtAns L G = some f) : wtL L G = [] := by unfold wtL; rw [h]
theorem wtF_all {L : List Fr} {b : Nat → Bool} {n : Nat} (h : ∀ k, k < n → wtE L (b k) k = none) : wtF L b n = none := by
  induction n with
  | zero => rfl
  | succ n ih => exact wtF_next (ih fun k hk => h k (by omega)) (h n (by omega))
/-- what StatsLeast asks of each frame -/
theorem least_at (L : List Fr) (gop i : Nat) (hg : 1 ≤ gop) (hi : i < L.length) (h : wtAns L (chG L.length gop (chN L.length gop)) = none) :
    64 ≤ wtV L (begB (chG L.length gop (chN L.length gop)) i) i ∧ wtV L (begB (chG L.length gop (chN L.length gop)) i) i ≤ 64 + 2 * inV (frD L i).1 (frD L i).2.1 (frD L i).2.2 ∧
    (i % gop = 0 → wtV L (begB (chG L.length gop (chN L.length gop)) i) i = 64 + 2 * inV (frD L i).1 (frD L i).2.1 (frD L i).2.2) ∧ inAns (frD L i).1 (frD L i).2.1 (frD L i).2.2 = none ∧
    (0 < i % gop → frD L i = frD L (i - 1) → wtV L (begB (chG L.length gop (chN L.length gop)) i) i = 64) := by
  have h0 := (wtL_none h).2.2 i hi
  refine ⟨(wtV_in _ _ _).1, ?_, ?_, wtE_inAns h0, ?_⟩
  · unfold wtV
    split
    · exact Int.le_refl _
    · have h1 := ouV_le_in (frD L i).1 (frD L i).2.1 (frD L i).2.2 (frD L (i - 1)).1 (frD L (i - 1)).2.1 (frD L (i - 1)).2.2
      have h2 := inV_in (frD L i).1 (frD L i).2.1 (frD L i).2.2
      omega
  · intro hm
    rw [chG_beg hg hi, decide_eq_true hm]
    rfl
  · intro hm he
    rw [chG_beg hg hi, decide_eq_false (by omega)]
    unfold wtV
    rw [if_neg (by decide), ← he, ouV_self]
    rfl
/-- what StatsApart asks -/
theorem begB_one (n k : Nat) : begB [(0, (n : Int))] k = decide (k = 0) := by
  unfold begB
  rw [Bool.eq_iff_iff]
  simp
  omega
theorem begB_two (n at_ k : Nat) (C : Int) : begB [(0, (at_ : Int)), ((at_ : Int), C)] k = (decide (k = 0) || decide (k = at_)) := by
  unfold begB
  rw [Bool.eq_iff_iff]
  simp
  omega
theorem covB_one {n : Nat} (h : 2 ≤ n ∧ n ≤ 16) : covB n [(0, (n : Int))] = true := by
  unfold covB covS covS
  rw [if_neg (by omega), decide_eq_true (by omega)]
  simp
theorem covB_two {n a : Nat} (h : 2 ≤ n ∧ n ≤ 16) (ha : 1 ≤ a ∧ a < n) : covB n [(0, (a : Int)), ((a : Int), (n : Int) - (a : Int))] = true := by
  unfold covB covS covS covS
  rw [if_neg (by omega), if_neg (by omega), decide_eq_true (by omega)]
  simp
  omega
theorem apart_facts (L : List Fr) (a : Nat) (hn : 2 ≤ L.length ∧ L.length ≤ 16) (ha : 1 ≤ a ∧ a < L.length) (h : wtAns L [(0, (L.length : Int))] = none) :
    wtAns [frD L (a - 1), frD L a] [(0, 2)] = none ∧ wtL [frD L (a - 1), frD L a] [(0, 2)] = [wtV L true (a - 1), wtV L false a] ∧
    wtAns L [(0, (a : Int)), ((a : Int), (L.length : Int) - (a : Int))] = none ∧
    wtL L [(0, (L.length : Int))] = rowL L.length (fun k => wtV L (decide (k = 0)) k) ∧
    wtL L [(0, (a : Int)), ((a : Int), (L.length : Int) - (a : Int))] = rowL L.length (fun k => wtV L (decide (k = 0) || decide (k = a)) k) := by
  obtain ⟨e1, -, e2⟩ := wtL_none h
  have e3 : ∀ k, k < L.length → wtE L (decide (k = 0)) k = none := fun k hk => by rw [← begB_one L.length]; exact e2 k hk
  have hin : ∀ k, k < L.length → wtE L true k = none := fun k hk => wtE_inAns (e3 k hk)
  have hA : wtAns [frD L (a - 1), frD L a] [(0, 2)] = none := by
    have hc : covB 2 [(0, 2)] = true := by decide
    unfold wtAns
    rw [if_pos (show covB ([frD L (a - 1), frD L a] : List Fr).length [(0, 2)] = true from hc)]
    refine wtF_all fun k hk => ?_
    match k, hk with
    | 0, _ => exact hin (a - 1) (by omega)
    | 1, _ =>
      have := e3 a ha.2
      rw [decide_eq_false (by omega)] at this
      exact this
  have hB : wtAns L [(0, (a : Int)), ((a : Int), (L.length : Int) - (a : Int))] = none := by
    unfold wtAns
    rw [if_pos (covB_two hn ha)]
    refine wtF_all fun k hk => ?_
    rw [begB_two L.length]
    by_cases hka : k = a
    · rw [decide_eq_true hka, Bool.or_true]; exact hin k hk
    · rw [decide_eq_false hka, Bool.or_false]; exact e3 k hk
  refine ⟨hA, ?_, hB, ?_, ?_⟩
  · rw [(wtL_none hA).1]
    rfl
  · rw [e1]
    congr 1
    funext k
    rw [begB_one]
  · rw [(wtL_none hB).1]
    congr 1
    funext k
    rw [begB_two L.length]
theorem apart_le (L : List Fr) (a : Nat) : wtV L false a ≤ wtV L true a := by
  unfold wtV
  rw [if_neg (by decide), if_pos rfl]
  have h1 := ouV_le_in (frD L a).1 (frD L a).2.1 (frD L a).2.2 (frD L (a - 1)).1 (frD L (a - 1)).2.1 (frD L (a - 1)).2.2
  have h2 := inV_in (frD L a).1 (frD L a).2.1 (frD L a).2.2
  omega
end Go.Proofs.YtmhbmegmlpenkaaDoor

/- kinlaw17.StatsApart: the walk. -/
namespace Go.Proofs.YtmhbmegmlpenkaaDoor
set_option linter.unusedVariables false
set_option linter.unusedSimpArgs false
open Go.RowKit Go.Extern.Stop Go.Stop Go.Extern

/-- the weights in one group, and in two -/
def apA (L : List Fr) (k : Nat) : Int := wtV L (decide (k = 0)) k
def apC (L : List Fr) (a k : Nat) : Int := wtV L (decide (k = 0) || decide (k = a)) k
theorem row_groups2 (w : World) (F C F' C' : Int) : Row (w.alloc (.cells #[.int .i64 F, .int .i64 C, .int .i64 F', .int .i64 C'] 69)) (.slice (some ⟨w.heap.size, 0, none⟩) 2 2) 2 (gcells [(F, C), (F', C')]) :=
  Row.of_owns (World.ownsRow_lit (e := 69) (base := w.heap.size) (size := 2) w #[.int .i64 F, .int .i64 C, .int .i64 F', .int .i64 C'] 2 (Nat.le_refl _) (by unfold maxLen; omega) rfl)
theorem fms_sub {w : World} {g0 off n cap c P : Nat} {L : List Fr} {p f : Fr} (h : Fms w (.slice (some ⟨g0, off, none⟩) n cap) L) (hp : L[P]? = some p) (hf : L[P + 1]? = some f) : Fms w (.slice (some ⟨g0, off + P * 3, none⟩) 2 c) [p, f] := by
  refine ⟨_, _, rfl, fun _ => ⟨g0, off + P * 3, rfl, fun q f' hq => ?_⟩⟩
  match q, hq with
  | 0, hq => cases hq; exact h.at hp
  | 1, hq => cases hq; have := h.at hf; rwa [Nat.succ_mul, ← Nat.add_assoc] at this
  | q + 2, hq => simp at hq
set_option maxHeartbeats 16000000 in
set_option maxRecDepth 20000 in
theorem apa_main (L : List Fr) (n m : Nat) (at_ : Int) (a : Option Addr) (cap : Nat) (w : World) (hg : EtIs w) (h : Fms w (.slice a n cap) L) (hcap : n ≤ cap ∧ cap ≤ maxLen) (hp : pixB L = true) (hn : 2 ≤ n ∧ n ≤ 16) (hsm : Hid (∀ (q : Nat) (f : Fr), L[q]? = some f → f.2.2.length ≤ 1000000))
    (hat : -9223372036854775808 ≤ at_ ∧ at_ ≤ 9223372036854775807) (hm : (m : Int) = if at_ < 0 then -(at_ + 1) else at_) :
    Calls Tryd.prog 14 #[.slice a n cap, .int .i64 at_] w fun e w' => e = .returned (.bool true) ∧ Ext w w' := by
  have hnl := h.len
  obtain ⟨g0, off, rfl⟩ := h.had (by omega)
  have HF := Lib.hid h
  have HN := Lib.hid hnl
  obtain ⟨hn1, hn2⟩ := hn
  obtain ⟨hc1, hc2⟩ := hcap
  unfold maxLen at hc2
  have k1 : ¬ (n : Int) < 2 := by omega
  have k2 : ¬ (16 : Int) < (n : Int) := by omega
  have hl2 : L.length ≤ 1000000 := by omega
  have W1 := Lib.hid (fun v u w (k1 : Fms w v L) (k2 : Row w u 1 (gcells [(0, (n : Int))])) => weights_any L [(0, (n : Int))] v u w k1 k2 hsm hl2 (by simp))
  obtain ⟨r, hr⟩ : ∃ r, r = m % (n - 1) := ⟨_, rfl⟩
  have hrl : r < n - 1 := by rw [hr]; exact Nat.mod_lt _ (by omega)
  obtain ⟨N1, hN1⟩ : ∃ N1, N1 = n - 1 := ⟨_, rfl⟩
  have hm1 : Int.tmod (m : Int) (N1 : Int) = (r : Int) := by rw [hr, ← hN1]; exact Int.ofNat_tmod m N1
  have hm2 : (m : Int) % (N1 : Int) = (r : Int) := by rw [hr, ← hN1]; exact Int.natCast_emod m N1
  have hm3 : IntKind.i64.wrap ((n : Int) - 1) = (N1 : Int) := by rw [IntKind.wrap_i64]; omega
  have hm4 : ¬ N1 = 0 := by omega
  have hm5 : IntKind.i64.wrap (r : Int) = (r : Int) := by rw [IntKind.wrap_i64]; omega
  obtain ⟨a, ha⟩ : ∃ a, a = r + 1 := ⟨_, rfl⟩
  have hm6 : IntKind.i64.wrap (1 + (r : Int)) = (a : Int) := by rw [IntKind.wrap_i64]; omega
  have hm6' : IntKind.i64.wrap ((r : Int) + 1) = (a : Int) := by rw [IntKind.wrap_i64]; omega
  have ha1 : 1 ≤ a ∧ a < n := by omega
  have hmb : m ≤ 9223372036854775807 := by split at hm <;> omega
  have HR := Lib.hid hr
  have HA1 := Lib.hid ha
  clear h hnl hr ha hN1 hl2
  have E00 := Ext.refl w
  go_enter Tryd.func14, Tryd.ntmps14
  go_wp2_with fail
  refine (first17_any _ (hg.ext (by repeat (first | exact Ext.refl _ | assumption | refine Ext.alloc ?_ _ | refine Ext.drew ?_ | refine Ext.drewN ?_ _ | refine Ext.setCell ?_ (by first | exact Nat.le_refl _ | (simp; done) | omega) _ | refine Ext.trans ?_ (by assumption))))).mono ?_; rintro e w1 ⟨rfl, hx1⟩
  go_wp2_with fail
  refine (pix_all L _ _ (HF.out.ext (by repeat (first | exact Ext.refl _ | assumption | refine Ext.alloc ?_ _ | refine Ext.drew ?_ | refine Ext.drewN ?_ _ | refine Ext.setCell ?_ (by first | exact Nat.le_refl _ | (simp; done) | omega) _ | refine Ext.trans ?_ (by assumption))))).mono ?_; rintro e w2 ⟨rfl, hx2⟩
  have E2 := hx1.trans hx2
  clear hx1 hx2
  rw [hp]
  have A2 : Ext w2 (w2.alloc (.cells #[.int .i64 0, .int .i64 (n : Int)] 69)) := (Ext.refl w2).alloc _
  have HRG := Lib.hid (row_group w2 0 (n : Int))
  go_wp2_with fail
  refine (W1.out _ _ _ (HF.out.ext (E2.trans A2)) HRG.out).mono ?_; rintro e w5 ⟨u5, x5, rfl, hx5, hr5, he5⟩
  have E5 := (E2.trans A2).trans hx5
  cases hw : wtAns L [(0, (n : Int))] with
  | some f =>
    rw [wtL_some hw] at hr5
    rw [hw] at he5
    obtain ⟨t5, y5, rfl⟩ := he5.ne
    obtain ⟨ra, rc, rfl⟩ := hr5.form
    clear hr5 he5 hw hx5 A2 hm
    go_wp2_with fail
    refine (first17_any _ (hg.ext E5)).mono ?_; rintro e w9 ⟨rfl, hx9⟩
    go_wp2
    go_ret
    exact ⟨rfl, E5.trans hx9⟩
  | none =>
    have hnn := HN.out
    rw [hnn] at hw
    obtain ⟨f1, f2, f3, f4, f5⟩ := apart_facts L a ⟨by omega, by omega⟩ ⟨ha1.1, by omega⟩ hw
    rw [← hnn] at f3 f4 f5 hw
    rw [f4] at hr5
    rw [hw] at he5
    obtain rfl : x5 = .nilIface := he5
    have hr5 : Ints w5 u5 (rowL n (apA L)) := hr5
    obtain ⟨g5, o5, c5, rfl, -, -⟩ := hr5.addr (by rw [rowL_length]; omega)
    rw [rowL_length] at hr5 ⊢
    have HR5 := Lib.hid hr5
    have hle := apart_le L a
    obtain ⟨p, hp'⟩ : ∃ p, L[a - 1]? = some p := ⟨_, List.getElem?_eq_getElem (by rw [← hnn]; omega)⟩
    obtain ⟨f, hf⟩ : ∃ f, L[a]? = some f := ⟨_, List.getElem?_eq_getElem (by rw [← hnn]; omega)⟩
    have hfd : frD L a = f := by unfold frD; rw [List.getD, hf]; rfl
    have hpd : frD L (a - 1) = p := by unfold frD; rw [List.getD, hp']; rfl
    obtain ⟨P, hP⟩ : ∃ P, P = a - 1 := ⟨_, rfl⟩
    have HP := Lib.hid hP
    have HP' : Hid (L[P]? = some p) := by show _ = _; rw [hP]; exact hp'
    have HFP : Hid (L[P + 1]? = some f) := by show _ = _; rw [hP, show a - 1 + 1 = a by omega]; exact hf
    rw [hfd, hpd] at f1 f2
    have W2 := Lib.hid (fun v u w (k1 : Fms w v [p, f]) (k2 : Row w u 1 (gcells [(0, 2)])) => by
      have := weights_any [p, f] [(0, 2)] v u w k1 k2 (fun q f' hq => by
        rcases q with _ | _ | q
        · simp at hq; subst hq; exact hsm.out _ _ hp'
        · simp at hq; subst hq; exact hsm.out _ _ hf
        · simp at hq) (by simp) (by simp)
      rwa [f1, f2] at this)
    have W3 := Lib.hid (fun v u w (k1 : Fms w v L) (k2 : Row w u 2 (gcells [(0, (a : Int)), ((a : Int), (n : Int) - (a : Int))])) => by
      have := weights_any L [(0, (a : Int)), ((a : Int), (n : Int) - (a : Int))] v u w k1 k2 hsm (by omega) (by simp)
      rwa [f3, f5] at this)
    have s1 : IntKind.i64.wrap ((a : Int) - 1) = (P : Int) := by rw [IntKind.wrap_i64]; omega
    have s2 : IntKind.i64.wrap ((a : Int) + 1) = ((P + 2 : Nat) : Int) := by rw [IntKind.wrap_i64]; omega
    have s3 : ¬ cap = P := by omega
    have s4 : ¬ cap - P = 0 := by omega
    have s5 : ((P + 2 : Nat) : Int) ≤ (cap : Int) := by omega
    have s6 : (P : Int) ≤ ((P + 2 : Nat) : Int) := by omega
    have s7 : (P : Int) ≤ (cap : Int) := by omega
    have s8 : IntKind.i64.wrap ((n : Int) - (a : Int)) = (n : Int) - (a : Int) := by rw [IntKind.wrap_i64]; omega
    clear f1 f2 f3 f4 f5 hw hnn hr5 hp' hf hfd hpd hP hx5 A2 E2
    by_cases hneg : at_ < 0
    · rw [if_pos hneg] at hm
      have n1 : IntKind.i64.wrap (at_ + 1) = at_ + 1 := by rw [IntKind.wrap_i64]; omega
      have n2 : IntKind.i64.wrap (-(at_ + 1)) = (m : Int) := by rw [IntKind.wrap_i64]; omega
      clear hm
      go_wp2_with fail
      have A5 : Ext w5 (w5.alloc (.cells #[.int .i64 0, .int .i64 2] 69)) := (Ext.refl w5).alloc _
      have HSUB := Lib.hid (fms_sub (c := cap - P) (HF.out.ext (E5.trans A5)) HP'.out HFP.out)
      refine (W2.out _ _ _ HSUB.out (row_group w5 0 2)).mono ?_; rintro e w6 ⟨u6, x6, rfl, hx6, hr6, he6⟩
      obtain rfl : x6 = .nilIface := he6
      obtain ⟨g6, o6, c6, rfl, -, -⟩ := hr6.addr (by simp)
      have HR6 := Lib.hid hr6
      have HR56 := Lib.hid (HR5.out.ext (A5.trans hx6))
      have E6 := (E5.trans A5).trans hx6
      clear hr6 hx6 A5 E5 HR5 HSUB W2
      have A6 : Ext w6 (w6.alloc (.cells #[.int .i64 0, .int .i64 (a : Int), .int .i64 (a : Int), .int .i64 ((n : Int) - (a : Int))] 69)) := (Ext.refl w6).alloc _
      go_wp2_with fail
      refine (W3.out _ _ _ (HF.out.ext (E6.trans A6)) (row_groups2 w6 0 (a : Int) (a : Int) ((n : Int) - (a : Int)))).mono ?_; rintro e w7 ⟨u7, x7, rfl, hx7, hr7, he7⟩
      obtain rfl : x7 = .nilIface := he7
      have hr7 : Ints w7 u7 (rowL n (apC L a)) := hr7
      obtain ⟨g7, o7, c7, rfl, -, -⟩ := hr7.addr (by rw [rowL_length]; omega)
      rw [rowL_length] at hr7 ⊢
      have HR7 := Lib.hid hr7
      have HR57 := Lib.hid (HR56.out.ext (A6.trans hx7))
      have HR67 := Lib.hid (HR6.out.ext (A6.trans hx7))
      have E7 := (E6.trans A6).trans hx7
      clear hr7 hx7 A6 E6 HR6 HR56 W3
      have z1 : w7.cell? ⟨g6, o6 + 1, none⟩ = some (.int .i64 (wtV L false a)) := HR67.out.at (j := 1) rfl
      have z2 : w7.cell? ⟨g5, o5 + a, none⟩ = some (.int .i64 (wtV L false a)) := by
        have := HR57.out.at (rowL_get (f := apA L) ha1.2)
        unfold apA at this
        rwa [decide_eq_false (by omega)] at this
      have z3 : w7.cell? ⟨g7, o7 + a, none⟩ = some (.int .i64 (wtV L true a)) := by
        have := HR7.out.at (rowL_get (f := apC L a) ha1.2)
        unfold apC at this
        rwa [decide_eq_true rfl, Bool.or_true] at this
      revert z1 z2 z3 hle
      generalize wtV L false a = y
      generalize wtV L true a = yc
      intro hle z1 z2 z3
      have v1 : (y != y) = false := by simp
      have v2 : ((n : Int) != (n : Int)) = false := by simp
      have v3 : (0 : Int) ≤ (a : Int) ∧ (a : Int) < (n : Int) := by omega
      have v4 : decide (y ≤ yc) = true := decide_eq_true hle
      have HZ2 := Lib.hid z2
      have HZ3 := Lib.hid z3
      go_wp2_with fail
      go_quiet (fail)
      go_wp2_with fail
      clear z1 z2 z3
      have EQ : Ext w7 (w7.drewN nq) := (Ext.refl w7).drewN _
      go_loopw [11] (fun iv wz => ∃ i : Nat, i ≤ n ∧ iv = .int .i64 (i : Int) ∧ Ext w7 wz) (fun iv _ => n - (intOf iv).toNat)
      case atStart => exact ⟨0, Nat.zero_le _, rfl, EQ⟩
      case round =>
        clear EQ
        obtain ⟨i, hi, rfl, hE⟩ := hrel
        by_cases hin : i < n
        · have t5 : (0 : Int) ≤ (i : Int) ∧ (i : Int) < (n : Int) := by omega
          by_cases hia : i = a
          · have b1 : ((i : Int) != (a : Int)) = false := by simp; omega
            have b2 : (i != a) = false := by simp; omega
            clear hia
            go_wp2_with fail
            go_quiet (fail)
            go_wp2
            go_roundw
            case rel => exact ⟨i + 1, by omega, by go_num, hE.drewN _⟩
            case measure => simp [intOf]; omega
          · have b1 : ((i : Int) != (a : Int)) = true := by simp; omega
            have b2 : (i != a) = true := by simp; omega
            have z4 : wr.cell? ⟨g5, o5 + i, none⟩ = some (.int .i64 (apA L i)) := hE.cell (HR57.out.at (rowL_get (f := apA L) hin))
            have z5 : wr.cell? ⟨g7, o7 + i, none⟩ = some (.int .i64 (apA L i)) := hE.cell (by
              have := HR7.out.at (rowL_get (f := apC L a) hin)
              unfold apC at this
              rwa [decide_eq_false hia, Bool.or_false] at this)
            revert z4 z5
            generalize apA L i = z
            intro z4 z5
            have v5 : (z != z) = false := by simp
            clear hia
            go_wp2_with fail
            go_quiet (fail)
            go_wp2
            go_roundw
            case rel => exact ⟨i + 1, by omega, by go_num, hE.drewN _⟩
            case measure => simp [intOf]; omega
        · have hin' : ¬ (i : Int) < (n : Int) := by omega
          have y2 := hE.cell HZ2.out
          have y3 := hE.cell HZ3.out
          have HG := Lib.hid (hg.ext (E7.trans hE))
          clear hin
          go_wp2_with fail
          go_region_held3 (fun w' => w'.cell? ⟨g5, o5 + a, none⟩ = some (.int .i64 y) ∧ w'.cell? ⟨g7, o7 + a, none⟩ = some (.int .i64 yc) ∧ Ext wr w')
            (first | assumption | (exact ⟨y2, y3, Ext.refl _⟩) | (exact ⟨y2, y3, (Ext.refl _).drew⟩) | (go_split_ands; exact ⟨hx.cell (by assumption), hx.cell (by assumption), Ext.trans (by assumption) hx⟩))
            ((go_at_call 42; obtain ⟨_, _, hE1⟩ : _ ∧ _ ∧ Ext wr _ := (by assumption); refine (first17_any _ (HG.out.ext hE1)).mono ?_; rintro e w' ⟨rfl, hx⟩))
          obtain ⟨_, _, hE1⟩ : _ ∧ _ ∧ Ext wr _ := by assumption
          go_wp2
          go_ret
          exact ⟨rfl, (E7.trans hE).trans hE1⟩
    · rw [if_neg hneg] at hm
      subst hm
      go_wp2_with fail
      have A5 : Ext w5 (w5.alloc (.cells #[.int .i64 0, .int .i64 2] 69)) := (Ext.refl w5).alloc _
      have HSUB := Lib.hid (fms_sub (c := cap - P) (HF.out.ext (E5.trans A5)) HP'.out HFP.out)
      refine (W2.out _ _ _ HSUB.out (row_group w5 0 2)).mono ?_; rintro e w6 ⟨u6, x6, rfl, hx6, hr6, he6⟩
      obtain rfl : x6 = .nilIface := he6
      obtain ⟨g6, o6, c6, rfl, -, -⟩ := hr6.addr (by simp)
      have HR6 := Lib.hid hr6
      have HR56 := Lib.hid (HR5.out.ext (A5.trans hx6))
      have E6 := (E5.trans A5).trans hx6
      clear hr6 hx6 A5 E5 HR5 HSUB W2
      have A6 : Ext w6 (w6.alloc (.cells #[.int .i64 0, .int .i64 (a : Int), .int .i64 (a : Int), .int .i64 ((n : Int) - (a : Int))] 69)) := (Ext.refl w6).alloc _
      go_wp2_with fail
      refine (W3.out _ _ _ (HF.out.ext (E6.trans A6)) (row_groups2 w6 0 (a : Int) (a : Int) ((n : Int) - (a : Int)))).mono ?_; rintro e w7 ⟨u7, x7, rfl, hx7, hr7, he7⟩
      obtain rfl : x7 = .nilIface := he7
      have hr7 : Ints w7 u7 (rowL n (apC L a)) := hr7
      obtain ⟨g7, o7, c7, rfl, -, -⟩ := hr7.addr (by rw [rowL_length]; omega)
      rw [rowL_length] at hr7 ⊢
      have HR7 := Lib.hid hr7
      have HR57 := Lib.hid (HR56.out.ext (A6.trans hx7))
      have HR67 := Lib.hid (HR6.out.ext (A6.trans hx7))
      have E7 := (E6.trans A6).trans hx7
      clear hr7 hx7 A6 E6 HR6 HR56 W3
      have z1 : w7.cell? ⟨g6, o6 + 1, none⟩ = some (.int .i64 (wtV L false a)) := HR67.out.at (j := 1) rfl
      have z2 : w7.cell? ⟨g5, o5 + a, none⟩ = some (.int .i64 (wtV L false a)) := by
        have := HR57.out.at (rowL_get (f := apA L) ha1.2)
        unfold apA at this
        rwa [decide_eq_false (by omega)] at this
      have z3 : w7.cell? ⟨g7, o7 + a, none⟩ = some (.int .i64 (wtV L true a)) := by
        have := HR7.out.at (rowL_get (f := apC L a) ha1.2)
        unfold apC at this
        rwa [decide_eq_true rfl, Bool.or_true] at this
      revert z1 z2 z3 hle
      generalize wtV L false a = y
      generalize wtV L true a = yc
      intro hle z1 z2 z3
      have v1 : (y != y) = false := by simp
      have v2 : ((n : Int) != (n : Int)) = false := by simp
      have v3 : (0 : Int) ≤ (a : Int) ∧ (a : Int) < (n : Int) := by omega
      have v4 : decide (y ≤ yc) = true := decide_eq_true hle
      have HZ2 := Lib.hid z2
      have HZ3 := Lib.hid z3
      go_wp2_with fail
      go_quiet (fail)
      go_wp2_with fail
      clear z1 z2 z3
      have EQ : Ext w7 (w7.drewN nq) := (Ext.refl w7).drewN _
      go_loopw [11] (fun iv wz => ∃ i : Nat, i ≤ n ∧ iv = .int .i64 (i : Int) ∧ Ext w7 wz) (fun iv _ => n - (intOf iv).toNat)
      case atStart => exact ⟨0, Nat.zero_le _, rfl, EQ⟩
      case round =>
        clear EQ
        obtain ⟨i, hi, rfl, hE⟩ := hrel
        by_cases hin : i < n
        · have t5 : (0 : Int) ≤ (i : Int) ∧ (i : Int) < (n : Int) := by omega
          by_cases hia : i = a
          · have b1 : ((i : Int) != (a : Int)) = false := by simp; omega
            have b2 : (i != a) = false := by simp; omega
            clear hia
            go_wp2_with fail
            go_quiet (fail)
            go_wp2
            go_roundw
            case rel => exact ⟨i + 1, by omega, by go_num, hE.drewN _⟩
            case measure => simp [intOf]; omega
          · have b1 : ((i : Int) != (a : Int)) = true := by simp; omega
            have b2 : (i != a) = true := by simp; omega
            have z4 : wr.cell? ⟨g5, o5 + i, none⟩ = some (.int .i64 (apA L i)) := hE.cell (HR57.out.at (rowL_get (f := apA L) hin))
            have z5 : wr.cell? ⟨g7, o7 + i, none⟩ = some (.int .i64 (apA L i)) := hE.cell (by
              have := HR7.out.at (rowL_get (f := apC L a) hin)
              unfold apC at this
              rwa [decide_eq_false hia, Bool.or_false] at this)
            revert z4 z5
            generalize apA L i = z
            intro z4 z5
            have v5 : (z != z) = false := by simp
            clear hia
            go_wp2_with fail
            go_quiet (fail)
            go_wp2
            go_roundw
            case rel => exact ⟨i + 1, by omega, by go_num, hE.drewN _⟩
            case measure => simp [intOf]; omega
        · have hin' : ¬ (i : Int) < (n : Int) := by omega
          have y2 := hE.cell HZ2.out
          have y3 := hE.cell HZ3.out
          have HG := Lib.hid (hg.ext (E7.trans hE))
          clear hin
          go_wp2_with fail
          go_region_held3 (fun w' => w'.cell? ⟨g5, o5 + a, none⟩ = some (.int .i64 y) ∧ w'.cell? ⟨g7, o7 + a, none⟩ = some (.int .i64 yc) ∧ Ext wr w')
            (first | assumption | (exact ⟨y2, y3, Ext.refl _⟩) | (exact ⟨y2, y3, (Ext.refl _).drew⟩) | (go_split_ands; exact ⟨hx.cell (by assumption), hx.cell (by assumption), Ext.trans (by assumption) hx⟩))
            ((go_at_call 42; obtain ⟨_, _, hE1⟩ : _ ∧ _ ∧ Ext wr _ := (by assumption); refine (first17_any _ (HG.out.ext hE1)).mono ?_; rintro e w' ⟨rfl, hx⟩))
          obtain ⟨_, _, hE1⟩ : _ ∧ _ ∧ Ext wr _ := by assumption
          go_wp2
          go_ret
          exact ⟨rfl, (E7.trans hE).trans hE1⟩
set_option maxHeartbeats 4000000 in
set_option maxRecDepth 20000 in
theorem apa_law (L : List Fr) (at_ : Int) (v : Value) (w : World) (hg : EtIs w) (h : Fms w v L) (hv : ∀ a n cap, v = .slice a n cap → n ≤ cap ∧ cap ≤ maxLen) (hat : -9223372036854775808 ≤ at_ ∧ at_ ≤ 9223372036854775807) :
    Calls Tryd.prog 14 #[v, .int .i64 at_] w fun e w' => e = .returned (.bool true) ∧ Ext w w' := by
  obtain ⟨a, cap, rfl⟩ := h.form
  have HF := Lib.hid h
  have hv := hv _ _ _ rfl
  obtain ⟨n, hn⟩ : ∃ n, n = L.length := ⟨_, rfl⟩
  rw [← hn] at HF h hv ⊢
  clear hn
  cases hp : pixB L with
  | false =>
    clear h hv
    go_enter Tryd.func14, Tryd.ntmps14
    go_wp2_with fail
    refine (first17_any _ (hg.ext (by repeat (first | exact Ext.refl _ | assumption | refine Ext.alloc ?_ _ | refine Ext.drew ?_ | refine Ext.drewN ?_ _ | refine Ext.setCell ?_ (by first | exact Nat.le_refl _ | (simp; done) | omega) _ | refine Ext.trans ?_ (by assumption))))).mono ?_; rintro e w1 ⟨rfl, hx1⟩
    go_wp2_with fail
    refine (pix_all L _ _ (HF.out.ext (by repeat (first | exact Ext.refl _ | assumption | refine Ext.alloc ?_ _ | refine Ext.drew ?_ | refine Ext.drewN ?_ _ | refine Ext.setCell ?_ (by first | exact Nat.le_refl _ | (simp; done) | omega) _ | refine Ext.trans ?_ (by assumption))))).mono ?_; rintro e w2 ⟨rfl, hx2⟩
    have E2 := hx1.trans hx2
    clear hx1 hx2
    rw [hp]
    go_wp2_with fail
    refine (first17_any _ (hg.ext E2)).mono ?_; rintro e w9 ⟨rfl, hx9⟩
    go_wp2
    go_ret
    exact ⟨rfl, E2.trans hx9⟩
  | true =>
    by_cases g1 : (n : Int) < 2
    · clear h hv
      go_enter Tryd.func14, Tryd.ntmps14
      go_wp2_with fail
      refine (first17_any _ (hg.ext (by repeat (first | exact Ext.refl _ | assumption | refine Ext.alloc ?_ _ | refine Ext.drew ?_ | refine Ext.drewN ?_ _ | refine Ext.setCell ?_ (by first | exact Nat.le_refl _ | (simp; done) | omega) _ | refine Ext.trans ?_ (by assumption))))).mono ?_; rintro e w1 ⟨rfl, hx1⟩
      go_wp2_with fail
      refine (pix_all L _ _ (HF.out.ext (by repeat (first | exact Ext.refl _ | assumption | refine Ext.alloc ?_ _ | refine Ext.drew ?_ | refine Ext.drewN ?_ _ | refine Ext.setCell ?_ (by first | exact Nat.le_refl _ | (simp; done) | omega) _ | refine Ext.trans ?_ (by assumption))))).mono ?_; rintro e w2 ⟨rfl, hx2⟩
      have E2 := hx1.trans hx2
      clear hx1 hx2
      rw [hp]
      go_wp2_with fail
      refine (first17_any _ (hg.ext E2)).mono ?_; rintro e w9 ⟨rfl, hx9⟩
      go_wp2
      go_ret
      exact ⟨rfl, E2.trans hx9⟩
    · by_cases g2 : (16 : Int) < (n : Int)
      · clear h hv
        go_enter Tryd.func14, Tryd.ntmps14
        go_wp2_with fail
        refine (first17_any _ (hg.ext (by repeat (first | exact Ext.refl _ | assumption | refine Ext.alloc ?_ _ | refine Ext.drew ?_ | refine Ext.drewN ?_ _ | refine Ext.setCell ?_ (by first | exact Nat.le_refl _ | (simp; done) | omega) _ | refine Ext.trans ?_ (by assumption))))).mono ?_; rintro e w1 ⟨rfl, hx1⟩
        go_wp2_with fail
        refine (pix_all L _ _ (HF.out.ext (by repeat (first | exact Ext.refl _ | assumption | refine Ext.alloc ?_ _ | refine Ext.drew ?_ | refine Ext.drewN ?_ _ | refine Ext.setCell ?_ (by first | exact Nat.le_refl _ | (simp; done) | omega) _ | refine Ext.trans ?_ (by assumption))))).mono ?_; rintro e w2 ⟨rfl, hx2⟩
        have E2 := hx1.trans hx2
        clear hx1 hx2
        rw [hp]
        go_wp2_with fail
        refine (first17_any _ (hg.ext E2)).mono ?_; rintro e w9 ⟨rfl, hx9⟩
        go_wp2
        go_ret
        exact ⟨rfl, E2.trans hx9⟩
      · by_cases hneg : at_ < 0
        · exact apa_main L n (-(at_ + 1)).toNat at_ a cap w hg h hv hp (by omega) (pix_small hp) hat (by rw [if_pos hneg]; omega)
        · exact apa_main L n at_.toNat at_ a cap w hg h hv hp (by omega) (pix_small hp) hat (by rw [if_neg hneg]; omega)
end Go.Proofs.YtmhbmegmlpenkaaDoor

/- Arguments opened: a list of frames is no longer than it may grow. -/
namespace Go.Proofs.YtmhbmegmlpenkaaDoor
set_option linter.unusedVariables false
set_option linter.unusedSimpArgs false
open Go.ChangeShapes Go.WideShapes Go.ChangeAt Go.RowKit Go.Joins Go.Deep

set_option maxRecDepth 100000 in
theorem frames_caps {H : Type} {enc : TypeId × Value → H} {w : World} {v : Value} {d : DataW H} {p : List MemPlace} (h : DataW.Trod enc Tryd.prog w 0 (fun _ => true) true 57 v d p) (a : Option Addr) (n cap : Nat) (e : v = .slice a n cap) : n ≤ cap ∧ cap ≤ maxLen := by
  subst e
  obtain ⟨fuel, hf⟩ := h
  rcases open_slice Tryd.underlying57 hf with ⟨hc, _⟩ | ⟨a', len, cap', m, n', D, Pl, hc, _, hl, hm, _⟩
  · have hv : Value.slice a n cap = .slice none 0 0 := by simpa [Value.cells] using hc
    simp only [Value.slice.injEq] at hv
    obtain ⟨-, rfl, rfl⟩ := hv
    exact ⟨Nat.le_refl _, by unfold maxLen; omega⟩
  · have hv : Value.slice a n cap = .slice (some a') len cap' := by simpa [Value.cells] using hc
    simp only [Value.slice.injEq] at hv
    obtain ⟨-, rfl, rfl⟩ := hv
    exact ⟨hl, hm⟩
end Go.Proofs.YtmhbmegmlpenkaaDoor

/- Groups of any length, plain: what SceneOnce asks. -/
namespace Go.Proofs.YtmhbmegmlpenkaaDoor
set_option linter.unusedVariables false
set_option linter.unusedSimpArgs false
open Go.RowKit

/-- a group ends where the next is unlike, or where it is full -/
def Ends (L : List Fr) (cut gop : Int) (G : List (Int × Int)) : Prop := ∀ (i : Nat) (p q : Int × Int), G[i]? = some p → G[i + 1]? = some q → cut < unlAt L q.1.toNat ∨ p.2 = gop
theorem last_get {I : List (Int × Int)} {x y : Int × Int} {i : Nat} {p : Int × Int} (h : (I ++ [x])[i]? = some p) : (i < I.length ∧ I[i]? = some p) ∨ (i = I.length ∧ p = x) := by
  rw [List.getElem?_append] at h
  split at h
  · exact Or.inl ⟨by assumption, h⟩
  · rename_i hn
    have : i - I.length = 0 := by
      cases hk : i - I.length with
      | zero => rfl
      | succ k => rw [hk] at h; simp at h
    rw [this] at h
    simp at h
    exact Or.inr ⟨by omega, h.symm⟩
theorem grp_inv2 (L : List Fr) (cut gop : Int) (hcut : 0 ≤ cut) (hgop : 1 ≤ gop) (k : Nat) :
    Chain 0 (grpL L cut gop (k + 1)) ((k + 1 : Nat) : Int) ∧ (∀ p ∈ grpL L cut gop (k + 1), p.2 ≤ gop) ∧ Ends L cut gop (grpL L cut gop (k + 1)) := by
  induction k with
  | zero =>
    have hs : grpL L cut gop 1 = [(0, 1)] := by
      unfold grpL grpS
      rw [unlAt_zero, if_neg (by simp only [grpS]; omega)]
      rfl
    rw [hs]
    refine ⟨⟨rfl, Int.le_refl _, rfl⟩, fun p hp => ?_, fun i p q h1 h2 => ?_⟩
    · obtain rfl := List.mem_singleton.1 hp
      exact hgop
    · rcases i with _ | i <;> simp at h2
  | succ k ih =>
    obtain ⟨i1, i2, i3⟩ := ih
    obtain ⟨I, F, C, e0⟩ : ∃ I F C, grpS L cut gop (k + 1) = (I, F, C) := ⟨_, _, _, rfl⟩
    have h0 : grpL L cut gop (k + 1) = I ++ [(F, C)] := by unfold grpL; rw [e0]
    by_cases hc : cut < unlAt L (k + 1) ∨ C = gop
    · have hs : grpL L cut gop (k + 1 + 1) = grpL L cut gop (k + 1) ++ [(((k + 1 : Nat) : Int), 1)] := by
        have : grpS L cut gop (k + 1 + 1) = (I ++ [(F, C)], ((k + 1 : Nat) : Int), 1) := by
          show (if cut < unlAt L (k + 1) ∨ (grpS L cut gop (k + 1)).2.2 = gop then _ else _) = _
          rw [e0, if_pos hc]
        unfold grpL
        rw [this, e0]
      rw [hs]
      refine ⟨chain_append i1 ⟨rfl, Int.le_refl _, rfl⟩, fun p hp => ?_, fun i p q h1 h2 => ?_⟩
      · rcases List.mem_append.1 hp with hp | hp
        · exact i2 p hp
        · obtain rfl := List.mem_singleton.1 hp; exact hgop
      · rcases last_get (y := (0, 0)) h2 with ⟨l2, g2⟩ | ⟨l2, rfl⟩
        · rcases last_get (y := (0, 0)) h1 with ⟨l1, g1⟩ | ⟨l1, -⟩
          · exact i3 i p q g1 g2
          · omega
        · rcases last_get (y := (0, 0)) h1 with ⟨l1, g1⟩ | ⟨l1, -⟩
          · rw [h0] at g1 l2
            rw [List.length_append] at l2
            have l2' : i + 1 = I.length + 1 := l2
            rcases last_get (y := (0, 0)) g1 with ⟨l3, -⟩ | ⟨-, rfl⟩
            · omega
            · rcases hc with hc | hc
              · exact Or.inl hc
              · exact Or.inr hc
          · omega
    · have hs : grpL L cut gop (k + 1 + 1) = I ++ [(F, C + 1)] := by
        have : grpS L cut gop (k + 1 + 1) = (I, F, C + 1) := by
          show (if cut < unlAt L (k + 1) ∨ (grpS L cut gop (k + 1)).2.2 = gop then _ else _) = _
          rw [e0, if_neg hc]
        unfold grpL
        rw [this]
      rw [h0] at i1 i2 i3
      rw [hs]
      have hC : C ≤ gop := i2 (F, C) (List.mem_append_right _ (List.mem_singleton.2 rfl))
      have hne : ¬ C = gop := fun e => hc (Or.inr e)
      refine ⟨by have := chain_bump i1; push_cast at this ⊢; exact this, fun p hp => ?_, fun i p q h1 h2 => ?_⟩
      · rcases List.mem_append.1 hp with hp | hp
        · exact i2 p (List.mem_append_left _ hp)
        · obtain rfl := List.mem_singleton.1 hp
          show C + 1 ≤ gop
          omega
      · rcases last_get (y := (0, 0)) h1 with ⟨l1, g1⟩ | ⟨l1, rfl⟩
        · have g1' : (I ++ [(F, C)])[i]? = some p := by rw [List.getElem?_append_left l1]; exact g1
          rcases last_get (y := (0, 0)) h2 with ⟨l2, g2⟩ | ⟨l2, rfl⟩
          · exact i3 i p q g1' (by rw [List.getElem?_append_left l2]; exact g2)
          · exact i3 i p (F, C) g1' (by rw [List.getElem?_append_right (by omega), l2, Nat.sub_self]; rfl)
        · rcases last_get (y := (0, 0)) h2 with ⟨l2, -⟩ | ⟨l2, -⟩ <;> omega
theorem chain_take {a b : Int} {G : List (Int × Int)} (h : Chain a G b) {i : Nat} {p : Int × Int} (hp : G[i]? = some p) : Chain a (G.take i) p.1 ∧ 1 ≤ p.2 ∧ Chain (p.1 + p.2) (G.drop (i + 1)) b := by
  induction G generalizing a i with
  | nil => simp at hp
  | cons q G ih =>
    obtain ⟨h1, h2, h3⟩ := h
    rcases i with _ | i
    · simp at hp
      subst hp
      exact ⟨h1.symm, h2, by rw [h1]; exact h3⟩
    · simp at hp
      obtain ⟨k1, k2, k3⟩ := ih h3 hp
      exact ⟨⟨h1, h2, k1⟩, k2, k3⟩
/-- the group of a frame -/
theorem chain_of_at {a b x : Int} {G : List (Int × Int)} (h : Chain a G b) {i : Nat} {p : Int × Int} (hp : G[i]? = some p) (h1 : p.1 ≤ x) (h2 : x < p.1 + p.2) (q : Int) : ofV x G q = q + i := by
  induction G generalizing a i q with
  | nil => simp at hp
  | cons r G ih =>
    obtain ⟨c1, c2, c3⟩ := h
    rcases i with _ | i
    · simp at hp
      subst hp
      show (if inG x r then q else ofV x G (q + 1)) = _
      rw [if_pos ⟨by omega, h1, by omega⟩]
      simp
    · simp at hp
      have hm := (chain_mem c3).2 p (List.mem_of_getElem? hp)
      show (if inG x r then q else ofV x G (q + 1)) = _
      rw [if_neg (fun e => by have := e.2.2; omega), ih c3 hp (q + 1)]
      push_cast
      omega
theorem chain_of_none {a b x : Int} {G : List (Int × Int)} (h : Chain a G b) (h1 : b ≤ x) (q : Int) : ofV x G q = -1 := by
  induction G generalizing a q with
  | nil => rfl
  | cons r G ih =>
    obtain ⟨c1, c2, c3⟩ := h
    have := (chain_mem c3).1
    show (if inG x r then q else ofV x G (q + 1)) = _
    rw [if_neg (fun e => by have := e.2.2; omega), ih c3]
theorem chain_sum {a b gop : Int} {G : List (Int × Int)} (h : Chain a G b) (hg : ∀ p ∈ G, p.2 ≤ gop) : b - a ≤ gop * (G.length : Int) := by
  induction G generalizing a with
  | nil =>
    obtain rfl : a = b := h
    simp
  | cons r G ih =>
    obtain ⟨c1, c2, c3⟩ := h
    have h1 := ih c3 (fun p hp => hg p (List.mem_cons_of_mem _ hp))
    have h2 := hg r List.mem_cons_self
    have e : gop * ((r :: G).length : Int) = gop * (G.length : Int) + gop := by
      rw [List.length_cons]
      push_cast
      rw [Int.mul_add, Int.mul_one]
    rw [e]
    omega
/-- full groups, where none is unlike -/
theorem full_len (L : List Fr) (gop : Nat) (hg : 1 ≤ gop) (k : Nat) : (grpL L 16320 gop (k + 1)).length = k / gop + 1 ∧ (grpS L 16320 gop (k + 1)).2.2 = ((k % gop + 1 : Nat) : Int) := by
  induction k with
  | zero =>
    have hs : grpS L 16320 gop 1 = ([], 0, 1) := by
      unfold grpS
      rw [unlAt_zero, if_neg (by simp only [grpS]; omega)]
      rfl
    refine ⟨?_, ?_⟩
    · unfold grpL
      rw [hs, Nat.zero_div]
      rfl
    · rw [hs, Nat.zero_mod]
      rfl
  | succ k ih =>
    obtain ⟨i1, i2⟩ := ih
    obtain ⟨I, F, C, e0⟩ : ∃ I F C, grpS L 16320 gop (k + 1) = (I, F, C) := ⟨_, _, _, rfl⟩
    have hu : ¬ (16320 : Int) < unlAt L (k + 1) := by
      have := unlV_small (frD L (k + 1 - 1)).1 (frD L (k + 1 - 1)).2.1 (frD L (k + 1 - 1)).2.2 (frD L (k + 1)).1 (frD L (k + 1)).2.1 (frD L (k + 1)).2.2
      unfold unlAt
      omega
    have hl : (grpL L 16320 gop (k + 1)).length = I.length + 1 := by unfold grpL; rw [e0, List.length_append]; rfl
    rw [e0] at i2
    have i2' : C = ((k % gop + 1 : Nat) : Int) := i2
    have hml := Nat.mod_lt k (show 0 < gop by omega)
    have hdm := Nat.div_add_mod k gop
    by_cases hc : C = (gop : Int)
    · have hs : grpS L 16320 gop (k + 1 + 1) = (I ++ [(F, C)], ((k + 1 : Nat) : Int), 1) := by
        show (if 16320 < unlAt L (k + 1) ∨ (grpS L 16320 gop (k + 1)).2.2 = gop then _ else _) = _
        rw [e0, if_pos (Or.inr hc)]
      have e1 : (k + 1) = gop * (k / gop + 1) := by rw [Nat.mul_add, Nat.mul_one]; omega
      have e2 : (k + 1) / gop = k / gop + 1 := by rw [e1]; exact Nat.mul_div_cancel_left _ (by omega)
      have e3 : (k + 1) % gop = 0 := by rw [e1]; exact Nat.mul_mod_right _ _
      refine ⟨?_, ?_⟩
      · unfold grpL
        rw [hs, e2, List.length_append, List.length_append]
        show I.length + 1 + 1 = _
        omega
      · rw [hs, e3]
        rfl
    · have hs : grpS L 16320 gop (k + 1 + 1) = (I, F, C + 1) := by
        show (if 16320 < unlAt L (k + 1) ∨ (grpS L 16320 gop (k + 1)).2.2 = gop then _ else _) = _
        rw [e0, if_neg (fun e => e.elim hu hc)]
      have hlt : k % gop + 1 < gop := by omega
      have e1 : k + 1 = gop * (k / gop) + (k % gop + 1) := by omega
      have e2 : (k + 1) / gop = k / gop := by rw [e1, Nat.mul_add_div (by omega), Nat.div_eq_of_lt hlt, Nat.add_zero]
      have e3 : (k + 1) % gop = k % gop + 1 := by rw [e1, Nat.mul_add_mod, Nat.mod_eq_of_lt hlt]
      refine ⟨?_, ?_⟩
      · unfold grpL
        rw [hs, e2, List.length_append]
        show I.length + 1 = _
        omega
      · rw [hs, e3, i2']
        push_cast
        rfl
theorem full_chN (n gop : Nat) (hg : 1 ≤ gop) (hn : 1 ≤ n) : (n - 1) / gop + 1 = chN n gop := by
  unfold chN
  have : n + gop - 1 = (n - 1) + gop := by omega
  rw [this, Nat.add_div_right _ (by omega)]
end Go.Proofs.YtmhbmegmlpenkaaDoor

/- kinlaw16.SceneOnce: the walk. -/
namespace Go.Proofs.YtmhbmegmlpenkaaDoor
set_option linter.unusedVariables false
set_option linter.unusedSimpArgs false
open Go.RowKit Go.Extern.Stop Go.Stop Go.Extern

set_option maxHeartbeats 2000000 in
set_option maxRecDepth 20000 in
theorem once_no (L : List Fr) (cut gop : Int) (f : List (ByteArray × Int) × Int) (a : Option Addr) (n cap : Nat) (w : World) (hg : EtIs w) (h : Fms w (.slice a n cap) L) (hp : pixB L = true)
    (c1 : Hid (∀ v w, Fms w v L → Calls Tryd.prog 36 #[v, .int .i64 cut, .int .i64 gop] w (GPost w [] (some f)))) :
    Calls Tryd.prog 10 #[.slice a n cap, .int .i64 cut, .int .i64 gop] w fun e w' => e = .returned (.bool true) ∧ Ext w w' := by
  have HF := Lib.hid h
  clear h
  go_enter Tryd.func10, Tryd.ntmps10
  go_wp2_with fail
  refine (first16_any _ (hg.ext (by repeat (first | exact Ext.refl _ | assumption | refine Ext.alloc ?_ _ | refine Ext.drew ?_ | refine Ext.drewN ?_ _ | refine Ext.setCell ?_ (by first | exact Nat.le_refl _ | (simp; done) | omega) _ | refine Ext.trans ?_ (by assumption))))).mono ?_; rintro e w1 ⟨rfl, hx1⟩
  go_wp2_with fail
  refine (pix_all L _ _ (HF.out.ext (by repeat (first | exact Ext.refl _ | assumption | refine Ext.alloc ?_ _ | refine Ext.drew ?_ | refine Ext.drewN ?_ _ | refine Ext.setCell ?_ (by first | exact Nat.le_refl _ | (simp; done) | omega) _ | refine Ext.trans ?_ (by assumption))))).mono ?_; rintro e w2 ⟨rfl, hx2⟩
  have E2 := hx1.trans hx2
  clear hx1 hx2
  rw [hp]
  go_wp2_with fail
  refine (c1.out _ _ (HF.out.ext E2)).mono ?_; rintro e w3 ⟨u3, x3, rfl, hx3, hr3, he3⟩
  have E3 := E2.trans hx3
  obtain ⟨t3, y3, rfl⟩ := he3.ne
  obtain ⟨ra, rc, rfl⟩ := hr3.form
  clear hr3 he3 hx3
  go_wp2_with fail
  refine (first16_any _ (hg.ext E3)).mono ?_; rintro e w9 ⟨rfl, hx9⟩
  go_wp2
  go_ret
  exact ⟨rfl, E3.trans hx9⟩
set_option maxHeartbeats 16000000 in
set_option maxRecDepth 20000 in
theorem once_ok (L : List Fr) (cut : Int) (gp : Nat) (G G2 : List (Int × Int)) (n cap : Nat) (a : Option Addr) (w : World) (hg : EtIs w) (h : Fms w (.slice a n cap) L) (hp : pixB L = true) (hn : 1 ≤ n ∧ n ≤ 16) (hgp : 1 ≤ gp ∧ gp ≤ 16) (gn : Nat) (HGN : Hid (G.length = gn)) (hg0 : 1 ≤ gn ∧ gn ≤ 17)
    (hsm : Hid (∀ (q : Nat) (f : Fr), L[q]? = some f → f.2.2.length ≤ 1000000))
    (c1 : Hid (∀ v w, Fms w v L → Calls Tryd.prog 36 #[v, .int .i64 cut, .int .i64 (gp : Int)] w (GPost w G none)))
    (c2 : Hid (∀ v w, Fms w v L → Calls Tryd.prog 36 #[v, .int .i64 16320, .int .i64 (gp : Int)] w (GPost w G2 none)))
    (k1 : Hid (∀ i : Nat, i < n → ansAt L i = none))
    (HCH : Hid (Chain 0 G (n : Int))) (HLE : Hid (∀ p ∈ G, p.2 ≤ (gp : Int))) (HEN : Hid (Ends L cut gp G))
    (k3 : Hid (∀ (q : Nat) (p : Int × Int), G[q]? = some p → small p)) (q2 : Nat) (HG2 : Hid (G2.length = q2)) (hq2 : q2 ≤ gn) (HQ3 : Hid (q2 = (n + gp - 1) / gp)) :
    Calls Tryd.prog 10 #[.slice a n cap, .int .i64 cut, .int .i64 (gp : Int)] w fun e w' => e = .returned (.bool true) ∧ Ext w w' := by
  have HN := Lib.hid h.len
  obtain ⟨g0, off, rfl⟩ := h.had (by omega)
  have HF := Lib.hid h
  obtain ⟨n1, n2⟩ := hn
  obtain ⟨gp1, gp2⟩ := hgp
  obtain ⟨gn1, gn2⟩ := hg0
  clear h
  go_enter Tryd.func10, Tryd.ntmps10
  go_wp2_with fail
  refine (first16_any _ (hg.ext (by repeat (first | exact Ext.refl _ | assumption | refine Ext.alloc ?_ _ | refine Ext.drew ?_ | refine Ext.drewN ?_ _ | refine Ext.setCell ?_ (by first | exact Nat.le_refl _ | (simp; done) | omega) _ | refine Ext.trans ?_ (by assumption))))).mono ?_; rintro e w1 ⟨rfl, hx1⟩
  go_wp2_with fail
  refine (pix_all L _ _ (HF.out.ext (by repeat (first | exact Ext.refl _ | assumption | refine Ext.alloc ?_ _ | refine Ext.drew ?_ | refine Ext.drewN ?_ _ | refine Ext.setCell ?_ (by first | exact Nat.le_refl _ | (simp; done) | omega) _ | refine Ext.trans ?_ (by assumption))))).mono ?_; rintro e w2 ⟨rfl, hx2⟩
  have E2 := hx1.trans hx2
  clear hx1 hx2
  rw [hp]
  go_wp2_with fail
  refine (c1.out _ _ (HF.out.ext E2)).mono ?_; rintro e w3 ⟨u3, x3, rfl, hx3, hr3, he3⟩
  have E3 := E2.trans hx3
  obtain rfl : x3 = .nilIface := he3
  obtain ⟨g, o, gcap, rfl, hcs⟩ := row_opened hr3 (by rw [HGN.out]; omega)
  have HR3 := Lib.hid hr3
  have HCS := Lib.hid hcs
  rw [HGN.out] at HR3
  rw [HGN.out]
  have HF3 := Lib.hid (HF.out.ext E3)
  clear hr3 hcs hx3 c1
  go_wp2_with fail
  go_loopw [9, 10] (fun xv iv wr => ∃ i x : Nat, i ≤ gn ∧ iv = .int .i64 (i : Int) ∧ xv = .int .i64 (x : Int) ∧ x ≤ n ∧ Hid (Chain 0 (G.take i) (x : Int) ∧ Chain (x : Int) (G.drop i) (n : Int)) ∧ Ext w3 wr) (fun _ iv _ => gn - (intOf iv).toNat)
  case atStart => exact ⟨0, 0, Nat.zero_le _, rfl, rfl, Nat.zero_le _, ⟨rfl, HCH.out⟩, Ext.refl _⟩
  case round =>
    obtain ⟨i, x, hi, rfl, rfl, hxn, HK, hE⟩ := hrel
    by_cases hlt : i < gn
    · obtain ⟨p, hpi⟩ : ∃ p, G[i]? = some p := ⟨_, List.getElem?_eq_getElem (by rw [HGN.out]; exact hlt)⟩
      have hd := HK.out.2
      rw [drop_of_get hpi] at hd
      obtain ⟨F, C⟩ := p
      obtain ⟨d1, d2, d3⟩ := hd
      have d1 : F = (x : Int) := d1
      have d2 : 1 ≤ C := d2
      have d3 : Chain ((x : Int) + C) (G.drop (i + 1)) (n : Int) := d3
      have d4 := (chain_mem d3).1
      have d5 : C ≤ (gp : Int) := HLE.out (F, C) (List.mem_of_getElem? hpi)
      obtain ⟨c, hc⟩ : ∃ c : Nat, C = (c : Int) := ⟨C.toNat, by omega⟩
      subst hc
      subst d1
      have HNX : Hid (Chain 0 (G.take (i + 1)) ((x + c : Nat) : Int) ∧ Chain ((x + c : Nat) : Int) (G.drop (i + 1)) (n : Int)) := by
        have e : ((x + c : Nat) : Int) = (x : Int) + (c : Int) := by omega
        rw [e]
        refine ⟨?_, d3⟩
        rw [take_of_get hpi]
        exact chain_append HK.out.1 ⟨rfl, d2, rfl⟩
      have gc := gcells_get G i ((x : Int), (c : Int)) hpi
      have HC0 := Lib.hid (HCS.out _ _ gc.1)
      have HC1 := Lib.hid (HCS.out _ _ gc.2)
      have c0 := hE.cell HC0.out
      have c1 := hE.cell HC1.out
      change wr.cell? ⟨g, o + i * 2, none⟩ = some (.int .i64 (x : Int)) at c0
      change wr.cell? ⟨g, o + i * 2 + 1, none⟩ = some (.int .i64 (c : Int)) at c1
      have t4 : (0 : Int) ≤ (i : Int) ∧ (i : Int) < (gn : Int) := by omega
      have bx : ((x : Int) != (x : Int)) = false := by simp
      have i1 : IntKind.i64.wrap ((x : Int) + (c : Int)) = (x : Int) + (c : Int) := by rw [IntKind.wrap_i64]; omega
      have hxc : x + c ≤ n := by omega
      rcases Nat.eq_zero_or_pos i with hi0 | hi1
      · have b1 : ¬ (0 : Int) < (i : Int) := by omega
        have b2 : ¬ 0 < i := by omega
        have hEi := hE
        clear d3 gc hi0 HK hE
        have HB := Lib.hid (fun k (k1 : x ≤ k) (k2 : k < x + c) => by have := chain_of_at (x := ((k : Nat) : Int)) HCH.out hpi (by show ((x : Nat) : Int) ≤ _; omega) (by show _ < ((x : Nat) : Int) + ((c : Nat) : Int); omega) 0; rwa [Int.zero_add] at this)
        go_wp2_with fail
        go_loopw [13] (fun kv wz => ∃ k : Nat, x ≤ k ∧ k ≤ x + c ∧ kv = .int .i64 (k : Int) ∧ Ext w3 wz) (fun kv _ => x + c - (intOf kv).toNat)
        case atStart => exact ⟨x, Nat.le_refl _, Nat.le_add_right _ _, rfl, hEi⟩
        case round =>
          clear hEi
          obtain ⟨k, hk1, hk2, rfl, hE⟩ := hrel
          have c0 := hE.cell HC0.out
          have c1' := hE.cell HC1.out
          change wr.cell? ⟨g, o + i * 2 + 1, none⟩ = some (.int .i64 (c : Int)) at c1'
          by_cases hkc : k < x + c
          · have t5 : (k : Int) < (x : Int) + (c : Int) := by omega
            have hof := HB.out k hk1 hkc
            have OF := Lib.hid (fun w hr => by have := of_any G (k : Int) (.slice (some ⟨g, o, none⟩) G.length gcap) w hr (by rw [HGN.out]; omega) (by omega) k3; rwa [hof] at this)
            rw [HGN.out] at OF
            clear hof
            go_wp2_with fail
            refine (OF.out _ (HR3.out.ext hE)).mono ?_; rintro e w6 ⟨rfl, hx6⟩
            have hE6 := hE.trans hx6
            clear c0 c1' hE hx6
            have bi : ((i : Int) != (i : Int)) = false := by simp
            go_wp2
            go_roundw
            case rel => exact ⟨k + 1, by omega, by omega, by go_num, hE6⟩
            case measure => simp [intOf]; omega
          · have t5 : ¬ (k : Int) < (x : Int) + (c : Int) := by omega
            clear hkc
            go_wp2
            go_roundw
            case rel => exact ⟨i + 1, x + c, by omega, by go_num, by go_num, by omega, HNX.out, hE⟩
            case measure => simp [intOf]; omega
      · have hx1 : 1 ≤ x := by
          have h0 := HK.out.1
          obtain ⟨p0, hp0⟩ : ∃ p0, (G.take i)[0]? = some p0 := ⟨_, List.getElem?_eq_getElem (by rw [List.length_take, HGN.out]; omega)⟩
          have hm := (chain_mem h0).2 p0 (List.mem_of_getElem? hp0)
          omega
        have b1 : (0 : Int) < (i : Int) := by omega
        obtain ⟨pv, hpv⟩ : ∃ pv, G[i - 1]? = some pv := ⟨_, List.getElem?_eq_getElem (by rw [HGN.out]; omega)⟩
        obtain ⟨F0, C0⟩ := pv
        have hen : cut < unlAt L x ∨ C0 = (gp : Int) := by
          have := HEN.out (i - 1) (F0, C0) ((x : Int), (c : Int)) hpv (by rw [show i - 1 + 1 = i by omega]; exact hpi)
          simpa using this
        have cp := hE.cell (HCS.out _ _ (gcells_get G (i - 1) (F0, C0) hpv).2)
        obtain ⟨I1, hI1⟩ : ∃ I1, I1 = i - 1 := ⟨_, rfl⟩
        rw [← hI1] at cp
        change wr.cell? ⟨g, o + I1 * 2 + 1, none⟩ = some (.int .i64 C0) at cp
        have j1 : IntKind.i64.wrap ((i : Int) - 1) = (I1 : Int) := by rw [IntKind.wrap_i64]; omega
        have j2 : (0 : Int) ≤ (I1 : Int) ∧ (I1 : Int) < (gn : Int) := by omega
        obtain ⟨f, hf⟩ : ∃ f, L[x]? = some f := ⟨_, List.getElem?_eq_getElem (by rw [← HN.out]; omega)⟩
        obtain ⟨p, hp'⟩ : ∃ p, L[x - 1]? = some p := ⟨_, List.getElem?_eq_getElem (by rw [← HN.out]; omega)⟩
        have hfd : frD L x = f := by unfold frD; rw [List.getD, hf]; rfl
        have hpd : frD L (x - 1) = p := by unfold frD; rw [List.getD, hp']; rfl
        have HAN : frAns p.1 p.2.1 p.2.2 f.1 f.2.1 f.2.2 = none := by
          have := k1.out x (by omega)
          unfold ansAt at this
          rwa [hfd, hpd] at this
        have HUN : unlAt L x = unlV p.1 p.2.1 p.2.2 f.1 f.2.1 f.2.2 := by unfold unlAt; rw [hfd, hpd]
        rw [HUN] at hen
        obtain ⟨fa, fn, fc, p0, p1, p2, p3⟩ := (HF3.out.at hf).ext hE
        obtain ⟨pa, pn, pc, q0, q1, q2', q3⟩ := (HF3.out.at hp').ext hE
        have HC4 : Hid (Ints wr (.slice fa fn fc) f.2.2) := ⟨p3, Nat.le_trans (hsm.out _ _ hf) (by decide)⟩
        have HP4 : Hid (Ints wr (.slice pa pn pc) p.2.2) := ⟨q3, Nat.le_trans (hsm.out _ _ hp') (by decide)⟩
        have U := Lib.hid (fun w h k => by have := unlike_any p.1 p.2.1 f.1 f.2.1 p.2.2 f.2.2 pa fa pn fn pc fc w h k; rwa [HAN] at this)
        clear hf hp' hfd hpd p3 q3 HAN HUN hpv gc d3 HK
        revert U hen
        generalize unlV p.1 p.2.1 p.2.2 f.1 f.2.1 f.2.2 = u0
        intro hen U
        obtain ⟨P, hP⟩ : ∃ P, P = x - 1 := ⟨_, rfl⟩
        have t2 : IntKind.i64.wrap ((x : Int) - 1) = (P : Int) := by rw [IntKind.wrap_i64]; omega
        have t3 : (0 : Int) ≤ (P : Int) ∧ (P : Int) < (n : Int) := by omega
        have t6 : (0 : Int) ≤ (x : Int) ∧ (x : Int) < (n : Int) := by omega
        rw [← hP] at q0 q1 q2'
        clear hP hI1
        go_wp2_with fail
        go_region_held3 (fun w' => w'.cell? ⟨g0, off + x * 3, none⟩ = some (.int .i64 f.1) ∧ w'.cell? ⟨g0, off + x * 3 + 1, none⟩ = some (.int .i64 f.2.1) ∧ w'.cell? ⟨g0, off + x * 3 + 2, none⟩ = some (.slice fa fn fc) ∧ w'.cell? ⟨g0, off + P * 3, none⟩ = some (.int .i64 p.1) ∧ w'.cell? ⟨g0, off + P * 3 + 1, none⟩ = some (.int .i64 p.2.1) ∧ w'.cell? ⟨g0, off + P * 3 + 2, none⟩ = some (.slice pa pn pc) ∧ Ext wr w')
          (first | assumption | (exact ⟨p0, p1, p2, q0, q1, q2', Ext.refl _⟩) | (exact ⟨p0, p1, p2, q0, q1, q2', (Ext.refl _).drew⟩) | (go_split_ands; exact ⟨hx.cell (by assumption), hx.cell (by assumption), hx.cell (by assumption), hx.cell (by assumption), hx.cell (by assumption), hx.cell (by assumption), Ext.trans (by assumption) hx⟩))
          ((go_at_call 40; obtain ⟨_, _, _, _, _, _, hE1⟩ : _ ∧ _ ∧ _ ∧ _ ∧ _ ∧ _ ∧ Ext wr _ := (by assumption); refine (U.out _ (HP4.out.ext hE1) (HC4.out.ext hE1)).mono ?_; rintro e w' ⟨x5, rfl, hx, hex⟩))
        obtain ⟨_, _, _, _, _, _, hE1⟩ : _ ∧ _ ∧ _ ∧ _ ∧ _ ∧ _ ∧ Ext wr _ := by assumption
        obtain rfl : x5 = .nilIface := hex
        have hEi := hE.trans hE1
        have cp5 := hE1.cell cp
        clear p0 p1 p2 q0 q1 q2' HC4 HP4 U hE1 c0 c1 cp hE
        have c0 := hEi.cell HC0.out
        have c1 := hEi.cell HC1.out
        change w'.cell? ⟨g, o + i * 2, none⟩ = some (.int .i64 (x : Int)) at c0
        change w'.cell? ⟨g, o + i * 2 + 1, none⟩ = some (.int .i64 (c : Int)) at c1
        by_cases hcu : cut < u0
        · have hcu' : ¬ u0 ≤ cut := by omega
          clear hen cp5 hcu
          have HB := Lib.hid (fun k (k1 : x ≤ k) (k2 : k < x + c) => by have := chain_of_at (x := ((k : Nat) : Int)) HCH.out hpi (by show ((x : Nat) : Int) ≤ _; omega) (by show _ < ((x : Nat) : Int) + ((c : Nat) : Int); omega) 0; rwa [Int.zero_add] at this)
          go_wp2_with fail
          go_loopw [13] (fun kv wz => ∃ k : Nat, x ≤ k ∧ k ≤ x + c ∧ kv = .int .i64 (k : Int) ∧ Ext w3 wz) (fun kv _ => x + c - (intOf kv).toNat)
          case atStart => exact ⟨x, Nat.le_refl _, Nat.le_add_right _ _, rfl, hEi⟩
          case round =>
            clear hEi
            obtain ⟨k, hk1, hk2, rfl, hE⟩ := hrel
            have c0 := hE.cell HC0.out
            have c1' := hE.cell HC1.out
            change wr.cell? ⟨g, o + i * 2 + 1, none⟩ = some (.int .i64 (c : Int)) at c1'
            by_cases hkc : k < x + c
            · have t5 : (k : Int) < (x : Int) + (c : Int) := by omega
              have hof := HB.out k hk1 hkc
              have OF := Lib.hid (fun w hr => by have := of_any G (k : Int) (.slice (some ⟨g, o, none⟩) G.length gcap) w hr (by rw [HGN.out]; omega) (by omega) k3; rwa [hof] at this)
              rw [HGN.out] at OF
              clear hof
              go_wp2_with fail
              refine (OF.out _ (HR3.out.ext hE)).mono ?_; rintro e w6 ⟨rfl, hx6⟩
              have hE6 := hE.trans hx6
              clear c0 c1' hE hx6
              have bi : ((i : Int) != (i : Int)) = false := by simp
              go_wp2
              go_roundw
              case rel => exact ⟨k + 1, by omega, by omega, by go_num, hE6⟩
              case measure => simp [intOf]; omega
            · have t5 : ¬ (k : Int) < (x : Int) + (c : Int) := by omega
              clear hkc
              go_wp2
              go_roundw
              case rel => exact ⟨i + 1, x + c, by omega, by go_num, by go_num, by omega, HNX.out, hE⟩
              case measure => simp [intOf]; omega
        · have hC0 : C0 = (gp : Int) := by omega
          subst hC0
          have hcu' : u0 ≤ cut := by omega
          have hgg : ¬ (gp : Int) < (gp : Int) := by omega
          clear hen hcu
          have HB := Lib.hid (fun k (k1 : x ≤ k) (k2 : k < x + c) => by have := chain_of_at (x := ((k : Nat) : Int)) HCH.out hpi (by show ((x : Nat) : Int) ≤ _; omega) (by show _ < ((x : Nat) : Int) + ((c : Nat) : Int); omega) 0; rwa [Int.zero_add] at this)
          go_wp2_with fail
          go_loopw [13] (fun kv wz => ∃ k : Nat, x ≤ k ∧ k ≤ x + c ∧ kv = .int .i64 (k : Int) ∧ Ext w3 wz) (fun kv _ => x + c - (intOf kv).toNat)
          case atStart => exact ⟨x, Nat.le_refl _, Nat.le_add_right _ _, rfl, hEi⟩
          case round =>
            clear hEi
            obtain ⟨k, hk1, hk2, rfl, hE⟩ := hrel
            have c0 := hE.cell HC0.out
            have c1' := hE.cell HC1.out
            change wr.cell? ⟨g, o + i * 2 + 1, none⟩ = some (.int .i64 (c : Int)) at c1'
            by_cases hkc : k < x + c
            · have t5 : (k : Int) < (x : Int) + (c : Int) := by omega
              have hof := HB.out k hk1 hkc
              have OF := Lib.hid (fun w hr => by have := of_any G (k : Int) (.slice (some ⟨g, o, none⟩) G.length gcap) w hr (by rw [HGN.out]; omega) (by omega) k3; rwa [hof] at this)
              rw [HGN.out] at OF
              clear hof
              go_wp2_with fail
              refine (OF.out _ (HR3.out.ext hE)).mono ?_; rintro e w6 ⟨rfl, hx6⟩
              have hE6 := hE.trans hx6
              clear c0 c1' hE hx6
              have bi : ((i : Int) != (i : Int)) = false := by simp
              go_wp2
              go_roundw
              case rel => exact ⟨k + 1, by omega, by omega, by go_num, hE6⟩
              case measure => simp [intOf]; omega
            · have t5 : ¬ (k : Int) < (x : Int) + (c : Int) := by omega
              clear hkc
              go_wp2
              go_roundw
              case rel => exact ⟨i + 1, x + c, by omega, by go_num, by go_num, by omega, HNX.out, hE⟩
              case measure => simp [intOf]; omega
    · have hin : i = gn := by omega
      have hx9 : (x : Int) = (n : Int) := by
        have := HK.out.2
        rw [hin, List.drop_eq_nil_of_le (by rw [HGN.out]; exact Nat.le_refl _)] at this
        exact this
      have hxx : x = n := by omega
      have hi' : ¬ (i : Int) < (gn : Int) := by omega
      have HOF := Lib.hid (chain_of_none (x := (n : Int)) HCH.out (Int.le_refl _) 0)
      clear hlt hin hx9 HK hxn
      subst hxx
      have EZ := E3.trans hE
      go_wp2_with fail
      refine (c2.out _ _ (HF3.out.ext hE)).mono ?_; rintro e w6 ⟨u6, x6, rfl, hx6, hr6, he6⟩
      obtain rfl : x6 = .nilIface := he6
      obtain ⟨a6, k6, rfl⟩ := hr6.form
      rw [HG2.out]
      have E6 := EZ.trans hx6
      have HR6 := Lib.hid (HR3.out.ext (hE.trans hx6))
      clear hr6 hx6 EZ hE
      go_wp2_with fail
      refine (first16_any _ (hg.ext E6)).mono ?_; rintro e w7 ⟨rfl, hx7⟩
      have E7 := E6.trans hx7
      have OF := Lib.hid (by have := of_any G (x : Int) (.slice (some ⟨g, o, none⟩) G.length gcap) w7 (by rw [HGN.out]; exact HR6.out.ext hx7) (by rw [HGN.out]; omega) (by omega) k3; rwa [HOF.out] at this)
      rw [HGN.out] at OF
      have bx : ((x : Int) == (x : Int)) = true := by simp
      obtain ⟨S, hS⟩ : ∃ S, S = x + gp - 1 := ⟨_, rfl⟩
      have e1 : IntKind.i64.wrap ((x : Int) + (gp : Int)) = (x : Int) + (gp : Int) := by rw [IntKind.wrap_i64]; omega
      have e2 : IntKind.i64.wrap ((x : Int) + (gp : Int) - 1) = (S : Int) := by rw [IntKind.wrap_i64]; omega
      have hq3 := HQ3.out
      rw [← hS] at hq3
      have e3 : Int.tdiv (S : Int) (gp : Int) = (q2 : Int) := by rw [hq3]; exact Int.ofNat_tdiv S gp
      have e4 : (S : Int) / (gp : Int) = (q2 : Int) := by rw [hq3]; exact Int.natCast_ediv S gp
      have e5 : IntKind.i64.wrap (q2 : Int) = (q2 : Int) := by rw [IntKind.wrap_i64]; omega
      have e6 : ¬ gp = 0 := by omega
      have e7 : ((q2 : Int) == (q2 : Int)) = true := by simp
      have e8 : (q2 : Int) ≤ (gn : Int) := by omega
      clear hS hq3 HQ3 HOF hx7 E6
      go_wp2_with fail
      refine OF.out.mono ?_; rintro e w8 ⟨rfl, hx8⟩
      go_wp2
      go_ret
      exact ⟨rfl, E7.trans hx8⟩
set_option maxHeartbeats 2000000 in
set_option maxRecDepth 20000 in
theorem once_law (L : List Fr) (cut gop : Int) (v : Value) (w : World) (hg : EtIs w) (h : Fms w v L) :
    Calls Tryd.prog 10 #[v, .int .i64 cut, .int .i64 gop] w fun e w' => e = .returned (.bool true) ∧ Ext w w' := by
  obtain ⟨a, cap, rfl⟩ := h.form
  cases hp : pixB L with
  | false =>
    have HF := Lib.hid h
    clear h
    go_enter Tryd.func10, Tryd.ntmps10
    go_wp2_with fail
    refine (first16_any _ (hg.ext (by repeat (first | exact Ext.refl _ | assumption | refine Ext.alloc ?_ _ | refine Ext.drew ?_ | refine Ext.drewN ?_ _ | refine Ext.setCell ?_ (by first | exact Nat.le_refl _ | (simp; done) | omega) _ | refine Ext.trans ?_ (by assumption))))).mono ?_; rintro e w1 ⟨rfl, hx1⟩
    go_wp2_with fail
    refine (pix_all L _ _ (HF.out.ext (by repeat (first | exact Ext.refl _ | assumption | refine Ext.alloc ?_ _ | refine Ext.drew ?_ | refine Ext.drewN ?_ _ | refine Ext.setCell ?_ (by first | exact Nat.le_refl _ | (simp; done) | omega) _ | refine Ext.trans ?_ (by assumption))))).mono ?_; rintro e w2 ⟨rfl, hx2⟩
    have E2 := hx1.trans hx2
    clear hx1 hx2
    rw [hp]
    go_wp2_with fail
    refine (first16_any _ (hg.ext E2)).mono ?_; rintro e w9 ⟨rfl, hx9⟩
    go_wp2
    go_ret
    exact ⟨rfl, E2.trans hx9⟩
  | true =>
    obtain ⟨n, hn⟩ : ∃ n, n = L.length := ⟨_, rfl⟩
    rw [← hn] at h ⊢
    have hsm := pix_small hp
    have d1 := fun v w (k : Fms w v L) => groups_any L cut gop v w k hsm
    have d2 := fun v w (k : Fms w v L) => groups_any L 16320 gop v w k hsm
    cases hf : grpAns L cut gop with
    | some f =>
      have hv : grpV L cut gop = [] := by unfold grpV; rw [hf]
      rw [hf, hv] at d1
      exact once_no L cut gop f a n cap w hg h hp d1
    | none =>
      have hv : grpV L cut gop = grpL L cut gop n := by unfold grpV; rw [hf, hn]
      have hall : 0 ≤ cut ∧ cut ≤ 16320 ∧ 1 ≤ gop ∧ gop ≤ 16 ∧ 1 ≤ n ∧ n ≤ 16 ∧ grpF L n = none := by
        have hc := hf
        unfold grpAns range form at hc
        split at hc
        · cases hc
        · split at hc
          · cases hc
          · rw [← hn] at hc
            exact ⟨by omega, by omega, by omega, by omega, by omega, by omega, hc⟩
      obtain ⟨v1, v2, v3, v4, v5, v6, v7⟩ := hall
      have hf2 : grpAns L 16320 gop = none := by
        unfold grpAns
        rw [if_neg (by omega), if_neg (by omega), ← hn]
        exact v7
      have hv2 : grpV L 16320 gop = grpL L 16320 gop n := by unfold grpV; rw [hf2, hn]
      rw [hf, hv] at d1
      rw [hf2, hv2] at d2
      obtain ⟨m, rfl⟩ : ∃ m, n = m + 1 := ⟨n - 1, by omega⟩
      obtain ⟨gp, rfl⟩ : ∃ gp : Nat, gop = (gp : Int) := ⟨gop.toNat, by omega⟩
      obtain ⟨i1, i2, i3⟩ := grp_inv2 L cut gp v1 v3 m
      have hb := grpS_bound L cut gp (m + 1)
      have hlen : (grpL L cut gp (m + 1)).length = (grpS L cut gp (m + 1)).1.length + 1 := by unfold grpL; rw [List.length_append]; rfl
      have hfull := (full_len L gp (by omega) m).1
      have hch := full_chN (m + 1) gp (by omega) (by omega)
      rw [Nat.add_sub_cancel] at hch
      have hsum := chain_sum i1 i2
      have hle : (grpL L 16320 gp (m + 1)).length ≤ (grpL L cut gp (m + 1)).length := by
        rw [hfull, hch]
        have h1 := (chN_lt (n := m + 1) (gop := gp) (q := (grpL L cut gp (m + 1)).length) (by omega))
        have h2 : ¬ (grpL L cut gp (m + 1)).length * gp < m + 1 := by
          intro h
          have e : (gp : Int) * ((grpL L cut gp (m + 1)).length : Int) = (((grpL L cut gp (m + 1)).length * gp : Nat) : Int) := by push_cast; rw [Int.mul_comm]
          rw [e] at hsum
          omega
        omega
      exact once_ok L cut gp (grpL L cut gp (m + 1)) (grpL L 16320 gp (m + 1)) (m + 1) cap a w hg h hp ⟨v5, v6⟩ ⟨by omega, by omega⟩ _ rfl (by rw [hlen]; omega) hsm d1 d2 (fun i hi => grpF_none v7 hi) i1 i2 i3
        (fun q p hq => by
          have := (chain_mem i1).2 p (List.mem_of_getElem? hq)
          unfold small
          omega) _ rfl hle (by rw [hfull, hch]; rfl)
end Go.Proofs.YtmhbmegmlpenkaaDoor
