/- Contracts of this seat: RGr, Sg. -/
import Derived.Test.YtmhbmegmlpenkaaDoorZd
import Derived.Deep.RegionWith
import Derived.Deep.CutRange
/- kinref16.Groups: its contract over this seat's translation. -/
namespace Go.Proofs.YtmhbmegmlpenkaaDoor
set_option linter.unusedVariables false
set_option linter.unusedSimpArgs false
open Go.RowKit Go.Extern.Stop Go.Stop Go.Extern

def RGPost (w : World) (G : List (Int × Int)) (f : Fall) (e : Ending) (w' : World) : Prop := ∃ u c a m k, e = .returned (.tuple #[u, .agg #[.int .i64 c, .slice a m k]]) ∧ Ext w w' ∧ Row w' u G.length (gcells G) ∧ RErrIs w' f c (.slice a m k)
set_option maxRecDepth 20000 in
set_option maxHeartbeats 1000000 in
theorem rgroups_bad (L : List Fr) (cut gop : Int) (a : Option Addr) (n cap : Nat) (w : World) (h : Fms w (.slice a n cap) L) (hb : (cut < 0 ∨ 16320 < cut ∨ gop < 1 ∨ 16 < gop) ∨ n = 0 ∨ 16 < n) :
    Calls Tryd.prog 37 #[.slice a n cap, .int .i64 cut, .int .i64 gop] w (RGPost w (grpV L cut gop) (grpAns L cut gop)) := by
  have hn := h.len
  by_cases hc : cut < 0 ∨ 16320 < cut ∨ gop < 1 ∨ 16 < gop
  · have hr : grpAns L cut gop = range := by unfold grpAns; rw [if_pos hc]
    have HR := Lib.hid hr
    have HV : Hid (grpV L cut gop = []) := by show _ = _; unfold grpV; rw [hr]; rfl
    clear hb hr hn h
    by_cases c1 : cut < 0
    · clear hc
      have RV := ResAt.new w
      have E0 : Ext w (w.alloc (.cells #[.int .i64 0, .slice none 0 0] 41)) := (Ext.refl w).alloc _
      go_enter Tryd.func37, Tryd.ntmps37
      go_wp2_with fail
      revert RV E0
      generalize w.alloc (.cells #[.int .i64 0, .slice none 0 0] 41) = w0
      intro RV E0
      refine (fail_any 3 _).mono ?_; rintro e w9 ⟨rfl, hx9⟩
      obtain ⟨r0, r1, f0, f1⟩ := RV.ext hx9
      have E9 := E0.trans hx9
      clear RV E0 hx9
      go_wp2
      obtain ⟨e0, e1⟩ := res_cells (c := 3) r0 r1 (.slice none 0 0)
      exact bodyPost_ret (v := .tuple #[.slice none 0 0, .agg #[.int .i64 3, .slice none 0 0]]) (by simp [results, Tryd.results37, go_sem, e0, e1]) rfl ⟨_, _, _, _, _, rfl, (E9.setCell (p := ⟨w.heap.size, 0, none⟩) (Nat.le_refl _) _).setCell (p := ⟨w.heap.size, 1, none⟩) (Nat.le_refl _) _, by rw [HV.out]; exact Row.nil _, by rw [HR.out]; exact RErrIs.code (by decide)⟩
    · by_cases c2 : 16320 < cut
      · clear hc
        have RV := ResAt.new w
        have E0 : Ext w (w.alloc (.cells #[.int .i64 0, .slice none 0 0] 41)) := (Ext.refl w).alloc _
        go_enter Tryd.func37, Tryd.ntmps37
        go_wp2_with fail
        revert RV E0
        generalize w.alloc (.cells #[.int .i64 0, .slice none 0 0] 41) = w0
        intro RV E0
        refine (fail_any 3 _).mono ?_; rintro e w9 ⟨rfl, hx9⟩
        obtain ⟨r0, r1, f0, f1⟩ := RV.ext hx9
        have E9 := E0.trans hx9
        clear RV E0 hx9
        go_wp2
        obtain ⟨e0, e1⟩ := res_cells (c := 3) r0 r1 (.slice none 0 0)
        exact bodyPost_ret (v := .tuple #[.slice none 0 0, .agg #[.int .i64 3, .slice none 0 0]]) (by simp [results, Tryd.results37, go_sem, e0, e1]) rfl ⟨_, _, _, _, _, rfl, (E9.setCell (p := ⟨w.heap.size, 0, none⟩) (Nat.le_refl _) _).setCell (p := ⟨w.heap.size, 1, none⟩) (Nat.le_refl _) _, by rw [HV.out]; exact Row.nil _, by rw [HR.out]; exact RErrIs.code (by decide)⟩
      · by_cases c3 : gop < 1
        · clear hc
          have RV := ResAt.new w
          have E0 : Ext w (w.alloc (.cells #[.int .i64 0, .slice none 0 0] 41)) := (Ext.refl w).alloc _
          go_enter Tryd.func37, Tryd.ntmps37
          go_wp2_with fail
          revert RV E0
          generalize w.alloc (.cells #[.int .i64 0, .slice none 0 0] 41) = w0
          intro RV E0
          refine (fail_any 3 _).mono ?_; rintro e w9 ⟨rfl, hx9⟩
          obtain ⟨r0, r1, f0, f1⟩ := RV.ext hx9
          have E9 := E0.trans hx9
          clear RV E0 hx9
          go_wp2
          obtain ⟨e0, e1⟩ := res_cells (c := 3) r0 r1 (.slice none 0 0)
          exact bodyPost_ret (v := .tuple #[.slice none 0 0, .agg #[.int .i64 3, .slice none 0 0]]) (by simp [results, Tryd.results37, go_sem, e0, e1]) rfl ⟨_, _, _, _, _, rfl, (E9.setCell (p := ⟨w.heap.size, 0, none⟩) (Nat.le_refl _) _).setCell (p := ⟨w.heap.size, 1, none⟩) (Nat.le_refl _) _, by rw [HV.out]; exact Row.nil _, by rw [HR.out]; exact RErrIs.code (by decide)⟩
        · have c4 : 16 < gop := by omega
          clear hc
          have RV := ResAt.new w
          have E0 : Ext w (w.alloc (.cells #[.int .i64 0, .slice none 0 0] 41)) := (Ext.refl w).alloc _
          go_enter Tryd.func37, Tryd.ntmps37
          go_wp2_with fail
          revert RV E0
          generalize w.alloc (.cells #[.int .i64 0, .slice none 0 0] 41) = w0
          intro RV E0
          refine (fail_any 3 _).mono ?_; rintro e w9 ⟨rfl, hx9⟩
          obtain ⟨r0, r1, f0, f1⟩ := RV.ext hx9
          have E9 := E0.trans hx9
          clear RV E0 hx9
          go_wp2
          obtain ⟨e0, e1⟩ := res_cells (c := 3) r0 r1 (.slice none 0 0)
          exact bodyPost_ret (v := .tuple #[.slice none 0 0, .agg #[.int .i64 3, .slice none 0 0]]) (by simp [results, Tryd.results37, go_sem, e0, e1]) rfl ⟨_, _, _, _, _, rfl, (E9.setCell (p := ⟨w.heap.size, 0, none⟩) (Nat.le_refl _) _).setCell (p := ⟨w.heap.size, 1, none⟩) (Nat.le_refl _) _, by rw [HV.out]; exact Row.nil _, by rw [HR.out]; exact RErrIs.code (by decide)⟩
  · have hb2 : n = 0 ∨ 16 < n := by
      rcases hb with hb | hb
      · exact absurd hb hc
      · exact hb
    have hr : grpAns L cut gop = form := by unfold grpAns; rw [if_neg hc, if_pos (by omega)]
    have HR := Lib.hid hr
    have HV : Hid (grpV L cut gop = []) := by show _ = _; unfold grpV; rw [hr]; rfl
    have c1 : ¬ cut < 0 := by omega
    have c2 : ¬ 16320 < cut := by omega
    have c3 : ¬ gop < 1 := by omega
    have c4 : ¬ 16 < gop := by omega
    clear hb hr hn h hc
    by_cases n0 : n = 0
    · subst n0
      clear hb2
      have RV := ResAt.new w
      have E0 : Ext w (w.alloc (.cells #[.int .i64 0, .slice none 0 0] 41)) := (Ext.refl w).alloc _
      go_enter Tryd.func37, Tryd.ntmps37
      go_wp2_with fail
      revert RV E0
      generalize w.alloc (.cells #[.int .i64 0, .slice none 0 0] 41) = w0
      intro RV E0
      refine (fail_any 2 _).mono ?_; rintro e w9 ⟨rfl, hx9⟩
      obtain ⟨r0, r1, f0, f1⟩ := RV.ext hx9
      have E9 := E0.trans hx9
      clear RV E0 hx9
      go_wp2
      obtain ⟨e0, e1⟩ := res_cells (c := 2) r0 r1 (.slice none 0 0)
      exact bodyPost_ret (v := .tuple #[.slice none 0 0, .agg #[.int .i64 2, .slice none 0 0]]) (by simp [results, Tryd.results37, go_sem, e0, e1]) rfl ⟨_, _, _, _, _, rfl, (E9.setCell (p := ⟨w.heap.size, 0, none⟩) (Nat.le_refl _) _).setCell (p := ⟨w.heap.size, 1, none⟩) (Nat.le_refl _) _, by rw [HV.out]; exact Row.nil _, by rw [HR.out]; exact RErrIs.code (by decide)⟩
    · have n1 : (16 : Int) < (n : Int) := by omega
      have n2 : ((n : Int) == 0) = false := by simp; omega
      clear hb2 n0
      have RV := ResAt.new w
      have E0 : Ext w (w.alloc (.cells #[.int .i64 0, .slice none 0 0] 41)) := (Ext.refl w).alloc _
      go_enter Tryd.func37, Tryd.ntmps37
      go_wp2_with fail
      revert RV E0
      generalize w.alloc (.cells #[.int .i64 0, .slice none 0 0] 41) = w0
      intro RV E0
      refine (fail_any 2 _).mono ?_; rintro e w9 ⟨rfl, hx9⟩
      obtain ⟨r0, r1, f0, f1⟩ := RV.ext hx9
      have E9 := E0.trans hx9
      clear RV E0 hx9
      go_wp2
      obtain ⟨e0, e1⟩ := res_cells (c := 2) r0 r1 (.slice none 0 0)
      exact bodyPost_ret (v := .tuple #[.slice none 0 0, .agg #[.int .i64 2, .slice none 0 0]]) (by simp [results, Tryd.results37, go_sem, e0, e1]) rfl ⟨_, _, _, _, _, rfl, (E9.setCell (p := ⟨w.heap.size, 0, none⟩) (Nat.le_refl _) _).setCell (p := ⟨w.heap.size, 1, none⟩) (Nat.le_refl _) _, by rw [HV.out]; exact Row.nil _, by rw [HR.out]; exact RErrIs.code (by decide)⟩
theorem an_err {L : List Fr} {k : Nat} {w w' : World} {c : Int} {v : Value} (h : RErrIs w (ansAt L k) c v) : RErrIs w' (ansAt L k) c v := by
  cases hw : ansAt L k with
  | none => rw [hw] at h; exact h
  | some f =>
    obtain ⟨pe, cd⟩ := f
    have hpe : pe = [] := frAns_path hw
    subst hpe
    rw [hw] at h
    exact ⟨h.1, h.2.1, Row.zero h.2.2⟩
theorem grpL_one {L : List Fr} {cut gop : Int} (hc : 0 ≤ cut) (hg : 1 ≤ gop) : grpL L cut gop 1 = [(0, 1)] := by
  have hu : unlAt L 0 = 0 := unlV_self _ _ _
  unfold grpL grpS
  rw [hu, if_neg (by simp only [grpS]; omega)]
  rfl
set_option maxRecDepth 20000 in
set_option maxHeartbeats 8000000 in
theorem rgroups_good (L : List Fr) (cut gop : Int) (a : Option Addr) (n cap : Nat) (w : World) (h : Fms w (.slice a n cap) L) (hsm : Hid (∀ (q : Nat) (f : Fr), L[q]? = some f → f.2.2.length ≤ 1000000)) (hc : 0 ≤ cut ∧ cut ≤ 16320) (hgp : 1 ≤ gop ∧ gop ≤ 16) (hn : 1 ≤ n ∧ n ≤ 16) :
    Calls Tryd.prog 37 #[.slice a n cap, .int .i64 cut, .int .i64 gop] w (RGPost w (grpV L cut gop) (grpAns L cut gop)) := by
  obtain ⟨i0, hi, hz0, hz1, hz2⟩ := info_parts infoGrp
  have hnl := h.len
  have HA : Hid (grpAns L cut gop = grpF L n) := by show _ = _; unfold grpAns; rw [if_neg (by omega), if_neg (by omega), hnl]
  have HN := Lib.hid hnl
  obtain ⟨g0, off, rfl⟩ := h.had (by omega)
  have HF := Lib.hid h
  obtain ⟨hc1, hc2⟩ := hc
  obtain ⟨hg1, hg2⟩ := hgp
  obtain ⟨hn1, hn2⟩ := hn
  have n2 : ((n : Int) == 0) = false := by simp; omega
  have r1 := mx2
  have RV := ResAt.new w
  have E0 : Ext w (w.alloc (.cells #[.int .i64 0, .slice none 0 0] 41)) := (Ext.refl w).alloc _
  have hS0 : w.heap.size + 1 ≤ (w.alloc (.cells #[.int .i64 0, .slice none 0 0] 41)).heap.size := by simp
  clear h hnl
  go_enter Tryd.func37, Tryd.ntmps37
  go_wp2_with fail
  go_loopw [8, 9] (fun gv iv wr => ∃ (k q : Nat) (a : Option Addr) (cap : Nat) (G : List (Int × Int)), k ≤ n ∧ iv = .int .i64 k ∧ gv = .slice a q cap ∧ Hid (wr.ownsRow (w.heap.size + 1) 69 2 (.slice a q cap) q (gcells G)) ∧ Hid (G.length = q ∧ grpF L k = none ∧ (k = 0 ∧ G = [] ∨ 1 ≤ k ∧ G = grpL L cut gop k)) ∧ q ≤ k ∧ Ext w wr ∧ Hid (ResAt wr w.heap.size) ∧ w.heap.size + 1 ≤ wr.heap.size) (fun _ iv _ => n - (intOf iv).toNat)
  case atStart => exact ⟨0, 0, none, 0, [], Nat.zero_le _, rfl, rfl, World.ownsRow_nil _ _ _ _, ⟨rfl, rfl, Or.inl ⟨rfl, rfl⟩⟩, Nat.le_refl _, E0, RV, hS0⟩
  case round =>
    clear RV E0 hS0
    obtain ⟨k, q, ga, gcap, G, hk, rfl, rfl, HO, HK, hq, hE, HRV, hS⟩ := hrel
    by_cases hlt : k < n
    · obtain ⟨f, hf⟩ : ∃ f, L[k]? = some f := ⟨_, List.getElem?_eq_getElem (by rw [← HN.out]; exact hlt)⟩
      obtain ⟨p, hp⟩ : ∃ p, L[k - 1]? = some p := ⟨_, List.getElem?_eq_getElem (by rw [← HN.out]; omega)⟩
      have hfd : frD L k = f := by unfold frD; rw [List.getD, hf]; rfl
      have hpd : frD L (k - 1) = p := by unfold frD; rw [List.getD, hp]; rfl
      have HAN : Hid (ansAt L k = frAns p.1 p.2.1 p.2.2 f.1 f.2.1 f.2.2) := by show _ = _; unfold ansAt; rw [hfd, hpd]
      have HUN : Hid (unlAt L k = unlV p.1 p.2.1 p.2.2 f.1 f.2.1 f.2.2) := by show _ = _; unfold unlAt; rw [hfd, hpd]
      obtain ⟨fa, fn, fc, p0, p1, p2, p3⟩ := (HF.out.at hf).ext hE
      obtain ⟨pa, pn, pc, q0, q1, q2, q3⟩ := (HF.out.at hp).ext hE
      have HC4 : Hid (Ints wr (.slice fa fn fc) f.2.2) := ⟨p3, Nat.le_trans (hsm.out _ _ hf) (by decide)⟩
      have HP4 : Hid (Ints wr (.slice pa pn pc) p.2.2) := ⟨q3, Nat.le_trans (hsm.out _ _ hp) (by decide)⟩
      have U := Lib.hid (fun w h k => runlike_any p.1 p.2.1 f.1 f.2.1 p.2.2 f.2.2 pa fa pn fn pc fc w h k)
      clear hf hp hfd hpd p3 q3
      obtain ⟨P, hP⟩ : ∃ P, P = k - 1 := ⟨_, rfl⟩
      have t1 : max ((k : Int) - 1) 0 = (P : Int) := by omega
      have t2 : IntKind.i64.wrap ((k : Int) - 1) = (k : Int) - 1 := by rw [IntKind.wrap_i64]; omega
      have t3 : (0 : Int) ≤ (P : Int) ∧ (P : Int) < (n : Int) := by omega
      have t4 : (0 : Int) ≤ (k : Int) ∧ (k : Int) < (n : Int) := by omega
      rw [← hP] at q0 q1 q2
      clear hP
      have AB : Ext wr (wr.alloc (.cells #[.int .i64 0, .slice none 0 0] 41)) := (Ext.refl wr).alloc _
      have hED : Ext wr (wr.alloc (.cells #[.int .i64 0, .slice none 0 0] 41)).drew := AB.drew
      have P0 := AB.cell p0
      have P1 := AB.cell p1
      have P2 := AB.cell p2
      have Q0 := AB.cell q0
      have Q1 := AB.cell q1
      have Q2 := AB.cell q2
      have EN : Hid (EAt (wr.alloc (.cells #[.int .i64 0, .slice none 0 0] 41)).drew wr.heap.size 0 (.slice none 0 0)) := (EAt.new wr 0 (.slice none 0 0) rfl).ext (Ext.refl _).drew
      have UU := Lib.hid (U.out _ (HP4.out.ext hED) (HC4.out.ext hED))
      have HED := Lib.hid hED
      have hD0 : Ext wr wr.drew := (Ext.refl wr).drew
      have UW := Lib.hid (U.out _ (HP4.out.ext hD0) (HC4.out.ext hD0))
      have HD0 := Lib.hid hD0
      clear AB hED hD0
      obtain ⟨u0, hu0⟩ : ∃ u0, u0 = unlV p.1 p.2.1 p.2.2 f.1 f.2.1 f.2.2 := ⟨_, rfl⟩
      rw [← hu0] at UU UW HUN
      rw [← HAN.out] at UU UW
      clear hu0 U HC4 HP4
      go_wp2_with fail
      go_cut [10, 11] from 43 to 56 (fun s10 s11 wx => ∃ (B : Nat) (ce : Int) (ea : Option Addr) (em ek : Nat), s10 = .int .i64 u0 ∧ s11 = .pointer (some ⟨B, 0, none⟩) ∧ Hid (EAt wx B ce (.slice ea em ek)) ∧ Hid (RErrIs wx (ansAt L k) ce (.slice ea em ek)) ∧ Hid (wx.ownsRow (w.heap.size + 1) 69 2 (.slice ga q gcap) q (gcells G)) ∧ Ext w wx ∧ Hid (ResAt wx w.heap.size) ∧ w.heap.size + 1 ≤ wx.heap.size)
      case first =>
        go_region_law (go_simp; go_at_call 74; (first | (refine UW.out.mono ?_; rintro e w5 ⟨ce, ea, em, ek, rfl, hx5, hex⟩; have EZ := Lib.hid (HD0.out.trans hx5)) | (refine UU.out.mono ?_; rintro e w5 ⟨ce, ea, em, ek, rfl, hx5, hex⟩; have EZ := Lib.hid (HED.out.trans hx5); have EB := Lib.hid (EN.out.ext hx5); obtain ⟨⟨b0, b1, b2, b3⟩, -⟩ := EB.out)))
        all_goals go_wp2_with fail
        all_goals go_meet
        all_goals
          first
            | exact ⟨w5.heap.size, ce, ea, em, ek, rfl, rfl, EAt.new w5 ce (.slice ea em ek) rfl, an_err hex, own_ext HO.out (EZ.out.alloc _), (hE.trans EZ.out).alloc _, HRV.out.ext (EZ.out.alloc _), Nat.le_trans hS (EZ.out.alloc _).size⟩
            | exact ⟨wr.heap.size, ce, ea, em, ek, rfl, rfl, EB.out.set ce (.slice ea em ek), an_err hex, EB.out.own (own_ext HO.out EZ.out) (by decide) ce (.slice ea em ek),
                ((hE.trans EZ.out).setCell (p := ⟨wr.heap.size, 0, none⟩) (Nat.le_of_succ_le hS) _).setCell (p := ⟨wr.heap.size, 1, none⟩) (Nat.le_of_succ_le hS) _,
                (HRV.out.ext EZ.out).under (((Below.refl (w.heap.size + 1) w5).setCell (p := ⟨wr.heap.size, 0, none⟩) hS _).setCell (p := ⟨wr.heap.size, 1, none⟩) hS _) (Nat.lt_succ_self _), by simp; exact Nat.le_trans hS EZ.out.size⟩
      case rest =>
        clear HO hE HRV hS EN UU HED UW HD0 P0 P1 P2 Q0 Q1 Q2 p0 p1 p2 q0 q1 q2 t1 t2 t3
        obtain ⟨B, ce, ea, em, ek, rfl, rfl, HEA, HRE, HO, hE, HRV, hS⟩ := hcut
        obtain ⟨⟨s0, s1, -, -⟩, -⟩ := HEA.out
        cases ha : ansAt L k with
        | some e0 =>
          obtain ⟨pe, cd⟩ := e0
          have hpe : pe = [] := frAns_path ha
          subst hpe
          rw [ha] at HRE
          obtain ⟨hce, hcd, hrow⟩ := HRE.out
          subst hce
          have hc0 : (ce == 0) = false := by simpa using hcd
          have HR : Hid (grpAns L cut gop = some ((scn, (k : Int)) :: [], ce)) := HA.out.trans (grpF_at HK.out.2.1 ha hlt)
          have HV : Hid (grpV L cut gop = []) := by show _ = _; unfold grpV; rw [HR.out]
          have HX := Lib.hid hrow
          have HCD := Lib.hid hcd
          clear ha hrow hcd HRE HO
          go_wp2_with fail
          refine (ok_any ce _ _).mono ?_; rintro e wA ⟨rfl, hxA⟩
          rw [hc0]
          have t0 := hxA.cell s0
          have t1 := hxA.cell s1
          have HX' := Lib.hid (HX.out.ext hxA)
          have RA := Lib.hid (HRV.out.ext hxA)
          have EA := hE.trans hxA
          have hSA : w.heap.size < wA.heap.size := Nat.lt_of_lt_of_le hS hxA.size
          clear s0 s1 hxA HX HRV hE HEA
          go_wp2_with fail
          refine (refIn_err scn (k : Int) ce _ [] _ HX'.out HCD.out (by decide)).mono ?_; rintro e w6 ⟨u6, rfl, ho6, hx6⟩
          obtain ⟨gu, gcap, rfl⟩ := own_addr2 ho6 (by omega)
          have HO6 := Lib.hid ho6
          obtain ⟨r0, r1, f0, f1⟩ := RA.out.ext hx6
          have E6 := EA.trans hx6
          clear t0 t1 ho6 hx6
          go_wp2
          obtain ⟨e0, e1⟩ := res_cells (c := ce) r0 r1 (.slice (some ⟨gu, 0, none⟩) 1 gcap)
          exact bodyPost_ret (v := .tuple #[.slice none 0 0, .agg #[.int .i64 ce, .slice (some ⟨gu, 0, none⟩) 1 gcap]]) (by simp [results, Tryd.results37, go_sem, e0, e1]) rfl ⟨_, _, _, _, _, rfl, (E6.setCell (p := ⟨w.heap.size, 0, none⟩) (Nat.le_refl _) _).setCell (p := ⟨w.heap.size, 1, none⟩) (Nat.le_refl _) _, by rw [HV.out]; exact Row.nil _, by rw [HR.out]; exact ⟨rfl, HCD.out, Row.of_owns (own_setCell_lt (own_setCell_lt HO6.out _ hSA) _ hSA)⟩⟩
        | none =>
          rw [ha] at HRE
          obtain ⟨rfl, hv⟩ := HRE.out
          simp only [Value.slice.injEq] at hv
          obtain ⟨rfl, rfl, rfl⟩ := hv
          have HFN := Lib.hid (grpF_next HK.out.2.1 ha)
          clear ha HRE
          go_wp2_with fail
          refine (ok_any 0 _ _).mono ?_; rintro e wA ⟨rfl, hxA⟩
          rw [show ((0 : Int) == 0) = true from rfl]
          have EA := hE.trans hxA
          have RA := Lib.hid (HRV.out.ext hxA)
          have HOA := Lib.hid (own_ext HO.out hxA)
          have hSA : w.heap.size + 1 ≤ wA.heap.size := Nat.le_trans hS hxA.size
          clear s0 s1 hxA HRV HO hE hS HEA
          rcases Nat.eq_zero_or_pos k with hk0 | hk1
          · have hG : G = [] := by
              rcases HK.out.2.2 with h | h
              · exact h.2
              · omega
            have hq0 : q = 0 := by rw [← HK.out.1, hG]; rfl
            have hke : ((k : Nat) : Int) = 0 := by omega
            have HNX : Hid ((G ++ [((k : Int), 1)]).length = q + 1 ∧ grpF L (k + 1) = none ∧ (k + 1 = 0 ∧ G ++ [((k : Int), 1)] = [] ∨ 1 ≤ k + 1 ∧ G ++ [((k : Int), 1)] = grpL L cut gop (k + 1))) := by
              refine ⟨by rw [hG, hq0]; rfl, HFN.out, Or.inr ⟨by omega, ?_⟩⟩
              rw [hke, hk0, hG]
              exact (grpL_one hc1 hg1).symm
            have i6 : IntKind.i64.wrap ((q : Int) - 1) = -1 := by rw [hq0]; decide
            clear HFN hG hke hk0 HUN hq0
            have A6 : Ext wA (wA.alloc (.cells #[.int .i64 (k : Int), .int .i64 1] 69)) := (Ext.refl wA).alloc _
            have HLR : Hid (Row (wA.alloc (.cells #[.int .i64 (k : Int), .int .i64 1] 69)) (.slice (some ⟨wA.heap.size, 0, none⟩) 1 1) 1 [.int .i64 (k : Int), .int .i64 1]) :=
              Row.of_owns (World.ownsRow_lit (e := 69) (base := wA.heap.size) (size := 2) wA #[.int .i64 (k : Int), .int .i64 1] 1 (Nat.le_refl _) (by unfold maxLen; omega) rfl)
            have HO6 := Lib.hid (own_ext HOA.out A6)
            have R6 := Lib.hid (RA.out.ext A6)
            have E6 := EA.trans A6
            have hS6 : w.heap.size + 1 ≤ (wA.alloc (.cells #[.int .i64 (k : Int), .int .i64 1] 69)).heap.size := Nat.le_trans hSA A6.size
            clear A6
            go_wp2_with (at_builtin; refine append_row rfl _ _ 60 rfl 69 i0 _ 2 16 Tryd.underlying60 hi hz0 hz1 hz2 rfl (by decide) _ q _ rfl HO6.out (.slice (some ⟨wA.heap.size, 0, none⟩) 1 1) 1 [.int .i64 (k : Int), .int .i64 1] rfl HLR.out rfl (by intro x hx; simp only [List.mem_cons, List.not_mem_nil, or_false] at hx; rcases hx with rfl | rfl <;> rfl) hS6 (by unfold maxLen; omega) (by omega) ?_; intro v' w8 h1 h2 _; have h4 : w8.ownsRow (w.heap.size + 1) 69 2 v' (q + 1) (gcells (G ++ [((k : Int), 1)])) := (by rw [gcells_snoc]; exact h1); clear h1; obtain ⟨g', cap', rfl⟩ := own_addr2 h4 (by omega); have HOW := Lib.hid h4; have E8 : Ext w w8 := E6.of_below h2 (Nat.le_succ _); have R8 := Lib.hid (R6.out.under h2 (Nat.lt_succ_self _)); have S8 := Nat.le_trans hS6 h2.size; clear h2 h4)
            go_roundw
            case rel => exact ⟨k + 1, q + 1, some ⟨g', 0, none⟩, cap', G ++ [((k : Int), 1)], by omega, by go_num, rfl, HOW.out, HNX.out, by omega, E8, R8.out, S8⟩
            case measure => simp [intOf]; omega
          · have hG : G = grpL L cut gop k := by
              rcases HK.out.2.2 with h | h
              · omega
              · exact h.2
            obtain ⟨⟨I, F, C⟩, hS⟩ : ∃ S, S = grpS L cut gop k := ⟨_, rfl⟩
            have hGI : G = I ++ [(F, C)] := by rw [hG]; unfold grpL; rw [← hS]
            have hcb := grpS_bound L cut gop k
            rw [← hS] at hcb
            obtain ⟨gq, hgq⟩ : ∃ gq, gq = I.length := ⟨_, rfl⟩
            have hqq : q = gq + 1 := by rw [← HK.out.1, hGI, List.length_append, hgq]; rfl
            have hci := gcells_at I F C
            rw [← hgq, ← hGI] at hci
            have hO' := HOA.out
            obtain ⟨gg, gc2, hgg⟩ := own_addr2 hO' (by omega)
            simp only [Value.slice.injEq, true_and] at hgg
            obtain ⟨rfl, rfl⟩ := hgg
            obtain ⟨cC, zC⟩ := own2_cell hO' hci.2
            have i6 : IntKind.i64.wrap ((q : Int) - 1) = (gq : Int) := by rw [IntKind.wrap_i64]; omega
            have i7 : (0 : Int) ≤ (gq : Int) ∧ (gq : Int) < (q : Int) := by omega
            have HSS := Lib.hid hS
            have HGI := Lib.hid hGI
            have HGQ := Lib.hid hgq
            have hqq2 : q ≤ k := hq
            have hb3 : 0 ≤ C ∧ C ≤ (k : Int) := hcb.2
            clear hci hO' hG hGI hgq hS hcb hqq
            by_cases hA : cut < u0
            · have HNX : Hid ((G ++ [((k : Int), 1)]).length = q + 1 ∧ grpF L (k + 1) = none ∧ (k + 1 = 0 ∧ G ++ [((k : Int), 1)] = [] ∨ 1 ≤ k + 1 ∧ G ++ [((k : Int), 1)] = grpL L cut gop (k + 1))) := by
                refine ⟨by rw [List.length_append, HK.out.1]; rfl, HFN.out, Or.inr ⟨by omega, ?_⟩⟩
                have hst : grpS L cut gop (k + 1) = (I ++ [(F, C)], (k : Int), 1) := by unfold grpS; rw [← HSS.out, if_pos (Or.inl (by rw [HUN.out]; exact hA))]
                unfold grpL
                rw [hst, HGI.out]
              have hA' : decide (cut < u0) = true := decide_eq_true hA
              clear cC zC
              have A6 : Ext wA (wA.alloc (.cells #[.int .i64 (k : Int), .int .i64 1] 69)) := (Ext.refl wA).alloc _
              have HLR : Hid (Row (wA.alloc (.cells #[.int .i64 (k : Int), .int .i64 1] 69)) (.slice (some ⟨wA.heap.size, 0, none⟩) 1 1) 1 [.int .i64 (k : Int), .int .i64 1]) :=
                Row.of_owns (World.ownsRow_lit (e := 69) (base := wA.heap.size) (size := 2) wA #[.int .i64 (k : Int), .int .i64 1] 1 (Nat.le_refl _) (by unfold maxLen; omega) rfl)
              have HO6 := Lib.hid (own_ext HOA.out A6)
              have R6 := Lib.hid (RA.out.ext A6)
              have E6 := EA.trans A6
              have hS6 : w.heap.size + 1 ≤ (wA.alloc (.cells #[.int .i64 (k : Int), .int .i64 1] 69)).heap.size := Nat.le_trans hSA A6.size
              clear A6
              go_wp2_with (at_builtin; refine append_row rfl _ _ 60 rfl 69 i0 _ 2 16 Tryd.underlying60 hi hz0 hz1 hz2 rfl (by decide) _ q _ rfl HO6.out (.slice (some ⟨wA.heap.size, 0, none⟩) 1 1) 1 [.int .i64 (k : Int), .int .i64 1] rfl HLR.out rfl (by intro x hx; simp only [List.mem_cons, List.not_mem_nil, or_false] at hx; rcases hx with rfl | rfl <;> rfl) hS6 (by unfold maxLen; omega) (by omega) ?_; intro v' w8 h1 h2 _; have h4 : w8.ownsRow (w.heap.size + 1) 69 2 v' (q + 1) (gcells (G ++ [((k : Int), 1)])) := (by rw [gcells_snoc]; exact h1); clear h1; obtain ⟨g', cap', rfl⟩ := own_addr2 h4 (by omega); have HOW := Lib.hid h4; have E8 : Ext w w8 := E6.of_below h2 (Nat.le_succ _); have R8 := Lib.hid (R6.out.under h2 (Nat.lt_succ_self _)); have S8 := Nat.le_trans hS6 h2.size; clear h2 h4)
              go_roundw
              case rel => exact ⟨k + 1, q + 1, some ⟨g', 0, none⟩, cap', G ++ [((k : Int), 1)], by omega, by go_num, rfl, HOW.out, HNX.out, by omega, E8, R8.out, S8⟩
              case measure => simp [intOf]; omega
            · by_cases hB : C = gop
              · have HNX : Hid ((G ++ [((k : Int), 1)]).length = q + 1 ∧ grpF L (k + 1) = none ∧ (k + 1 = 0 ∧ G ++ [((k : Int), 1)] = [] ∨ 1 ≤ k + 1 ∧ G ++ [((k : Int), 1)] = grpL L cut gop (k + 1))) := by
                  refine ⟨by rw [List.length_append, HK.out.1]; rfl, HFN.out, Or.inr ⟨by omega, ?_⟩⟩
                  have hst : grpS L cut gop (k + 1) = (I ++ [(F, C)], (k : Int), 1) := by unfold grpS; rw [← HSS.out, if_pos (Or.inr hB)]
                  unfold grpL
                  rw [hst, HGI.out]
                have hB' : (C == gop) = true := by simpa using hB
                clear hB
                have A6 : Ext wA (wA.alloc (.cells #[.int .i64 (k : Int), .int .i64 1] 69)) := (Ext.refl wA).alloc _
                have HLR : Hid (Row (wA.alloc (.cells #[.int .i64 (k : Int), .int .i64 1] 69)) (.slice (some ⟨wA.heap.size, 0, none⟩) 1 1) 1 [.int .i64 (k : Int), .int .i64 1]) :=
                  Row.of_owns (World.ownsRow_lit (e := 69) (base := wA.heap.size) (size := 2) wA #[.int .i64 (k : Int), .int .i64 1] 1 (Nat.le_refl _) (by unfold maxLen; omega) rfl)
                have HO6 := Lib.hid (own_ext HOA.out A6)
                have R6 := Lib.hid (RA.out.ext A6)
                have E6 := EA.trans A6
                have hS6 : w.heap.size + 1 ≤ (wA.alloc (.cells #[.int .i64 (k : Int), .int .i64 1] 69)).heap.size := Nat.le_trans hSA A6.size
                clear A6
                go_wp2_with (at_builtin; refine append_row rfl _ _ 60 rfl 69 i0 _ 2 16 Tryd.underlying60 hi hz0 hz1 hz2 rfl (by decide) _ q _ rfl HO6.out (.slice (some ⟨wA.heap.size, 0, none⟩) 1 1) 1 [.int .i64 (k : Int), .int .i64 1] rfl HLR.out rfl (by intro x hx; simp only [List.mem_cons, List.not_mem_nil, or_false] at hx; rcases hx with rfl | rfl <;> rfl) hS6 (by unfold maxLen; omega) (by omega) ?_; intro v' w8 h1 h2 _; have h4 : w8.ownsRow (w.heap.size + 1) 69 2 v' (q + 1) (gcells (G ++ [((k : Int), 1)])) := (by rw [gcells_snoc]; exact h1); clear h1; obtain ⟨g', cap', rfl⟩ := own_addr2 h4 (by omega); have HOW := Lib.hid h4; have E8 : Ext w w8 := E6.of_below h2 (Nat.le_succ _); have R8 := Lib.hid (R6.out.under h2 (Nat.lt_succ_self _)); have S8 := Nat.le_trans hS6 h2.size; clear h2 h4)
                go_roundw
                case rel => exact ⟨k + 1, q + 1, some ⟨g', 0, none⟩, cap', G ++ [((k : Int), 1)], by omega, by go_num, rfl, HOW.out, HNX.out, by omega, E8, R8.out, S8⟩
                case measure => simp [intOf]; omega
              · have HST : Hid (grpL L cut gop (k + 1) = I ++ [(F, C + 1)]) := by
                  show _ = _
                  have hst : grpS L cut gop (k + 1) = (I, F, C + 1) := by
                    unfold grpS
                    rw [← HSS.out, if_neg (by rw [HUN.out]; exact fun e => e.elim hA hB)]
                  unfold grpL
                  rw [hst]
                have hB' : (C == gop) = false := by simpa using hB
                have i4 : IntKind.i64.wrap (C + 1) = C + 1 := by rw [IntKind.wrap_i64]; omega
                have HOW := Lib.hid (own2_set (j := gq * 2 + 1) (.int .i64 (C + 1)) HOA.out)
                have hgb := (HOA.out.lt gg rfl).1
                clear hB
                go_wp2
                go_roundw
                case rel =>
                  refine ⟨k + 1, q, some ⟨gg, 0, none⟩, gcap, I ++ [(F, C + 1)], by omega, by go_num, rfl, ?_, ⟨?_, HFN.out, Or.inr ⟨by omega, HST.out.symm⟩⟩, by omega, EA.setCell (p := ⟨gg, gq * 2 + 1, none⟩) (Nat.le_of_succ_le hgb) _, RA.out.under ((Below.refl (w.heap.size + 1) wA).setCell (p := ⟨gg, gq * 2 + 1, none⟩) hgb _) (Nat.lt_succ_self _), by simp; exact hSA⟩
                  · have e := HOW.out
                    rw [HGI.out, HGQ.out, gcells_set, ← HGQ.out] at e
                    exact e
                  · have := HK.out.1
                    rw [HGI.out, List.length_append] at this
                    rw [List.length_append]
                    exact this
                case measure => simp [intOf]; omega
    · have hkn : ¬ (k : Int) < (n : Int) := by omega
      have hke : k = n := by omega
      have HR : Hid (grpAns L cut gop = none) := by show _ = _; rw [HA.out, ← hke]; exact HK.out.2.1
      have hGG : G = grpL L cut gop n := by
        rcases HK.out.2.2 with h | h
        · omega
        · rw [h.2, hke]
      have HV : Hid (grpV L cut gop = G) := by
        show _ = _
        unfold grpV
        rw [HR.out]
        show grpL L cut gop L.length = _
        rw [← HN.out, hGG]
      have HQ : Hid (q = G.length) := HK.out.1.symm
      obtain ⟨r0, r1, f0, f1⟩ := HRV.out
      have OH := Lib.hid (fun x y => own_setCell_lt (own_setCell_lt HO.out (p := ⟨w.heap.size, 0, none⟩) x (Nat.lt_succ_self _)) (p := ⟨w.heap.size, 1, none⟩) y (Nat.lt_succ_self _))
      clear hlt hke hGG
      go_wp2
      obtain ⟨e0, e1⟩ := res_cells (c := 0) r0 r1 (.slice none 0 0)
      exact bodyPost_ret (v := .tuple #[.slice ga q gcap, .agg #[.int .i64 0, .slice none 0 0]]) (by simp [results, Tryd.results37, go_sem, e0, e1]) rfl ⟨_, _, _, _, _, rfl, (hE.setCell (p := ⟨w.heap.size, 0, none⟩) (Nat.le_refl _) _).setCell (p := ⟨w.heap.size, 1, none⟩) (Nat.le_refl _) _, by rw [HV.out, ← HQ.out]; exact Row.of_owns (OH.out _ _), by rw [HR.out]; exact RErrIs.zero⟩
theorem rgroups_any (L : List Fr) (cut gop : Int) (v : Value) (w : World) (h : Fms w v L) (hsm : Hid (∀ (q : Nat) (f : Fr), L[q]? = some f → f.2.2.length ≤ 1000000)) :
    Calls Tryd.prog 37 #[v, .int .i64 cut, .int .i64 gop] w (RGPost w (grpV L cut gop) (grpAns L cut gop)) := by
  obtain ⟨a, cap, rfl⟩ := h.form
  by_cases hb : (cut < 0 ∨ 16320 < cut ∨ gop < 1 ∨ 16 < gop) ∨ L.length = 0 ∨ 16 < L.length
  · exact rgroups_bad L cut gop a _ cap w h hb
  · exact rgroups_good L cut gop a _ cap w h hsm (by omega) (by omega) (by omega)
theorem grpV_len (L : List Fr) (cut gop : Int) : (grpV L cut gop).length ≤ L.length + 1 := by
  unfold grpV
  split
  · have := (grpS_bound L cut gop L.length).1
    unfold grpL
    rw [List.length_append]
    show _ + 1 ≤ _
    omega
  · exact Nat.zero_le _
end Go.Proofs.YtmhbmegmlpenkaaDoor

/- kinlaw16.SceneGroups: the walk. -/
namespace Go.Proofs.YtmhbmegmlpenkaaDoor
set_option linter.unusedVariables false
set_option linter.unusedSimpArgs false
open Go.RowKit Go.Extern.Stop Go.Stop Go.Extern

set_option maxHeartbeats 4000000 in
set_option maxRecDepth 20000 in
theorem sgr_law (L : List Fr) (cut gop : Int) (v : Value) (w : World) (hg : EtIs w) (h : Fms w v L) :
    Calls Tryd.prog 9 #[v, .int .i64 cut, .int .i64 gop] w fun e w' => e = .returned (.bool true) ∧ Ext w w' := by
  obtain ⟨a, cap, rfl⟩ := h.form
  have HF := Lib.hid h
  clear h
  cases hp : pixB L with
  | false =>
    go_enter Tryd.func9, Tryd.ntmps9
    go_wp2_with fail
    refine (first16_any _ (hg.ext (by repeat (first | exact Ext.refl _ | assumption | refine Ext.alloc ?_ _ | refine Ext.drew ?_ | refine Ext.drewN ?_ _ | refine Ext.setCell ?_ (by first | exact Nat.le_refl _ | (simp; done) | omega) _ | refine Ext.trans ?_ (by assumption))))).mono ?_; rintro e w1 ⟨rfl, hx1⟩
    go_wp2_with fail
    refine (pix_all L _ _ (HF.out.ext (by repeat (first | exact Ext.refl _ | assumption | refine Ext.alloc ?_ _ | refine Ext.drew ?_ | refine Ext.drewN ?_ _ | refine Ext.setCell ?_ (by first | exact Nat.le_refl _ | (simp; done) | omega) _ | refine Ext.trans ?_ (by assumption))))).mono ?_; rintro e w2 ⟨rfl, hx2⟩
    have E2 := hx1.trans hx2
    clear hx1 hx2
    rw [hp]
    go_wp2_with fail
    refine (first16_any _ (hg.ext E2)).mono ?_; rintro e w9 ⟨rfl, hx9⟩
    go_wp2
    go_ret
    exact ⟨rfl, E2.trans hx9⟩
  | true =>
    have hsm := Lib.hid (pix_small hp)
    have hl := pixB_len hp
    have hl2 : L.length ≤ 1000000 := by omega
    have hv := grpV_len L cut gop
    have W1 := Lib.hid (fun v w (k1 : Fms w v L) => groups_any L cut gop v w k1 hsm)
    have W2 := Lib.hid (fun v w (k1 : Fms w v L) => rgroups_any L cut gop v w k1 hsm)
    have C1 := Lib.hid (fun v w (k1 : Fms w v L) => copy_frames L v w k1 (by omega) hsm)
    have S1 := Lib.hid (fun u v w (k1 : Fms w u L) (k2 : Fms w v L) => frames_same L u v w k1 k2 hl2 hsm)
    have G1 := Lib.hid (fun u v w (k1 : Row w u (grpV L cut gop).length (gcells (grpV L cut gop))) (k2 : Row w v (grpV L cut gop).length (gcells (grpV L cut gop))) => groups_same (grpV L cut gop) u v w k1 k2 (by omega))
    clear hl hl2 hv
    go_enter Tryd.func9, Tryd.ntmps9
    go_wp2_with fail
    refine (first16_any _ (hg.ext (by repeat (first | exact Ext.refl _ | assumption | refine Ext.alloc ?_ _ | refine Ext.drew ?_ | refine Ext.drewN ?_ _ | refine Ext.setCell ?_ (by first | exact Nat.le_refl _ | (simp; done) | omega) _ | refine Ext.trans ?_ (by assumption))))).mono ?_; rintro e w1 ⟨rfl, hx1⟩
    go_wp2_with fail
    refine (pix_all L _ _ (HF.out.ext (by repeat (first | exact Ext.refl _ | assumption | refine Ext.alloc ?_ _ | refine Ext.drew ?_ | refine Ext.drewN ?_ _ | refine Ext.setCell ?_ (by first | exact Nat.le_refl _ | (simp; done) | omega) _ | refine Ext.trans ?_ (by assumption))))).mono ?_; rintro e w2 ⟨rfl, hx2⟩
    have E2 := hx1.trans hx2
    clear hx1 hx2
    rw [hp]
    go_wp2_with fail
    refine (C1.out _ _ (HF.out.ext E2)).mono ?_; rintro e w3 ⟨u3, rfl, hc3, hx3⟩
    have HC := Lib.hid hc3
    have E3 := E2.trans hx3
    clear hc3 hx3 E2
    go_wp2_with fail
    refine (W1.out _ _ HC.out).mono ?_; rintro e w5 ⟨u5, x5, rfl, hx5, hr5, he5⟩
    have E5 := E3.trans hx5
    go_wp2_with fail
    refine (W2.out _ _ (HF.out.ext E5)).mono ?_; rintro e w6 ⟨u6, ce, ea, em, ek, rfl, hx6, hr6, he6⟩
    have A6 : Ext w6 (w6.alloc (.cells #[.int .i64 ce, .slice ea em ek] 41)) := (Ext.refl w6).alloc _
    have EA6 := Lib.hid (EAt.new w6 ce (.slice ea em ek) rfl)
    have E6 := (E5.trans hx6).trans A6
    have R5 := Lib.hid (hr5.ext (hx6.trans A6))
    have R6 := Lib.hid (hr6.ext A6)
    have X5 := Lib.hid (he5.ext (hx6.trans A6))
    have X6 := Lib.hid (he6.ext A6)
    have HC6 := Lib.hid (HC.out.ext (hx5.trans (hx6.trans A6)))
    clear hr5 hr6 he5 he6 hx5 hx6 A6 E5 E3 HC
    go_wp2_with fail
    revert EA6 E6 R5 R6 X5 X6 HC6
    generalize w6.alloc (.cells #[.int .i64 ce, .slice ea em ek] 41) = w7
    intro EA6 E6 R5 R6 X5 X6 HC6
    refine (first16_any _ (hg.ext E6)).mono ?_; rintro e w8 ⟨rfl, hx8⟩
    go_wp2_with fail
    refine (G1.out _ _ _ (R5.out.ext hx8) (R6.out.ext hx8)).mono ?_; rintro e w9 ⟨rfl, hx9⟩
    obtain ⟨⟨s0, s1, -, -⟩, -⟩ := EA6.out.ext (hx8.trans hx9)
    go_wp2_with fail
    refine (same_fall _ _ _ _ _ (hg.ext (E6.trans (hx8.trans hx9))) (X5.out.ext (hx8.trans hx9)) (X6.out.ext (hx8.trans hx9))).mono ?_; rintro e wA ⟨rfl, hxA⟩
    have E9 := (hx8.trans hx9).trans hxA
    go_wp2_with fail
    refine (S1.out _ _ _ (HC6.out.ext E9) (HF.out.ext (E6.trans E9))).mono ?_; rintro e wB ⟨rfl, hxB⟩
    go_wp2
    go_ret
    exact ⟨rfl, (E6.trans E9).trans hxB⟩
end Go.Proofs.YtmhbmegmlpenkaaDoor
