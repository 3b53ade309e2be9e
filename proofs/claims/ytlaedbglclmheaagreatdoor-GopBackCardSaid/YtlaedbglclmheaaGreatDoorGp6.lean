/- walk.Units over gop's take; gop.Parse. -/
import Derived.Test.YtlaedbglclmheaaGreatDoorGp5
import Derived.Test.YtlaedbglclmheaaGreatDoorZd
namespace Go.Proofs.YtlaedbglclmheaaGreatDoor
set_option linter.unusedVariables false
set_option linter.unusedSimpArgs false
open Go.RowKit Go.Extern.Stop Go.Stop Go.Extern

theorem gwh_any (p : Nat) (w0 w : World) (s : GS) (Q : World → Prop) (h : GkU p w0 w s Q) : Calls Tryz.prog 61 #[.pointer (some ⟨p, 0, none⟩)] w fun e w' => e = .returned (.bool (gwh s)) ∧ w = w' := by
  obtain ⟨cv, B, ca, cn, cc, rfl, hcn⟩ := h.box
  have c2 := B.cell (i := 2) (v := .int .i64 s.1.2.2) rfl
  have c3 := B.cell (i := 3) (v := .slice ca cn cc) rfl
  by_cases h1 : 0 < s.1.2.2
  · cases h2 : ((cn : Int) == s.1.2.2) with
    | true =>
      have HR : Hid (gwh s = true) := by
        show _ = _
        unfold gwh
        simp only [Bool.and_eq_true, decide_eq_true_eq]
        exact ⟨h1, by rw [← hcn]; exact beq_iff_eq.1 h2⟩
      clear B hcn
      go_enter Tryz.func61, Tryz.ntmps61
      go_wp2
      go_ret
      exact ⟨by rw [HR.out]; rfl, rfl⟩
    | false =>
      have HR : Hid (gwh s = false) := by
        show _ = _
        unfold gwh
        rw [Bool.and_eq_false_iff]
        exact .inr (decide_eq_false (by rw [← hcn]; exact beq_eq_false_iff_ne.1 h2))
      clear B hcn
      go_enter Tryz.func61, Tryz.ntmps61
      go_wp2
      go_ret
      exact ⟨by rw [HR.out]; rfl, rfl⟩
  · have HR : Hid (gwh s = false) := by
      show _ = _
      unfold gwh
      rw [decide_eq_false h1]; rfl
    have t1 : s.1.2.2 ≤ 0 := by omega
    clear B hcn h1
    go_enter Tryz.func61, Tryz.ntmps61
    go_wp2
    go_ret
    exact ⟨by rw [HR.out]; rfl, rfl⟩
theorem gtk_len (i : Nat) (s : GS) (u : Un) : (gtk i s u).2.2.length ≤ s.2.length + 1 := by
  unfold gtk
  split
  · split
    · exact Nat.le_succ _
    · split
      · exact Nat.le_succ _
      · exact Nat.le_succ _
  · split
    · exact Nat.le_succ _
    · split
      · exact Nat.le_succ _
      · split
        · rw [List.length_append]; exact Nat.le_refl _
        · exact Nat.le_succ _
/-- what the walk over the units leaves -/
def GuP (p : Nat) (w0 : World) (r : Fall × GS) (e : Ending) (w' : World) : Prop := ∃ x s Q, e = .returned x ∧ ErrIs w' r.1 x ∧ GkU p w0 w' s Q ∧ (r.1 = none → s = r.2)
theorem gfin_bad {F : Fall} {i : Nat} {c : Int} {s : GS} (hc : c ≠ 0) : gfin F (c, i, s) = (some ([(gopS, (i : Int))], c), gs0) := if_pos hc
set_option maxRecDepth 20000 in
set_option maxHeartbeats 8000000 in
theorem gunits_any (p : Nat) (bs : List Nat) (v : Value) (w0 w : World) (hnb : NbIs w0) (hb : Bys w0 v bs) (hl : bs.length ≤ 1000000) (h : GkU p w0 w gs0 (fun _ => True)) :
    Calls Tryz.prog 62 #[.string gopS, v, .func (.func 63) #[.pointer (some ⟨p, 0, none⟩)] #[], .func (.func 61) #[] #[.pointer (some ⟨p, 0, none⟩)]] w (GuP p w0 (gpsV bs)) := by
  obtain ⟨a, cap, rfl⟩ := hb.form
  obtain ⟨n, hn⟩ : ∃ n, bs.length = n := ⟨_, rfl⟩
  have HB := Lib.hid hb
  have HN := Lib.hid hn
  have HNB := Lib.hid hnb
  have HDB := Lib.hid hb.2.1
  rw [hn] at hl HB ⊢
  obtain ⟨R, hR⟩ : ∃ R, gpsV bs = R := ⟨_, rfl⟩
  have H0 : Hid (R = gfin (spU bs 0).1 (grn (spU bs 0).2 0 gs0)) := hR.symm
  rw [hR]
  have HU0 := Lib.hid h
  clear hb hn hnb h hR
  have e8 : gopS = ⟨#[103, 111, 112]⟩ := rfl
  go_enter Tryz.func62, Tryz.ntmps62
  go_wp2
  go_loopw [9, 10] (fun nv av wr => ∃ (i q : Nat) (s : GS) (Q : World → Prop), (i ≤ q ∧ q ≤ n) ∧ s.2.length ≤ i ∧ nv = .int .i64 (i : Int) ∧ av = .int .i64 (q : Int) ∧ Hid (R = gfin (spU bs q).1 (grn (spU bs q).2 i s)) ∧ Hid (GkU p w0 wr s Q)) (fun _ av _ => n - (intOf av).toNat)
  case atStart => exact ⟨0, 0, gs0, _, ⟨Nat.le_refl _, Nat.zero_le _⟩, Nat.zero_le _, rfl, rfl, H0, HU0⟩
  case round =>
    clear H0 HU0
    obtain ⟨i, q, s, Q, ⟨hiq, hq⟩, hsl, rfl, rfl, HR, HU⟩ := hrel
    by_cases hlt : q < n
    · have UP := next_any bs (q : Int) (.slice a n cap) wr (HNB.out.ext HU.out.out) (HB.out.ext HU.out.out)
      rcases sp_step bs q (by rw [HN.out]; exact hlt) with ⟨K, D, E, e1, ⟨e2, e3, e4⟩, e5, e6⟩ | ⟨C, e1, e2, e3⟩
      · rw [e6] at HR
        rw [e1] at UP
        rw [HN.out] at e3
        have HD : Hid (∀ x ∈ D, x < 256) := fun x hx => HDB.out x (e5 x hx)
        have UQ := Lib.hid UP
        clear e1 e5 e6 UP
        go_wp2_with fail
        refine (UQ.out).mono ?_; rintro e w5 ⟨u, x, rfl, ho, hx, hx5⟩
        obtain rfl : x = .nilIface := hx
        obtain ⟨ua, uc, rfl⟩ := uform ho
        have B6 := BoxIs.new w5 #[.int .i64 (K : Int), .slice ua D.length uc, .int .i64 (q : Int), .int .i64 ((E : Int) + (q : Int))] 158
        have X6 := (Ext.refl w5).alloc (.cells #[.int .i64 (K : Int), .slice ua D.length uc, .int .i64 (q : Int), .int .i64 ((E : Int) + (q : Int))] 158)
        have U5 := (HU.out.add hx5 (HoF.row ho) (fun i hi => (ho.lt i hi).1)).imp (R := fun W => Q W ∧ (Bys W (.slice ua D.length uc) D ∧ Plain (.slice ua D.length uc))) (fun W hW => ⟨hW.1, Bys.of_owns hW.2 HD.out (Nat.le_trans e4 (by decide)), Plain.of_owns hW.2⟩)
        have U6 := U5.add X6 (HoF.box B6) (by rintro k rfl; exact Nat.le_refl _)
        obtain ⟨m, hm⟩ : ∃ m, D.length = m := ⟨_, rfl⟩
        have e4' : D.length ≤ 1000000 := Nat.le_trans e4 (by decide)
        have UT := Lib.hid (gtk_any p w0 _ s _ i K _ D (q : Int) ((E : Int) + (q : Int)) U6 (fun W hW => hW.1.2) (by omega) (by omega) e4')
        have b0 := B6.cell (i := 0) (v := .int .i64 (K : Int)) rfl
        have b1 := B6.cell (i := 1) (v := .slice ua D.length uc) rfl
        have b2 := B6.cell (i := 2) (v := .int .i64 (q : Int)) rfl
        have b3 := B6.cell (i := 3) (v := .int .i64 ((E : Int) + (q : Int))) rfl
        rw [hm] at UT b1 ⊢
        clear ho hx5 UQ HU U5 U6 B6 X6 e4 e4'
        go_wp2_with fail
        refine (UT.out).mono ?_; rintro e w7 ⟨x, rfl, hx, hg⟩
        obtain ⟨⟨c, s'⟩, hT⟩ : ∃ r, gtk i s (K, D, (q : Int), (E : Int) + (q : Int)) = r := ⟨_, rfl⟩
        have hsl' := gtk_len i s (K, D, (q : Int), (E : Int) + (q : Int))
        rw [hT] at hx hg hsl'
        have B7 := hg.held.2
        have c3 := B7.cell (i := 3) (v := .int .i64 ((E : Int) + (q : Int))) rfl
        have HG := Lib.hid hg
        by_cases hc : c = 0
        · subst hc
          obtain rfl : x = .nilIface := hx
          have HR2 : Hid (R = gfin (spU bs (q + E)).1 (grn (spU bs (q + E)).2 (i + 1) s')) := by show _ = _; rw [HR.out, grn_ok hT]
          have hsl2 : s'.2.length ≤ i + 1 := Nat.le_trans hsl' (by omega)
          clear UT hT hsl' hg B7 HR b0 b1 b2 b3
          go_wp2
          go_roundw
          case rel => ((repeat apply Exists.intro); exact ⟨⟨i + 1, q + E, s', _, ⟨by omega, e3⟩, hsl2, by go_num, by rw [Int.add_comm, Int.natCast_add], HR2, HG⟩, rfl⟩)
          case measure => simp [intOf]; omega
        · have hx' : ErrIs w7 (codeF c) x := hx
          rw [codeF_of hc] at hx'
          obtain ⟨xt, xv, rfl⟩ := ErrIs.ne hx'
          have HR2 : Hid (R = (some ([(gopS, (i : Int))], c), gs0)) := by show _ = _; rw [HR.out, grn_bad hT hc]; exact gfin_bad hc
          have HX := Lib.hid hx'
          clear UT hT hsl' hg B7 HR b0 b1 b2 b3 c3 hx hx'
          go_wp2_with fail
          refine (in_hold gopS (i : Int) xt xv _).mono ?_; rintro e w8 ⟨x8, k8, rfl, hx8, hk8, ho8⟩
          have H8 := HX.out.ext hx8
          have HE : Hid (ErrIs w8 R.1 x8) := by
            show ErrIs _ _ _
            rw [HR2.out]
            exact ⟨ho8.get _ _ H8.1, H8.2.1, by show 1 ≤ 1000000; decide⟩
          have HG8 := Lib.hid (HG.out.ext hx8)
          have HN8 : Hid (R.1 = none → s' = R.2) := by rw [HR2.out]; exact fun e => by cases e
          clear ho8 hx8 H8 HX HG HR2
          go_wp2
          go_ret
          exact ⟨_, _, _, rfl, HE.out, HG8.out, HN8.out⟩
      · have HR2 : Hid (R = (some ((gopS, (i : Int)) :: [(unS, (q : Int))], C), gs0)) := by
          show _ = _
          rw [HR.out, e3]
          rfl
        rw [e2] at UP
        have UQ := Lib.hid UP
        clear e2 e3 UP HR
        go_wp2_with fail
        refine (UQ.out).mono ?_; rintro e w5 ⟨u, x, rfl, ho, hx, hx5⟩
        obtain ⟨xt, xv, rfl⟩ := ErrIs.ne hx
        obtain ⟨ua, uc, rfl⟩ := uform ho
        have X6 := (Ext.refl w5).alloc (.cells #[.int .i64 0, .slice ua 0 uc, .int .i64 0, .int .i64 0] 158)
        have HX := Lib.hid (ErrIs.ext hx X6)
        have HG := Lib.hid ((HU.out.ext hx5).ext X6)
        clear ho hx hx5 UQ HU X6
        go_wp2_with fail
        refine (in_hold gopS (i : Int) xt xv _).mono ?_; rintro e w8 ⟨x8, k8, rfl, hx8, hk8, ho8⟩
        have H8 := HX.out.ext hx8
        have HE : Hid (ErrIs w8 R.1 x8) := by
          show ErrIs _ _ _
          rw [HR2.out]
          exact ⟨ho8.get _ _ H8.1, H8.2.1, by show 2 ≤ 1000000; decide⟩
        have HG8 := Lib.hid (HG.out.ext hx8)
        have HN8 : Hid (R.1 = none → s = R.2) := by rw [HR2.out]; exact fun e => by cases e
        clear ho8 hx8 H8 HX HG HR2
        go_wp2
        go_ret
        exact ⟨_, _, _, rfl, HE.out, HG8.out, HN8.out⟩
    · have hqn : q = n := by omega
      subst hqn
      have e3 := sp_done (bs := bs) (a := q) (by rw [HN.out]; exact Nat.le_refl _)
      rw [e3] at HR
      have HR1 : Hid (R = if gwh s then (none, s) else (some ([(gopS, (i : Int))], 1), gs0)) := HR
      have UW := Lib.hid (gwh_any p w0 wr s Q HU.out)
      clear e3 HR hlt
      have hlt : ¬ (q : Int) < (q : Int) := by omega
      go_wp2_with fail
      refine (UW.out).mono ?_; rintro e w5 ⟨rfl, rfl⟩
      cases hw : gwh s with
      | true =>
        have HR2 : Hid (R = (none, s)) := by show _ = _; rw [HR1.out, hw]; rfl
        clear HR1 UW
        go_wp2
        go_ret
        exact ⟨_, _, _, rfl, by rw [HR2.out]; exact rfl, HU.out, fun _ => by rw [HR2.out]⟩
      | false =>
        have HR2 : Hid (R = (some ([(gopS, (i : Int))], 1), gs0)) := by show _ = _; rw [HR1.out, hw]; rfl
        clear HR1 UW
        go_wp2_with fail
        refine (in_new gopS (i : Int) 1 _).mono ?_; rintro e w8 ⟨x8, k8, rfl, hx8, hk8, ho8⟩
        have HE : Hid (ErrIs w8 R.1 x8) := by
          show ErrIs _ _ _
          rw [HR2.out]
          exact ⟨ho8.get, by decide, by show 1 ≤ 1000000; decide⟩
        have HG8 := Lib.hid (HU.out.ext hx8)
        have HN8 : Hid (R.1 = none → s = R.2) := by rw [HR2.out]; exact fun e => by cases e
        clear ho8 hx8 HR2 HU
        go_wp2
        go_ret
        exact ⟨_, _, _, rfl, HE.out, HG8.out, HN8.out⟩
end Go.Proofs.YtlaedbglclmheaaGreatDoor
