/- gop: take. -/
import Derived.Test.YtlaedbglclmheaaGreatDoorGp4
import Derived.Test.YtlaedbglclmheaaGreatDoorZf
namespace Go.Proofs.YtlaedbglclmheaaGreatDoor
set_option linter.unusedVariables false
set_option linter.unusedSimpArgs false
open Go.RowKit Go.Extern.Stop Go.Stop Go.Extern

/-- one more frame -/
theorem GkU.grow {p : Nat} {w0 w w' : World} {s : GS} {Q : World → Prop} {cv : Value} {Z : List (Cd × Value)} {P : World → Prop} (h1 : Uno (Sep (Sep (RwF 61 2) (BoF p 26)) HoF) w0 w (((cv, Z.length, cgC Z), #[.int .i64 s.1.1, .int .i64 s.1.2.1, .int .i64 s.1.2.2, cv]), P)) (h2 : Z.map Prod.fst = s.2) (h3 : ∀ W, P W → (∀ z ∈ Z, Bys W z.2 z.1.2 ∧ Plain z.2) ∧ Q W)
    {k : Int} {bs : List Nat} {u : Value} {g n cap : Nat} (hQ : ∀ W, Q W → Bys W u bs ∧ Plain u) (hn : n = Z.length) (hw : w'.ownsRow 0 61 2 (.slice (some ⟨g, 0, none⟩) (n + 1) cap) (n + 1) (cgC Z ++ [.int .i64 k, u])) (hg : w.grownBy w' cv.ownBlock) (hat : cv.ownBlock = some g ∨ g = w.heap.size + 1) :
    BoxIs w' p #[.int .i64 s.1.1, .int .i64 s.1.2.1, .int .i64 s.1.2.2, cv] 26 ∧ GkU p w0 (w'.setCell ⟨p, 3, none⟩ (.slice (some ⟨g, 0, none⟩) (n + 1) cap)) (s.1, s.2 ++ [(k, bs)]) Q := by
  subst hn
  have a1 := Uno.assoc (bag_swap h1)
  have a2 := rw_step ((BoF.obj p 26).sep HoF.obj) a1 hw hg (fun i hi => by
    have e : g = i := Option.some.inj (show some g = some i from hi)
    rw [← e]
    exact hat.imp id (fun e => by omega))
  have a3 := Uno.assoc (bag_swap (Uno.assoc a2))
  have a4 := bo_set ((RwF.obj 61 2).sep HoF.obj) a3 3 (.slice (some ⟨g, 0, none⟩) (Z.length + 1) cap)
  have a5 := Uno.assoc a4
  refine ⟨bo_box a3, .slice (some ⟨g, 0, none⟩) (Z.length + 1) cap, Z ++ [((k, bs), u)], P, ?_, by rw [List.map_append, h2]; rfl, fun W hW => ⟨fun z hz => ?_, (h3 W hW).2⟩⟩
  · rw [List.length_append, List.length_singleton, cgC_snoc]
    exact a5
  · rcases List.mem_append.1 hz with hz | hz
    · exact (h3 W hW).1 z hz
    · rw [List.mem_singleton.1 hz]
      exact hQ W (h3 W hW).2
set_option maxRecDepth 20000 in
set_option maxHeartbeats 8000000 in
theorem gtk_any (p : Nat) (w0 w : World) (s : GS) (Q : World → Prop) (i k : Nat) (u : Value) (D : List Nat) (at' en : Int) (h : GkU p w0 w s Q) (hq : ∀ W, Q W → Bys W u D ∧ Plain u) (hi : i ≤ 1000000) (hs : s.2.length ≤ 1000000) (hD : D.length ≤ 1000000) :
    Calls Tryz.prog 63 #[.pointer (some ⟨p, 0, none⟩), .int .i64 (i : Int), .agg #[.int .i64 (k : Int), u, .int .i64 at', .int .i64 en]] w (GtP p w0 (gtk i s (k, D, at', en)) Q) := by
  obtain ⟨a, cap, rfl⟩ := (hq _ h.held).1.form
  obtain ⟨n, hn⟩ : ∃ n, n = D.length := ⟨_, rfl⟩
  have HN := Lib.hid hn
  have X1 := (Ext.refl w).alloc (.cells #[.int .i64 (k : Int), .slice a D.length cap, .int .i64 at', .int .i64 en] 158)
  have B1 := BoxIs.new w #[.int .i64 (k : Int), .slice a D.length cap, .int .i64 at', .int .i64 en] 158
  have HU := Lib.hid (h.ext X1)
  have HQ := Lib.hid hq
  have hpw : p < w.heap.size := by obtain ⟨_, hB, -⟩ := h.box; exact hB.lt
  rw [← hn] at HU B1 HQ ⊢
  have HB1 := Lib.hid B1
  clear h X1 hn B1
  by_cases hi0 : i = 0
  · subst hi0
    have UH := Lib.hid (fun w h => gth_any p w0 w s Q k (.slice a n cap) D at' en h (fun W hW => (HQ.out W hW).1))
    go_enter Tryz.func63, Tryz.ntmps63
    go_wp2_with fail
    refine (UH.out _ HU.out).mono ?_; rintro e w4 ⟨x, rfl, hx, hg⟩
    go_wp2
    go_ret
    exact ⟨_, rfl, hx, hg⟩
  · have i0 : ((i : Int) == 0) = false := by rw [beq_eq_false_iff_ne]; omega
    obtain ⟨cv, B5, ca, cn, cc, rfl, hcn⟩ := HU.out.box
    have p2 := B5.cell (i := 2) (v := .int .i64 s.1.2.2) rfl
    by_cases hc : s.1.2.2 < (i : Int)
    · have HR : Hid (gtk i s (k, D, at', en) = (5, s)) := by show _ = _; unfold gtk; rw [if_neg hi0, if_pos hc]
      clear hi0 B5
      go_enter Tryz.func63, Tryz.ntmps63
      go_wp2
      go_ret
      exact ⟨_, rfl, by rw [HR.out]; exact ErrIs.code (c := 5) (by decide), by rw [HR.out]; exact HU.out⟩
    · have hc' : ¬ s.1.2.2 < (i : Int) := hc
      by_cases hb1 : i = 1 ∧ begB (k : Int) = false
      · obtain ⟨rfl, hb⟩ := hb1
        have HR : Hid (gtk 1 s (k, D, at', en) = (2, s)) := by show _ = _; unfold gtk; rw [if_neg hi0, if_neg hc, if_pos ⟨rfl, hb⟩]
        clear hi0 B5
        go_enter Tryz.func63, Tryz.ntmps63
        go_wp2_with fail
        refine (beg_any _ _).mono ?_; rintro e w4 ⟨rfl, rfl⟩
        rw [hb]
        go_wp2
        go_ret
        exact ⟨_, rfl, by rw [HR.out]; exact ErrIs.code (c := 2) (by decide), by rw [HR.out]; exact HU.out⟩
      · -- the frame is read
        have HR0 : Hid (gtk i s (k, D, at', en) = if rdC (k : Int) D = 0 then ((0 : Int), ((s.1, s.2 ++ [((k : Int), D)]) : GS)) else (rdC (k : Int) D, s)) := by show _ = _; unfold gtk; rw [if_neg hi0, if_neg hc, if_neg hb1]
        have c0 := HB1.out.cell (i := 0) (v := .int .i64 (k : Int)) rfl
        have c1 := HB1.out.cell (i := 1) (v := .slice a n cap) rfl
        have hbq : i = 1 → begB (k : Int) = true := fun e => by
          cases hb : begB (k : Int) with
          | true => rfl
          | false => exact absurd ⟨e, hb⟩ hb1
        have X2 := (Ext.refl (w.alloc (.cells #[.int .i64 (k : Int), .slice a n cap, .int .i64 at', .int .i64 en] 158))).alloc (.cells #[.int .i64 (k : Int), .slice a n cap] 61)
        have BC := BoxIs.new (w.alloc (.cells #[.int .i64 (k : Int), .slice a n cap, .int .i64 at', .int .i64 en] 158)) #[.int .i64 (k : Int), .slice a n cap] 61
        rw [show (w.alloc (.cells #[.int .i64 (k : Int), .slice a n cap, .int .i64 at', .int .i64 en] 158)).heap.size = w.heap.size + 1 by simp] at BC
        have d0 := BC.cell (i := 0) (v := .int .i64 (k : Int)) rfl
        have d1 := BC.cell (i := 1) (v := .slice a n cap) rfl
        have HU2 := Lib.hid (HU.out.ext X2)
        have HBC := Lib.hid BC
        have UR := Lib.hid (fun w hb => read_any (k : Int) D (.slice a n cap) w hb hD)
        clear B5 X2 BC HB1
        by_cases hi1 : i = 1
        · have hb := hbq hi1
          have i1 : (i : Int) = 1 := by omega
          rw [i1] at hc' ⊢
          clear hbq hb1 hi0 i0 i1 hi1
          go_enter Tryz.func63, Tryz.ntmps63
          go_wp2_with fail
          refine (beg_any _ _).mono ?_; rintro e w3 ⟨rfl, rfl⟩
          rw [hb]
          go_wp2_with fail
          refine (UR.out _ (HQ.out _ HU2.out.held).1).mono ?_; rintro e w4 ⟨hu4, x4, rfl, hb4, hx4, hE4⟩
          obtain ⟨ua, uc, rfl⟩ := hb4.form
          have X5 := hE4.trans ((Ext.refl w4).alloc (.cells #[.int .i64 (rdV (k : Int) D).1, .int .i64 (rdV (k : Int) D).2.1, .slice ua (rdV (k : Int) D).2.2.length uc] 108))
          have HX5 := Lib.hid (hx4.ext ((Ext.refl w4).alloc (.cells #[.int .i64 (rdV (k : Int) D).1, .int .i64 (rdV (k : Int) D).2.1, .slice ua (rdV (k : Int) D).2.2.length uc] 108)))
          have HU5 := Lib.hid (HU2.out.ext X5)
          have HB5 := Lib.hid (HBC.out.ext X5)
          clear hb4 hx4 hE4 X5 HU2 HBC UR d0 d1 c0 c1 p2
          by_cases hrd : rdC (k : Int) D = 0
          · have HR : Hid (gtk i s (k, D, at', en) = (0, (s.1, s.2 ++ [((k : Int), D)]))) := by show _ = _; rw [HR0.out, if_pos hrd]
            have hf : rdF (k : Int) D = none := by unfold rdF; rw [if_pos hrd]
            rw [hf] at HX5
            obtain rfl : x4 = .nilIface := HX5.out
            clear HR0 HX5 hf hrd
            go_wp2_with fail
            obtain ⟨w5, hw5⟩ : ∃ z, w4.alloc (.cells #[.int .i64 (rdV (k : Int) D).1, .int .i64 (rdV (k : Int) D).2.1, .slice ua (rdV (k : Int) D).2.2.length uc] 108) = z := ⟨_, rfl⟩
            rw [hw5] at HU5 HB5 ⊢
            clear hw5
            obtain ⟨cv, Z, P, h1, h2, h3⟩ := HU5.out.ext (Ext.refl w5).drew
            have hzl : Z.length = s.2.length := by rw [← h2, List.length_map]
            have hown := rw_own (Uno.assoc (bag_swap h1))
            have hb6 := bo_box (Uno.assoc h1)
            obtain ⟨va, vc, hcv⟩ := (Row.of_owns hown).form
            have hcv : cv = .slice va Z.length vc := hcv
            subst hcv
            obtain ⟨m, hm⟩ : ∃ m, Z.length = m := ⟨_, rfl⟩
            rw [hm] at hzl
            have hm9 : m ≤ 1000000 := by omega
            have b3 : w5.cell? ⟨p, 3, none⟩ = some (.slice va m vc) := by rw [← hm]; exact hb6.cell (i := 3) rfl
            have b3' := (Ext.refl w5).drew.cell b3
            have c0 := HB5.out.cell (i := 0) (v := .int .i64 (k : Int)) rfl
            have c1 := HB5.out.cell (i := 1) (v := .slice a n cap) rfl
            have c0' := (Ext.refl w5).drew.cell c0
            have c1' := (Ext.refl w5).drew.cell c1
            have b3x := ((Ext.refl w5).alloc (.cells #[.int .i64 (k : Int), .slice a n cap] 61)).cell b3
            have hown' : w5.drew.ownsRow 0 61 2 (.slice va m vc) m (cgC Z) := by rw [← hm]; exact hown
            have HO := Lib.hid hown'
            have H1 := Lib.hid h1
            have HM := Lib.hid hm
            have H2 := Lib.hid h2
            have H3 := Lib.hid h3
            clear hown hown' h1 h2 h3 hm hb6 HU5 HB5 hzl
            go_region_law (refine step_push_x (W := w5.drew) 61 infoCg rfl (by decide) (by decide) (by rfl) _ _ 24 (by rfl) Tryz.underlying24 _ m (cgC Z) [.int .i64 (k : Int), .slice a n cap] rfl (fun u hu => by simp only [List.mem_cons, List.not_mem_nil, or_false] at hu; rcases hu with rfl | rfl <;> rfl) (by rfl) HO.out (by rfl) hm9 ?_; intro g8 cp8 w8 h8 k8 hat8; obtain ⟨B8, U8⟩ := GkU.grow H1.out H2.out H3.out HQ.out HM.out.symm h8 (by rw [HM.out]; exact k8) (by rw [HM.out]; exact hat8); have q3 := B8.cell (i := 3) (v := .slice va Z.length vc) rfl; have r3 := B8.free (i := 3); have HU8 := Lib.hid U8; clear h8 k8 hat8 B8 U8)
            all_goals
              have HU9 : Hid (GkU p w0 (w8.setCell ⟨p, 3, none⟩ (.slice (some ⟨g8, 0, none⟩) (m + 1) cp8)) (gtk i s (k, D, at', en)).2 Q) := by show GkU _ _ _ _ _; rw [HR.out]; exact HU8.out
              have HX9 : Hid ((gtk i s (k, D, at', en)).1 = 0) := by show _ = _; rw [HR.out]
              clear HU8 HR H1 H2 H3 HM HO b3 b3' b3x c0 c1 c0' c1' q3 r3
              go_wp2
              go_ret
              exact ⟨_, rfl, by rw [HX9.out]; exact rfl, HU9.out⟩
          · have HR : Hid (gtk i s (k, D, at', en) = (rdC (k : Int) D, s)) := by show _ = _; rw [HR0.out, if_neg hrd]
            have hf : rdF (k : Int) D = some ([], rdC (k : Int) D) := by unfold rdF; rw [if_neg hrd]
            rw [hf] at HX5
            obtain ⟨xt, xv, rfl⟩ := ErrIs.ne HX5.out
            have HX6 : Hid (ErrIs (w4.alloc (.cells #[.int .i64 (rdV (k : Int) D).1, .int .i64 (rdV (k : Int) D).2.1, .slice ua (rdV (k : Int) D).2.2.length uc] 108)) (codeF (gtk i s (k, D, at', en)).1) (.iface xt xv)) := by show ErrIs _ _ _; rw [HR.out]; show ErrIs _ (codeF (rdC (k : Int) D)) _; rw [codeF_of hrd]; exact HX5.out
            have HU6 : Hid (GkU p w0 (w4.alloc (.cells #[.int .i64 (rdV (k : Int) D).1, .int .i64 (rdV (k : Int) D).2.1, .slice ua (rdV (k : Int) D).2.2.length uc] 108)) (gtk i s (k, D, at', en)).2 Q) := by show GkU _ _ _ _ _; rw [HR.out]; exact HU5.out
            clear HR0 HX5 hf hrd HU5 HB5 HR
            go_wp2
            go_ret
            exact ⟨_, rfl, HX6.out, HU6.out⟩
        · have i1 : ((i : Int) == 1) = false := by rw [beq_eq_false_iff_ne]; omega
          clear hbq hb1 hi0 hi1
          go_enter Tryz.func63, Tryz.ntmps63
          go_wp2_with fail
          refine (UR.out _ (HQ.out _ HU2.out.held).1).mono ?_; rintro e w4 ⟨hu4, x4, rfl, hb4, hx4, hE4⟩
          obtain ⟨ua, uc, rfl⟩ := hb4.form
          have X5 := hE4.trans ((Ext.refl w4).alloc (.cells #[.int .i64 (rdV (k : Int) D).1, .int .i64 (rdV (k : Int) D).2.1, .slice ua (rdV (k : Int) D).2.2.length uc] 108))
          have HX5 := Lib.hid (hx4.ext ((Ext.refl w4).alloc (.cells #[.int .i64 (rdV (k : Int) D).1, .int .i64 (rdV (k : Int) D).2.1, .slice ua (rdV (k : Int) D).2.2.length uc] 108)))
          have HU5 := Lib.hid (HU2.out.ext X5)
          have HB5 := Lib.hid (HBC.out.ext X5)
          clear hb4 hx4 hE4 X5 HU2 HBC UR d0 d1 c0 c1 p2
          by_cases hrd : rdC (k : Int) D = 0
          · have HR : Hid (gtk i s (k, D, at', en) = (0, (s.1, s.2 ++ [((k : Int), D)]))) := by show _ = _; rw [HR0.out, if_pos hrd]
            have hf : rdF (k : Int) D = none := by unfold rdF; rw [if_pos hrd]
            rw [hf] at HX5
            obtain rfl : x4 = .nilIface := HX5.out
            clear HR0 HX5 hf hrd
            go_wp2_with fail
            obtain ⟨w5, hw5⟩ : ∃ z, w4.alloc (.cells #[.int .i64 (rdV (k : Int) D).1, .int .i64 (rdV (k : Int) D).2.1, .slice ua (rdV (k : Int) D).2.2.length uc] 108) = z := ⟨_, rfl⟩
            rw [hw5] at HU5 HB5 ⊢
            clear hw5
            obtain ⟨cv, Z, P, h1, h2, h3⟩ := HU5.out.ext (Ext.refl w5).drew
            have hzl : Z.length = s.2.length := by rw [← h2, List.length_map]
            have hown := rw_own (Uno.assoc (bag_swap h1))
            have hb6 := bo_box (Uno.assoc h1)
            obtain ⟨va, vc, hcv⟩ := (Row.of_owns hown).form
            have hcv : cv = .slice va Z.length vc := hcv
            subst hcv
            obtain ⟨m, hm⟩ : ∃ m, Z.length = m := ⟨_, rfl⟩
            rw [hm] at hzl
            have hm9 : m ≤ 1000000 := by omega
            have b3 : w5.cell? ⟨p, 3, none⟩ = some (.slice va m vc) := by rw [← hm]; exact hb6.cell (i := 3) rfl
            have b3' := (Ext.refl w5).drew.cell b3
            have c0 := HB5.out.cell (i := 0) (v := .int .i64 (k : Int)) rfl
            have c1 := HB5.out.cell (i := 1) (v := .slice a n cap) rfl
            have c0' := (Ext.refl w5).drew.cell c0
            have c1' := (Ext.refl w5).drew.cell c1
            have b3x := ((Ext.refl w5).alloc (.cells #[.int .i64 (k : Int), .slice a n cap] 61)).cell b3
            have hown' : w5.drew.ownsRow 0 61 2 (.slice va m vc) m (cgC Z) := by rw [← hm]; exact hown
            have HO := Lib.hid hown'
            have H1 := Lib.hid h1
            have HM := Lib.hid hm
            have H2 := Lib.hid h2
            have H3 := Lib.hid h3
            clear hown hown' h1 h2 h3 hm hb6 HU5 HB5 hzl
            go_region_law (refine step_push_x (W := w5.drew) 61 infoCg rfl (by decide) (by decide) (by rfl) _ _ 24 (by rfl) Tryz.underlying24 _ m (cgC Z) [.int .i64 (k : Int), .slice a n cap] rfl (fun u hu => by simp only [List.mem_cons, List.not_mem_nil, or_false] at hu; rcases hu with rfl | rfl <;> rfl) (by rfl) HO.out (by rfl) hm9 ?_; intro g8 cp8 w8 h8 k8 hat8; obtain ⟨B8, U8⟩ := GkU.grow H1.out H2.out H3.out HQ.out HM.out.symm h8 (by rw [HM.out]; exact k8) (by rw [HM.out]; exact hat8); have q3 := B8.cell (i := 3) (v := .slice va Z.length vc) rfl; have r3 := B8.free (i := 3); have HU8 := Lib.hid U8; clear h8 k8 hat8 B8 U8)
            all_goals
              have HU9 : Hid (GkU p w0 (w8.setCell ⟨p, 3, none⟩ (.slice (some ⟨g8, 0, none⟩) (m + 1) cp8)) (gtk i s (k, D, at', en)).2 Q) := by show GkU _ _ _ _ _; rw [HR.out]; exact HU8.out
              have HX9 : Hid ((gtk i s (k, D, at', en)).1 = 0) := by show _ = _; rw [HR.out]
              clear HU8 HR H1 H2 H3 HM HO b3 b3' b3x c0 c1 c0' c1' q3 r3
              go_wp2
              go_ret
              exact ⟨_, rfl, by rw [HX9.out]; exact rfl, HU9.out⟩
          · have HR : Hid (gtk i s (k, D, at', en) = (rdC (k : Int) D, s)) := by show _ = _; rw [HR0.out, if_neg hrd]
            have hf : rdF (k : Int) D = some ([], rdC (k : Int) D) := by unfold rdF; rw [if_neg hrd]
            rw [hf] at HX5
            obtain ⟨xt, xv, rfl⟩ := ErrIs.ne HX5.out
            have HX6 : Hid (ErrIs (w4.alloc (.cells #[.int .i64 (rdV (k : Int) D).1, .int .i64 (rdV (k : Int) D).2.1, .slice ua (rdV (k : Int) D).2.2.length uc] 108)) (codeF (gtk i s (k, D, at', en)).1) (.iface xt xv)) := by show ErrIs _ _ _; rw [HR.out]; show ErrIs _ (codeF (rdC (k : Int) D)) _; rw [codeF_of hrd]; exact HX5.out
            have HU6 : Hid (GkU p w0 (w4.alloc (.cells #[.int .i64 (rdV (k : Int) D).1, .int .i64 (rdV (k : Int) D).2.1, .slice ua (rdV (k : Int) D).2.2.length uc] 108)) (gtk i s (k, D, at', en)).2 Q) := by show GkU _ _ _ _ _; rw [HR.out]; exact HU5.out
            clear HR0 HX5 hf hrd HU5 HB5 HR
            go_wp2
            go_ret
            exact ⟨_, rfl, HX6.out, HU6.out⟩
end Go.Proofs.YtlaedbglclmheaaGreatDoor
