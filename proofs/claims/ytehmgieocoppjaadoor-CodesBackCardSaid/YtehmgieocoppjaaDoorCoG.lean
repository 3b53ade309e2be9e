/- kinlaw3.gets: its contract; CodesGets: the walk. -/
import Derived.Test.YtehmgieocoppjaaDoorCo5
import Derived.Test.YtehmgieocoppjaaDoorCo7
import Derived.Test.YtehmgieocoppjaaDoorCoA
import Derived.Test.YtehmgieocoppjaaDoorOpQ
import Derived.Deep.RegionHeld3
namespace Go.Proofs.YtehmgieocoppjaaDoor
set_option linter.unusedVariables false
set_option linter.unusedSimpArgs false
open Go.RowKit Go.Extern.Stop Go.Stop Go.Extern

theorem IsErr.kpi {w w' : World} {b : Nat} {i : Int} (k : Kp b w w') (hb : w.cell? ⟨b, 0, none⟩ = some (.int .i64 i)) : ∀ {p : List (ByteArray × Int)} {c : Int} {v : Value}, IsErr w p c v → IsErr w' p c v
  | [], _, _, hv => hv
  | (_, _) :: _, _, _, ⟨g, u, hv, h0, h1, h2, hu⟩ => by
    have hg : g ≠ b := fun e => by subst e; rw [hb] at h0; cases h0
    exact ⟨g, u, hv, k.cell h0 hg, k.cell h1 hg, k.cell h2 hg, IsErr.kpi k hb hu⟩
theorem ErrIs.kpi {w w' : World} {b : Nat} {i : Int} {f : Fall} {x : Value} (h : ErrIs w f x) (k : Kp b w w') (hb : w.cell? ⟨b, 0, none⟩ = some (.int .i64 i)) : ErrIs w' f x := by
  cases f with
  | none => exact h
  | some a => exact ⟨IsErr.kpi k hb h.1, h.2⟩
/-- what reading an operation answers -/
def gR (bs : List Nat) (p : Nat) (o : Oq4) : Fall × Int × Nat :=
  if o.1 = 0 then ugG bs p o.2.2.2 else if o.1 = 1 then sgG bs p o.2.2.2 else if o.1 = 2 then rgG bs p o.2.2.1 o.2.2.2 else (rdF bs p o.2.2.1, rdV bs p o.2.2.1, rdP bs p o.2.2.1)
theorem gR_le {bs : List Nat} {p : Nat} {o : Oq4} (h : p ≤ 8 * bs.length) : (gR bs p o).2.2 ≤ 8 * bs.length := by
  unfold gR
  split
  · exact ugG_le h
  · split
    · exact sgG_le h
    · split
      · exact rgG_le h
      · exact rdP_le h
/-- an operation in a block of its own -/
def Oc4 (w : World) (g : Nat) (kd vv kk mm : Int) : Prop := w.cell? ⟨g, 0, none⟩ = some (.int .i64 kd) ∧ w.cell? ⟨g, 1, none⟩ = some (.int .i64 vv) ∧ w.cell? ⟨g, 2, none⟩ = some (.int .i64 kk) ∧ w.cell? ⟨g, 3, none⟩ = some (.int .i64 mm)
theorem Oc4.ext {w w' : World} {g : Nat} {kd vv kk mm : Int} (h : Oc4 w g kd vv kk mm) (k : Ext w w') : Oc4 w' g kd vv kk mm := ⟨k.cell h.1, k.cell h.2.1, k.cell h.2.2.1, k.cell h.2.2.2⟩
set_option maxHeartbeats 8000000 in
set_option maxRecDepth 20000 in
theorem gets_any (c x B0 N p : Nat) (kd vv kk mm : Int) (bs : List Nat) (w0 w : World) (hg : EtIs w0) (HE : Ext w0 w) (hwc : w0.heap.size ≤ c) (hwx : w0.heap.size ≤ x) (hcx : c ≠ x) (hBc : B0 ≤ c) (hNx : N ≤ x) (hNw : N ≤ w.heap.size)
    (HR : RdAt (fun g => N ≤ g) w c bs p) (HQ : RqAt w x bs p B0) (hp : p ≤ 8 * bs.length) :
    Calls Tryd.prog 27 #[.pointer (some ⟨c, 0, none⟩), .pointer (some ⟨x, 0, none⟩), .agg #[.int .i64 kd, .int .i64 vv, .int .i64 kk, .int .i64 mm]] w fun e w' => e = .returned (.bool true) ∧ RdAt (fun g => N ≤ g) w' c bs (gR bs p (kd, vv, kk, mm)).2.2 ∧ RqAt w' x bs (gR bs p (kd, vv, kk, mm)).2.2 B0 ∧ Ext w0 w' := by
  have hcw : c < w.heap.size := HR.lt
  have hxw : x < w.heap.size := HQ.lt
  have hB0x : B0 ≤ x := HQ.base
  have A1 : Ext w (w.alloc (.cells #[.int .i64 kd, .int .i64 vv, .int .i64 kk, .int .i64 mm] 50)) := (Ext.refl w).alloc _
  have hs1 : (w.alloc (.cells #[.int .i64 kd, .int .i64 vv, .int .i64 kk, .int .i64 mm] 50)).heap.size = w.heap.size + 1 := by simp
  have HB0 := RBox.new (w.alloc (.cells #[.int .i64 kd, .int .i64 vv, .int .i64 kk, .int .i64 mm] 50))
  rw [hs1] at HB0
  have A2 := A1.alloc (.cells #[.int .i64 0, .slice none 0 0] 39)
  have HO0 : Hid (Oc4 ((w.alloc (.cells #[.int .i64 kd, .int .i64 vv, .int .i64 kk, .int .i64 mm] 50)).alloc (.cells #[.int .i64 0, .slice none 0 0] 39)) w.heap.size kd vv kk mm) :=
    Oc4.ext (w := w.alloc (.cells #[.int .i64 kd, .int .i64 vv, .int .i64 kk, .int .i64 mm] 50)) ⟨by simp, by simp, by simp, by simp⟩ ((Ext.refl _).alloc _)
  have HR0 := Lib.hid (HR.ext A2)
  have HQ0 := Lib.hid (HQ.ext A2)
  have HE0 := Lib.hid (HE.trans A2)
  have hw0 : w0.heap.size ≤ w.heap.size := HE.size
  have HB0' := Lib.hid HB0
  clear HB0
  have HB0 := HB0'
  have hxc : x ≠ c := by omega
  have hoc : w.heap.size ≠ c := by omega
  have hec : (w.heap.size + 1) ≠ c := by omega
  have hex : (w.heap.size + 1) ≠ x := by omega
  have hNe : N ≤ (w.heap.size + 1) := by omega
  obtain ⟨p0, p1, p2, p3⟩ := HO0.out
  clear HB0' A1 A2 hs1 HR HQ HE
  obtain ⟨R, hR⟩ : ∃ R, gR bs p (kd, vv, kk, mm) = R := ⟨_, rfl⟩
  rw [hR]
  by_cases h0 : kd = 0
  · subst h0
    have V1 := Lib.hid (fun w' (h : RdAt (fun g => N ≤ g) w' c bs p) => getue_any c p mm bs w' h hp)
    have V2 := Lib.hid (fun w' (h : RqAt w' x bs p B0) => rgetue_any x p B0 mm bs w' h hp)
    have hg0 : ugG bs p mm = R := by rw [← hR]; unfold gR; rw [if_pos rfl]
    rw [hg0] at V1 V2
    clear hg0 hR
    -- in hand: V1 V2 (both contracts at R), the goal at R
    obtain ⟨f, V, P⟩ := R
    have U1 := V1
    have U2 := V2
    clear V1 V2
    go_enter Tryd.func27, Tryd.ntmps27
    -- U1 U2: both calls
    go_wp2_with fail
    refine (U1.out _ HR0.out).mono ?_; rintro e w5 ⟨x5, rfl, k5, r5, e5⟩
    have HE5 := Lib.hid (Kp.out HE0.out k5 hwc)
    have HQ5 := Lib.hid (HQ0.out.kp k5 hBc hxc)
    have HB5 := Lib.hid (HB0.out.kp k5 hec)
    have HO5 := Lib.hid (show Oc4 w5 w.heap.size _ vv kk mm from ⟨k5.cell HO0.out.1 hoc, k5.cell HO0.out.2.1 hoc, k5.cell HO0.out.2.2.1 hoc, k5.cell HO0.out.2.2.2 hoc⟩)
    have HR5 := Lib.hid r5
    have HX5 := Lib.hid e5
    clear k5 r5 e5 HE0 HQ0 HB0 HO0 HR0
    obtain ⟨p0, p1, p2, p3⟩ := HO5.out
    go_wp2_with fail
    refine (U2.out _ HQ5.out).mono ?_; rintro e w6 ⟨c6, u6, rfl, k6, q6, e6⟩
    obtain ⟨ua, un, uc, rfl⟩ := e6.form
    have HE6 := Lib.hid (Kp.out HE5.out k6 hwx)
    have HB6 := Lib.hid (HB5.out.kp k6 hex)
    have HR6 := Lib.hid (HR5.out.kp k6 (show N ≤ x from hNx) hcx)
    have HX6 : Hid (ErrIs w6 f x5) := by
      obtain ⟨a9, cap9, ⟨b0, -, -⟩, -⟩ := HQ5.out
      exact HX5.out.kp k6 b0
    have K1 : Kp (w.heap.size + 1) w6 (w6.setCell ⟨(w.heap.size + 1), 0, none⟩ (.int .i64 c6)) := (Kp.refl (w.heap.size + 1) w6).set 0 _
    have K2 : Kp (w.heap.size + 1) (w6.setCell ⟨(w.heap.size + 1), 0, none⟩ (.int .i64 c6)) ((w6.setCell ⟨(w.heap.size + 1), 0, none⟩ (.int .i64 c6)).setCell ⟨(w.heap.size + 1), 1, none⟩ (.slice ua un uc)) := (Kp.refl (w.heap.size + 1) _).set 1 _
    obtain ⟨g0, g1, g2, g3⟩ := HB6.out.res
    obtain ⟨y0, y1⟩ := res_cells g0 g1 (c := c6) (.slice ua un uc)
    have g0' := World.cell?_setCell_same w6 ⟨(w.heap.size + 1), 0, none⟩ (.int .i64 c6) g0
    have HXz := Lib.hid ((HX6.out.kpi K1 g0).kpi K2 g0')
    have HRz := Lib.hid ((HR6.out.kp K1 (show N ≤ (w.heap.size + 1) from hNe) (by omega)).kp K2 (show N ≤ (w.heap.size + 1) from hNe) (by omega))
    have HQz := Lib.hid ((q6.fresh (R := (w.heap.size + 1)) (by omega) (by omega) 0 (.int .i64 c6)).fresh (R := (w.heap.size + 1)) (by omega) (by omega) 1 (.slice ua un uc))
    have HFz := Lib.hid (e6.box HB6.out (.int .i64 c6) (.slice ua un uc))
    have HEz := Lib.hid ((HE6.out.setCell (p := ⟨(w.heap.size + 1), 0, none⟩) (by show w0.heap.size ≤ (w.heap.size + 1); omega) (.int .i64 c6)).setCell (p := ⟨(w.heap.size + 1), 1, none⟩) (by show w0.heap.size ≤ (w.heap.size + 1); omega) (.slice ua un uc))
    obtain ⟨wz, hwz⟩ : ∃ wz, (w6.setCell ⟨(w.heap.size + 1), 0, none⟩ (.int .i64 c6)).setCell ⟨(w.heap.size + 1), 1, none⟩ (.slice ua un uc) = wz := ⟨_, rfl⟩
    clear k6 q6 e6 HE5 HQ5 HB5 HO5 HR5 HX5 K1 K2 HE6 HB6 HR6 HX6 g0' p0 p1 p2 p3
    rw [hwz] at y0 y1 HXz HRz HQz HFz HEz
    have HWZ := Lib.hid hwz
    go_wp2_with fail
    clear g0 g1 g2 g3 hwz
    obtain ⟨xa, xcap, ⟨z0, z1, z2⟩, -, -⟩ := HQz.out
    have KS : Hid (∀ w', Ext wz w' → (w'.cell? ⟨(w.heap.size + 1), 0, none⟩ = some (.int .i64 c6) ∧ w'.cell? ⟨(w.heap.size + 1), 1, none⟩ = some (.slice ua un uc) ∧ w'.cell? ⟨x, 1, none⟩ = some (.int .i64 (P : Int))) ∧ Ext wz w') := fun w' h => ⟨⟨h.cell y0, h.cell y1, h.cell z1⟩, h⟩
    go_region_held3 (fun w' => (w'.cell? ⟨(w.heap.size + 1), 0, none⟩ = some (.int .i64 c6) ∧ w'.cell? ⟨(w.heap.size + 1), 1, none⟩ = some (.slice ua un uc) ∧ w'.cell? ⟨x, 1, none⟩ = some (.int .i64 (P : Int))) ∧ Ext wz w')
      (first | assumption | (go_split_ands; exact KS.out _ (by repeat (first | exact Ext.refl _ | assumption | refine Ext.drew ?_ | refine Ext.trans ?_ (by assumption)))))
      ((first
        | (go_at_call 42; obtain ⟨_, hE1⟩ : _ ∧ Ext wz _ := (by assumption); refine (place_any c P bs _ (HRz.out.ext hE1)).mono ?_; rintro e w8 ⟨rfl, rfl⟩)
        | (go_at_call 14; obtain ⟨_, hE1⟩ : _ ∧ Ext wz _ := (by assumption); refine (same_fall f _ _ _ _ (hg.ext (HEz.out.trans hE1)) (HXz.out.ext hE1) (HFz.out.ext hE1)).mono ?_; rintro e w7 ⟨rfl, hx7⟩)))
    all_goals obtain ⟨_, hE9⟩ : _ ∧ Ext wz _ := by assumption
    all_goals go_wp2
    all_goals go_ret
    all_goals exact ⟨rfl, HRz.out.ext hE9, HQz.out.ext hE9, HEz.out.trans hE9⟩
  · by_cases h1 : kd = 1
    · subst h1
      have V1 := Lib.hid (fun w' (h : RdAt (fun g => N ≤ g) w' c bs p) => getse_any c p mm bs w' h hp)
      have V2 := Lib.hid (fun w' (h : RqAt w' x bs p B0) => rgetse_any x p B0 mm bs w' h hp)
      have hg0 : sgG bs p mm = R := by rw [← hR]; unfold gR; rw [if_neg (show ¬ (1 : Int) = 0 by decide), if_pos rfl]
      rw [hg0] at V1 V2
      clear hg0 hR h0
      -- in hand: V1 V2 (both contracts at R), the goal at R
      obtain ⟨f, V, P⟩ := R
      have U1 := V1
      have U2 := V2
      clear V1 V2
      go_enter Tryd.func27, Tryd.ntmps27
      -- U1 U2: both calls
      go_wp2_with fail
      refine (U1.out _ HR0.out).mono ?_; rintro e w5 ⟨x5, rfl, k5, r5, e5⟩
      have HE5 := Lib.hid (Kp.out HE0.out k5 hwc)
      have HQ5 := Lib.hid (HQ0.out.kp k5 hBc hxc)
      have HB5 := Lib.hid (HB0.out.kp k5 hec)
      have HO5 := Lib.hid (show Oc4 w5 w.heap.size _ vv kk mm from ⟨k5.cell HO0.out.1 hoc, k5.cell HO0.out.2.1 hoc, k5.cell HO0.out.2.2.1 hoc, k5.cell HO0.out.2.2.2 hoc⟩)
      have HR5 := Lib.hid r5
      have HX5 := Lib.hid e5
      clear k5 r5 e5 HE0 HQ0 HB0 HO0 HR0
      obtain ⟨p0, p1, p2, p3⟩ := HO5.out
      go_wp2_with fail
      refine (U2.out _ HQ5.out).mono ?_; rintro e w6 ⟨c6, u6, rfl, k6, q6, e6⟩
      obtain ⟨ua, un, uc, rfl⟩ := e6.form
      have HE6 := Lib.hid (Kp.out HE5.out k6 hwx)
      have HB6 := Lib.hid (HB5.out.kp k6 hex)
      have HR6 := Lib.hid (HR5.out.kp k6 (show N ≤ x from hNx) hcx)
      have HX6 : Hid (ErrIs w6 f x5) := by
        obtain ⟨a9, cap9, ⟨b0, -, -⟩, -⟩ := HQ5.out
        exact HX5.out.kp k6 b0
      have K1 : Kp (w.heap.size + 1) w6 (w6.setCell ⟨(w.heap.size + 1), 0, none⟩ (.int .i64 c6)) := (Kp.refl (w.heap.size + 1) w6).set 0 _
      have K2 : Kp (w.heap.size + 1) (w6.setCell ⟨(w.heap.size + 1), 0, none⟩ (.int .i64 c6)) ((w6.setCell ⟨(w.heap.size + 1), 0, none⟩ (.int .i64 c6)).setCell ⟨(w.heap.size + 1), 1, none⟩ (.slice ua un uc)) := (Kp.refl (w.heap.size + 1) _).set 1 _
      obtain ⟨g0, g1, g2, g3⟩ := HB6.out.res
      obtain ⟨y0, y1⟩ := res_cells g0 g1 (c := c6) (.slice ua un uc)
      have g0' := World.cell?_setCell_same w6 ⟨(w.heap.size + 1), 0, none⟩ (.int .i64 c6) g0
      have HXz := Lib.hid ((HX6.out.kpi K1 g0).kpi K2 g0')
      have HRz := Lib.hid ((HR6.out.kp K1 (show N ≤ (w.heap.size + 1) from hNe) (by omega)).kp K2 (show N ≤ (w.heap.size + 1) from hNe) (by omega))
      have HQz := Lib.hid ((q6.fresh (R := (w.heap.size + 1)) (by omega) (by omega) 0 (.int .i64 c6)).fresh (R := (w.heap.size + 1)) (by omega) (by omega) 1 (.slice ua un uc))
      have HFz := Lib.hid (e6.box HB6.out (.int .i64 c6) (.slice ua un uc))
      have HEz := Lib.hid ((HE6.out.setCell (p := ⟨(w.heap.size + 1), 0, none⟩) (by show w0.heap.size ≤ (w.heap.size + 1); omega) (.int .i64 c6)).setCell (p := ⟨(w.heap.size + 1), 1, none⟩) (by show w0.heap.size ≤ (w.heap.size + 1); omega) (.slice ua un uc))
      obtain ⟨wz, hwz⟩ : ∃ wz, (w6.setCell ⟨(w.heap.size + 1), 0, none⟩ (.int .i64 c6)).setCell ⟨(w.heap.size + 1), 1, none⟩ (.slice ua un uc) = wz := ⟨_, rfl⟩
      clear k6 q6 e6 HE5 HQ5 HB5 HO5 HR5 HX5 K1 K2 HE6 HB6 HR6 HX6 g0' p0 p1 p2 p3
      rw [hwz] at y0 y1 HXz HRz HQz HFz HEz
      have HWZ := Lib.hid hwz
      go_wp2_with fail
      clear g0 g1 g2 g3 hwz
      obtain ⟨xa, xcap, ⟨z0, z1, z2⟩, -, -⟩ := HQz.out
      have KS : Hid (∀ w', Ext wz w' → (w'.cell? ⟨(w.heap.size + 1), 0, none⟩ = some (.int .i64 c6) ∧ w'.cell? ⟨(w.heap.size + 1), 1, none⟩ = some (.slice ua un uc) ∧ w'.cell? ⟨x, 1, none⟩ = some (.int .i64 (P : Int))) ∧ Ext wz w') := fun w' h => ⟨⟨h.cell y0, h.cell y1, h.cell z1⟩, h⟩
      go_region_held3 (fun w' => (w'.cell? ⟨(w.heap.size + 1), 0, none⟩ = some (.int .i64 c6) ∧ w'.cell? ⟨(w.heap.size + 1), 1, none⟩ = some (.slice ua un uc) ∧ w'.cell? ⟨x, 1, none⟩ = some (.int .i64 (P : Int))) ∧ Ext wz w')
        (first | assumption | (go_split_ands; exact KS.out _ (by repeat (first | exact Ext.refl _ | assumption | refine Ext.drew ?_ | refine Ext.trans ?_ (by assumption)))))
        ((first
          | (go_at_call 42; obtain ⟨_, hE1⟩ : _ ∧ Ext wz _ := (by assumption); refine (place_any c P bs _ (HRz.out.ext hE1)).mono ?_; rintro e w8 ⟨rfl, rfl⟩)
          | (go_at_call 14; obtain ⟨_, hE1⟩ : _ ∧ Ext wz _ := (by assumption); refine (same_fall f _ _ _ _ (hg.ext (HEz.out.trans hE1)) (HXz.out.ext hE1) (HFz.out.ext hE1)).mono ?_; rintro e w7 ⟨rfl, hx7⟩)))
      all_goals obtain ⟨_, hE9⟩ : _ ∧ Ext wz _ := by assumption
      all_goals go_wp2
      all_goals go_ret
      all_goals exact ⟨rfl, HRz.out.ext hE9, HQz.out.ext hE9, HEz.out.trans hE9⟩
    · by_cases h2 : kd = 2
      · subst h2
        have V1 := Lib.hid (fun w' (h : RdAt (fun g => N ≤ g) w' c bs p) => getri_any c p kk mm bs w' h hp)
        have V2 := Lib.hid (fun w' (h : RqAt w' x bs p B0) => rgetri_any x p B0 kk mm bs w' h hp)
        have hg0 : rgG bs p kk mm = R := by rw [← hR]; unfold gR; rw [if_neg (show ¬ (2 : Int) = 0 by decide), if_neg (show ¬ (2 : Int) = 1 by decide), if_pos rfl]
        rw [hg0] at V1 V2
        clear hg0 hR h0 h1
        -- in hand: V1 V2 (both contracts at R), the goal at R
        obtain ⟨f, V, P⟩ := R
        have U1 := V1
        have U2 := V2
        clear V1 V2
        go_enter Tryd.func27, Tryd.ntmps27
        -- U1 U2: both calls
        go_wp2_with fail
        refine (U1.out _ HR0.out).mono ?_; rintro e w5 ⟨x5, rfl, k5, r5, e5⟩
        have HE5 := Lib.hid (Kp.out HE0.out k5 hwc)
        have HQ5 := Lib.hid (HQ0.out.kp k5 hBc hxc)
        have HB5 := Lib.hid (HB0.out.kp k5 hec)
        have HO5 := Lib.hid (show Oc4 w5 w.heap.size _ vv kk mm from ⟨k5.cell HO0.out.1 hoc, k5.cell HO0.out.2.1 hoc, k5.cell HO0.out.2.2.1 hoc, k5.cell HO0.out.2.2.2 hoc⟩)
        have HR5 := Lib.hid r5
        have HX5 := Lib.hid e5
        clear k5 r5 e5 HE0 HQ0 HB0 HO0 HR0
        obtain ⟨p0, p1, p2, p3⟩ := HO5.out
        go_wp2_with fail
        refine (U2.out _ HQ5.out).mono ?_; rintro e w6 ⟨c6, u6, rfl, k6, q6, e6⟩
        obtain ⟨ua, un, uc, rfl⟩ := e6.form
        have HE6 := Lib.hid (Kp.out HE5.out k6 hwx)
        have HB6 := Lib.hid (HB5.out.kp k6 hex)
        have HR6 := Lib.hid (HR5.out.kp k6 (show N ≤ x from hNx) hcx)
        have HX6 : Hid (ErrIs w6 f x5) := by
          obtain ⟨a9, cap9, ⟨b0, -, -⟩, -⟩ := HQ5.out
          exact HX5.out.kp k6 b0
        have K1 : Kp (w.heap.size + 1) w6 (w6.setCell ⟨(w.heap.size + 1), 0, none⟩ (.int .i64 c6)) := (Kp.refl (w.heap.size + 1) w6).set 0 _
        have K2 : Kp (w.heap.size + 1) (w6.setCell ⟨(w.heap.size + 1), 0, none⟩ (.int .i64 c6)) ((w6.setCell ⟨(w.heap.size + 1), 0, none⟩ (.int .i64 c6)).setCell ⟨(w.heap.size + 1), 1, none⟩ (.slice ua un uc)) := (Kp.refl (w.heap.size + 1) _).set 1 _
        obtain ⟨g0, g1, g2, g3⟩ := HB6.out.res
        obtain ⟨y0, y1⟩ := res_cells g0 g1 (c := c6) (.slice ua un uc)
        have g0' := World.cell?_setCell_same w6 ⟨(w.heap.size + 1), 0, none⟩ (.int .i64 c6) g0
        have HXz := Lib.hid ((HX6.out.kpi K1 g0).kpi K2 g0')
        have HRz := Lib.hid ((HR6.out.kp K1 (show N ≤ (w.heap.size + 1) from hNe) (by omega)).kp K2 (show N ≤ (w.heap.size + 1) from hNe) (by omega))
        have HQz := Lib.hid ((q6.fresh (R := (w.heap.size + 1)) (by omega) (by omega) 0 (.int .i64 c6)).fresh (R := (w.heap.size + 1)) (by omega) (by omega) 1 (.slice ua un uc))
        have HFz := Lib.hid (e6.box HB6.out (.int .i64 c6) (.slice ua un uc))
        have HEz := Lib.hid ((HE6.out.setCell (p := ⟨(w.heap.size + 1), 0, none⟩) (by show w0.heap.size ≤ (w.heap.size + 1); omega) (.int .i64 c6)).setCell (p := ⟨(w.heap.size + 1), 1, none⟩) (by show w0.heap.size ≤ (w.heap.size + 1); omega) (.slice ua un uc))
        obtain ⟨wz, hwz⟩ : ∃ wz, (w6.setCell ⟨(w.heap.size + 1), 0, none⟩ (.int .i64 c6)).setCell ⟨(w.heap.size + 1), 1, none⟩ (.slice ua un uc) = wz := ⟨_, rfl⟩
        clear k6 q6 e6 HE5 HQ5 HB5 HO5 HR5 HX5 K1 K2 HE6 HB6 HR6 HX6 g0' p0 p1 p2 p3
        rw [hwz] at y0 y1 HXz HRz HQz HFz HEz
        have HWZ := Lib.hid hwz
        go_wp2_with fail
        clear g0 g1 g2 g3 hwz
        obtain ⟨xa, xcap, ⟨z0, z1, z2⟩, -, -⟩ := HQz.out
        have KS : Hid (∀ w', Ext wz w' → (w'.cell? ⟨(w.heap.size + 1), 0, none⟩ = some (.int .i64 c6) ∧ w'.cell? ⟨(w.heap.size + 1), 1, none⟩ = some (.slice ua un uc) ∧ w'.cell? ⟨x, 1, none⟩ = some (.int .i64 (P : Int))) ∧ Ext wz w') := fun w' h => ⟨⟨h.cell y0, h.cell y1, h.cell z1⟩, h⟩
        go_region_held3 (fun w' => (w'.cell? ⟨(w.heap.size + 1), 0, none⟩ = some (.int .i64 c6) ∧ w'.cell? ⟨(w.heap.size + 1), 1, none⟩ = some (.slice ua un uc) ∧ w'.cell? ⟨x, 1, none⟩ = some (.int .i64 (P : Int))) ∧ Ext wz w')
          (first | assumption | (go_split_ands; exact KS.out _ (by repeat (first | exact Ext.refl _ | assumption | refine Ext.drew ?_ | refine Ext.trans ?_ (by assumption)))))
          ((first
            | (go_at_call 42; obtain ⟨_, hE1⟩ : _ ∧ Ext wz _ := (by assumption); refine (place_any c P bs _ (HRz.out.ext hE1)).mono ?_; rintro e w8 ⟨rfl, rfl⟩)
            | (go_at_call 14; obtain ⟨_, hE1⟩ : _ ∧ Ext wz _ := (by assumption); refine (same_fall f _ _ _ _ (hg.ext (HEz.out.trans hE1)) (HXz.out.ext hE1) (HFz.out.ext hE1)).mono ?_; rintro e w7 ⟨rfl, hx7⟩)))
        all_goals obtain ⟨_, hE9⟩ : _ ∧ Ext wz _ := by assumption
        all_goals go_wp2
        all_goals go_ret
        all_goals exact ⟨rfl, HRz.out.ext hE9, HQz.out.ext hE9, HEz.out.trans hE9⟩
      · have V1 := Lib.hid (fun w' (h : RdAt (fun g => N ≤ g) w' c bs p) => rdget_any c p kk bs w' h hp)
        have V2 := Lib.hid (fun w' (h : RqAt w' x bs p B0) => rqget_any x p B0 kk bs w' h hp)
        have hg0 : (rdF bs p kk, rdV bs p kk, rdP bs p kk) = R := by rw [← hR]; unfold gR; rw [if_neg h0, if_neg h1, if_neg h2]
        rw [show rdF bs p kk = R.1 from by rw [← hg0], show rdV bs p kk = R.2.1 from by rw [← hg0], show rdP bs p kk = R.2.2 from by rw [← hg0]] at V1 V2
        clear hg0 hR
        -- in hand: V1 V2 (both contracts at R), the goal at R
        obtain ⟨f, V, P⟩ := R
        have U1 := V1
        have U2 := V2
        clear V1 V2
        go_enter Tryd.func27, Tryd.ntmps27
        -- U1 U2: both calls
        go_wp2_with fail
        refine (U1.out _ HR0.out).mono ?_; rintro e w5 ⟨x5, rfl, k5, r5, e5⟩
        have HE5 := Lib.hid (Kp.out HE0.out k5 hwc)
        have HQ5 := Lib.hid (HQ0.out.kp k5 hBc hxc)
        have HB5 := Lib.hid (HB0.out.kp k5 hec)
        have HO5 := Lib.hid (show Oc4 w5 w.heap.size _ vv kk mm from ⟨k5.cell HO0.out.1 hoc, k5.cell HO0.out.2.1 hoc, k5.cell HO0.out.2.2.1 hoc, k5.cell HO0.out.2.2.2 hoc⟩)
        have HR5 := Lib.hid r5
        have HX5 := Lib.hid e5
        clear k5 r5 e5 HE0 HQ0 HB0 HO0 HR0
        obtain ⟨p0, p1, p2, p3⟩ := HO5.out
        go_wp2_with fail
        refine (U2.out _ HQ5.out).mono ?_; rintro e w6 ⟨c6, u6, rfl, k6, q6, e6⟩
        obtain ⟨ua, un, uc, rfl⟩ := e6.form
        have HE6 := Lib.hid (Kp.out HE5.out k6 hwx)
        have HB6 := Lib.hid (HB5.out.kp k6 hex)
        have HR6 := Lib.hid (HR5.out.kp k6 (show N ≤ x from hNx) hcx)
        have HX6 : Hid (ErrIs w6 f x5) := by
          obtain ⟨a9, cap9, ⟨b0, -, -⟩, -⟩ := HQ5.out
          exact HX5.out.kp k6 b0
        have K1 : Kp (w.heap.size + 1) w6 (w6.setCell ⟨(w.heap.size + 1), 0, none⟩ (.int .i64 c6)) := (Kp.refl (w.heap.size + 1) w6).set 0 _
        have K2 : Kp (w.heap.size + 1) (w6.setCell ⟨(w.heap.size + 1), 0, none⟩ (.int .i64 c6)) ((w6.setCell ⟨(w.heap.size + 1), 0, none⟩ (.int .i64 c6)).setCell ⟨(w.heap.size + 1), 1, none⟩ (.slice ua un uc)) := (Kp.refl (w.heap.size + 1) _).set 1 _
        obtain ⟨g0, g1, g2, g3⟩ := HB6.out.res
        obtain ⟨y0, y1⟩ := res_cells g0 g1 (c := c6) (.slice ua un uc)
        have g0' := World.cell?_setCell_same w6 ⟨(w.heap.size + 1), 0, none⟩ (.int .i64 c6) g0
        have HXz := Lib.hid ((HX6.out.kpi K1 g0).kpi K2 g0')
        have HRz := Lib.hid ((HR6.out.kp K1 (show N ≤ (w.heap.size + 1) from hNe) (by omega)).kp K2 (show N ≤ (w.heap.size + 1) from hNe) (by omega))
        have HQz := Lib.hid ((q6.fresh (R := (w.heap.size + 1)) (by omega) (by omega) 0 (.int .i64 c6)).fresh (R := (w.heap.size + 1)) (by omega) (by omega) 1 (.slice ua un uc))
        have HFz := Lib.hid (e6.box HB6.out (.int .i64 c6) (.slice ua un uc))
        have HEz := Lib.hid ((HE6.out.setCell (p := ⟨(w.heap.size + 1), 0, none⟩) (by show w0.heap.size ≤ (w.heap.size + 1); omega) (.int .i64 c6)).setCell (p := ⟨(w.heap.size + 1), 1, none⟩) (by show w0.heap.size ≤ (w.heap.size + 1); omega) (.slice ua un uc))
        obtain ⟨wz, hwz⟩ : ∃ wz, (w6.setCell ⟨(w.heap.size + 1), 0, none⟩ (.int .i64 c6)).setCell ⟨(w.heap.size + 1), 1, none⟩ (.slice ua un uc) = wz := ⟨_, rfl⟩
        clear k6 q6 e6 HE5 HQ5 HB5 HO5 HR5 HX5 K1 K2 HE6 HB6 HR6 HX6 g0' p0 p1 p2 p3
        rw [hwz] at y0 y1 HXz HRz HQz HFz HEz
        have HWZ := Lib.hid hwz
        go_wp2_with fail
        clear g0 g1 g2 g3 hwz
        obtain ⟨xa, xcap, ⟨z0, z1, z2⟩, -, -⟩ := HQz.out
        have KS : Hid (∀ w', Ext wz w' → (w'.cell? ⟨(w.heap.size + 1), 0, none⟩ = some (.int .i64 c6) ∧ w'.cell? ⟨(w.heap.size + 1), 1, none⟩ = some (.slice ua un uc) ∧ w'.cell? ⟨x, 1, none⟩ = some (.int .i64 (P : Int))) ∧ Ext wz w') := fun w' h => ⟨⟨h.cell y0, h.cell y1, h.cell z1⟩, h⟩
        go_region_held3 (fun w' => (w'.cell? ⟨(w.heap.size + 1), 0, none⟩ = some (.int .i64 c6) ∧ w'.cell? ⟨(w.heap.size + 1), 1, none⟩ = some (.slice ua un uc) ∧ w'.cell? ⟨x, 1, none⟩ = some (.int .i64 (P : Int))) ∧ Ext wz w')
          (first | assumption | (go_split_ands; exact KS.out _ (by repeat (first | exact Ext.refl _ | assumption | refine Ext.drew ?_ | refine Ext.trans ?_ (by assumption)))))
          ((first
            | (go_at_call 42; obtain ⟨_, hE1⟩ : _ ∧ Ext wz _ := (by assumption); refine (place_any c P bs _ (HRz.out.ext hE1)).mono ?_; rintro e w8 ⟨rfl, rfl⟩)
            | (go_at_call 14; obtain ⟨_, hE1⟩ : _ ∧ Ext wz _ := (by assumption); refine (same_fall f _ _ _ _ (hg.ext (HEz.out.trans hE1)) (HXz.out.ext hE1) (HFz.out.ext hE1)).mono ?_; rintro e w7 ⟨rfl, hx7⟩)))
        all_goals obtain ⟨_, hE9⟩ : _ ∧ Ext wz _ := by assumption
        all_goals go_wp2
        all_goals go_ret
        all_goals exact ⟨rfl, HRz.out.ext hE9, HQz.out.ext hE9, HEz.out.trans hE9⟩
set_option maxHeartbeats 8000000 in
set_option maxRecDepth 20000 in
theorem cgets_law (bs : List Nat) (L : List Oq4) (v u : Value) (w : World) (hg : EtIs w) (rb : Row w v bs.length (bs.map fun x : Nat => Value.int .u8 (x : Int))) (hb : ∀ x ∈ bs, x < 256) (ho : Oqs w u L) :
    Calls Tryd.prog 5 #[v, u] w fun e w' => e = .returned (.bool true) ∧ Ext w w' := by
  have hm := ho.small
  obtain ⟨b, cb, rfl⟩ := ho.form
  by_cases hl : bs.length ≤ 20000
  · have HB := Lib.hid (show Bys w v bs from ⟨rb, hb, by omega⟩)
    obtain ⟨a, cap, rfl⟩ := HB.out.form
    obtain ⟨n, hn⟩ : ∃ n, n = bs.length := ⟨_, rfl⟩
    have HN := Lib.hid hn
    rw [← hn] at hl ⊢
    have HO := Lib.hid ho
    obtain ⟨m, hm'⟩ : ∃ m, m = L.length := ⟨_, rfl⟩
    rw [← hm'] at HO hm ⊢
    have HM := Lib.hid hm'
    unfold maxLen at hm
    have HB2 : Hid (Bys w (.slice a n cap) bs) := by show Bys _ _ _; rw [hn]; exact HB.out
    clear ho hm' rb hb hn
    have t1 : ¬ (20000 : Int) < (n : Int) := by omega
    go_enter Tryd.func5, Tryd.ntmps5
    go_wp2_with fail
    refine (first3_any _ hg).mono ?_; rintro e w1 ⟨rfl, hx1⟩
    go_wp2_with fail
    refine (newrd_any bs _ _ (HB2.out.ext hx1)).mono ?_; rintro e w2 ⟨c, rfl, hc2, r2, hx2⟩
    have hE2 := hx1.trans hx2
    have hcw2 := r2.lt
    have hwc : w.heap.size ≤ c := Nat.le_trans hx1.size hc2
    have hwx : w.heap.size ≤ w2.heap.size := hE2.size
    have HR2 := Lib.hid (RdAt.mono (E := fun g => w2.heap.size ≤ g) r2 (fun g h => .inr h))
    have NW : Hid (∀ T, RqAt (w2.alloc (.cells #[.slice a n cap, .int .i64 0] T)) w2.heap.size bs 0 w.heap.size) := fun T => by rw [HN.out]; exact RqAt.new T HB.out hE2
    have HE2 := Lib.hid hE2
    clear r2 hx1 hx2 hE2 hc2
    go_wp2_with fail
    go_loopw [7] (fun iv wr => ∃ i p, (i ≤ m ∧ i ≤ 1000) ∧ iv = .int .i64 (i : Int) ∧ p ≤ 8 * n ∧ Hid (RdAt (fun g => w2.heap.size ≤ g) wr c bs p) ∧ Hid (RqAt wr w2.heap.size bs p w.heap.size) ∧ Hid (Ext w wr)) (fun iv _ => 1000 - (intOf iv).toNat)
    case atStart => exact ⟨0, 0, ⟨Nat.zero_le _, Nat.zero_le _⟩, rfl, Nat.zero_le _, HR2.out.ext ((Ext.refl w2).alloc _), NW.out _, HE2.out.trans ((Ext.refl w2).alloc _)⟩
    case round =>
      clear HR2 NW HE2
      obtain ⟨i, p, ⟨hi', hi2⟩, rfl, hp, HR, HQ, HE⟩ := hrel
      by_cases hlt : i < m
      · by_cases hlt2 : i < 1000
        · obtain ⟨g, off, ha, hq⟩ := HO.out.had (by have := HM.out; omega)
          subst ha
          obtain ⟨o, ho⟩ : ∃ o, L[i]? = some o := ⟨_, List.getElem?_eq_getElem (by rw [← HM.out]; exact hlt)⟩
          obtain ⟨kd, vv, kk, mm⟩ := o
          obtain ⟨c0, c1, c2, c3⟩ := (hq i _ ho).ext HE.out
          dsimp only at c0 c1 c2 c3
          have x1 : (0 : Int) ≤ (i : Int) := by omega
          have x2 : (i : Int) < (m : Int) := by omega
          have x3 : (i : Int) < 1000 := by omega
          have U := Lib.hid (gets_any c w2.heap.size w.heap.size w2.heap.size p kd vv kk mm bs w wr hg HE.out hwc hwx (by omega) hwc (Nat.le_refl _) (by have := HQ.out.lt; omega) HR.out HQ.out (by rw [← HN.out]; exact hp))
          have hP : (gR bs p (kd, vv, kk, mm)).2.2 ≤ 8 * n := by rw [HN.out]; exact gR_le (by rw [← HN.out]; exact hp)
          generalize (gR bs p (kd, vv, kk, mm)).2.2 = P at U hP
          clear hq ho
          go_wp2_with fail
          refine (U.out).mono ?_; rintro e w5 ⟨rfl, r5, q5, e5⟩
          have HR5 := Lib.hid r5
          have HQ5 := Lib.hid q5
          have HE5 := Lib.hid e5
          clear r5 q5 e5 HR HQ HE c0 c1 c2 c3 U
          go_wp2
          go_roundw
          case rel => exact ⟨i + 1, P, ⟨by omega, by omega⟩, by go_num, hP, HR5.out, HQ5.out, HE5.out⟩
          case measure => simp [intOf]; omega
        · obtain rfl : i = 1000 := by omega
          go_wp2_with fail
          refine (first3_any _ (hg.ext HE.out)).mono ?_; rintro e w9 ⟨rfl, hx9⟩
          go_wp2
          go_ret
          exact ⟨rfl, HE.out.trans hx9⟩
      · obtain rfl : i = m := by omega
        go_wp2_with fail
        refine (first3_any _ (hg.ext HE.out)).mono ?_; rintro e w9 ⟨rfl, hx9⟩
        go_wp2
        go_ret
        exact ⟨rfl, HE.out.trans hx9⟩
  · obtain ⟨a, n, cap, rfl⟩ : ∃ a n cap, v = .slice a n cap := by obtain ⟨a, cap, e, -⟩ := rb; exact ⟨a, _, cap, e⟩
    have hn : n = bs.length := by obtain ⟨a', cap', e, -⟩ := rb; simp only [Value.slice.injEq] at e; exact e.2.1
    have t1 : (20000 : Int) < (n : Int) := by omega
    clear rb hn
    go_enter Tryd.func5, Tryd.ntmps5
    go_wp2_with fail
    refine (first3_any _ hg).mono ?_; rintro e w1 ⟨rfl, hx1⟩
    go_wp2_with fail
    refine (first3_any _ (hg.ext hx1)).mono ?_; rintro e w2 ⟨rfl, hx2⟩
    go_wp2
    go_ret
    exact ⟨rfl, hx1.trans hx2⟩
end Go.Proofs.YtehmgieocoppjaaDoor
