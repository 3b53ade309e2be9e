/- kinref3.PutUe, PutSe, PutRice: contracts over this seat's translation. -/
import Derived.Test.YtehmgieocoppjaaDoorZu
import Derived.Test.YtehmgieocoppjaaDoorCo5
import Derived.Test.YtehmgieocoppjaaDoorZt
namespace Go.Proofs.YtehmgieocoppjaaDoor
set_option linter.unusedVariables false
set_option linter.unusedSimpArgs false
open Go.RowKit Go.Extern.Stop Go.Stop Go.Extern

theorem RBox.xkp {w w' : World} {b B R : Nat} (h : RBox w R) (k : XKp b B w w') (hb : R ≠ b) : RBox w' R := k.box h (by decide) hb
theorem xw_end {w wz : World} {b B : Nat} {l : List Bool} {f : Fall} {c : Int} {u : Value} (hb : RBox wz w.heap.size) (hx : XwAt wz b B l) (hk : XKp b B w wz) (he : RErrIs wz f c u) (hbw : b < w.heap.size) :
    XwAt ((wz.setCell ⟨w.heap.size, 0, none⟩ (.int .i64 c)).setCell ⟨w.heap.size, 1, none⟩ u) b B l ∧ XKp b B w ((wz.setCell ⟨w.heap.size, 0, none⟩ (.int .i64 c)).setCell ⟨w.heap.size, 1, none⟩ u) ∧ RErrIs ((wz.setCell ⟨w.heap.size, 0, none⟩ (.int .i64 c)).setCell ⟨w.heap.size, 1, none⟩ u) f c u :=
  ⟨hx.far hb (by decide) (((Kp.refl w.heap.size wz).set 0 _).set 1 _) (by omega), (hk.fresh (Nat.le_refl _) 0 _).fresh (Nat.le_refl _) 1 _, he.box hb _ _⟩
theorem XwAt.lt {w : World} {b B : Nat} {l : List Bool} (h : XwAt w b B l) : b < w.heap.size := by
  obtain ⟨v, ⟨c0, -⟩, -⟩ := h
  exact Ext.lt (p := ⟨b, 0, none⟩) c0
set_option maxHeartbeats 4000000 in
set_option maxRecDepth 20000 in
theorem rputue_any (b B : Nat) (v : Int) (l : List Bool) (w : World) (h : XwAt w b B l) (hl : l.length ≤ 800000) :
    Calls Tryd.prog 51 #[.pointer (some ⟨b, 0, none⟩), .int .i64 v] w (XPPost w b B (cuL l v) (cuF v)) := by
  by_cases h1 : v < 0
  · have HF : Hid (cuF v = range) := by show _ = _; unfold cuF; rw [if_neg (by unfold ueOk; omega)]
    have HL : Hid (cuL l v = l) := by show _ = _; unfold cuL; rw [if_neg (by unfold ueOk; omega)]
    -- HF, HL
    have hbw : b < w.heap.size := h.lt
    have A0 : Ext w (w.alloc (.cells #[.int .i64 0, .slice none 0 0] 39)) := (Ext.refl w).alloc _
    have HX := Lib.hid (h.ext A0)
    have HB := Lib.hid (RBox.new w)
    have HK := Lib.hid (XKp.of_ext (b := b) (B := B) A0)
    clear A0 h
    go_enter Tryd.func51, Tryd.ntmps51
    go_wp2_with fail
    refine (fail_any 3 _).mono ?_; rintro e w1 ⟨rfl, hx1⟩
    have HB1 := Lib.hid (HB.out.ext hx1)
    have HR := Lib.hid (xw_end (f := range) (c := 3) (u := .slice none 0 0) HB1.out (HX.out.ext hx1) (HK.out.trans (XKp.of_ext hx1)) (RErrIs.code (by decide)) hbw)
    obtain ⟨g0, g1, g2, g3⟩ := HB1.out.res
    go_wp2
    obtain ⟨y0, y1⟩ := res_cells g0 g1 (c := 3) (.slice none 0 0)
    exact bodyPost_ret (v := .agg #[.int .i64 3, .slice none 0 0]) (by simp [results, Tryd.results51, go_sem, y0, y1]) rfl ⟨3, .slice none 0 0, rfl, by rw [HL.out]; exact HR.out.1, HR.out.2.1, by rw [HF.out]; exact HR.out.2.2⟩
  · by_cases h2 : 1073741824 < v
    · have HF : Hid (cuF v = range) := by show _ = _; unfold cuF; rw [if_neg (by unfold ueOk; omega)]
      have HL : Hid (cuL l v = l) := by show _ = _; unfold cuL; rw [if_neg (by unfold ueOk; omega)]
      -- HF, HL
      have hbw : b < w.heap.size := h.lt
      have A0 : Ext w (w.alloc (.cells #[.int .i64 0, .slice none 0 0] 39)) := (Ext.refl w).alloc _
      have HX := Lib.hid (h.ext A0)
      have HB := Lib.hid (RBox.new w)
      have HK := Lib.hid (XKp.of_ext (b := b) (B := B) A0)
      clear A0 h
      go_enter Tryd.func51, Tryd.ntmps51
      go_wp2_with fail
      refine (fail_any 3 _).mono ?_; rintro e w1 ⟨rfl, hx1⟩
      have HB1 := Lib.hid (HB.out.ext hx1)
      have HR := Lib.hid (xw_end (f := range) (c := 3) (u := .slice none 0 0) HB1.out (HX.out.ext hx1) (HK.out.trans (XKp.of_ext hx1)) (RErrIs.code (by decide)) hbw)
      obtain ⟨g0, g1, g2, g3⟩ := HB1.out.res
      go_wp2
      obtain ⟨y0, y1⟩ := res_cells g0 g1 (c := 3) (.slice none 0 0)
      exact bodyPost_ret (v := .agg #[.int .i64 3, .slice none 0 0]) (by simp [results, Tryd.results51, go_sem, y0, y1]) rfl ⟨3, .slice none 0 0, rfl, by rw [HL.out]; exact HR.out.1, HR.out.2.1, by rw [HF.out]; exact HR.out.2.2⟩
    · obtain ⟨V, rfl⟩ : ∃ V : Nat, v = (V : Int) := ⟨v.toNat, by omega⟩
      have hF : cuF (V : Int) = none := by unfold cuF; rw [if_pos (by unfold ueOk; omega)]
      have hL : cuL l (V : Int) = l ++ ueL V := by unfold cuL; rw [if_pos (by unfold ueOk; omega)]; rfl
      rw [hF, hL]
      obtain ⟨n, hn⟩ : ∃ n, blen (V + 1) = n := ⟨_, rfl⟩
      have hb := blen_bounds (V + 1) (by omega) (by omega)
      have hb2 := blen_le (u := V + 1) (k := 31) (by omega) (by omega) (by omega)
      have HU : Hid (ueL V = bsOf 0 (n - 1) ++ bsOf (V + 1) n) := by show _ = _; unfold ueL; rw [hn]
      have L := Lib.hid (fun w => rlength_any (V + 1) w (by omega))
      rw [hn] at L hb hb2
      obtain ⟨m, rfl⟩ : ∃ m, n = m + 1 := ⟨n - 1, by omega⟩
      rw [Nat.add_sub_cancel] at HU
      obtain ⟨W, hW⟩ : ∃ W, V + 1 = W := ⟨_, rfl⟩
      obtain ⟨N, hN⟩ : ∃ N, m + 1 = N := ⟨_, rfl⟩
      rw [hW, hN] at HU L hb
      have j1 : IntKind.i64.wrap ((V : Int) + 1) = (W : Int) := by rw [IntKind.wrap_i64]; omega
      have j3 : IntKind.i64.wrap ((N : Int) - 1) = (m : Int) := by rw [IntKind.wrap_i64]; omega
      have U1 := Lib.hid (fun w' (h : XwAt w' b B l) => xwput_yes b B 0 m l w' h (by omega) (Nat.two_pow_pos m) (by omega))
      have U2 := Lib.hid (fun w' (h' : XwAt w' b B (l ++ bsOf 0 m)) => xwput_yes b B W N (l ++ bsOf 0 m) w' h' (by rw [List.length_append, bsOf_length]; omega) hb.2.2 (by omega))
      clear hF hL hn hb hb2 hW hN hl
      have hbw : b < w.heap.size := h.lt
      have A0 : Ext w (w.alloc (.cells #[.int .i64 0, .slice none 0 0] 39)) := (Ext.refl w).alloc _
      have HX := Lib.hid (h.ext A0)
      have HB := Lib.hid (RBox.new w)
      have HK := Lib.hid (XKp.of_ext (b := b) (B := B) A0)
      clear A0 h
      go_enter Tryd.func51, Tryd.ntmps51
      go_wp2_with fail
      refine (L.out _).mono ?_; rintro e w1 ⟨rfl, rfl⟩
      go_wp2_with fail
      refine (U1.out _ HX.out).mono ?_; rintro e w2 ⟨c2, u2, rfl, x2, k2, e2⟩
      obtain ⟨rfl, rfl⟩ := e2
      go_wp2_with fail
      refine (U2.out _ x2).mono ?_; rintro e w3 ⟨c3, u3, rfl, x3, k3, e3⟩
      obtain ⟨rfl, rfl⟩ := e3
      have HXZ := Lib.hid x3
      have HBZ := Lib.hid ((HB.out.xkp k2 (by omega)).xkp k3 (by omega))
      have HKZ := Lib.hid (HK.out.trans (k2.trans k3))
      clear x2 x3 k2 k3
      -- in hand: wz, HXZ HKZ HBZ: 'return kinref.Err{}'
      have HR := Lib.hid (xw_end (f := none) (c := 0) (u := .slice none 0 0) HBZ.out HXZ.out HKZ.out ⟨rfl, rfl⟩ hbw)
      obtain ⟨g0, g1, g2, g3⟩ := HBZ.out.res
      go_wp2
      obtain ⟨y0, y1⟩ := res_cells g0 g1 (c := 0) (.slice none 0 0)
      exact bodyPost_ret (v := .agg #[.int .i64 0, .slice none 0 0]) (by simp [results, Tryd.results51, go_sem, y0, y1]) rfl ⟨0, .slice none 0 0, rfl, by rw [HU.out, ← List.append_assoc]; exact HR.out.1, HR.out.2.1, HR.out.2.2⟩
set_option maxHeartbeats 4000000 in
set_option maxRecDepth 20000 in
theorem rputse_any (b B : Nat) (v : Int) (l : List Bool) (w : World) (h : XwAt w b B l) (hl : l.length ≤ 800000) :
    Calls Tryd.prog 52 #[.pointer (some ⟨b, 0, none⟩), .int .i64 v] w (XPPost w b B (csL l v) (csF v)) := by
  by_cases h1 : v < -536870912
  · have HF : Hid (csF v = range) := by show _ = _; unfold csF; rw [if_neg (by unfold seOk; omega)]
    have HL : Hid (csL l v = l) := by show _ = _; unfold csL; rw [if_neg (by unfold seOk; omega)]
    -- HF, HL
    have hbw : b < w.heap.size := h.lt
    have A0 : Ext w (w.alloc (.cells #[.int .i64 0, .slice none 0 0] 39)) := (Ext.refl w).alloc _
    have HX := Lib.hid (h.ext A0)
    have HB := Lib.hid (RBox.new w)
    have HK := Lib.hid (XKp.of_ext (b := b) (B := B) A0)
    clear A0 h
    go_enter Tryd.func52, Tryd.ntmps52
    go_wp2_with fail
    refine (fail_any 3 _).mono ?_; rintro e w1 ⟨rfl, hx1⟩
    have HB1 := Lib.hid (HB.out.ext hx1)
    have HR := Lib.hid (xw_end (f := range) (c := 3) (u := .slice none 0 0) HB1.out (HX.out.ext hx1) (HK.out.trans (XKp.of_ext hx1)) (RErrIs.code (by decide)) hbw)
    obtain ⟨g0, g1, g2, g3⟩ := HB1.out.res
    go_wp2
    obtain ⟨y0, y1⟩ := res_cells g0 g1 (c := 3) (.slice none 0 0)
    exact bodyPost_ret (v := .agg #[.int .i64 3, .slice none 0 0]) (by simp [results, Tryd.results52, go_sem, y0, y1]) rfl ⟨3, .slice none 0 0, rfl, by rw [HL.out]; exact HR.out.1, HR.out.2.1, by rw [HF.out]; exact HR.out.2.2⟩
  · by_cases h2 : 536870912 < v
    · have HF : Hid (csF v = range) := by show _ = _; unfold csF; rw [if_neg (by unfold seOk; omega)]
      have HL : Hid (csL l v = l) := by show _ = _; unfold csL; rw [if_neg (by unfold seOk; omega)]
      -- HF, HL
      have hbw : b < w.heap.size := h.lt
      have A0 : Ext w (w.alloc (.cells #[.int .i64 0, .slice none 0 0] 39)) := (Ext.refl w).alloc _
      have HX := Lib.hid (h.ext A0)
      have HB := Lib.hid (RBox.new w)
      have HK := Lib.hid (XKp.of_ext (b := b) (B := B) A0)
      clear A0 h
      go_enter Tryd.func52, Tryd.ntmps52
      go_wp2_with fail
      refine (fail_any 3 _).mono ?_; rintro e w1 ⟨rfl, hx1⟩
      have HB1 := Lib.hid (HB.out.ext hx1)
      have HR := Lib.hid (xw_end (f := range) (c := 3) (u := .slice none 0 0) HB1.out (HX.out.ext hx1) (HK.out.trans (XKp.of_ext hx1)) (RErrIs.code (by decide)) hbw)
      obtain ⟨g0, g1, g2, g3⟩ := HB1.out.res
      go_wp2
      obtain ⟨y0, y1⟩ := res_cells g0 g1 (c := 3) (.slice none 0 0)
      exact bodyPost_ret (v := .agg #[.int .i64 3, .slice none 0 0]) (by simp [results, Tryd.results52, go_sem, y0, y1]) rfl ⟨3, .slice none 0 0, rfl, by rw [HL.out]; exact HR.out.1, HR.out.2.1, by rw [HF.out]; exact HR.out.2.2⟩
    · have hs : seOk v := ⟨by omega, by omega⟩
      have hu := fold_ok hs
      have hF : csF v = none := by unfold csF; rw [if_pos hs]
      have hF2 : cuF (foldI v) = none := by unfold cuF; rw [if_pos hu]
      have hL : csL l v = cuL l (foldI v) := by unfold csL cuL; rw [if_pos hs, if_pos hu]
      rw [hF, hL]
      have L := Lib.hid (fun w => rfold_any v w)
      have U := Lib.hid (fun w' (h : XwAt w' b B l) => rputue_any b B (foldI v) l w' h hl)
      rw [hF2] at U
      generalize foldI v = f at *
      clear hs hu hF hL hF2
      have hbw : b < w.heap.size := h.lt
      have A0 : Ext w (w.alloc (.cells #[.int .i64 0, .slice none 0 0] 39)) := (Ext.refl w).alloc _
      have HX := Lib.hid (h.ext A0)
      have HB := Lib.hid (RBox.new w)
      have HK := Lib.hid (XKp.of_ext (b := b) (B := B) A0)
      clear A0 h
      go_enter Tryd.func52, Tryd.ntmps52
      go_wp2_with fail
      refine (L.out _).mono ?_; rintro e w1 ⟨rfl, rfl⟩
      go_wp2_with fail
      refine (U.out _ HX.out).mono ?_; rintro e w2 ⟨c2, u2, rfl, x2, k2, e2⟩
      obtain ⟨rfl, rfl⟩ := e2
      have HXZ := Lib.hid x2
      have HBZ := Lib.hid (HB.out.xkp k2 (by omega))
      have HKZ := Lib.hid (HK.out.trans k2)
      clear x2 k2
      -- in hand: wz, HXZ HKZ HBZ: 'return kinref.Err{}'
      have HR := Lib.hid (xw_end (f := none) (c := 0) (u := .slice none 0 0) HBZ.out HXZ.out HKZ.out ⟨rfl, rfl⟩ hbw)
      obtain ⟨g0, g1, g2, g3⟩ := HBZ.out.res
      go_wp2
      obtain ⟨y0, y1⟩ := res_cells g0 g1 (c := 0) (.slice none 0 0)
      exact bodyPost_ret (v := .agg #[.int .i64 0, .slice none 0 0]) (by simp [results, Tryd.results52, go_sem, y0, y1]) rfl ⟨0, .slice none 0 0, rfl, HR.out.1, HR.out.2.1, HR.out.2.2⟩
set_option maxHeartbeats 4000000 in
set_option maxRecDepth 20000 in
theorem rputri_any (b B : Nat) (v k : Int) (l : List Bool) (w : World) (h : XwAt w b B l) (hl : l.length ≤ 800000) :
    Calls Tryd.prog 53 #[.pointer (some ⟨b, 0, none⟩), .int .i64 v, .int .i64 k] w (XPPost w b B (crL l v k) (crF v k)) := by
  by_cases h1 : v < 0
  · have HF : Hid (crF v k = range) := by show _ = _; unfold crF; rw [if_neg (by unfold riOk; omega)]
    have HL : Hid (crL l v k = l) := by show _ = _; unfold crL; rw [if_neg (by unfold riOk; omega)]
    -- HF, HL
    have hbw : b < w.heap.size := h.lt
    have A0 : Ext w (w.alloc (.cells #[.int .i64 0, .slice none 0 0] 39)) := (Ext.refl w).alloc _
    have HX := Lib.hid (h.ext A0)
    have HB := Lib.hid (RBox.new w)
    have HK := Lib.hid (XKp.of_ext (b := b) (B := B) A0)
    clear A0 h
    go_enter Tryd.func53, Tryd.ntmps53
    go_wp2_with fail
    refine (fail_any 3 _).mono ?_; rintro e w1 ⟨rfl, hx1⟩
    have HB1 := Lib.hid (HB.out.ext hx1)
    have HR := Lib.hid (xw_end (f := range) (c := 3) (u := .slice none 0 0) HB1.out (HX.out.ext hx1) (HK.out.trans (XKp.of_ext hx1)) (RErrIs.code (by decide)) hbw)
    obtain ⟨g0, g1, g2, g3⟩ := HB1.out.res
    go_wp2
    obtain ⟨y0, y1⟩ := res_cells g0 g1 (c := 3) (.slice none 0 0)
    exact bodyPost_ret (v := .agg #[.int .i64 3, .slice none 0 0]) (by simp [results, Tryd.results53, go_sem, y0, y1]) rfl ⟨3, .slice none 0 0, rfl, by rw [HL.out]; exact HR.out.1, HR.out.2.1, by rw [HF.out]; exact HR.out.2.2⟩
  · by_cases h2 : 1073741824 < v
    · have HF : Hid (crF v k = range) := by show _ = _; unfold crF; rw [if_neg (by unfold riOk; omega)]
      have HL : Hid (crL l v k = l) := by show _ = _; unfold crL; rw [if_neg (by unfold riOk; omega)]
      -- HF, HL
      have hbw : b < w.heap.size := h.lt
      have A0 : Ext w (w.alloc (.cells #[.int .i64 0, .slice none 0 0] 39)) := (Ext.refl w).alloc _
      have HX := Lib.hid (h.ext A0)
      have HB := Lib.hid (RBox.new w)
      have HK := Lib.hid (XKp.of_ext (b := b) (B := B) A0)
      clear A0 h
      go_enter Tryd.func53, Tryd.ntmps53
      go_wp2_with fail
      refine (fail_any 3 _).mono ?_; rintro e w1 ⟨rfl, hx1⟩
      have HB1 := Lib.hid (HB.out.ext hx1)
      have HR := Lib.hid (xw_end (f := range) (c := 3) (u := .slice none 0 0) HB1.out (HX.out.ext hx1) (HK.out.trans (XKp.of_ext hx1)) (RErrIs.code (by decide)) hbw)
      obtain ⟨g0, g1, g2, g3⟩ := HB1.out.res
      go_wp2
      obtain ⟨y0, y1⟩ := res_cells g0 g1 (c := 3) (.slice none 0 0)
      exact bodyPost_ret (v := .agg #[.int .i64 3, .slice none 0 0]) (by simp [results, Tryd.results53, go_sem, y0, y1]) rfl ⟨3, .slice none 0 0, rfl, by rw [HL.out]; exact HR.out.1, HR.out.2.1, by rw [HF.out]; exact HR.out.2.2⟩
    · by_cases h3 : k < 0
      · have HF : Hid (crF v k = range) := by show _ = _; unfold crF; rw [if_neg (by unfold riOk; omega)]
        have HL : Hid (crL l v k = l) := by show _ = _; unfold crL; rw [if_neg (by unfold riOk; omega)]
        -- HF, HL
        have hbw : b < w.heap.size := h.lt
        have A0 : Ext w (w.alloc (.cells #[.int .i64 0, .slice none 0 0] 39)) := (Ext.refl w).alloc _
        have HX := Lib.hid (h.ext A0)
        have HB := Lib.hid (RBox.new w)
        have HK := Lib.hid (XKp.of_ext (b := b) (B := B) A0)
        clear A0 h
        go_enter Tryd.func53, Tryd.ntmps53
        go_wp2_with fail
        refine (fail_any 3 _).mono ?_; rintro e w1 ⟨rfl, hx1⟩
        have HB1 := Lib.hid (HB.out.ext hx1)
        have HR := Lib.hid (xw_end (f := range) (c := 3) (u := .slice none 0 0) HB1.out (HX.out.ext hx1) (HK.out.trans (XKp.of_ext hx1)) (RErrIs.code (by decide)) hbw)
        obtain ⟨g0, g1, g2, g3⟩ := HB1.out.res
        go_wp2
        obtain ⟨y0, y1⟩ := res_cells g0 g1 (c := 3) (.slice none 0 0)
        exact bodyPost_ret (v := .agg #[.int .i64 3, .slice none 0 0]) (by simp [results, Tryd.results53, go_sem, y0, y1]) rfl ⟨3, .slice none 0 0, rfl, by rw [HL.out]; exact HR.out.1, HR.out.2.1, by rw [HF.out]; exact HR.out.2.2⟩
      · by_cases h4 : 15 < k
        · have HF : Hid (crF v k = range) := by show _ = _; unfold crF; rw [if_neg (by unfold riOk; omega)]
          have HL : Hid (crL l v k = l) := by show _ = _; unfold crL; rw [if_neg (by unfold riOk; omega)]
          -- HF, HL
          have hbw : b < w.heap.size := h.lt
          have A0 : Ext w (w.alloc (.cells #[.int .i64 0, .slice none 0 0] 39)) := (Ext.refl w).alloc _
          have HX := Lib.hid (h.ext A0)
          have HB := Lib.hid (RBox.new w)
          have HK := Lib.hid (XKp.of_ext (b := b) (B := B) A0)
          clear A0 h
          go_enter Tryd.func53, Tryd.ntmps53
          go_wp2_with fail
          refine (fail_any 3 _).mono ?_; rintro e w1 ⟨rfl, hx1⟩
          have HB1 := Lib.hid (HB.out.ext hx1)
          have HR := Lib.hid (xw_end (f := range) (c := 3) (u := .slice none 0 0) HB1.out (HX.out.ext hx1) (HK.out.trans (XKp.of_ext hx1)) (RErrIs.code (by decide)) hbw)
          obtain ⟨g0, g1, g2, g3⟩ := HB1.out.res
          go_wp2
          obtain ⟨y0, y1⟩ := res_cells g0 g1 (c := 3) (.slice none 0 0)
          exact bodyPost_ret (v := .agg #[.int .i64 3, .slice none 0 0]) (by simp [results, Tryd.results53, go_sem, y0, y1]) rfl ⟨3, .slice none 0 0, rfl, by rw [HL.out]; exact HR.out.1, HR.out.2.1, by rw [HF.out]; exact HR.out.2.2⟩
        · obtain ⟨V, rfl⟩ : ∃ V : Nat, v = (V : Int) := ⟨v.toNat, by omega⟩
          obtain ⟨K, rfl⟩ : ∃ K : Nat, k = (K : Int) := ⟨k.toNat, by omega⟩
          have hF : crF (V : Int) (K : Int) = none := by unfold crF; rw [if_pos (by unfold riOk; omega)]
          have hL : crL l (V : Int) (K : Int) = l ++ riL V K := by unfold crL; rw [if_pos (by unfold riOk; omega)]; rfl
          rw [hF, hL]
          obtain ⟨q, hq⟩ : ∃ q, V / 2 ^ K = q := ⟨_, rfl⟩
          have i1 : (V : Int) / 2 ^ K = (q : Int) := by rw [← hq]; simp
          have i2 : IntKind.u64.wrap (K : Int) = (K : Int) := by rw [IntKind.wrap_u64]; omega
          have i3 : (0 : Int) ≤ (K : Int) ∧ (K : Int) ≤ 64 := by omega
          have hqV : q ≤ V := by rw [← hq]; exact Nat.div_le_self _ _
          have i4 : IntKind.i64.wrap (q : Int) = (q : Int) := by rw [IntKind.wrap_i64]; omega
          have UF := Lib.hid (fun (w' : World) (j : Nat) (h' : XwAt w' b B (l ++ bsOf (2 ^ j - 1) j)) (hj : j ≤ 24) => xwput_yes b B 1 1 (l ++ bsOf (2 ^ j - 1) j) w' h' (by rw [List.length_append, bsOf_length]; omega) (by decide) (by decide))
          have HQ := Lib.hid hq
          have hM : 2 ^ K ≤ 2 ^ 15 := Nat.pow_le_pow_right (by decide) (by omega)
          have hM0 : 1 ≤ 2 ^ K := Nat.two_pow_pos K
          have hand := and_mask V K (by omega) (by omega)
          have hrl : V % 2 ^ K < 2 ^ K := Nat.mod_lt _ (Nat.two_pow_pos K)
          have HMd : Hid (bsOf (V % 2 ^ K) K = bsOf V K) := bsOf_mod V K
          have U31 := Lib.hid (fun (w' : World) (h' : XwAt w' b B (l ++ bsOf (2 ^ 24 - 1) 24)) => xwput_yes b B V 31 (l ++ bsOf (2 ^ 24 - 1) 24) w' h' (by rw [List.length_append, bsOf_length]; omega) (by omega) (by omega))
          have UF0 := Lib.hid (fun (w' : World) (h' : XwAt w' b B (l ++ bsOf (2 ^ q - 1) q)) (hj : q < 24) => xwput_yes b B 0 1 (l ++ bsOf (2 ^ q - 1) q) w' h' (by rw [List.length_append, bsOf_length]; omega) (by decide) (by decide))
          have UK := Lib.hid (fun (w' : World) (h' : XwAt w' b B (l ++ bsOf (2 ^ q - 1) q ++ [false])) (hj : q < 24) => xwput_yes b B (V % 2 ^ K) K (l ++ bsOf (2 ^ q - 1) q ++ [false]) w' h' (by rw [List.length_append, List.length_append, bsOf_length]; simp; omega) hrl (by omega))
          obtain ⟨M, hMM⟩ : ∃ M, 2 ^ K = M := ⟨_, rfl⟩
          obtain ⟨M1, hM1⟩ : ∃ M1, M - 1 = M1 := ⟨_, rfl⟩
          obtain ⟨Y, hY⟩ : ∃ Y, V % M = Y := ⟨_, rfl⟩
          have jp : (2 : Int) ^ K = (M : Int) := by rw [← hMM]; simp
          have i1' : (V : Int) / (M : Int) = (q : Int) := by rw [← jp]; exact i1
          rw [hMM] at hM hM0 hand UK HMd
          rw [hM1, hY] at hand
          rw [hY] at UK HMd
          have j2 : IntKind.i64.wrap (1 * 2 ^ K) = (M : Int) := by rw [jp, IntKind.wrap_i64]; omega
          have j3 : IntKind.i64.wrap (M : Int) = (M : Int) := by rw [IntKind.wrap_i64]; omega
          have j4 : IntKind.i64.wrap ((M : Int) - 1) = (M1 : Int) := by rw [IntKind.wrap_i64]; omega
          clear hF hL hq hMM hM1 hY hrl hqV hM hM0
          have hbw : b < w.heap.size := h.lt
          have A0 : Ext w (w.alloc (.cells #[.int .i64 0, .slice none 0 0] 39)) := (Ext.refl w).alloc _
          have HX := Lib.hid (h.ext A0)
          have HB := Lib.hid (RBox.new w)
          have HK := Lib.hid (XKp.of_ext (b := b) (B := B) A0)
          clear A0 h
          go_enter Tryd.func53, Tryd.ntmps53
          go_wp2_with fail
          go_loopw [8] (fun iv wr => ∃ j : Nat, (j ≤ q ∧ j ≤ 24) ∧ iv = .int .i64 (j : Int) ∧ Hid (XwAt wr b B (l ++ bsOf (2 ^ j - 1) j)) ∧ Hid (XKp b B w wr) ∧ Hid (RBox wr w.heap.size)) (fun iv _ => 24 - (intOf iv).toNat)
          case atStart => exact ⟨0, ⟨Nat.zero_le _, Nat.zero_le _⟩, rfl, by show XwAt _ _ _ _; rw [show bsOf (2 ^ 0 - 1) 0 = [] from rfl, List.append_nil]; exact HX.out, HK.out, HB.out⟩
          case round =>
            clear HX HK HB
            obtain ⟨j, ⟨hj1, hj2⟩, rfl, HX, HK, HB⟩ := hrel
            by_cases h24 : j = 24
            · subst h24
              by_cases hjq : 24 < q
              · have t1 : (24 : Int) < (q : Int) := by omega
                have t2 : ¬ (q : Int) < 24 := by omega
                go_wp2_with fail
                refine (U31.out _ HX.out).mono ?_; rintro e w3 ⟨c3, u3, rfl, x3, k3, e3⟩
                obtain ⟨rfl, rfl⟩ := e3
                have HXZ := Lib.hid x3
                have HBZ := Lib.hid (HB.out.xkp k3 (by omega))
                have HKZ := Lib.hid (HK.out.trans k3)
                clear x3 k3
                -- in hand: wz, HXZ HKZ HBZ: 'return kinref.Err{}'
                have HR := Lib.hid (xw_end (f := none) (c := 0) (u := .slice none 0 0) HBZ.out HXZ.out HKZ.out ⟨rfl, rfl⟩ hbw)
                obtain ⟨g0, g1, g2, g3⟩ := HBZ.out.res
                go_wp2
                obtain ⟨y0, y1⟩ := res_cells g0 g1 (c := 0) (.slice none 0 0)
                refine bodyPost_ret (v := .agg #[.int .i64 0, .slice none 0 0]) (by simp [results, Tryd.results53, go_sem, y0, y1]) rfl ⟨0, .slice none 0 0, rfl, ?_, HR.out.2.1, HR.out.2.2⟩
                have er : riL V K = bsOf (2 ^ 24 - 1) 24 ++ bsOf V 31 := by unfold riL; rw [HQ.out, if_neg (by omega)]
                rw [er, ← List.append_assoc]
                exact HR.out.1
              · obtain rfl : q = 24 := by omega
                go_wp2_with fail
                refine (U31.out _ HX.out).mono ?_; rintro e w3 ⟨c3, u3, rfl, x3, k3, e3⟩
                obtain ⟨rfl, rfl⟩ := e3
                have HXZ := Lib.hid x3
                have HBZ := Lib.hid (HB.out.xkp k3 (by omega))
                have HKZ := Lib.hid (HK.out.trans k3)
                clear x3 k3
                -- in hand: wz, HXZ HKZ HBZ: 'return kinref.Err{}'
                have HR := Lib.hid (xw_end (f := none) (c := 0) (u := .slice none 0 0) HBZ.out HXZ.out HKZ.out ⟨rfl, rfl⟩ hbw)
                obtain ⟨g0, g1, g2, g3⟩ := HBZ.out.res
                go_wp2
                obtain ⟨y0, y1⟩ := res_cells g0 g1 (c := 0) (.slice none 0 0)
                refine bodyPost_ret (v := .agg #[.int .i64 0, .slice none 0 0]) (by simp [results, Tryd.results53, go_sem, y0, y1]) rfl ⟨0, .slice none 0 0, rfl, ?_, HR.out.2.1, HR.out.2.2⟩
                have er : riL V K = bsOf (2 ^ 24 - 1) 24 ++ bsOf V 31 := by unfold riL; rw [HQ.out, if_neg (by omega)]
                rw [er, ← List.append_assoc]
                exact HR.out.1
            · have t0 : (j : Int) < 24 := by omega
              by_cases hjq : j < q
              · have t1 : (j : Int) < (q : Int) := by omega
                go_wp2_with fail
                refine (UF.out _ j HX.out hj2).mono ?_; rintro e w3 ⟨c3, u3, rfl, x3, k3, e3⟩
                have HXZ : Hid (XwAt w3 b B (l ++ bsOf (2 ^ (j + 1) - 1) (j + 1))) := by show XwAt _ _ _ _; rw [bsOf_ones, ← List.append_assoc]; exact x3
                have HBZ := Lib.hid (HB.out.xkp k3 (by omega))
                have HKZ := Lib.hid (HK.out.trans k3)
                clear x3 k3 e3
                go_wp2
                go_roundw
                case rel => exact ⟨j + 1, ⟨by omega, by omega⟩, by go_num, HXZ.out, HKZ.out, HBZ.out⟩
                case measure => simp [intOf]; omega
              · obtain rfl : j = q := by omega
                have hq24 : j < 24 := by omega
                go_wp2_with fail
                refine (UF0.out _ HX.out hq24).mono ?_; rintro e w3 ⟨c3, u3, rfl, x3, k3, e3⟩
                have HX3 : Hid (XwAt w3 b B (l ++ bsOf (2 ^ j - 1) j ++ [false])) := x3
                have HB3 := Lib.hid (HB.out.xkp k3 (by omega))
                have HK3 := Lib.hid (HK.out.trans k3)
                clear x3 k3 e3
                go_wp2_with fail
                refine (UK.out _ HX3.out hq24).mono ?_; rintro e w4 ⟨c3, u3, rfl, x3, k3, e3⟩
                have HXZ := Lib.hid x3
                have HBZ := Lib.hid (HB3.out.xkp k3 (by omega))
                have HKZ := Lib.hid (HK3.out.trans k3)
                clear x3 k3 e3
                -- in hand: wz, HXZ HKZ HBZ: 'return kinref.Err{}'
                have HR := Lib.hid (xw_end (f := none) (c := 0) (u := .slice none 0 0) HBZ.out HXZ.out HKZ.out ⟨rfl, rfl⟩ hbw)
                obtain ⟨g0, g1, g2, g3⟩ := HBZ.out.res
                go_wp2
                obtain ⟨y0, y1⟩ := res_cells g0 g1 (c := 0) (.slice none 0 0)
                refine bodyPost_ret (v := .agg #[.int .i64 0, .slice none 0 0]) (by simp [results, Tryd.results53, go_sem, y0, y1]) rfl ⟨0, .slice none 0 0, rfl, ?_, HR.out.2.1, HR.out.2.2⟩
                have er : riL V K = bsOf (2 ^ j - 1) j ++ [false] ++ bsOf V K := by unfold riL; rw [HQ.out, if_pos hq24]
                have h3 := HR.out.1
                rw [HMd.out] at h3
                rw [er]
                simp only [List.append_assoc] at h3 ⊢
                exact h3
end Go.Proofs.YtehmgieocoppjaaDoor
