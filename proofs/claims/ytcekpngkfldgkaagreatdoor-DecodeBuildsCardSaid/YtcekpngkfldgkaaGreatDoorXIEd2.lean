/- intra.Edges, any place: its contract over this seat's translation. -/
import Derived.Test.YtcekpngkfldgkaaGreatDoorXTk
import Derived.Test.YtcekpngkfldgkaaGreatDoorXGa
import Derived.Test.YtcekpngkfldgkaaGreatDoorXGb
import Derived.BigRegion
namespace Go.Proofs.YtcekpngkfldgkaaGreatDoor
set_option linter.unusedVariables false
set_option linter.unusedSimpArgs false
open Go.RowKit Go.Extern.Stop Go.Stop Go.Extern
theorem topF_zero (W : Int) (zs : List Int) (x y : Int) (h : y = 0) (i : Nat) : topF W zs x y i = 128 := by subst h; unfold topF placeF; rw [if_pos (Or.inr (by omega))]
theorem leftF_zero (W : Int) (zs : List Int) (x y : Int) (h : x = 0) (i : Nat) : leftF W zs x y i = 128 := by subst h; unfold leftF placeF; rw [if_pos (Or.inl (by omega))]
theorem corner_zero (W : Int) (zs : List Int) (x y : Int) (h : x = 0 ∨ y = 0) : placeF W zs (x - 1) (y - 1) = 128 := by unfold placeF; rw [if_pos (by omega)]
theorem Ints.capd {w : World} {a : Option Addr} {n cap : Nat} {zs : List Int} (h : Ints w (.slice a n cap) zs) (hn : 0 < n) : n ≤ cap := by
 have hl := h.len
 obtain ⟨g, off, c, e, c1, -⟩ := h.addr (by omega)
 simp only [Value.slice.injEq] at e
 omega
theorem own_other {w : World} {base n cap g g' k : Nat} {e : TypeId} {s : Nat} {v : Value} {xs : List Value} (h : w.ownsRow base e s (.slice (some ⟨g, 0, none⟩) n cap) n xs) (hne : g ≠ g') : (w.setCell ⟨g', k, none⟩ v).ownsRow base e s (.slice (some ⟨g, 0, none⟩) n cap) n xs :=
 own_grownBy h (row := some g') ⟨rfl, rfl, rfl, by simp [World.setCell], fun b _ hb => Below.heap_setCell _ _ _ _ (fun e => hb (by rw [e]))⟩ (Or.inr (fun e => hne (by injection e)))
set_option maxHeartbeats 4000000 in
set_option maxRecDepth 20000 in
theorem edges_4 (W H x y : Int) (zs : List Int) (a : Option Addr) (n cap : Nat) (w : World) (h : Ints w (.slice a n cap) zs) (hm : may W H zs) (hx : 0 ≤ x ∧ x ≤ W - 4) (hy : 0 ≤ y ∧ y ≤ H - 4) :
 Calls Tryz.prog 95 #[.agg #[.int .i64 W, .int .i64 H, .slice a n cap], .int .i64 x, .int .i64 y, .int .i64 4] w fun e w' => ∃ u u', e = .returned (.tuple #[u, u', .int .i64 (placeF W zs (x - 1) (y - 1))]) ∧ Ext w w' ∧ Ints w' u (rowL 4 (topF W zs x y)) ∧ Ints w' u' (rowL 4 (leftF W zs x y)) := by
 have M1 := Lib.hid (fun W' k => may_any W H zs a n cap W' k)
 have R1 := Lib.hid (fun v W' k => rep_sz 4 (by decide) 128 v W' k)
 have HM := Lib.hid hm
 have b1 := sideB_true hm.1
 have b2 := sideB_true hm.2.1
 have hn : (n : Int) = W * H := by rw [h.len]; exact hm.2.2.1
 have har := may_area hm
 obtain ⟨g, off, rfl⟩ := h.had (by omega)
 obtain ⟨hx1, hx2⟩ := hx
 obtain ⟨hy1, hy2⟩ := hy
 have HN := Lib.hid hn
 have HLN := Lib.hid h.len
 clear hm hn har
 have e1 : IntKind.i64.wrap (W - 4) = W - 4 := by rw [IntKind.wrap_i64]; omega
 have e2 : IntKind.i64.wrap (H - 4) = H - 4 := by rw [IntKind.wrap_i64]; omega
 have e3 : IntKind.i64.wrap (y - 1) = y - 1 := by rw [IntKind.wrap_i64]; omega
 go_enter Tryz.func95, Tryz.ntmps95
 go_wp2_with fail
 refine (M1.out _ (h.ext (by repeat (first | exact Ext.refl _ | assumption | refine Ext.alloc ?_ _ | refine Ext.drew ?_ | refine Ext.drewN ?_ _ | refine Ext.setCell ?_ (by first | exact Nat.le_refl _ | (simp; done) | omega) _ | refine Ext.trans ?_ (by assumption))))).mono ?_; rintro e w3 ⟨rfl, hx3⟩
 rw [decide_eq_true HM.out]
 have p0 : w3.cell? ⟨w.heap.size, 0, none⟩ = some (.int .i64 W) := hx3.cell (by simp)
 have p1 : w3.cell? ⟨w.heap.size, 1, none⟩ = some (.int .i64 H) := hx3.cell (by simp)
 have p2 : w3.cell? ⟨w.heap.size, 2, none⟩ = some (.slice (some ⟨g, off, none⟩) n cap) := hx3.cell (by simp)
 have E3 : Ext w w3 := (by repeat (first | exact Ext.refl _ | assumption | refine Ext.alloc ?_ _ | refine Ext.drew ?_ | refine Ext.drewN ?_ _ | refine Ext.setCell ?_ (by first | exact Nat.le_refl _ | (simp; done) | omega) _ | refine Ext.trans ?_ (by assumption)))
 clear hx3
 go_wp2_with fail
 refine (sd_any _ _).mono ?_; rintro e w4 ⟨rfl, rfl⟩
 rw [show sdB 4 = true from rfl]
 go_wp2_with fail
 refine (R1.out _ _ (Ints.liti w3 [128] (by decide))).mono ?_; rintro e w5 ⟨g5, rfl, hx5, ho5, hb5, hs5⟩
 go_wp2_with fail
 refine (R1.out _ _ (Ints.liti w5 [128] (by decide))).mono ?_; rintro e w6 ⟨g6, rfl, hx6, ho6, hb6, hs6⟩
 have k5 : Ext w3 (w3.alloc (.cells #[.int .i64 128] 3)) := (Ext.refl w3).alloc _
 have k6 : Ext w5 (w5.alloc (.cells #[.int .i64 128] 3)) := (Ext.refl w5).alloc _
 have ES : Ext w3 w6 := ((k5.trans hx5).trans k6).trans hx6
 have P0 := p0
 have P1 := p1
 have P2 := p2
 have OT : Hid (w6.ownsRow w3.heap.size 3 1 (.slice (some ⟨g5, 0, none⟩) 4 4) 4 ((rowL 4 fun _ => 128).map (Value.int .i64))) := own_ext (own_ext (own_mono ho5 k5.size) k6) hx6
 have OL : Hid (w6.ownsRow w3.heap.size 3 1 (.slice (some ⟨g6, 0, none⟩) 4 4) 4 ((rowL 4 fun _ => 128).map (Value.int .i64))) := own_mono ho6 (Nat.le_trans (k5.trans hx5).size k6.size)
 have HG5 : Hid (w3.heap.size ≤ g5) := Nat.le_trans k5.size hb5
 have HG6 : Hid (w3.heap.size ≤ g6) := Nat.le_trans (k5.trans hx5).size (Nat.le_trans k6.size hb6)
 have hg56 : w5.heap.size ≤ g6 := Nat.le_trans k6.size hb6
 have hne : g5 ≠ g6 := by omega
 clear hx5 hx6 k5 k6 ho5 ho6 hb5 hb6 hs5 hs6 hg56
 have Q0 := ES.cell P0
 have Q1 := ES.cell P1
 have Q2 := ES.cell P2
 clear p0 p1 p2
 by_cases y0 : 0 < y
 · obtain ⟨a1, a2, a3⟩ := place_in b1.2.1 b2.2.1 HN.out (show x + (4 - 1) < W by omega) (show y - 1 < H by omega) (by omega) (by omega)
   obtain ⟨k0, hk0⟩ : ∃ k0 : Nat, (y - 1) * W + x = (k0 : Int) := ⟨((y - 1) * W + x).toNat, by omega⟩
   have hk1 : k0 + 4 ≤ n := by omega
   have d1 : IntKind.i64.wrap ((y - 1) * W) = (y - 1) * W := by rw [IntKind.wrap_i64]; omega
   have d2 : IntKind.i64.wrap ((y - 1) * W + x) = (k0 : Int) := by rw [IntKind.wrap_i64]; omega
   have d3 : (0 : Int) ≤ (k0 : Int) ∧ (k0 : Int) ≤ (n : Int) := by omega
   have hcap := h.capd (by omega)
   have d4 : ¬ cap = k0 := by omega
   have d5 : (k0 : Int) ≤ (cap : Int) := by omega
   have d6 : ¬ cap - k0 = 0 := by omega
   have HR := Lib.hid (read_row (f := topF W zs x y) (h.ext (E3.trans ES)) hk1 (fun j hj => by
    unfold topF placeF
    rw [if_neg (by omega), show (y - 1) * W + (x + (j : Int)) = ((k0 + j : Nat) : Int) by omega]
    rfl))
   have HG := Lib.hid (own_heap OT.out)
   have HF : Hid (0 + ((rowL 4 (topF W zs x y)).map (Value.int .i64)).length ≤ ((rowL 4 fun _ => (128 : Int)).map (Value.int .i64)).length) := by show _ ≤ _; simp [rowL_length]
   have HL : Hid (((rowL 4 (topF W zs x y)).map (Value.int .i64)).length = 4) := by show _ = _; simp [rowL_length]
   by_cases x0 : 0 < x
   · obtain ⟨q0, hq0⟩ : ∃ q0 : Nat, k0 = q0 + 1 := ⟨k0 - 1, by have := Int.mul_nonneg (show 0 ≤ y - 1 by omega) (show 0 ≤ W by omega); omega⟩
     have d7 : IntKind.i64.wrap ((k0 : Int) - 1) = (q0 : Int) := by rw [IntKind.wrap_i64]; omega
     have d8 : (0 : Int) ≤ (q0 : Int) ∧ (q0 : Int) < (n : Int) := by omega
     obtain ⟨z0, hz0⟩ : ∃ z0, z0 = zs.getD q0 0 := ⟨_, rfl⟩
     have HCQ : Hid (w.cell? ⟨g, off + q0, none⟩ = some (.int .i64 z0)) := by show _ = _; rw [hz0]; exact h.at (get_of_lt (by rw [← HLN.out]; omega))
     have CN : Hid (placeF W zs (x - 1) (y - 1) = z0) := by
      show _ = _
      unfold placeF
      rw [if_neg (by omega), hz0, show (y - 1) * W + (x - 1) = (q0 : Int) by omega]
      rfl
     clear a1 a2 a3 hk0 hq0 hz0
     go_wp2_with (refine copy_keep rfl _ _ 22 22 rfl 3 Tryz.underlying22 infoSz g5 0 4 4 ⟨g, off + k0, none⟩ _ _ rfl rfl _ 3 HG.out ((rowL 4 (topF W zs x y)).map (Value.int .i64)) (by rw [HL.out]; exact (Nat.min_eq_right (by omega)).symm) HR.out HF.out (ones_row _ _) ?_; intro w7 HG7 GR7)
     have OT : Hid (w7.ownsRow w3.heap.size 3 1 (.slice (some ⟨g5, 0, none⟩) 4 4) 4 ((rowL 4 (topF W zs x y)).map (Value.int .i64))) := by
      have e := HG7.out
      rw [splice_all (by simp [rowL_length])] at e
      exact heap_own HG5.out (by simp [rowL_length]) (by decide) e
     have OL := Lib.hid (own_grownBy OL.out GR7 (Or.inr (fun e => hne (by injection e with e; exact e.symm))))
     have ES7 : Ext w3 w7 := Below.grown ES GR7 ES.size (fun k hk => by cases hk; exact HG5.out)
     clear HG7 GR7 HG HF HL HR
     have ES := ES7
     go_loopw [71] (fun iv wr => ∃ k : Nat, k ≤ 4 ∧ iv = .int .i64 k ∧ Hid (wr.ownsRow w3.heap.size 3 1 (.slice (some ⟨g6, 0, none⟩) 4 4) 4 ((rowL 4 (fun j => if j < k then leftF W zs x y j else 128)).map (Value.int .i64))) ∧ Hid (wr.ownsRow w3.heap.size 3 1 (.slice (some ⟨g5, 0, none⟩) 4 4) 4 ((rowL 4 (topF W zs x y)).map (Value.int .i64))) ∧ Ext w3 wr) (fun iv _ => 4 - (intOf iv).toNat)
     case atStart => exact ⟨0, Nat.zero_le _, rfl, Lib.hid (by simpa using OL.out), OT, ES⟩
     case round =>
      clear OL OT ES
      obtain ⟨k, hk, rfl, OL, OT, hE⟩ := hrel
      have Q0 := hE.cell P0
      have Q1 := hE.cell P1
      have Q2 := hE.cell P2
      by_cases hlt : k < 4
      · obtain ⟨a1, a2, a3⟩ := place_in b1.2.1 b2.2.1 HN.out (show x - 1 < W by omega) (show y + (k : Int) < H by omega) (by omega) (by omega)
        obtain ⟨q, hq⟩ : ∃ q : Nat, (y + (k : Int)) * W + x - 1 = (q : Int) := ⟨((y + (k : Int)) * W + x - 1).toNat, by omega⟩
        have hqn : q < n := by omega
        have d1 : IntKind.i64.wrap (y + (k : Int)) = y + (k : Int) := by rw [IntKind.wrap_i64]; omega
        have d2 : IntKind.i64.wrap ((y + (k : Int)) * W) = (y + (k : Int)) * W := by rw [IntKind.wrap_i64]; omega
        have d3 : IntKind.i64.wrap ((y + (k : Int)) * W + x) = (y + (k : Int)) * W + x := by rw [IntKind.wrap_i64]; omega
        have d4 : IntKind.i64.wrap ((y + (k : Int)) * W + x - 1) = (q : Int) := by rw [IntKind.wrap_i64]; omega
        have d5 : (0 : Int) ≤ (q : Int) ∧ (q : Int) < (n : Int) := by omega
        have d6 : (0 : Int) ≤ (k : Int) ∧ (k : Int) < 4 := by omega
        have HV : Hid (leftF W zs x y k = zs.getD q 0) := by
         show _ = _
         unfold leftF placeF
         rw [if_neg (by omega), show (y + (k : Int)) * W + (x - 1) = (q : Int) by omega]
         rfl
        have cq := (E3.trans hE).cell (h.at (get_of_lt (by rw [← HLN.out]; exact hqn)))
        obtain ⟨ck, fk⟩ := own_cell OL.out hlt
        have hOW := Lib.hid (fun v => own_set (x := v) OL.out hlt)
        have hg6 : w3.heap.size ≤ g6 := HG6.out
        revert cq HV
        generalize zs.getD q 0 = z
        intro HV cq
        clear hq a1 a2 a3
        go_wp2
        refine ⟨⟨k + 1, by omega, by go_num, ?_, ?_, ?_⟩, by simp [intOf]; omega⟩
        · have e := hOW.out z
          rwa [rowL_cg (g := fun j => if j < k + 1 then leftF W zs x y j else 128) (fun j hj => by
           by_cases hjk : j = k
           · subst hjk
             rw [if_pos rfl, if_pos (by omega), HV.out]
           · rw [if_neg hjk]
             by_cases h2 : j < k
             · rw [if_pos h2, if_pos (by omega)]
             · rw [if_neg h2, if_neg (by omega)])] at e
        · exact own_other OT.out hne
        · exact Below.setCell (p := ⟨g6, k, none⟩) hE hg6 _
      · obtain rfl : k = 4 := by omega
        have OL : Hid (wr.ownsRow w3.heap.size 3 1 (.slice (some ⟨g6, 0, none⟩) 4 4) 4 ((rowL 4 (leftF W zs x y)).map (Value.int .i64))) := by
         have e := OL.out
         rwa [rowL_cg (g := leftF W zs x y) (fun j hj => by rw [if_pos (by omega)])] at e
        have EW : Ext w wr := E3.trans hE
        have cq0 := EW.cell HCQ.out
        go_wp2
        go_ret3
        exact ⟨_, _, by rw [CN.out]; rfl, EW, Ints.of_row OT.out (by omega), Ints.of_row OL.out (by omega)⟩
   · have x1 : x = 0 := by omega
     have CN : Hid (placeF W zs (x - 1) (y - 1) = 128) := corner_zero W zs x y (Or.inl x1)
     have OL : Hid (w6.ownsRow w3.heap.size 3 1 (.slice (some ⟨g6, 0, none⟩) 4 4) 4 ((rowL 4 (leftF W zs x y)).map (Value.int .i64))) := by
      have e := OL.out
      rwa [← rowL_cg (f := leftF W zs x y) (fun j hj => leftF_zero W zs x y x1 j)] at e
     clear a1 a2 a3 hk0 x1
     go_wp2_with (refine copy_keep rfl _ _ 22 22 rfl 3 Tryz.underlying22 infoSz g5 0 4 4 ⟨g, off + k0, none⟩ _ _ rfl rfl _ 3 HG.out ((rowL 4 (topF W zs x y)).map (Value.int .i64)) (by rw [HL.out]; exact (Nat.min_eq_right (by omega)).symm) HR.out HF.out (ones_row _ _) ?_; intro w7 HG7 GR7)
     have OT : Hid (w7.ownsRow w3.heap.size 3 1 (.slice (some ⟨g5, 0, none⟩) 4 4) 4 ((rowL 4 (topF W zs x y)).map (Value.int .i64))) := by
      have e := HG7.out
      rw [splice_all (by simp [rowL_length])] at e
      exact heap_own HG5.out (by simp [rowL_length]) (by decide) e
     have OL := Lib.hid (own_grownBy OL.out GR7 (Or.inr (fun e => hne (by injection e with e; exact e.symm))))
     have ES7 : Ext w3 w7 := Below.grown ES GR7 ES.size (fun k hk => by cases hk; exact HG5.out)
     clear HG7 GR7 HG HF HL HR
     have EW := E3.trans ES7
     go_wp2
     go_ret3
     exact ⟨_, _, by rw [CN.out]; rfl, EW, Ints.of_row OT.out (by omega), Ints.of_row OL.out (by omega)⟩
 · have y1 : y = 0 := by omega
   have OT : Hid (w6.ownsRow w3.heap.size 3 1 (.slice (some ⟨g5, 0, none⟩) 4 4) 4 ((rowL 4 (topF W zs x y)).map (Value.int .i64))) := by
    have e := OT.out
    rwa [← rowL_cg (f := topF W zs x y) (fun j hj => topF_zero W zs x y y1 j)] at e
   have CN : Hid (placeF W zs (x - 1) (y - 1) = 128) := corner_zero W zs x y (Or.inr y1)
   clear y1
   by_cases x0 : 0 < x
   · go_wp2
     go_loopw [71] (fun iv wr => ∃ k : Nat, k ≤ 4 ∧ iv = .int .i64 k ∧ Hid (wr.ownsRow w3.heap.size 3 1 (.slice (some ⟨g6, 0, none⟩) 4 4) 4 ((rowL 4 (fun j => if j < k then leftF W zs x y j else 128)).map (Value.int .i64))) ∧ Hid (wr.ownsRow w3.heap.size 3 1 (.slice (some ⟨g5, 0, none⟩) 4 4) 4 ((rowL 4 (topF W zs x y)).map (Value.int .i64))) ∧ Ext w3 wr) (fun iv _ => 4 - (intOf iv).toNat)
     case atStart => exact ⟨0, Nat.zero_le _, rfl, Lib.hid (by simpa using OL.out), OT, ES⟩
     case round =>
      clear OL OT ES
      obtain ⟨k, hk, rfl, OL, OT, hE⟩ := hrel
      have Q0 := hE.cell P0
      have Q1 := hE.cell P1
      have Q2 := hE.cell P2
      by_cases hlt : k < 4
      · obtain ⟨a1, a2, a3⟩ := place_in b1.2.1 b2.2.1 HN.out (show x - 1 < W by omega) (show y + (k : Int) < H by omega) (by omega) (by omega)
        obtain ⟨q, hq⟩ : ∃ q : Nat, (y + (k : Int)) * W + x - 1 = (q : Int) := ⟨((y + (k : Int)) * W + x - 1).toNat, by omega⟩
        have hqn : q < n := by omega
        have d1 : IntKind.i64.wrap (y + (k : Int)) = y + (k : Int) := by rw [IntKind.wrap_i64]; omega
        have d2 : IntKind.i64.wrap ((y + (k : Int)) * W) = (y + (k : Int)) * W := by rw [IntKind.wrap_i64]; omega
        have d3 : IntKind.i64.wrap ((y + (k : Int)) * W + x) = (y + (k : Int)) * W + x := by rw [IntKind.wrap_i64]; omega
        have d4 : IntKind.i64.wrap ((y + (k : Int)) * W + x - 1) = (q : Int) := by rw [IntKind.wrap_i64]; omega
        have d5 : (0 : Int) ≤ (q : Int) ∧ (q : Int) < (n : Int) := by omega
        have d6 : (0 : Int) ≤ (k : Int) ∧ (k : Int) < 4 := by omega
        have HV : Hid (leftF W zs x y k = zs.getD q 0) := by
         show _ = _
         unfold leftF placeF
         rw [if_neg (by omega), show (y + (k : Int)) * W + (x - 1) = (q : Int) by omega]
         rfl
        have cq := (E3.trans hE).cell (h.at (get_of_lt (by rw [← HLN.out]; exact hqn)))
        obtain ⟨ck, fk⟩ := own_cell OL.out hlt
        have hOW := Lib.hid (fun v => own_set (x := v) OL.out hlt)
        have hg6 : w3.heap.size ≤ g6 := HG6.out
        revert cq HV
        generalize zs.getD q 0 = z
        intro HV cq
        clear hq a1 a2 a3
        go_wp2
        refine ⟨⟨k + 1, by omega, by go_num, ?_, ?_, ?_⟩, by simp [intOf]; omega⟩
        · have e := hOW.out z
          rwa [rowL_cg (g := fun j => if j < k + 1 then leftF W zs x y j else 128) (fun j hj => by
           by_cases hjk : j = k
           · subst hjk
             rw [if_pos rfl, if_pos (by omega), HV.out]
           · rw [if_neg hjk]
             by_cases h2 : j < k
             · rw [if_pos h2, if_pos (by omega)]
             · rw [if_neg h2, if_neg (by omega)])] at e
        · exact own_other OT.out hne
        · exact Below.setCell (p := ⟨g6, k, none⟩) hE hg6 _
      · obtain rfl : k = 4 := by omega
        have OL : Hid (wr.ownsRow w3.heap.size 3 1 (.slice (some ⟨g6, 0, none⟩) 4 4) 4 ((rowL 4 (leftF W zs x y)).map (Value.int .i64))) := by
         have e := OL.out
         rwa [rowL_cg (g := leftF W zs x y) (fun j hj => by rw [if_pos (by omega)])] at e
        have EW : Ext w wr := E3.trans hE
        go_wp2
        go_ret3
        exact ⟨_, _, by rw [CN.out]; rfl, EW, Ints.of_row OT.out (by omega), Ints.of_row OL.out (by omega)⟩
   · have x1 : x = 0 := by omega
     have OL : Hid (w6.ownsRow w3.heap.size 3 1 (.slice (some ⟨g6, 0, none⟩) 4 4) 4 ((rowL 4 (leftF W zs x y)).map (Value.int .i64))) := by
      have e := OL.out
      rwa [← rowL_cg (f := leftF W zs x y) (fun j hj => leftF_zero W zs x y x1 j)] at e
     have EW : Ext w w6 := E3.trans ES
     clear x1
     go_wp2
     go_ret3
     exact ⟨_, _, by rw [CN.out]; rfl, EW, Ints.of_row OT.out (by omega), Ints.of_row OL.out (by omega)⟩
set_option maxHeartbeats 4000000 in
set_option maxRecDepth 20000 in
theorem edges_8 (W H x y : Int) (zs : List Int) (a : Option Addr) (n cap : Nat) (w : World) (h : Ints w (.slice a n cap) zs) (hm : may W H zs) (hx : 0 ≤ x ∧ x ≤ W - 8) (hy : 0 ≤ y ∧ y ≤ H - 8) :
 Calls Tryz.prog 95 #[.agg #[.int .i64 W, .int .i64 H, .slice a n cap], .int .i64 x, .int .i64 y, .int .i64 8] w fun e w' => ∃ u u', e = .returned (.tuple #[u, u', .int .i64 (placeF W zs (x - 1) (y - 1))]) ∧ Ext w w' ∧ Ints w' u (rowL 8 (topF W zs x y)) ∧ Ints w' u' (rowL 8 (leftF W zs x y)) := by
 have M1 := Lib.hid (fun W' k => may_any W H zs a n cap W' k)
 have R1 := Lib.hid (fun v W' k => rep_sz 8 (by decide) 128 v W' k)
 have HM := Lib.hid hm
 have b1 := sideB_true hm.1
 have b2 := sideB_true hm.2.1
 have hn : (n : Int) = W * H := by rw [h.len]; exact hm.2.2.1
 have har := may_area hm
 obtain ⟨g, off, rfl⟩ := h.had (by omega)
 obtain ⟨hx1, hx2⟩ := hx
 obtain ⟨hy1, hy2⟩ := hy
 have HN := Lib.hid hn
 have HLN := Lib.hid h.len
 clear hm hn har
 have e1 : IntKind.i64.wrap (W - 8) = W - 8 := by rw [IntKind.wrap_i64]; omega
 have e2 : IntKind.i64.wrap (H - 8) = H - 8 := by rw [IntKind.wrap_i64]; omega
 have e3 : IntKind.i64.wrap (y - 1) = y - 1 := by rw [IntKind.wrap_i64]; omega
 go_enter Tryz.func95, Tryz.ntmps95
 go_wp2_with fail
 refine (M1.out _ (h.ext (by repeat (first | exact Ext.refl _ | assumption | refine Ext.alloc ?_ _ | refine Ext.drew ?_ | refine Ext.drewN ?_ _ | refine Ext.setCell ?_ (by first | exact Nat.le_refl _ | (simp; done) | omega) _ | refine Ext.trans ?_ (by assumption))))).mono ?_; rintro e w3 ⟨rfl, hx3⟩
 rw [decide_eq_true HM.out]
 have p0 : w3.cell? ⟨w.heap.size, 0, none⟩ = some (.int .i64 W) := hx3.cell (by simp)
 have p1 : w3.cell? ⟨w.heap.size, 1, none⟩ = some (.int .i64 H) := hx3.cell (by simp)
 have p2 : w3.cell? ⟨w.heap.size, 2, none⟩ = some (.slice (some ⟨g, off, none⟩) n cap) := hx3.cell (by simp)
 have E3 : Ext w w3 := (by repeat (first | exact Ext.refl _ | assumption | refine Ext.alloc ?_ _ | refine Ext.drew ?_ | refine Ext.drewN ?_ _ | refine Ext.setCell ?_ (by first | exact Nat.le_refl _ | (simp; done) | omega) _ | refine Ext.trans ?_ (by assumption)))
 clear hx3
 go_wp2_with fail
 refine (sd_any _ _).mono ?_; rintro e w4 ⟨rfl, rfl⟩
 rw [show sdB 8 = true from rfl]
 go_wp2_with fail
 refine (R1.out _ _ (Ints.liti w3 [128] (by decide))).mono ?_; rintro e w5 ⟨g5, rfl, hx5, ho5, hb5, hs5⟩
 go_wp2_with fail
 refine (R1.out _ _ (Ints.liti w5 [128] (by decide))).mono ?_; rintro e w6 ⟨g6, rfl, hx6, ho6, hb6, hs6⟩
 have k5 : Ext w3 (w3.alloc (.cells #[.int .i64 128] 3)) := (Ext.refl w3).alloc _
 have k6 : Ext w5 (w5.alloc (.cells #[.int .i64 128] 3)) := (Ext.refl w5).alloc _
 have ES : Ext w3 w6 := ((k5.trans hx5).trans k6).trans hx6
 have P0 := p0
 have P1 := p1
 have P2 := p2
 have OT : Hid (w6.ownsRow w3.heap.size 3 1 (.slice (some ⟨g5, 0, none⟩) 8 8) 8 ((rowL 8 fun _ => 128).map (Value.int .i64))) := own_ext (own_ext (own_mono ho5 k5.size) k6) hx6
 have OL : Hid (w6.ownsRow w3.heap.size 3 1 (.slice (some ⟨g6, 0, none⟩) 8 8) 8 ((rowL 8 fun _ => 128).map (Value.int .i64))) := own_mono ho6 (Nat.le_trans (k5.trans hx5).size k6.size)
 have HG5 : Hid (w3.heap.size ≤ g5) := Nat.le_trans k5.size hb5
 have HG6 : Hid (w3.heap.size ≤ g6) := Nat.le_trans (k5.trans hx5).size (Nat.le_trans k6.size hb6)
 have hg56 : w5.heap.size ≤ g6 := Nat.le_trans k6.size hb6
 have hne : g5 ≠ g6 := by omega
 clear hx5 hx6 k5 k6 ho5 ho6 hb5 hb6 hs5 hs6 hg56
 have Q0 := ES.cell P0
 have Q1 := ES.cell P1
 have Q2 := ES.cell P2
 clear p0 p1 p2
 by_cases y0 : 0 < y
 · obtain ⟨a1, a2, a3⟩ := place_in b1.2.1 b2.2.1 HN.out (show x + (8 - 1) < W by omega) (show y - 1 < H by omega) (by omega) (by omega)
   obtain ⟨k0, hk0⟩ : ∃ k0 : Nat, (y - 1) * W + x = (k0 : Int) := ⟨((y - 1) * W + x).toNat, by omega⟩
   have hk1 : k0 + 8 ≤ n := by omega
   have d1 : IntKind.i64.wrap ((y - 1) * W) = (y - 1) * W := by rw [IntKind.wrap_i64]; omega
   have d2 : IntKind.i64.wrap ((y - 1) * W + x) = (k0 : Int) := by rw [IntKind.wrap_i64]; omega
   have d3 : (0 : Int) ≤ (k0 : Int) ∧ (k0 : Int) ≤ (n : Int) := by omega
   have hcap := h.capd (by omega)
   have d4 : ¬ cap = k0 := by omega
   have d5 : (k0 : Int) ≤ (cap : Int) := by omega
   have d6 : ¬ cap - k0 = 0 := by omega
   have HR := Lib.hid (read_row (f := topF W zs x y) (h.ext (E3.trans ES)) hk1 (fun j hj => by
    unfold topF placeF
    rw [if_neg (by omega), show (y - 1) * W + (x + (j : Int)) = ((k0 + j : Nat) : Int) by omega]
    rfl))
   have HG := Lib.hid (own_heap OT.out)
   have HF : Hid (0 + ((rowL 8 (topF W zs x y)).map (Value.int .i64)).length ≤ ((rowL 8 fun _ => (128 : Int)).map (Value.int .i64)).length) := by show _ ≤ _; simp [rowL_length]
   have HL : Hid (((rowL 8 (topF W zs x y)).map (Value.int .i64)).length = 8) := by show _ = _; simp [rowL_length]
   by_cases x0 : 0 < x
   · obtain ⟨q0, hq0⟩ : ∃ q0 : Nat, k0 = q0 + 1 := ⟨k0 - 1, by have := Int.mul_nonneg (show 0 ≤ y - 1 by omega) (show 0 ≤ W by omega); omega⟩
     have d7 : IntKind.i64.wrap ((k0 : Int) - 1) = (q0 : Int) := by rw [IntKind.wrap_i64]; omega
     have d8 : (0 : Int) ≤ (q0 : Int) ∧ (q0 : Int) < (n : Int) := by omega
     obtain ⟨z0, hz0⟩ : ∃ z0, z0 = zs.getD q0 0 := ⟨_, rfl⟩
     have HCQ : Hid (w.cell? ⟨g, off + q0, none⟩ = some (.int .i64 z0)) := by show _ = _; rw [hz0]; exact h.at (get_of_lt (by rw [← HLN.out]; omega))
     have CN : Hid (placeF W zs (x - 1) (y - 1) = z0) := by
      show _ = _
      unfold placeF
      rw [if_neg (by omega), hz0, show (y - 1) * W + (x - 1) = (q0 : Int) by omega]
      rfl
     clear a1 a2 a3 hk0 hq0 hz0
     go_wp2_with (refine copy_keep rfl _ _ 22 22 rfl 3 Tryz.underlying22 infoSz g5 0 8 8 ⟨g, off + k0, none⟩ _ _ rfl rfl _ 3 HG.out ((rowL 8 (topF W zs x y)).map (Value.int .i64)) (by rw [HL.out]; exact (Nat.min_eq_right (by omega)).symm) HR.out HF.out (ones_row _ _) ?_; intro w7 HG7 GR7)
     have OT : Hid (w7.ownsRow w3.heap.size 3 1 (.slice (some ⟨g5, 0, none⟩) 8 8) 8 ((rowL 8 (topF W zs x y)).map (Value.int .i64))) := by
      have e := HG7.out
      rw [splice_all (by simp [rowL_length])] at e
      exact heap_own HG5.out (by simp [rowL_length]) (by decide) e
     have OL := Lib.hid (own_grownBy OL.out GR7 (Or.inr (fun e => hne (by injection e with e; exact e.symm))))
     have ES7 : Ext w3 w7 := Below.grown ES GR7 ES.size (fun k hk => by cases hk; exact HG5.out)
     clear HG7 GR7 HG HF HL HR
     have ES := ES7
     go_loopw [71] (fun iv wr => ∃ k : Nat, k ≤ 8 ∧ iv = .int .i64 k ∧ Hid (wr.ownsRow w3.heap.size 3 1 (.slice (some ⟨g6, 0, none⟩) 8 8) 8 ((rowL 8 (fun j => if j < k then leftF W zs x y j else 128)).map (Value.int .i64))) ∧ Hid (wr.ownsRow w3.heap.size 3 1 (.slice (some ⟨g5, 0, none⟩) 8 8) 8 ((rowL 8 (topF W zs x y)).map (Value.int .i64))) ∧ Ext w3 wr) (fun iv _ => 8 - (intOf iv).toNat)
     case atStart => exact ⟨0, Nat.zero_le _, rfl, Lib.hid (by simpa using OL.out), OT, ES⟩
     case round =>
      clear OL OT ES
      obtain ⟨k, hk, rfl, OL, OT, hE⟩ := hrel
      have Q0 := hE.cell P0
      have Q1 := hE.cell P1
      have Q2 := hE.cell P2
      by_cases hlt : k < 8
      · obtain ⟨a1, a2, a3⟩ := place_in b1.2.1 b2.2.1 HN.out (show x - 1 < W by omega) (show y + (k : Int) < H by omega) (by omega) (by omega)
        obtain ⟨q, hq⟩ : ∃ q : Nat, (y + (k : Int)) * W + x - 1 = (q : Int) := ⟨((y + (k : Int)) * W + x - 1).toNat, by omega⟩
        have hqn : q < n := by omega
        have d1 : IntKind.i64.wrap (y + (k : Int)) = y + (k : Int) := by rw [IntKind.wrap_i64]; omega
        have d2 : IntKind.i64.wrap ((y + (k : Int)) * W) = (y + (k : Int)) * W := by rw [IntKind.wrap_i64]; omega
        have d3 : IntKind.i64.wrap ((y + (k : Int)) * W + x) = (y + (k : Int)) * W + x := by rw [IntKind.wrap_i64]; omega
        have d4 : IntKind.i64.wrap ((y + (k : Int)) * W + x - 1) = (q : Int) := by rw [IntKind.wrap_i64]; omega
        have d5 : (0 : Int) ≤ (q : Int) ∧ (q : Int) < (n : Int) := by omega
        have d6 : (0 : Int) ≤ (k : Int) ∧ (k : Int) < 8 := by omega
        have HV : Hid (leftF W zs x y k = zs.getD q 0) := by
         show _ = _
         unfold leftF placeF
         rw [if_neg (by omega), show (y + (k : Int)) * W + (x - 1) = (q : Int) by omega]
         rfl
        have cq := (E3.trans hE).cell (h.at (get_of_lt (by rw [← HLN.out]; exact hqn)))
        obtain ⟨ck, fk⟩ := own_cell OL.out hlt
        have hOW := Lib.hid (fun v => own_set (x := v) OL.out hlt)
        have hg6 : w3.heap.size ≤ g6 := HG6.out
        revert cq HV
        generalize zs.getD q 0 = z
        intro HV cq
        clear hq a1 a2 a3
        go_wp2
        refine ⟨⟨k + 1, by omega, by go_num, ?_, ?_, ?_⟩, by simp [intOf]; omega⟩
        · have e := hOW.out z
          rwa [rowL_cg (g := fun j => if j < k + 1 then leftF W zs x y j else 128) (fun j hj => by
           by_cases hjk : j = k
           · subst hjk
             rw [if_pos rfl, if_pos (by omega), HV.out]
           · rw [if_neg hjk]
             by_cases h2 : j < k
             · rw [if_pos h2, if_pos (by omega)]
             · rw [if_neg h2, if_neg (by omega)])] at e
        · exact own_other OT.out hne
        · exact Below.setCell (p := ⟨g6, k, none⟩) hE hg6 _
      · obtain rfl : k = 8 := by omega
        have OL : Hid (wr.ownsRow w3.heap.size 3 1 (.slice (some ⟨g6, 0, none⟩) 8 8) 8 ((rowL 8 (leftF W zs x y)).map (Value.int .i64))) := by
         have e := OL.out
         rwa [rowL_cg (g := leftF W zs x y) (fun j hj => by rw [if_pos (by omega)])] at e
        have EW : Ext w wr := E3.trans hE
        have cq0 := EW.cell HCQ.out
        go_wp2
        go_ret3
        exact ⟨_, _, by rw [CN.out]; rfl, EW, Ints.of_row OT.out (by omega), Ints.of_row OL.out (by omega)⟩
   · have x1 : x = 0 := by omega
     have CN : Hid (placeF W zs (x - 1) (y - 1) = 128) := corner_zero W zs x y (Or.inl x1)
     have OL : Hid (w6.ownsRow w3.heap.size 3 1 (.slice (some ⟨g6, 0, none⟩) 8 8) 8 ((rowL 8 (leftF W zs x y)).map (Value.int .i64))) := by
      have e := OL.out
      rwa [← rowL_cg (f := leftF W zs x y) (fun j hj => leftF_zero W zs x y x1 j)] at e
     clear a1 a2 a3 hk0 x1
     go_wp2_with (refine copy_keep rfl _ _ 22 22 rfl 3 Tryz.underlying22 infoSz g5 0 8 8 ⟨g, off + k0, none⟩ _ _ rfl rfl _ 3 HG.out ((rowL 8 (topF W zs x y)).map (Value.int .i64)) (by rw [HL.out]; exact (Nat.min_eq_right (by omega)).symm) HR.out HF.out (ones_row _ _) ?_; intro w7 HG7 GR7)
     have OT : Hid (w7.ownsRow w3.heap.size 3 1 (.slice (some ⟨g5, 0, none⟩) 8 8) 8 ((rowL 8 (topF W zs x y)).map (Value.int .i64))) := by
      have e := HG7.out
      rw [splice_all (by simp [rowL_length])] at e
      exact heap_own HG5.out (by simp [rowL_length]) (by decide) e
     have OL := Lib.hid (own_grownBy OL.out GR7 (Or.inr (fun e => hne (by injection e with e; exact e.symm))))
     have ES7 : Ext w3 w7 := Below.grown ES GR7 ES.size (fun k hk => by cases hk; exact HG5.out)
     clear HG7 GR7 HG HF HL HR
     have EW := E3.trans ES7
     go_wp2
     go_ret3
     exact ⟨_, _, by rw [CN.out]; rfl, EW, Ints.of_row OT.out (by omega), Ints.of_row OL.out (by omega)⟩
 · have y1 : y = 0 := by omega
   have OT : Hid (w6.ownsRow w3.heap.size 3 1 (.slice (some ⟨g5, 0, none⟩) 8 8) 8 ((rowL 8 (topF W zs x y)).map (Value.int .i64))) := by
    have e := OT.out
    rwa [← rowL_cg (f := topF W zs x y) (fun j hj => topF_zero W zs x y y1 j)] at e
   have CN : Hid (placeF W zs (x - 1) (y - 1) = 128) := corner_zero W zs x y (Or.inr y1)
   clear y1
   by_cases x0 : 0 < x
   · go_wp2
     go_loopw [71] (fun iv wr => ∃ k : Nat, k ≤ 8 ∧ iv = .int .i64 k ∧ Hid (wr.ownsRow w3.heap.size 3 1 (.slice (some ⟨g6, 0, none⟩) 8 8) 8 ((rowL 8 (fun j => if j < k then leftF W zs x y j else 128)).map (Value.int .i64))) ∧ Hid (wr.ownsRow w3.heap.size 3 1 (.slice (some ⟨g5, 0, none⟩) 8 8) 8 ((rowL 8 (topF W zs x y)).map (Value.int .i64))) ∧ Ext w3 wr) (fun iv _ => 8 - (intOf iv).toNat)
     case atStart => exact ⟨0, Nat.zero_le _, rfl, Lib.hid (by simpa using OL.out), OT, ES⟩
     case round =>
      clear OL OT ES
      obtain ⟨k, hk, rfl, OL, OT, hE⟩ := hrel
      have Q0 := hE.cell P0
      have Q1 := hE.cell P1
      have Q2 := hE.cell P2
      by_cases hlt : k < 8
      · obtain ⟨a1, a2, a3⟩ := place_in b1.2.1 b2.2.1 HN.out (show x - 1 < W by omega) (show y + (k : Int) < H by omega) (by omega) (by omega)
        obtain ⟨q, hq⟩ : ∃ q : Nat, (y + (k : Int)) * W + x - 1 = (q : Int) := ⟨((y + (k : Int)) * W + x - 1).toNat, by omega⟩
        have hqn : q < n := by omega
        have d1 : IntKind.i64.wrap (y + (k : Int)) = y + (k : Int) := by rw [IntKind.wrap_i64]; omega
        have d2 : IntKind.i64.wrap ((y + (k : Int)) * W) = (y + (k : Int)) * W := by rw [IntKind.wrap_i64]; omega
        have d3 : IntKind.i64.wrap ((y + (k : Int)) * W + x) = (y + (k : Int)) * W + x := by rw [IntKind.wrap_i64]; omega
        have d4 : IntKind.i64.wrap ((y + (k : Int)) * W + x - 1) = (q : Int) := by rw [IntKind.wrap_i64]; omega
        have d5 : (0 : Int) ≤ (q : Int) ∧ (q : Int) < (n : Int) := by omega
        have d6 : (0 : Int) ≤ (k : Int) ∧ (k : Int) < 8 := by omega
        have HV : Hid (leftF W zs x y k = zs.getD q 0) := by
         show _ = _
         unfold leftF placeF
         rw [if_neg (by omega), show (y + (k : Int)) * W + (x - 1) = (q : Int) by omega]
         rfl
        have cq := (E3.trans hE).cell (h.at (get_of_lt (by rw [← HLN.out]; exact hqn)))
        obtain ⟨ck, fk⟩ := own_cell OL.out hlt
        have hOW := Lib.hid (fun v => own_set (x := v) OL.out hlt)
        have hg6 : w3.heap.size ≤ g6 := HG6.out
        revert cq HV
        generalize zs.getD q 0 = z
        intro HV cq
        clear hq a1 a2 a3
        go_wp2
        refine ⟨⟨k + 1, by omega, by go_num, ?_, ?_, ?_⟩, by simp [intOf]; omega⟩
        · have e := hOW.out z
          rwa [rowL_cg (g := fun j => if j < k + 1 then leftF W zs x y j else 128) (fun j hj => by
           by_cases hjk : j = k
           · subst hjk
             rw [if_pos rfl, if_pos (by omega), HV.out]
           · rw [if_neg hjk]
             by_cases h2 : j < k
             · rw [if_pos h2, if_pos (by omega)]
             · rw [if_neg h2, if_neg (by omega)])] at e
        · exact own_other OT.out hne
        · exact Below.setCell (p := ⟨g6, k, none⟩) hE hg6 _
      · obtain rfl : k = 8 := by omega
        have OL : Hid (wr.ownsRow w3.heap.size 3 1 (.slice (some ⟨g6, 0, none⟩) 8 8) 8 ((rowL 8 (leftF W zs x y)).map (Value.int .i64))) := by
         have e := OL.out
         rwa [rowL_cg (g := leftF W zs x y) (fun j hj => by rw [if_pos (by omega)])] at e
        have EW : Ext w wr := E3.trans hE
        go_wp2
        go_ret3
        exact ⟨_, _, by rw [CN.out]; rfl, EW, Ints.of_row OT.out (by omega), Ints.of_row OL.out (by omega)⟩
   · have x1 : x = 0 := by omega
     have OL : Hid (w6.ownsRow w3.heap.size 3 1 (.slice (some ⟨g6, 0, none⟩) 8 8) 8 ((rowL 8 (leftF W zs x y)).map (Value.int .i64))) := by
      have e := OL.out
      rwa [← rowL_cg (f := leftF W zs x y) (fun j hj => leftF_zero W zs x y x1 j)] at e
     have EW : Ext w w6 := E3.trans ES
     clear x1
     go_wp2
     go_ret3
     exact ⟨_, _, by rw [CN.out]; rfl, EW, Ints.of_row OT.out (by omega), Ints.of_row OL.out (by omega)⟩
end Go.Proofs.YtcekpngkfldgkaaGreatDoor