/- kinref6.Put of what may be put: a frame of the call's own. -/
import Derived.Test.YtcekpngkfldgkaaGreatDoorXGj
import Derived.Test.YtcekpngkfldgkaaGreatDoorXGa
import Derived.Test.YtcekpngkfldgkaaGreatDoorXGb
namespace Go.Proofs.YtcekpngkfldgkaaGreatDoor
set_option linter.unusedVariables false
set_option linter.unusedSimpArgs false
open Go.RowKit Go.Extern.Stop Go.Stop Go.Extern
def FoP (w : World) (W H : Int) (zs : List Int) (e : Ending) (w' : World) : Prop := ∃ a n c k b m q, e = .returned (.tuple #[.agg #[.int .i64 W, .int .i64 H, .slice a n c], .agg #[.int .i64 k, .slice b m q]]) ∧ Ext w w' ∧ w'.ownsRow w.heap.size 3 1 (.slice a n c) n (zs.map (Value.int .i64)) ∧ n = zs.length
set_option maxHeartbeats 8000000 in
set_option maxRecDepth 20000 in
theorem rput_own (Wn X Y N : Nat) (H : Int) (zs bs : List Int) (a b : Option Addr) (n m cap cb : Nat) (w : World) (h : Ints w (.slice a n cap) zs) (hb : Ints w (.slice b m cb) bs) (hm : may (Wn : Int) H zs) (hN : 1 ≤ N ∧ N ≤ 8) (hX : X + N ≤ Wn) (hY : (Y : Int) + (N : Int) ≤ H) (hl : bs.length = N * N) (hw : within 0 255 bs) :
 Calls Tryz.prog 97 #[.agg #[.int .i64 (Wn : Int), .int .i64 H, .slice a n cap], .int .i64 (X : Int), .int .i64 (Y : Int), .int .i64 (N : Int), .slice b m cb] w
  (FoP w (Wn : Int) H (rowL zs.length (putK Wn X Y N (N * N) (fun i => zs.getD i 0) (fun i => bs.getD i 0)))) := by
 have M1 := Lib.hid (fun w h => rmay_any (Wn : Int) H zs a n cap w h)
 have H1 := Lib.hid hm
 have b1 := sideB_true hm.1
 have b2 := sideB_true hm.2.1
 have hml := may_len hm
 have har := may_area hm
 have hzl := hm.2.2.1
 have hnl := h.len
 have hmm := hb.len
 have CF := Lib.hid (fun w k => copy_frame_own (Wn : Int) H zs a n cap w k (by omega))
 have L1 := Lib.hid (fun (W' : World) => lies_any (Wn : Int) H (X : Int) (Y : Int) (N : Int) (.slice a n cap) a n cap W' rfl (by omega) (by omega) (by omega))
 have HLB : Hid (liesB (Wn : Int) H (X : Int) (Y : Int) (N : Int) = true) := by show _ = _; unfold liesB; simp; omega
 have W1 := Lib.hid (fun w k => within_any bs 0 255 (.slice b m cb) w k)
 obtain ⟨hN1, hN2⟩ := hN
 have hs := Nat.mul_le_mul hN2 hN2
 have hNN : N ≤ N * N := Nat.le_mul_of_pos_left N hN1
 have hm64 : m = N * N := by omega
 obtain ⟨gb, ob, rfl⟩ := hb.had (by omega)
 have q3 : IntKind.i64.wrap ((N : Int) * (N : Int)) = (m : Int) := by rw [IntKind.wrap_i64, hm64]; push_cast; have := Int.ofNat_le.2 hs; push_cast at this; omega
 have HBL := Lib.hid hmm
 have HW := Lib.hid hw
 have HZL : Hid ((n : Int) = (Wn : Int) * H) := by show _ = _; rw [hnl]; exact hzl
 have HNL := Lib.hid hnl
 have HMN := Lib.hid hm64
 have hm2 : m ≤ 64 := by omega
 have hn2 : n ≤ 1024 := by omega
 have hn0 : 0 < n := by omega
 clear hm hw hmm hnl hzl hl har hml hs hm64
 have FB0 : FrHas (((w.alloc (.cells #[.int .i64 (Wn : Int), .int .i64 H, .slice a n cap] 24)).alloc (.cells #[.int .i64 0, .int .i64 0, .slice none 0 0] 24)).alloc (.cells #[.int .i64 0, .slice none 0 0] 43)) w.heap.size (Wn : Int) H (.slice a n cap) := (FrHas.new w (Wn : Int) H (.slice a n cap)).ext (((Ext.refl _).alloc _).alloc _)
 have FR0 : FrHas (((w.alloc (.cells #[.int .i64 (Wn : Int), .int .i64 H, .slice a n cap] 24)).alloc (.cells #[.int .i64 0, .int .i64 0, .slice none 0 0] 24)).alloc (.cells #[.int .i64 0, .slice none 0 0] 43)) (w.heap.size + 1) 0 0 (.slice none 0 0) := by
  have := (FrHas.new (w.alloc (.cells #[.int .i64 (Wn : Int), .int .i64 H, .slice a n cap] 24)) 0 0 (.slice none 0 0)).ext ((Ext.refl _).alloc (.cells #[.int .i64 0, .slice none 0 0] 43))
  simpa using this
 have RA0 : ResAt (((w.alloc (.cells #[.int .i64 (Wn : Int), .int .i64 H, .slice a n cap] 24)).alloc (.cells #[.int .i64 0, .int .i64 0, .slice none 0 0] 24)).alloc (.cells #[.int .i64 0, .slice none 0 0] 43)) (w.heap.size + 2) := by
  have := ResAt.new ((w.alloc (.cells #[.int .i64 (Wn : Int), .int .i64 H, .slice a n cap] 24)).alloc (.cells #[.int .i64 0, .int .i64 0, .slice none 0 0] 24))
  simpa using this
 have E0 : Ext w (((w.alloc (.cells #[.int .i64 (Wn : Int), .int .i64 H, .slice a n cap] 24)).alloc (.cells #[.int .i64 0, .int .i64 0, .slice none 0 0] 24)).alloc (.cells #[.int .i64 0, .slice none 0 0] 43)) := (by repeat (first | exact Ext.refl _ | assumption | refine Ext.alloc ?_ _ | refine Ext.drew ?_ | refine Ext.drewN ?_ _ | refine Ext.setCell ?_ (by first | exact Nat.le_refl _ | (simp; done) | omega) _ | refine Ext.trans ?_ (by assumption)))
 go_enter Tryz.func97, Tryz.ntmps97
 go_wp2_with fail
 revert FB0 FR0 RA0 E0
 generalize ((w.alloc (.cells #[.int .i64 (Wn : Int), .int .i64 H, .slice a n cap] 24)).alloc (.cells #[.int .i64 0, .int .i64 0, .slice none 0 0] 24)).alloc (.cells #[.int .i64 0, .slice none 0 0] 43) = w0
 intro FB0 FR0 RA0 E0
 refine (M1.out _ (h.ext E0)).mono ?_; rintro e w1 ⟨rfl, hx1⟩
 have HFB := Lib.hid (FB0.ext hx1)
 have HFR := Lib.hid (FR0.ext hx1)
 have HRA := Lib.hid (RA0.ext hx1)
 have E1 : Ext w w1 := E0.trans hx1
 clear FB0 FR0 RA0 E0 hx1
 rw [decide_eq_true H1.out]
 obtain ⟨⟨p0, p1, p2⟩, f0, f1, f2⟩ := HFB.out
 go_wp2_with fail
 refine (L1.out _).mono ?_; rintro e w2 ⟨rfl, hx2⟩
 rw [HLB.out]
 clear p0 p1 p2 f0 f1 f2
 go_wp2_with fail
 refine (W1.out _ (hb.ext (E1.trans hx2))).mono ?_; rintro e w3 ⟨rfl, hx3⟩
 rw [decide_eq_true HW.out]
 have HFB3 := Lib.hid ((HFB.out.ext hx2).ext hx3)
 have HFR3 := Lib.hid ((HFR.out.ext hx2).ext hx3)
 have HRA3 := Lib.hid ((HRA.out.ext hx2).ext hx3)
 have E3 : Ext w w3 := (E1.trans hx2).trans hx3
 clear HFB HFR HRA E1 hx2 hx3
 obtain ⟨⟨p0, p1, p2⟩, f0, f1, f2⟩ := HFB3.out
 go_wp2_with fail
 refine (CF.out _ (h.ext E3)).mono ?_; rintro e w4 ⟨u, rfl, ho4, hx4⟩
 rw [← HNL.out] at ho4
 obtain ⟨g, cg, rfl, hbg, hgs⟩ := own_addr ho4 hn0
 have hB0 : w.heap.size + 2 < w3.heap.size := Ext.lt HRA3.out.1
 have A4 : Ext w4 (w4.alloc (.cells #[.int .i64 (Wn : Int), .int .i64 H, .slice (some ⟨g, 0, none⟩) n cg] 24)) := (Ext.refl w4).alloc _
 have HFB4 := Lib.hid ((HFB3.out.ext hx4).ext A4)
 have HFR4 := Lib.hid ((HFR3.out.ext hx4).ext A4)
 have HRA4 := Lib.hid ((HRA3.out.ext hx4).ext A4)
 have HG4 := Lib.hid (FrHas.new w4 (Wn : Int) H (.slice (some ⟨g, 0, none⟩) n cg))
 have E4 : Ext w (w4.alloc (.cells #[.int .i64 (Wn : Int), .int .i64 H, .slice (some ⟨g, 0, none⟩) n cg] 24)) := (E3.trans hx4).trans A4
 have hS : w3.heap.size ≤ w4.heap.size := hx4.size
 have HO4 : Hid ((w4.alloc (.cells #[.int .i64 (Wn : Int), .int .i64 H, .slice (some ⟨g, 0, none⟩) n cg] 24)).ownsRow w3.heap.size 3 1 (.slice (some ⟨g, 0, none⟩) n cg) n ((rowL n (putK Wn X Y N 0 (fun i => zs.getD i 0) (fun i => bs.getD i 0))).map (Value.int .i64))) := by
  show World.ownsRow _ _ _ _ _ _ _
  rw [HNL.out, rowL_cg (g := fun i => zs.getD i 0) (fun j _ => putK_zero Wn X Y N _ _ j), rowL_getD, ← HNL.out]
  exact own_ext ho4 A4
 clear p0 p1 p2 f0 f1 f2 HFB3 HFR3 HRA3 E3 hx4 A4 ho4
 go_wp2_with fail
 revert HFB4 HFR4 HRA4 HG4 E4 HO4
 generalize w4.alloc (.cells #[.int .i64 (Wn : Int), .int .i64 H, .slice (some ⟨g, 0, none⟩) n cg] 24) = wS
 intro HFB4 HFR4 HRA4 HG4 E4 HO4
 go_loopw [13] (fun iv wr => ∃ k : Nat, k ≤ m ∧ iv = .int .i64 k ∧ Hid (wr.ownsRow w3.heap.size 3 1 (.slice (some ⟨g, 0, none⟩) n cg) n ((rowL n (putK Wn X Y N k (fun i => zs.getD i 0) (fun i => bs.getD i 0))).map (Value.int .i64))) ∧ Hid (∀ c, c ≠ g → wr.heap[c]? = wS.heap[c]?) ∧ Ext w wr) (fun iv _ => m - (intOf iv).toNat)
 case atStart => exact ⟨0, Nat.zero_le _, rfl, HO4, fun c _ => rfl, E4⟩
 case round =>
  clear HO4 E4
  obtain ⟨k, hk, rfl, HO, HK, EW⟩ := hrel
  obtain ⟨⟨p0, p1, p2⟩, f0, f1, f2⟩ := HFB4.out.same (HK.out w.heap.size (by omega))
  obtain ⟨⟨q0, q1, q2⟩, g0, g1, g2⟩ := HG4.out.same (HK.out w4.heap.size (by omega))
  by_cases hlt : k < m
  · have hkN : k < N * N := by rw [← HMN.out]; exact hlt
    have hd : k / N < N := (Nat.div_lt_iff_lt_mul hN1).2 hkN
    have hmo : k % N < N := Nat.mod_lt _ hN1
    have t1 : Int.tdiv (k : Int) (N : Int) = ((k / N : Nat) : Int) := (Int.ofNat_tdiv k N).symm
    have t2 : Int.tmod (k : Int) (N : Int) = ((k % N : Nat) : Int) := (Int.ofNat_tmod k N).symm
    have HQ0 : ∃ Q : Nat, Q = (Y + k / N) * Wn + X + k % N := ⟨_, rfl⟩
    have HP := Lib.hid (putK_one (Y := Y) (z := fun i => zs.getD i 0) (b := fun i => bs.getD i 0) hX hkN)
    obtain ⟨z, hz⟩ : ∃ z, bs.getD k 0 = z := ⟨_, rfl⟩
    have cz := EW.cell (hb.at (get_of_lt (by rw [← HBL.out]; exact hlt)))
    rw [hz] at cz
    have HZ := Lib.hid hz
    obtain ⟨Q, hQ⟩ := HQ0
    have HQ := Lib.hid hQ
    revert t1 t2 hd hmo hQ
    generalize k / N = D
    generalize k % N = M
    intro hd hmo t1 t2 hQ
    obtain ⟨a1, a2, a3⟩ := place_in (x := (X : Int) + (M : Int)) (y := (Y : Int) + (D : Int)) b1.2.1 b2.2.1 HZL.out (by omega) (by omega) (by omega) (by omega)
    have hQi : ((Y : Int) + (D : Int)) * (Wn : Int) + (X : Int) + (M : Int) = (Q : Int) := by rw [hQ]; push_cast; rfl
    have hQn : Q < n := by omega
    have d0 : ¬ (N : Int) = 0 := by omega
    have d1 : IntKind.i64.wrap ((Y : Int) + (D : Int)) = (Y : Int) + (D : Int) := by rw [IntKind.wrap_i64]; omega
    have d2 : IntKind.i64.wrap (((Y : Int) + (D : Int)) * (Wn : Int)) = ((Y : Int) + (D : Int)) * (Wn : Int) := by rw [IntKind.wrap_i64]; omega
    have d3 : IntKind.i64.wrap (((Y : Int) + (D : Int)) * (Wn : Int) + (X : Int)) = ((Y : Int) + (D : Int)) * (Wn : Int) + (X : Int) := by rw [IntKind.wrap_i64]; omega
    have d4 : IntKind.i64.wrap (((Y : Int) + (D : Int)) * (Wn : Int) + (X : Int) + (M : Int)) = (Q : Int) := by rw [IntKind.wrap_i64]; omega
    have d5 : IntKind.i64.wrap (D : Int) = (D : Int) := by rw [IntKind.wrap_i64]; omega
    have k1 : (0 : Int) ≤ (Q : Int) ∧ (Q : Int) < (n : Int) := by omega
    have k2 : (0 : Int) ≤ (k : Int) ∧ (k : Int) < (m : Int) := by omega
    obtain ⟨cq, fq⟩ := own_cell HO.out hQn
    have HOW := Lib.hid (own_set (x := z) HO.out hQn)
    clear hz hQ hQi a1 a2 a3 hkN
    go_wp2
    go_region
    all_goals go_wp2
    all_goals go_roundw
    case rel =>
     refine ⟨k + 1, by omega, by go_num, ?_, ?_, ?_⟩
     · have e := own_ext HOW.out ((Ext.refl _).drew)
       rwa [rowL_cg (g := putK Wn X Y N (k + 1) (fun i => zs.getD i 0) (fun i => bs.getD i 0)) (fun i _ => by
        rw [HP.out i, ← HQ.out]
        show _ = if i = Q then bs.getD k 0 else _
        rw [HZ.out])] at e
     · intro c hc
       show ((wr.setCell _ _).drew).heap[c]? = _
       rw [← HK.out c hc]
       exact Below.heap_setCell _ _ _ _ hc
     · exact (Below.setCell (p := ⟨g, Q, none⟩) EW (show w.heap.size ≤ g by omega) _).drew
    case measure => simp [intOf]; omega
  · have hkm : ¬ (k : Int) < (m : Int) := by omega
    have HON : Hid (wr.ownsRow w3.heap.size 3 1 (.slice (some ⟨g, 0, none⟩) n cg) n ((rowL n (putK Wn X Y N (N * N) (fun i => zs.getD i 0) (fun i => bs.getD i 0))).map (Value.int .i64))) := by
     have e := HO.out
     rwa [show k = N * N by have := HMN.out; omega] at e
    obtain ⟨hf, f3, f4, f5⟩ := HFR4.out.same (HK.out (w.heap.size + 1) (by omega))
    obtain ⟨r0, r1, j0, j1⟩ := HRA4.out.same (HK.out (w.heap.size + 2) (by omega))
    have HE := frr_cells (Wn : Int) H 0 (.slice (some ⟨g, 0, none⟩) n cg) (.slice none 0 0) (show w.heap.size + 1 ≠ w.heap.size + 2 by omega) hf r0 r1
    have HO9 := Lib.hid (row_setCell (row_setCell (row_setCell (row_setCell (row_setCell HON.out (w.heap.size + 1) 0 (by omega) (.int .i64 (Wn : Int))) (w.heap.size + 1) 1 (by omega) (.int .i64 H)) (w.heap.size + 1) 2 (by omega) (.slice (some ⟨g, 0, none⟩) n cg)) (w.heap.size + 2) 0 (by omega) (.int .i64 0)) (w.heap.size + 2) 1 (by omega) (.slice none 0 0))
    obtain ⟨h0, h1, h2⟩ := hf
    clear hlt
    go_wp2
    obtain ⟨e0, e1, e2, e3, e4⟩ := HE
    exact bodyPost_ret (v := .tuple #[.agg #[.int .i64 (Wn : Int), .int .i64 H, .slice (some ⟨g, 0, none⟩) n cg], .agg #[.int .i64 0, .slice none 0 0]]) (by simp [results, Tryz.results97, go_sem, e0, e1, e2, e3, e4]) rfl
     ⟨_, _, _, _, _, _, _, rfl, ((((EW.setCell (p := ⟨w.heap.size + 1, 0, none⟩) (Nat.le_add_right _ 1) _).setCell (p := ⟨w.heap.size + 1, 1, none⟩) (Nat.le_add_right _ 1) _).setCell (p := ⟨w.heap.size + 1, 2, none⟩) (Nat.le_add_right _ 1) _).setCell (p := ⟨w.heap.size + 2, 0, none⟩) (Nat.le_add_right _ 2) _).setCell (p := ⟨w.heap.size + 2, 1, none⟩) (Nat.le_add_right _ 2) _, by rw [← HNL.out]; exact ⟨own_mono HO9.out (by omega), (rowL_length _ _).symm⟩⟩
theorem rput_fr (W H x y i : Int) (zs bs : List Int) (a b : Option Addr) (n m cap cb : Nat) (w : World) (h : Ints w (.slice a n cap) zs) (hb : Ints w (.slice b m cb) bs) (hf : putAns W H zs x y i bs = none) :
 Calls Tryz.prog 97 #[.agg #[.int .i64 W, .int .i64 H, .slice a n cap], .int .i64 x, .int .i64 y, .int .i64 i, .slice b m cb] w (FoP w W H (putRow W zs x y i bs)) := by
 obtain ⟨h1, h2, h3, h4⟩ := putAns_none hf
 obtain ⟨l1, l2, l3, l4, l5, l6⟩ := h2
 have b1 := sideB_true h1.1
 obtain ⟨Wn, rfl⟩ : ∃ k : Nat, W = (k : Int) := ⟨W.toNat, by omega⟩
 obtain ⟨X, rfl⟩ : ∃ k : Nat, x = (k : Int) := ⟨x.toNat, by omega⟩
 obtain ⟨Y, rfl⟩ : ∃ k : Nat, y = (k : Int) := ⟨y.toNat, by omega⟩
 obtain ⟨N, rfl⟩ : ∃ k : Nat, i = (k : Int) := ⟨i.toNat, by omega⟩
 have h5 : ((bs.length : Nat) : Int) = ((N * N : Nat) : Int) := by rw [h3]; push_cast; rfl
 exact rput_own Wn X Y N H zs bs a b n m cap cb w h hb h1 (by omega) (by omega) (by omega) (by omega) h4
end Go.Proofs.YtcekpngkfldgkaaGreatDoor