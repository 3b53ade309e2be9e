/- kinlaw20.SyntaxReads: the walk. -/
import Derived.Test.YtpofabebmeickaaGreatDoorVrSyK
import Derived.Test.YtpofabebmeickaaGreatDoorVrSza
import Derived.Test.YtpofabebmeickaaGreatDoorVrMrd
namespace Go.Proofs.YtpofabebmeickaaGreatDoor
set_option linter.unusedVariables false
set_option linter.unusedSimpArgs false
open Go.RowKit Go.Extern.Stop Go.Stop Go.Extern

/-- behind the document's syntax.Code -/
def KrP {σ : Type} (B : World → (Nat → Prop) → σ → Prop) (P : World → Prop) (w0 : World) (s : σ) (f : Fall) (q : Sq) (e : Ending) (w' : World) : Prop := ∃ L s0 s1 s2 s3 c ra rn rk, e = .returned (.tuple #[sqQ q L s0 s1 s2 s3, .agg #[.int .i64 c, .slice ra rn rk]]) ∧ Uno (Sep B HoF) w0 w' (s, fun W => P W ∧ SqIs W q L s0 s1 s2 s3 ∧ RErrIs W f c (.slice ra rn rk))
theorem rsq_d {σ : Type} {A : World → (Nat → Prop) → σ → Prop} {w0 w : World} {P : World → Prop} (oa : Obj A) {a N d : Nat} {bs : List Nat} {key : Bool} {q' : Sq} {f : Fall} {s : σ} {t t' : Ms Xc} (h : Uno (Sep (Sep A (DrF a d bs)) HoF) w0 w ((s, t), P)) (hk : okS okYm N t) (hN : N ≤ 3840000) (hr : (sqP key 0 (blS 0)).run (mY bs) t = ((f, q'), t')) :
    Calls Tryz.prog 12 #[.pointer (some ⟨a, 0, none⟩), .bool key, sqV 0 0 0 0 0 0 0 0 nilS nilS nilS nilS nilS] w (KrP (Sep A (DrF a d bs)) P w0 (s, t') f q') := by
  refine (bag_qr oa h (fun G X hG hX hd hb' => drsq_any a N d bs key 0 0 0 0 0 0 0 0 nilS nilS nilS nilS nilS t G w hG hk hN ⟨_, _, _, rfl⟩ ⟨_, _, _, rfl⟩ ⟨_, _, _, rfl⟩ ⟨_, _, _, rfl⟩ ⟨_, _, _, rfl⟩)).mono ?_
  rintro e w' ⟨s2, P', ⟨L, s0, s1, s2', s3, c, ra, rn, rk, rfl, hp⟩, hu⟩
  rw [hr] at hp ⊢
  obtain ⟨rfl, rfl⟩ := Prod.mk.inj hp
  exact ⟨L, s0, s1, s2', s3, c, ra, rn, rk, rfl, hu⟩

set_option maxHeartbeats 16000000 in
set_option maxRecDepth 20000 in
theorem reads20_law (bs : List Nat) (L : List Bool) (v u : Value) (w : World) (hg : EtIs w) (rb : Row w v bs.length (bs.map fun x : Nat => Value.int .u8 (x : Int))) (hb : ∀ x ∈ bs, x < 256) (hl : bs.length ≤ 140737488355328) (hL : Bls w u L) : Calls Tryz.prog 4 #[v, u] w fun e w' => e = .returned (.bool true) ∧ Ext w w' := by
  have hm := hL.smallK
  have HET := Lib.hid hg
  clear hg
  obtain ⟨la, lc, rfl⟩ := hL.formK
  obtain ⟨ba, bc, rfl⟩ := rb.form
  obtain ⟨m, hm'⟩ : ∃ m, L.length = m := ⟨_, rfl⟩
  obtain ⟨n, hn⟩ : ∃ n, bs.length = n := ⟨_, rfl⟩
  have HNL := Lib.hid hm'
  have HNB := Lib.hid hn
  have HOT : Hid (Bls w (.slice la m lc) L) := by show Bls _ _ _; rw [← hm']; exact hL
  rw [hm'] at hm ⊢
  rw [hn] at rb ⊢
  unfold maxLen at hm
  have HB : Hid (Bys w (.slice ba n bc) bs) := ⟨by rw [hn]; exact rb, hb, hl⟩
  have HBB := Lib.hid hb
  have UN := Lib.hid (mrnew_any bs)
  have UX := Lib.hid (drnew_any bs)
  clear hL rb hm' hn hb hl
  go_enter Tryz.func4, Tryz.ntmps4
  go_wp2_with fail
  refine (first20_any _ HET.out).mono ?_; rintro e w1 ⟨rfl, hx1⟩
  have HE1 := Lib.hid hx1
  clear hx1
  go_wp2_with fail
  refine (UN.out _ _ (HB.out.ext HE1.out)).mono ?_; rintro e w3 ⟨d, F, rfl, hF, hD3, hx3⟩
  have HU := Lib.hid (Uno.first hD3 (HE1.out.trans hx3) (fun k hk => Nat.le_trans HE1.out.size (hF k hk)))
  clear hD3 hx3 hF HE1 UN
  by_cases h1 : 20000 < n
  · have h1' : (20000 : Int) < (n : Int) := by omega
    go_wp2_with fail
    refine (first20_any _ (HET.out.ext HU.out.out)).mono ?_; rintro e w6 ⟨rfl, hx6⟩
    go_wp2
    go_ret
    exact ⟨rfl, HU.out.out.trans hx6⟩
  have h1' : ¬ (20000 : Int) < (n : Int) := by omega
  have hbl : bs.length ≤ 4500000 := by rw [HNB.out]; omega
  go_wp2_with fail
  refine (UX.out _ _ (HB.out.ext HU.out.out)).mono ?_; rintro e w4 ⟨c, y, G, rfl, hG, hW, hx4⟩
  have HU3 : Hid (Uno (Sep (Sep (RdF d bs) (DrF c y bs)) HoF) w w4 ((⟨ch0, newD bs⟩, ⟨ch0, nxN bs 4⟩), fun _ => True)) := (HU.out.add (RdF.obj d bs) hx4 hW hG).bag ((RdF.obj d bs).sep (DrF.objD c y bs)) (fun _ => trivial)
  clear hW hx4 hG HU UX
  go_wp2_with fail
  go_loopw [7] (fun iv wr => ∃ (i N : Nat) (s : Ms Dc) (t : Ms Xc), (i ≤ m ∧ i ≤ 100 ∧ N ≤ 4 + 22164 * i) ∧ iv = .int .i64 (i : Int) ∧ Hid (rS Rbl N s t) ∧ Hid (Uno (Sep (Sep (RdF d bs) (DrF c y bs)) HoF) w wr ((s, t), fun _ => True))) (fun iv _ => m - (intOf iv).toNat)
  case atStart => exact ⟨0, 4, _, _, ⟨Nat.zero_le _, Nat.zero_le _, by omega⟩, rfl, rbl_new HBB.out, HU3.out⟩
  case round =>
    clear HU3
    obtain ⟨i, N, s, t, ⟨hi, hi2, hN⟩, rfl, HJ, HU⟩ := hrel
    by_cases hlt : i < m
    · by_cases hl2 : i < 100
      · obtain ⟨kb, hU⟩ : ∃ o, L[i]? = some o := ⟨_, List.getElem?_eq_getElem (by rw [HNL.out]; exact hlt)⟩
        obtain ⟨g, off, rfl, hq⟩ := HOT.out.hadK (by rw [HNL.out]; omega)
        have cw := hq i _ hU
        have ck := HU.out.out.cell cw
        have HCW := Lib.hid cw
        have x1 : (0 : Int) ≤ (i : Int) := by omega
        have x2 : (i : Int) < (m : Int) := by omega
        have x3 : (i : Int) < 100 := by omega
        clear hU hq cw
        obtain ⟨q1, q2⟩ := rbl_ok HJ.out
        obtain ⟨⟨⟨f, q⟩, s2⟩, hs⟩ : ∃ r, sqD kb bs 0 s = r := ⟨_, rfl⟩
        have hs' : (sqP kb 0 (blS 0)).run (mD bs) s = ((f, q), s2) := hs
        obtain ⟨⟨⟨f', q'⟩, t2⟩, ht⟩ : ∃ r, (sqP kb 0 (blS 0)).run (mY bs) t = r := ⟨_, rfl⟩
        obtain ⟨j1, j2⟩ := Pg.same (mrD HBB.out) (sq_dep kb 0 (blS 0)) HJ.out
        rw [hs', ht] at j1 j2
        rw [sz_full (FullS.bl 0)] at j2
        obtain ⟨rfl, rfl⟩ := Prod.mk.inj j1
        have HJ2 : Hid (rS Rbl (N + 22164) s2 t2) := j2
        have hgot : GotS kb (f, q) := by have h := sq_got (M := mD bs) kb 0 (FullS.bl 0) s; rw [hs'] at h; exact h
        have UR := Lib.hid (rsq_l (q := ⟨0, 0, 0, 0, 0, 0, 0, 0, [], [], [], [], []⟩) (vL := nilS) (v0 := nilS) (v1 := nilS) (v2 := nilS) (v3 := nilS) (DrF.objD c y bs) HBB.out HU.out q1 (by omega) hs ⟨_, _, _, rfl⟩ ⟨_, _, _, rfl⟩ ⟨_, _, _, rfl⟩ ⟨_, _, _, rfl⟩ ⟨_, _, _, rfl⟩)
        have UD := Lib.hid (fun (P : World → Prop) w' (h : Uno (Sep (Sep (RdF d bs) (DrF c y bs)) HoF) w w' ((s2, t), P)) => rsq_d (RdF.obj d bs) h q2 (by omega) ht)
        have HGOT := Lib.hid hgot
        clear hs hs' ht j1 j2 q1 q2 hgot
        go_wp2_with fail
        refine (UR.out).mono ?_; rintro e w5 ⟨L5, p0, p1, p2, p3, x5, rfl, h5⟩
        have H5 := Lib.hid h5
        obtain ⟨aL, lL, cL, rfl⟩ := h5.held.2.1.1.slf
        obtain ⟨a0, l0, c0, rfl⟩ := h5.held.2.1.2.1.slf
        obtain ⟨a1, l1, c1, rfl⟩ := h5.held.2.1.2.2.1.slf
        obtain ⟨a2, l2, c2, rfl⟩ := h5.held.2.1.2.2.2.1.slf
        obtain ⟨a3, l3, c3, rfl⟩ := h5.held.2.1.2.2.2.2.slf
        clear UR h5 HU ck
        have US := Lib.hid (fun uL u0 u1 u2 u3 zL z0 z1 z2 z3 w' (h : SqIs w' q uL u0 u1 u2 u3) (k : SqIs w' q zL z0 z1 z2 z3) => same_sq q uL u0 u1 u2 u3 zL z0 z1 z2 z3 w' h k)
        unfold KrP at UD
        unfold sqQ sqV at US UD ⊢
        obtain ⟨rk, hrk⟩ : ∃ z, q.k = z := ⟨_, rfl⟩
        obtain ⟨rm, hrm⟩ : ∃ z, q.m = z := ⟨_, rfl⟩
        obtain ⟨ra, hra⟩ : ∃ z, q.a = z := ⟨_, rfl⟩
        obtain ⟨rb, hrb⟩ : ∃ z, q.b = z := ⟨_, rfl⟩
        obtain ⟨rc, hrc⟩ : ∃ z, q.c = z := ⟨_, rfl⟩
        obtain ⟨rd, hrd⟩ : ∃ z, q.d = z := ⟨_, rfl⟩
        obtain ⟨rx, hrx⟩ : ∃ z, q.x = z := ⟨_, rfl⟩
        obtain ⟨ry, hry⟩ : ∃ z, q.y = z := ⟨_, rfl⟩
        rw [hrk, hrm, hra, hrb, hrc, hrd, hrx, hry] at US UD ⊢
        clear hrk hrm hra hrb hrc hrd hrx hry
        have A6 := BoxIs.new w5 #[.int .i64 rk, .int .i64 rm, .int .i64 ra, .int .i64 rb, .int .i64 rc, .int .i64 rd, .int .i64 rx, .int .i64 ry, .slice aL lL cL, .slice a0 l0 c0, .slice a1 l1 c1, .slice a2 l2 c2, .slice a3 l3 c3] 36
        have X6 := (Ext.refl w5).alloc (.cells #[.int .i64 rk, .int .i64 rm, .int .i64 ra, .int .i64 rb, .int .i64 rc, .int .i64 rd, .int .i64 rx, .int .i64 ry, .slice aL lL cL, .slice a0 l0 c0, .slice a1 l1 c1, .slice a2 l2 c2, .slice a3 l3 c3] 36)
        obtain ⟨w6, hw6⟩ : ∃ z, w5.alloc (.cells #[.int .i64 rk, .int .i64 rm, .int .i64 ra, .int .i64 rb, .int .i64 rc, .int .i64 rd, .int .i64 rx, .int .i64 ry, .slice aL lL cL, .slice a0 l0 c0, .slice a1 l1 c1, .slice a2 l2 c2, .slice a3 l3 c3] 36) = z := ⟨_, rfl⟩
        have c6 : (w5.alloc (.cells #[.int .i64 rk, .int .i64 rm, .int .i64 ra, .int .i64 rb, .int .i64 rc, .int .i64 rd, .int .i64 rx, .int .i64 ry, .slice aL lL cL, .slice a0 l0 c0, .slice a1 l1 c1, .slice a2 l2 c2, .slice a3 l3 c3] 36)).cell? ⟨g, off + i, none⟩ = some (.bool kb) := (H5.out.out.trans X6).cell HCW.out
        rw [hw6] at A6 X6
        have H6 := Lib.hid (bag_add ((RdF.obj d bs).sep (DrF.objD c y bs)) H5.out X6 (HoF.box A6) (fun i hi => Nat.le_of_eq hi.symm))
        have HW6 := Lib.hid hw6
        clear A6 X6 hw6 H5
        go_wp2_with fail
        rw [HW6.out]
        clear HW6 c6
        refine (UD.out _ _ H6.out).mono ?_; rintro e w7 ⟨L7, y0, y1, y2, y3, ec, ea, en, ek, rfl, h7⟩
        have H7 := Lib.hid h7
        obtain ⟨bL, nL, dL, rfl⟩ := h7.held.2.1.1.slf
        obtain ⟨b0, n0, d0, rfl⟩ := h7.held.2.1.2.1.slf
        obtain ⟨b1, n1, d1, rfl⟩ := h7.held.2.1.2.2.1.slf
        obtain ⟨b2, n2, d2, rfl⟩ := h7.held.2.1.2.2.2.1.slf
        obtain ⟨b3, n3, d3, rfl⟩ := h7.held.2.1.2.2.2.2.slf
        clear UD h7 H6
        have B8 := (BoxIs.new w7 #[.int .i64 rk, .int .i64 rm, .int .i64 ra, .int .i64 rb, .int .i64 rc, .int .i64 rd, .int .i64 rx, .int .i64 ry, .slice bL nL dL, .slice b0 n0 d0, .slice b1 n1 d1, .slice b2 n2 d2, .slice b3 n3 d3] 42).ext ((Ext.refl _).alloc (.cells #[.int .i64 ec, .slice ea en ek] 46))
        have D8 := BoxIs.new (w7.alloc (.cells #[.int .i64 rk, .int .i64 rm, .int .i64 ra, .int .i64 rb, .int .i64 rc, .int .i64 rd, .int .i64 rx, .int .i64 ry, .slice bL nL dL, .slice b0 n0 d0, .slice b1 n1 d1, .slice b2 n2 d2, .slice b3 n3 d3] 42)) #[.int .i64 ec, .slice ea en ek] 46
        have hs8 : (w7.alloc (.cells #[.int .i64 rk, .int .i64 rm, .int .i64 ra, .int .i64 rb, .int .i64 rc, .int .i64 rd, .int .i64 rx, .int .i64 ry, .slice bL nL dL, .slice b0 n0 d0, .slice b1 n1 d1, .slice b2 n2 d2, .slice b3 n3 d3] 42)).heap.size = w7.heap.size + 1 := by simp
        rw [hs8] at D8
        have X8 := ((Ext.refl w7).alloc (.cells #[.int .i64 rk, .int .i64 rm, .int .i64 ra, .int .i64 rb, .int .i64 rc, .int .i64 rd, .int .i64 rx, .int .i64 ry, .slice bL nL dL, .slice b0 n0 d0, .slice b1 n1 d1, .slice b2 n2 d2, .slice b3 n3 d3] 42)).alloc (.cells #[.int .i64 ec, .slice ea en ek] 46)
        obtain ⟨w8, hw8⟩ : ∃ z, (w7.alloc (.cells #[.int .i64 rk, .int .i64 rm, .int .i64 ra, .int .i64 rb, .int .i64 rc, .int .i64 rd, .int .i64 rx, .int .i64 ry, .slice bL nL dL, .slice b0 n0 d0, .slice b1 n1 d1, .slice b2 n2 d2, .slice b3 n3 d3] 42)).alloc (.cells #[.int .i64 ec, .slice ea en ek] 46) = z := ⟨_, rfl⟩
        rw [hw8] at B8 D8 X8
        have HB8 := Lib.hid B8
        have HD8 := Lib.hid D8
        have H8 := Lib.hid (bag_ext ((RdF.obj d bs).sep (DrF.objD c y bs)) H7.out X8)
        have HA8 := Lib.hid H8.out.held.1.2
        have hyc : w8.cell? ⟨c, 2, none⟩ = some (.pointer (some ⟨y, 0, none⟩)) := two_c H8.out.fst
        have HYC := Lib.hid hyc
        have HW8 := Lib.hid hw8
        clear B8 D8 X8 hs8 hw8 H7 hyc
        go_wp2_with fail
        rw [HW8.out]
        clear HW8
        refine wp_region_held_drew (S := fun w' => w'.cell? ⟨w5.heap.size, 0, none⟩ = some (.int .i64 rk) ∧ w'.cell? ⟨w5.heap.size, 1, none⟩ = some (.int .i64 rm) ∧ w'.cell? ⟨w5.heap.size, 2, none⟩ = some (.int .i64 ra) ∧ w'.cell? ⟨w5.heap.size, 3, none⟩ = some (.int .i64 rb) ∧ w'.cell? ⟨w5.heap.size, 4, none⟩ = some (.int .i64 rc) ∧ w'.cell? ⟨w5.heap.size, 5, none⟩ = some (.int .i64 rd) ∧ w'.cell? ⟨w5.heap.size, 6, none⟩ = some (.int .i64 rx) ∧ w'.cell? ⟨w5.heap.size, 7, none⟩ = some (.int .i64 ry) ∧ w'.cell? ⟨w5.heap.size, 8, none⟩ = some (.slice aL lL cL) ∧ w'.cell? ⟨w5.heap.size, 9, none⟩ = some (.slice a0 l0 c0) ∧ w'.cell? ⟨w5.heap.size, 10, none⟩ = some (.slice a1 l1 c1) ∧ w'.cell? ⟨w5.heap.size, 11, none⟩ = some (.slice a2 l2 c2) ∧ w'.cell? ⟨w5.heap.size, 12, none⟩ = some (.slice a3 l3 c3) ∧ w'.cell? ⟨w7.heap.size, 0, none⟩ = some (.int .i64 rk) ∧ w'.cell? ⟨w7.heap.size, 1, none⟩ = some (.int .i64 rm) ∧ w'.cell? ⟨w7.heap.size, 2, none⟩ = some (.int .i64 ra) ∧ w'.cell? ⟨w7.heap.size, 3, none⟩ = some (.int .i64 rb) ∧ w'.cell? ⟨w7.heap.size, 4, none⟩ = some (.int .i64 rc) ∧ w'.cell? ⟨w7.heap.size, 5, none⟩ = some (.int .i64 rd) ∧ w'.cell? ⟨w7.heap.size, 6, none⟩ = some (.int .i64 rx) ∧ w'.cell? ⟨w7.heap.size, 7, none⟩ = some (.int .i64 ry) ∧ w'.cell? ⟨w7.heap.size, 8, none⟩ = some (.slice bL nL dL) ∧ w'.cell? ⟨w7.heap.size, 9, none⟩ = some (.slice b0 n0 d0) ∧ w'.cell? ⟨w7.heap.size, 10, none⟩ = some (.slice b1 n1 d1) ∧ w'.cell? ⟨w7.heap.size, 11, none⟩ = some (.slice b2 n2 d2) ∧ w'.cell? ⟨w7.heap.size, 12, none⟩ = some (.slice b3 n3 d3) ∧ w'.cell? ⟨w7.heap.size + 1, 0, none⟩ = some (.int .i64 ec) ∧ w'.cell? ⟨w7.heap.size + 1, 1, none⟩ = some (.slice ea en ek) ∧ w'.cell? ⟨c, 2, none⟩ = some (.pointer (some ⟨y, 0, none⟩))) (by kernel_rfl) (⟨(HA8.out.ext ((Ext.refl w8).drew)).cell rfl, (HA8.out.ext ((Ext.refl w8).drew)).cell rfl, (HA8.out.ext ((Ext.refl w8).drew)).cell rfl, (HA8.out.ext ((Ext.refl w8).drew)).cell rfl, (HA8.out.ext ((Ext.refl w8).drew)).cell rfl, (HA8.out.ext ((Ext.refl w8).drew)).cell rfl, (HA8.out.ext ((Ext.refl w8).drew)).cell rfl, (HA8.out.ext ((Ext.refl w8).drew)).cell rfl, (HA8.out.ext ((Ext.refl w8).drew)).cell rfl, (HA8.out.ext ((Ext.refl w8).drew)).cell rfl, (HA8.out.ext ((Ext.refl w8).drew)).cell rfl, (HA8.out.ext ((Ext.refl w8).drew)).cell rfl, (HA8.out.ext ((Ext.refl w8).drew)).cell rfl, (HB8.out.ext ((Ext.refl w8).drew)).cell rfl, (HB8.out.ext ((Ext.refl w8).drew)).cell rfl, (HB8.out.ext ((Ext.refl w8).drew)).cell rfl, (HB8.out.ext ((Ext.refl w8).drew)).cell rfl, (HB8.out.ext ((Ext.refl w8).drew)).cell rfl, (HB8.out.ext ((Ext.refl w8).drew)).cell rfl, (HB8.out.ext ((Ext.refl w8).drew)).cell rfl, (HB8.out.ext ((Ext.refl w8).drew)).cell rfl, (HB8.out.ext ((Ext.refl w8).drew)).cell rfl, (HB8.out.ext ((Ext.refl w8).drew)).cell rfl, (HB8.out.ext ((Ext.refl w8).drew)).cell rfl, (HB8.out.ext ((Ext.refl w8).drew)).cell rfl, (HB8.out.ext ((Ext.refl w8).drew)).cell rfl, (HD8.out.ext ((Ext.refl w8).drew)).cell rfl, (HD8.out.ext ((Ext.refl w8).drew)).cell rfl, ((Ext.refl w8).drew).cell HYC.out⟩) (fun hHeld => ?_)
        refine wpAnyH_take (i := 0) (oi := { dst := some 61, op := Op.load 36 (Operand.tmp 8), type := 36, pos := "law.go:124", after := #[], guard := none }) (v := ?_) rfl (by kernel_rfl) (by kernel_rfl) (by kernel_rfl) (fun _ _ _ h => h) (Or.inl ⟨by rfl, ?_⟩) (by assumption) ?_
        case refine_2 => (intro w hSw; (try dsimp only at hSw); go_simp; (try with_reducible rfl))
        try simp only [Act.put, List.setIfInBounds_toArray, List.set_cons_zero, List.set_cons_succ]
        refine wpAnyH_take (i := 1) (oi := { dst := some 62, op := Op.load 42 (Operand.tmp 10), type := 42, pos := "law.go:124", after := #[], guard := none }) (v := ?_) rfl (by kernel_rfl) (by kernel_rfl) (by kernel_rfl) (fun _ _ _ h => h) (Or.inl ⟨by rfl, ?_⟩) (by assumption) ?_
        case refine_2 => (intro w hSw; (try dsimp only at hSw); go_simp; (try with_reducible rfl))
        try simp only [Act.put, List.setIfInBounds_toArray, List.set_cons_zero, List.set_cons_succ]
        refine wpAnyH_ready (rs := [2]) (by kernel_rfl) (by simp) ?_
        refine AllReadyH.cons (o := { dst := some 63, op := Op.call { callee := Callee.value (Operand.func 14), args := #[Operand.tmp 61, Operand.tmp 62], argTypes := #[36, 42] }, type := 4, pos := "law.go:124", after := #[{ on := 0, ground := Ground.data }, { on := 1, ground := Ground.data }], guard := none }) rfl (fun K hK => ?_) AllReadyH.nil
        go_simp
        go_at_call 14
        have H9 := Lib.hid (bag_ext ((RdF.obj d bs).sep (DrF.objD c y bs)) H8.out ((Ext.refl w8).drew))
        refine (US.out _ _ _ _ _ _ _ _ _ _ _ H9.out.held.1.1.2.1 H9.out.held.2.1).mono ?_; rintro e wa ⟨rfl, hxa⟩
        have HA := Lib.hid (bag_ext ((RdF.obj d bs).sep (DrF.objD c y bs)) H9.out hxa)
        have XA := Lib.hid (((Ext.refl w8).drew).trans hxa)
        clear H9 hxa H8
        refine hK.out _ _ (⟨(HA8.out.ext (XA.out)).cell rfl, (HA8.out.ext (XA.out)).cell rfl, (HA8.out.ext (XA.out)).cell rfl, (HA8.out.ext (XA.out)).cell rfl, (HA8.out.ext (XA.out)).cell rfl, (HA8.out.ext (XA.out)).cell rfl, (HA8.out.ext (XA.out)).cell rfl, (HA8.out.ext (XA.out)).cell rfl, (HA8.out.ext (XA.out)).cell rfl, (HA8.out.ext (XA.out)).cell rfl, (HA8.out.ext (XA.out)).cell rfl, (HA8.out.ext (XA.out)).cell rfl, (HA8.out.ext (XA.out)).cell rfl, (HB8.out.ext (XA.out)).cell rfl, (HB8.out.ext (XA.out)).cell rfl, (HB8.out.ext (XA.out)).cell rfl, (HB8.out.ext (XA.out)).cell rfl, (HB8.out.ext (XA.out)).cell rfl, (HB8.out.ext (XA.out)).cell rfl, (HB8.out.ext (XA.out)).cell rfl, (HB8.out.ext (XA.out)).cell rfl, (HB8.out.ext (XA.out)).cell rfl, (HB8.out.ext (XA.out)).cell rfl, (HB8.out.ext (XA.out)).cell rfl, (HB8.out.ext (XA.out)).cell rfl, (HB8.out.ext (XA.out)).cell rfl, (HD8.out.ext (XA.out)).cell rfl, (HD8.out.ext (XA.out)).cell rfl, (XA.out).cell HYC.out⟩) (fun hHeld => ?_)
        clear hK K
        try simp only [Act.put, List.setIfInBounds_toArray, List.set_cons_zero, List.set_cons_succ]
        refine wpAnyH_take (i := 3) (oi := { dst := some 64, op := Op.unOp UnOp.not 4 (Operand.tmp 63), type := 4, pos := "law.go:124", after := #[{ on := 2, ground := Ground.data }], guard := none }) (v := ?_) rfl (by kernel_rfl) (by kernel_rfl) (by kernel_rfl) (fun _ _ _ h => h) (Or.inl ⟨by rfl, ?_⟩) (by assumption) ?_
        case refine_2 => (intro w hSw; (try dsimp only at hSw); go_simp; (try with_reducible rfl))
        try simp only [Act.put, List.setIfInBounds_toArray, List.set_cons_zero, List.set_cons_succ]
        refine wpAnyH_take (i := 4) (oi := { dst := some 65, op := Op.move (Operand.tmp 64), type := 4, pos := "law.go:124", after := #[{ on := 3, ground := Ground.data }, { on := 2, ground := Ground.chain }], guard := none }) (v := ?_) rfl (by kernel_rfl) (by kernel_rfl) (by kernel_rfl) (fun _ _ _ h => h) (Or.inl ⟨by rfl, ?_⟩) (by assumption) ?_
        case refine_2 => (intro w hSw; (try dsimp only at hSw); go_simp; (try with_reducible rfl))
        try simp only [Act.put, List.setIfInBounds_toArray, List.set_cons_zero, List.set_cons_succ]
        refine wpAnyH_take (i := 5) (oi := { dst := some 66, op := Op.move (Operand.tmp 9), type := 39, pos := "law.go:124", after := #[{ on := 4, ground := Ground.guard }], guard := some (4, false) }) (v := ?_) rfl (by kernel_rfl) (by kernel_rfl) (by kernel_rfl) (fun _ _ _ h => h) (Or.inl ⟨by rfl, ?_⟩) (by assumption) ?_
        case refine_2 => (intro w hSw; (try dsimp only at hSw); go_simp; (try with_reducible rfl))
        try simp only [Act.put, List.setIfInBounds_toArray, List.set_cons_zero, List.set_cons_succ]
        refine wpAnyH_take (i := 6) (oi := { dst := some 67, op := Op.load 46 (Operand.tmp 11), type := 46, pos := "law.go:124", after := #[{ on := 4, ground := Ground.guard }], guard := some (4, false) }) (v := ?_) rfl (by kernel_rfl) (by kernel_rfl) (by kernel_rfl) (fun _ _ _ h => h) (Or.inl ⟨by rfl, ?_⟩) (by assumption) ?_
        case refine_2 => (intro w hSw; (try dsimp only at hSw); go_simp; (try with_reducible rfl))
        try simp only [Act.put, List.setIfInBounds_toArray, List.set_cons_zero, List.set_cons_succ]
        refine wpAnyH_ready (rs := [7]) (by kernel_rfl) (by simp) ?_
        refine AllReadyH.cons (o := { dst := some 68, op := Op.call { callee := Callee.value (Operand.func 15), args := #[Operand.tmp 66, Operand.tmp 67], argTypes := #[39, 46] }, type := 4, pos := "law.go:124", after := #[{ on := 5, ground := Ground.data }, { on := 6, ground := Ground.data }, { on := 4, ground := Ground.chain }, { on := 4, ground := Ground.guard }], guard := some (4, false) }) rfl (fun K hK => ?_) AllReadyH.nil
        go_simp
        go_at_call 15
        refine (same_fall f x5 (.slice ea en ek) ec _ (HET.out.ext HA.out.out) HA.out.held.1.1.2.2 HA.out.held.2.2).mono ?_; rintro e wb ⟨rfl, hxb⟩
        have HB := Lib.hid (bag_ext ((RdF.obj d bs).sep (DrF.objD c y bs)) HA.out hxb)
        have XB := Lib.hid (XA.out.trans hxb)
        clear hxb HA XA
        refine hK.out _ _ (⟨(HA8.out.ext (XB.out)).cell rfl, (HA8.out.ext (XB.out)).cell rfl, (HA8.out.ext (XB.out)).cell rfl, (HA8.out.ext (XB.out)).cell rfl, (HA8.out.ext (XB.out)).cell rfl, (HA8.out.ext (XB.out)).cell rfl, (HA8.out.ext (XB.out)).cell rfl, (HA8.out.ext (XB.out)).cell rfl, (HA8.out.ext (XB.out)).cell rfl, (HA8.out.ext (XB.out)).cell rfl, (HA8.out.ext (XB.out)).cell rfl, (HA8.out.ext (XB.out)).cell rfl, (HA8.out.ext (XB.out)).cell rfl, (HB8.out.ext (XB.out)).cell rfl, (HB8.out.ext (XB.out)).cell rfl, (HB8.out.ext (XB.out)).cell rfl, (HB8.out.ext (XB.out)).cell rfl, (HB8.out.ext (XB.out)).cell rfl, (HB8.out.ext (XB.out)).cell rfl, (HB8.out.ext (XB.out)).cell rfl, (HB8.out.ext (XB.out)).cell rfl, (HB8.out.ext (XB.out)).cell rfl, (HB8.out.ext (XB.out)).cell rfl, (HB8.out.ext (XB.out)).cell rfl, (HB8.out.ext (XB.out)).cell rfl, (HB8.out.ext (XB.out)).cell rfl, (HD8.out.ext (XB.out)).cell rfl, (HD8.out.ext (XB.out)).cell rfl, (XB.out).cell HYC.out⟩) (fun hHeld => ?_)
        clear hK K
        try simp only [Act.put, List.setIfInBounds_toArray, List.set_cons_zero, List.set_cons_succ]
        refine wpAnyH_take (i := 8) (oi := { dst := some 69, op := Op.unOp UnOp.not 4 (Operand.tmp 68), type := 4, pos := "law.go:124", after := #[{ on := 7, ground := Ground.data }, { on := 4, ground := Ground.guard }], guard := some (4, false) }) (v := ?_) rfl (by kernel_rfl) (by kernel_rfl) (by kernel_rfl) (fun _ _ _ h => h) (Or.inl ⟨by rfl, ?_⟩) (by assumption) ?_
        case refine_2 => (intro w hSw; (try dsimp only at hSw); go_simp; (try with_reducible rfl))
        try simp only [Act.put, List.setIfInBounds_toArray, List.set_cons_zero, List.set_cons_succ]
        refine wpAnyH_take (i := 9) (oi := { dst := some 70, op := Op.pick (Operand.tmp 65) (Operand.const (Value.bool true)) (Operand.tmp 69), type := 4, pos := "law.go:124", after := #[{ on := 4, ground := Ground.data }, { on := 8, ground := Ground.data }], guard := none }) (v := ?_) rfl (by kernel_rfl) (by kernel_rfl) (by kernel_rfl) (fun _ _ _ h => h) (Or.inl ⟨by rfl, ?_⟩) (by assumption) ?_
        case refine_2 => (intro w hSw; (try dsimp only at hSw); go_simp; (try with_reducible rfl))
        try simp only [Act.put, List.setIfInBounds_toArray, List.set_cons_zero, List.set_cons_succ]
        refine wpAnyH_take (i := 10) (oi := { dst := some 71, op := Op.move (Operand.tmp 70), type := 4, pos := "law.go:124", after := #[{ on := 9, ground := Ground.data }, { on := 7, ground := Ground.chain }], guard := none }) (v := ?_) rfl (by kernel_rfl) (by kernel_rfl) (by kernel_rfl) (fun _ _ _ h => h) (Or.inl ⟨by rfl, ?_⟩) (by assumption) ?_
        case refine_2 => (intro w hSw; (try dsimp only at hSw); go_simp; (try with_reducible rfl))
        try simp only [Act.put, List.setIfInBounds_toArray, List.set_cons_zero, List.set_cons_succ]
        refine wpAnyH_take (i := 11) (oi := { dst := some 72, op := Op.move (Operand.tmp 5), type := 61, pos := "law.go:124", after := #[{ on := 10, ground := Ground.guard }], guard := some (10, false) }) (v := ?_) rfl (by kernel_rfl) (by kernel_rfl) (by kernel_rfl) (fun _ _ _ h => h) (Or.inl ⟨by rfl, ?_⟩) (by assumption) ?_
        case refine_2 => (intro w hSw; (try dsimp only at hSw); go_simp; (try with_reducible rfl))
        try simp only [Act.put, List.setIfInBounds_toArray, List.set_cons_zero, List.set_cons_succ]
        refine wpAnyH_take (i := 13) (oi := { dst := some 74, op := Op.move (Operand.tmp 6), type := 28, pos := "law.go:124", after := #[{ on := 10, ground := Ground.guard }], guard := some (10, false) }) (v := ?_) rfl (by kernel_rfl) (by kernel_rfl) (by kernel_rfl) (fun _ _ _ h => h) (Or.inl ⟨by rfl, ?_⟩) (by assumption) ?_
        case refine_2 => (intro w hSw; (try dsimp only at hSw); go_simp; (try with_reducible rfl))
        try simp only [Act.put, List.setIfInBounds_toArray, List.set_cons_zero, List.set_cons_succ]
        refine wpAnyH_take (i := 14) (oi := { dst := some 75, op := Op.nilCheck (Operand.tmp 74), type := 0, pos := "law.go:124", after := #[{ on := 13, ground := Ground.data }, { on := 10, ground := Ground.guard }], guard := some (10, false) }) (v := ?_) rfl (by kernel_rfl) (by kernel_rfl) (by kernel_rfl) (fun _ _ _ h => h) (Or.inl ⟨by rfl, ?_⟩) (by assumption) ?_
        case refine_2 => (intro w hSw; (try dsimp only at hSw); go_simp; (try with_reducible rfl))
        try simp only [Act.put, List.setIfInBounds_toArray, List.set_cons_zero, List.set_cons_succ]
        refine wpAnyH_take (i := 15) (oi := { dst := some 76, op := Op.fieldAddr 59 (Operand.tmp 75) 2, type := 0, pos := "law.go:124", after := #[{ on := 14, ground := Ground.data }, { on := 10, ground := Ground.guard }], guard := some (10, false) }) (v := ?_) rfl (by kernel_rfl) (by kernel_rfl) (by kernel_rfl) (fun _ _ _ h => h) (Or.inl ⟨by rfl, ?_⟩) (by assumption) ?_
        case refine_2 => (intro w hSw; (try dsimp only at hSw); go_simp; (try with_reducible rfl))
        try simp only [Act.put, List.setIfInBounds_toArray, List.set_cons_zero, List.set_cons_succ]
        refine wpAnyH_take (i := 16) (oi := { dst := some 77, op := Op.load 56 (Operand.tmp 76), type := 56, pos := "law.go:124", after := #[{ on := 15, ground := Ground.data }, { on := 10, ground := Ground.guard }], guard := some (10, false) }) (v := ?_) rfl (by kernel_rfl) (by kernel_rfl) (by kernel_rfl) (fun _ _ _ h => h) (Or.inl ⟨by rfl, ?_⟩) (by assumption) ?_
        case refine_2 => (intro w hSw; (try dsimp only at hSw); go_simp; (try with_reducible rfl))
        try simp only [Act.put, List.setIfInBounds_toArray, List.set_cons_zero, List.set_cons_succ]
        refine wpAnyH_ready (rs := [12]) (by kernel_rfl) (by simp) ?_
        refine AllReadyH.cons (o := { dst := some 73, op := Op.call { callee := Callee.value (Operand.func 21), args := #[Operand.tmp 72], argTypes := #[61] }, type := 3, pos := "law.go:124", after := #[{ on := 11, ground := Ground.data }, { on := 10, ground := Ground.chain }, { on := 10, ground := Ground.guard }], guard := some (10, false) }) rfl (fun K hK => ?_) AllReadyH.nil
        go_simp
        go_at_call 21
        refine (two_o HB.out.fst HJ2.out (by omega) hbl).1.mono ?_; rintro e wc ⟨rfl, hxc⟩
        have HC := Lib.hid (bag_ext ((RdF.obj d bs).sep (DrF.objD c y bs)) HB.out hxc)
        have XC := Lib.hid (XB.out.trans hxc)
        clear hxc HB XB
        refine hK.out _ _ (⟨(HA8.out.ext (XC.out)).cell rfl, (HA8.out.ext (XC.out)).cell rfl, (HA8.out.ext (XC.out)).cell rfl, (HA8.out.ext (XC.out)).cell rfl, (HA8.out.ext (XC.out)).cell rfl, (HA8.out.ext (XC.out)).cell rfl, (HA8.out.ext (XC.out)).cell rfl, (HA8.out.ext (XC.out)).cell rfl, (HA8.out.ext (XC.out)).cell rfl, (HA8.out.ext (XC.out)).cell rfl, (HA8.out.ext (XC.out)).cell rfl, (HA8.out.ext (XC.out)).cell rfl, (HA8.out.ext (XC.out)).cell rfl, (HB8.out.ext (XC.out)).cell rfl, (HB8.out.ext (XC.out)).cell rfl, (HB8.out.ext (XC.out)).cell rfl, (HB8.out.ext (XC.out)).cell rfl, (HB8.out.ext (XC.out)).cell rfl, (HB8.out.ext (XC.out)).cell rfl, (HB8.out.ext (XC.out)).cell rfl, (HB8.out.ext (XC.out)).cell rfl, (HB8.out.ext (XC.out)).cell rfl, (HB8.out.ext (XC.out)).cell rfl, (HB8.out.ext (XC.out)).cell rfl, (HB8.out.ext (XC.out)).cell rfl, (HB8.out.ext (XC.out)).cell rfl, (HD8.out.ext (XC.out)).cell rfl, (HD8.out.ext (XC.out)).cell rfl, (XC.out).cell HYC.out⟩) (fun hHeld => ?_)
        clear hK K
        try simp only [Act.put, List.setIfInBounds_toArray, List.set_cons_zero, List.set_cons_succ]
        refine wpAnyH_ready (rs := [17]) (by kernel_rfl) (by simp) ?_
        refine AllReadyH.cons (o := { dst := some 78, op := Op.call { callee := Callee.value (Operand.func 22), args := #[Operand.tmp 77], argTypes := #[56] }, type := 3, pos := "law.go:124", after := #[{ on := 16, ground := Ground.data }, { on := 12, ground := Ground.chain }, { on := 10, ground := Ground.guard }], guard := some (10, false) }) rfl (fun K hK => ?_) AllReadyH.nil
        go_simp
        go_at_call 22
        refine (two_o HC.out.fst HJ2.out (by omega) hbl).2.1.mono ?_; rintro e wd ⟨rfl, hxd⟩
        have HD := Lib.hid (bag_ext ((RdF.obj d bs).sep (DrF.objD c y bs)) HC.out hxd)
        have XD := Lib.hid (XC.out.trans hxd)
        clear hxd HC XC
        refine hK.out _ _ (⟨(HA8.out.ext (XD.out)).cell rfl, (HA8.out.ext (XD.out)).cell rfl, (HA8.out.ext (XD.out)).cell rfl, (HA8.out.ext (XD.out)).cell rfl, (HA8.out.ext (XD.out)).cell rfl, (HA8.out.ext (XD.out)).cell rfl, (HA8.out.ext (XD.out)).cell rfl, (HA8.out.ext (XD.out)).cell rfl, (HA8.out.ext (XD.out)).cell rfl, (HA8.out.ext (XD.out)).cell rfl, (HA8.out.ext (XD.out)).cell rfl, (HA8.out.ext (XD.out)).cell rfl, (HA8.out.ext (XD.out)).cell rfl, (HB8.out.ext (XD.out)).cell rfl, (HB8.out.ext (XD.out)).cell rfl, (HB8.out.ext (XD.out)).cell rfl, (HB8.out.ext (XD.out)).cell rfl, (HB8.out.ext (XD.out)).cell rfl, (HB8.out.ext (XD.out)).cell rfl, (HB8.out.ext (XD.out)).cell rfl, (HB8.out.ext (XD.out)).cell rfl, (HB8.out.ext (XD.out)).cell rfl, (HB8.out.ext (XD.out)).cell rfl, (HB8.out.ext (XD.out)).cell rfl, (HB8.out.ext (XD.out)).cell rfl, (HB8.out.ext (XD.out)).cell rfl, (HD8.out.ext (XD.out)).cell rfl, (HD8.out.ext (XD.out)).cell rfl, (XD.out).cell HYC.out⟩) (fun hHeld => ?_)
        clear hK K
        try simp only [Act.put, List.setIfInBounds_toArray, List.set_cons_zero, List.set_cons_succ]
        refine wpAnyH_take (i := 18) (oi := { dst := some 79, op := Op.binOp BinOp.neq 3 (Operand.tmp 73) (Operand.tmp 78) 3, type := 4, pos := "law.go:124", after := #[{ on := 12, ground := Ground.data }, { on := 17, ground := Ground.data }, { on := 10, ground := Ground.guard }], guard := some (10, false) }) (v := ?_) rfl (by kernel_rfl) (by kernel_rfl) (by kernel_rfl) (fun _ _ _ h => h) (Or.inl ⟨by rfl, ?_⟩) (by assumption) ?_
        case refine_2 => (intro w hSw; (try dsimp only at hSw); go_simp; (try with_reducible rfl))
        try simp only [Act.put, List.setIfInBounds_toArray, List.set_cons_zero, List.set_cons_succ]
        refine wpAnyH_take (i := 19) (oi := { dst := some 80, op := Op.pick (Operand.tmp 71) (Operand.const (Value.bool true)) (Operand.tmp 79), type := 4, pos := "law.go:124", after := #[{ on := 10, ground := Ground.data }, { on := 18, ground := Ground.data }], guard := none }) (v := ?_) rfl (by kernel_rfl) (by kernel_rfl) (by kernel_rfl) (fun _ _ _ h => h) (Or.inl ⟨by rfl, ?_⟩) (by assumption) ?_
        case refine_2 => (intro w hSw; (try dsimp only at hSw); go_simp; (try with_reducible rfl))
        try simp only [Act.put, List.setIfInBounds_toArray, List.set_cons_zero, List.set_cons_succ]
        refine wpAnyH_done (by kernel_rfl) ?_ _
        have hx5 := HD.out.held.1.1.2.2
        have HUz := Lib.hid (bag_imp HD.out (fun _ _ => trivial) (Q := fun _ => True))
        have HNR : Hid (N + 22164 ≤ 4 + 22164 * (i + 1)) := by show _ ≤ _; omega
        clear hN HA8 HB8 HD8 HD XD HYC hHeld
        cases f with
        | none =>
          obtain rfl : x5 = .nilIface := hx5
          go_wp2
          go_roundw
          case rel => exact ⟨i + 1, N + 22164, s2, t2, ⟨by omega, by omega, HNR.out⟩, by go_num, HJ2.out, HUz.out⟩
          case measure => simp [intOf] <;> omega
        | some f =>
          obtain ⟨xt, xv, rfl⟩ := ErrIs.ne hx5
          clear hx5
          go_wp2_with fail
          refine (first20_any _ (HET.out.ext HUz.out.out)).mono ?_; rintro e w14 ⟨rfl, hx14⟩
          go_wp2
          go_ret
          exact ⟨rfl, HUz.out.out.trans hx14⟩
      · have x3 : ¬ (i : Int) < 100 := by omega
        have x2 : (i : Int) < (m : Int) := by omega
        go_wp2_with fail
        refine (first20_any _ (HET.out.ext HU.out.out)).mono ?_; rintro e w6 ⟨rfl, hx6⟩
        go_wp2
        go_ret
        exact ⟨rfl, HU.out.out.trans hx6⟩
    · have x2 : ¬ (i : Int) < (m : Int) := by omega
      go_wp2_with fail
      refine (first20_any _ (HET.out.ext HU.out.out)).mono ?_; rintro e w6 ⟨rfl, hx6⟩
      go_wp2
      go_ret
      exact ⟨rfl, HU.out.out.trans hx6⟩
end Go.Proofs.YtpofabebmeickaaGreatDoor

