/- kinlaw20.SyntaxWrites: the walk. -/
import Derived.Test.YtpofabebmeickaaGreatDoorVwSk2
import Derived.Test.YtpofabebmeickaaGreatDoorVwSzc
import Derived.Test.YtpofabebmeickaaGreatDoorVwSyK
import Derived.Test.YtpofabebmeickaaGreatDoorVwMdw
namespace Go.Proofs.YtpofabebmeickaaGreatDoor
set_option linter.unusedVariables false
set_option linter.unusedSimpArgs false
open Go.RowKit Go.Extern.Stop Go.Stop Go.Extern

theorem HoF.sqsW {w0 w : World} {q : Sq} {L s0 s1 s2 s3 : Value} (h : SqIs w0 q L s0 s1 s2 s3) (k : Ext w0 w) : HoF w (fun i => i < w0.heap.size) (fun W => SqIs W q L s0 s1 s2 s3) :=
  ⟨fun _ hi => Nat.lt_of_lt_of_le hi k.size, fun w' a => ⟨(HoF.args h.1 k).2 w' a, (HoF.args h.2.1 k).2 w' a, (HoF.args h.2.2.1 k).2 w' a, (HoF.args h.2.2.2.1 k).2 w' a, (HoF.args h.2.2.2.2 k).2 w' a⟩⟩
section
variable {σ τ : Type} {A : World → (Nat → Prop) → σ → Prop} {B : World → (Nat → Prop) → τ → Prop} {w0 w : World} {P : World → Prop}
theorem wsq_p (ob : Obj B) {a N : Nat} {key : Bool} {q q' : Sq} {f : Fall} {vL v0 v1 v2 v3 : Value} {s s' : Ms Ec} {t : τ} (h : Uno (Sep (Sep (WrF a) B) HoF) w0 w ((s, t), P)) (hk : okS okEm N s) (hg : gS s) (hN : N ≤ 3840000) (hr : sqW key q s = ((f, q'), s')) (hP : ∀ W, P W → SqIs W q vL v0 v1 v2 v3) :
    Calls Tryz.prog 11 #[.iface 25 (.pointer (some ⟨a, 0, none⟩)), .bool key, sqQ q vL v0 v1 v2 v3] w (KqP (Sep (WrF a) B) P w0 (s', t) f q') := by
  refine (bag_ql ob h (fun G X hG hX hd hb => mwsq_any a N key q vL v0 v1 v2 v3 X s G w hG hk hg hN (hX.imp hP) hd)).mono ?_
  rintro e w' ⟨s2, P', ⟨L, s0, s1, s2', s3, x, rfl, hp⟩, hu⟩
  rw [hr] at hp ⊢
  obtain ⟨rfl, rfl⟩ := Prod.mk.inj hp
  exact ⟨L, s0, s1, s2', s3, x, rfl, hu⟩
/-- behind the document's syntax.Code -/
def KrPW {σ : Type} (B : World → (Nat → Prop) → σ → Prop) (P : World → Prop) (w0 : World) (s : σ) (f : Fall) (q : Sq) (e : Ending) (w' : World) : Prop := ∃ L s0 s1 s2 s3 c ra rn rk, e = .returned (.tuple #[sqQ q L s0 s1 s2 s3, .agg #[.int .i64 c, .slice ra rn rk]]) ∧ Uno (Sep B HoF) w0 w' (s, fun W => P W ∧ SqIs W q L s0 s1 s2 s3 ∧ RErrIs W f c (.slice ra rn rk))
theorem wsq_d (oa : Obj A) {a N : Nat} {key : Bool} {q q' : Sq} {f : Fall} {vL v0 v1 v2 v3 : Value} {s : σ} {t t' : Ms Xe} (h : Uno (Sep (Sep A (DwF a)) HoF) w0 w ((s, t), P)) (hk : okS okXm N t) (hN : N ≤ 3840000) (hr : sqX key q t = ((f, q'), t')) (hv : SqIs w0 q vL v0 v1 v2 v3) :
    Calls Tryz.prog 12 #[.pointer (some ⟨a, 0, none⟩), .bool key, sqQ q vL v0 v1 v2 v3] w (KrPW (Sep A (DwF a)) P w0 (s, t') f q') := by
  refine (bag_qr oa h (fun G X hG hX hd hb => dwsq_any a N key q vL v0 v1 v2 v3 (fun i => i < w0.heap.size) t G w hG hk hN (HoF.sqsW hv h.out) (fun i hi hf => by have := hb i hf; omega))).mono ?_
  rintro e w' ⟨s2, P', ⟨L, s0, s1, s2', s3, c, ra, rn, rk, rfl, hp⟩, hu⟩
  rw [hr] at hp ⊢
  obtain ⟨rfl, rfl⟩ := Prod.mk.inj hp
  exact ⟨L, s0, s1, s2', s3, c, ra, rn, rk, rfl, hu⟩
end
theorem sq_both {key : Bool} {q : Sq} {N : Nat} {s : Ms Ec} {t : Ms Xe} (h : rS Ral N s t) (g : gS s) : ∃ (f : Fall) (q' : Sq) (s' : Ms Ec) (t' : Ms Xe), sqW key q s = ((f, q'), s') ∧ sqX key q t = ((f, q'), t') ∧ rS Ral (N + 22164) s' t' ∧ gS s' := by
  obtain ⟨fa, hfa⟩ : ∃ f, askE key q = f := ⟨_, rfl⟩
  cases fa with
  | some e =>
    refine ⟨some e, sq0, s, t, ?_, ?_, h.mono mrE (by omega), g⟩
    · unfold sqW; rw [hfa]
    · unfold sqX; rw [hfa]
  | none =>
    obtain ⟨h1, h2, h3⟩ := ask_out hfa
    obtain ⟨a1, a2, a3⟩ := sq_told g hfa
    obtain ⟨b1, b2⟩ := Pg.same mrE (ky_dep key q.k) h
    obtain ⟨c1, c2, -⟩ := Pg.told (p := kyP key q.k) g
    have d : (fiP q.k q).dep (43 * 128 + 34 + 0) := by
      have := fi_dep q.k (takeS q)
      rw [fi_take, sz_full (FullS.take h3)] at this
      exact this
    obtain ⟨e1, e2⟩ := Pg.same mrE d b2
    have x1 : (sqP key q.k q).run mX t = (fiP q.k q).run mX ((kyP key q.k).run mX t).2 := by
      unfold sqP
      rw [Pg.run_bind, Pg.toldX, ky_hand h1]
    have w1 : (sqP key q.k q).run mE s = (fiP q.k q).run mE ((kyP key q.k).run mE s).2 := by
      unfold sqP
      rw [Pg.run_bind, c1, ky_hand h1]
    refine ⟨none, partS q, ((fiP q.k q).run mE ((kyP key q.k).run mE s).2).2, ((fiP q.k q).run mX ((kyP key q.k).run mX t).2).2, ?_, ?_, ?_, ?_⟩
    · unfold sqW
      rw [hfa]
      show ((none, partS q), ((sqP key q.k (takeS q)).run mE s).2) = _
      rw [a2, w1]
    · unfold sqX
      rw [hfa]
      show (sqP key q.k q).run mX t = _
      rw [x1]
      refine Prod.ext ?_ rfl
      rw [← e1, ← w1, a1]
    · exact e2.mono mrE (by omega)
    · rw [w1] at a3
      exact a3

set_option maxHeartbeats 32000000 in
set_option maxRecDepth 20000 in
theorem writes20_law (l : List Sq) (K : List Bool) (v x : Value) (w : World) (hg : EtIs w) (hl : Sqs w v l) (hK : Bls w x K) : Calls Tryz.prog 3 #[v, x] w fun e w' => e = .returned (.bool true) ∧ Ext w w' := by
  have hmk := hK.smallK
  have hm := hl.small
  obtain ⟨la, lc, rfl⟩ := hl.form
  obtain ⟨ka, kc, rfl⟩ := hK.formK
  obtain ⟨m, hm'⟩ : ∃ m, l.length = m := ⟨_, rfl⟩
  obtain ⟨mk, hmk'⟩ : ∃ m, K.length = m := ⟨_, rfl⟩
  have HNL := Lib.hid hm'
  have HNK := Lib.hid hmk'
  have HOT : Hid (Sqs w (.slice la m lc) l) := by have := hl; rw [hm'] at this; exact this
  have HOK2 : Hid (Bls w (.slice ka mk kc) K) := by have := hK; rw [hmk'] at this; exact this
  rw [hm'] at hm ⊢
  rw [hmk'] at hmk ⊢
  unfold maxLen at hm hmk
  have HET := Lib.hid hg
  have UF := Lib.hid (fun w' (h : Ext w w') => few_any20 l (.slice la m lc) w' (HOT.out.ext h))
  clear hg hl hK hm' hmk'
  go_enter Tryz.func3, Tryz.ntmps3
  go_wp2_with fail
  refine (first20_any _ HET.out).mono ?_; rintro e w1 ⟨rfl, hx1⟩
  have HE1 := Lib.hid hx1
  clear hx1
  go_wp2_with fail
  refine (mwnew_any _).mono ?_; rintro e w2 ⟨a, F, rfl, hF, hW, hx2⟩
  have HU2 : Hid (Uno (WrF a) w w2 ⟨ch0, newE⟩) := Uno.first hW (HE1.out.trans hx2) (fun k hk => Nat.le_trans HE1.out.size (hF k hk))
  clear hF hW hx2 HE1
  go_wp2_with fail
  refine (UF.out _ HU2.out.out).mono ?_; rintro e w3 ⟨rfl, hx3⟩
  have HU := Lib.hid (HU2.out.ext (WrF.obj a) hx3)
  clear UF hx3 HU2
  obtain ⟨fb, hfb⟩ : ∃ b, fewB l = b := ⟨_, rfl⟩
  rw [hfb]
  cases fb
  · go_wp2_with fail
    refine (first20_any _ (HET.out.ext HU.out.out)).mono ?_; rintro e w6 ⟨rfl, hx6⟩
    go_wp2
    go_ret
    exact ⟨rfl, HU.out.out.trans hx6⟩
  have HFW := Lib.hid (fewB_out hfb)
  have hm2 : m ≤ 100 := by have := HFW.out.1; rw [HNL.out] at this; exact this
  clear hfb
  go_wp2_with fail
  refine (dwnew_any _).mono ?_; rintro e w4 ⟨c, G, rfl, hG, hD, hx4⟩
  have HU3 := Lib.hid (HU.out.add (WrF.obj a) hx4 hD hG)
  clear hG hD hx4 HU
  go_wp2_with fail
  go_loopw [7] (fun iv wr => ∃ (i : Nat) (s : Ms Ec) (t : Ms Xe), i ≤ m ∧ iv = .int .i64 (i : Int) ∧ Hid (rS Ral (22164 * i) s t) ∧ Hid (gS s) ∧ Hid (Uno (Sep (WrF a) (DwF c)) w wr (s, t))) (fun iv _ => m - (intOf iv).toNat)
  case atStart => exact ⟨0, _, _, Nat.zero_le _, rfl, ral_new, gS_new, HU3.out⟩
  case round =>
    clear HU3
    obtain ⟨i, s, t, hi, rfl, HJ, HGS, HU⟩ := hrel
    by_cases hlt : i < m
    · obtain ⟨q, hX⟩ : ∃ q, l[i]? = some q := ⟨_, List.getElem?_eq_getElem (by rw [HNL.out]; exact hlt)⟩
      obtain ⟨g, off, rfl, hsel⟩ := HOT.out.sel (by rw [HNL.out]; omega)
      obtain ⟨vL, v0, v1, v2, v3, hc, hr⟩ := hsel i q hX
      have HWG := Lib.hid (HFW.out.2 i q hX)
      have HSQ := Lib.hid (hr.is HWG.out)
      obtain ⟨lL, mL, kL, rfl⟩ := HSQ.out.1.slf
      obtain ⟨l0, m0, k0, rfl⟩ := HSQ.out.2.1.slf
      obtain ⟨l1, m1, k1, rfl⟩ := HSQ.out.2.2.1.slf
      obtain ⟨l2, m2, k2, rfl⟩ := HSQ.out.2.2.2.1.slf
      obtain ⟨l3, m3, k3, rfl⟩ := HSQ.out.2.2.2.2.slf
      have HC : Hid (∀ w', Ext w w' → w'.cell? ⟨g, off + i * 13, none⟩ = some (.int .i64 q.k) ∧ w'.cell? ⟨g, off + i * 13 + 1, none⟩ = some (.int .i64 q.m) ∧ w'.cell? ⟨g, off + i * 13 + 2, none⟩ = some (.int .i64 q.a) ∧ w'.cell? ⟨g, off + i * 13 + 3, none⟩ = some (.int .i64 q.b) ∧ w'.cell? ⟨g, off + i * 13 + 4, none⟩ = some (.int .i64 q.c) ∧ w'.cell? ⟨g, off + i * 13 + 5, none⟩ = some (.int .i64 q.d) ∧ w'.cell? ⟨g, off + i * 13 + 6, none⟩ = some (.int .i64 q.x) ∧ w'.cell? ⟨g, off + i * 13 + 7, none⟩ = some (.int .i64 q.y) ∧ w'.cell? ⟨g, off + i * 13 + 8, none⟩ = some (.slice lL mL kL) ∧ w'.cell? ⟨g, off + i * 13 + 9, none⟩ = some (.slice l0 m0 k0) ∧ w'.cell? ⟨g, off + i * 13 + 10, none⟩ = some (.slice l1 m1 k1) ∧ w'.cell? ⟨g, off + i * 13 + 11, none⟩ = some (.slice l2 m2 k2) ∧ w'.cell? ⟨g, off + i * 13 + 12, none⟩ = some (.slice l3 m3 k3)) := fun w' h => ⟨h.cell (hc 0 _ rfl), h.cell (hc 1 _ rfl), h.cell (hc 2 _ rfl), h.cell (hc 3 _ rfl), h.cell (hc 4 _ rfl), h.cell (hc 5 _ rfl), h.cell (hc 6 _ rfl), h.cell (hc 7 _ rfl), h.cell (hc 8 _ rfl), h.cell (hc 9 _ rfl), h.cell (hc 10 _ rfl), h.cell (hc 11 _ rfl), h.cell (hc 12 _ rfl)⟩
      have x1 : (0 : Int) ≤ (i : Int) := by omega
      have x2 : (i : Int) < (m : Int) := by omega
      clear hX hsel hc hr
      by_cases hik : i < mk
      · obtain ⟨kb, hkb⟩ : ∃ o, K[i]? = some o := ⟨_, List.getElem?_eq_getElem (by rw [HNK.out]; exact hik)⟩
        obtain ⟨gk, ofk, rfl, hqk⟩ := HOK2.out.hadK (by rw [HNK.out]; omega)
        have ck := HU.out.out.cell (hqk i _ hkb)
        have x3 : (i : Int) < (mk : Int) := by omega
        clear hkb hqk
        obtain ⟨q1, q2⟩ := ral_ok HJ.out
        obtain ⟨f, qq, s2, t2, hs, ht, hj2, hg2⟩ := sq_both (key := kb) (q := q) HJ.out HGS.out
        have HJ2 := Lib.hid hj2
        have HG2 := Lib.hid hg2
        have UCP := Lib.hid (copied_any q _ _ _ _ _ wr (HSQ.out.ext HU.out.out) (wgS_out HWG.out))
        have UC := Lib.hid (fun (P : World → Prop) (vL v0 v1 v2 v3 : Value) w' (h : Uno (Sep (Sep (WrF a) (DwF c)) HoF) w w' ((s, t), P)) (hP : ∀ W, P W → SqIs W q vL v0 v1 v2 v3) => wsq_p (DwF.objD c) h q1 HGS.out (by omega) hs hP)
        have UD := Lib.hid (fun (P : World → Prop) w' (h : Uno (Sep (Sep (WrF a) (DwF c)) HoF) w w' ((s2, t), P)) => wsq_d (WrF.obj a) h q2 (by omega) ht HSQ.out)
        have UPl := Lib.hid (fun w' => plain_sq q.k q.m q.a q.b q.c q.d q.x q.y (.slice lL mL kL) (.slice l0 m0 k0) (.slice l1 m1 k1) (.slice l2 m2 k2) (.slice l3 m3 k3) w' ⟨_, _, _, rfl⟩ ⟨_, _, _, rfl⟩ ⟨_, _, _, rfl⟩ ⟨_, _, _, rfl⟩ ⟨_, _, _, rfl⟩)
        have US := Lib.hid (fun uL u0 u1 u2 u3 zL z0 z1 z2 z3 w' (h : SqIs w' qq uL u0 u1 u2 u3) (k : SqIs w' qq zL z0 z1 z2 z3) => same_sq qq uL u0 u1 u2 u3 zL z0 z1 z2 z3 w' h k)
        have UI := Lib.hid (fun uL u0 u1 u2 u3 zL z0 z1 z2 z3 w' (h : SqIs w' q uL u0 u1 u2 u3) (k : SqIs w' q zL z0 z1 z2 z3) => same_sq q uL u0 u1 u2 u3 zL z0 z1 z2 z3 w' h k)
        unfold KqP at UC
        unfold KrPW at UD
        unfold sqQ sqV at UC UD UCP US UI
        unfold sqV at UPl
        obtain ⟨rk, hrk⟩ : ∃ z, qq.k = z := ⟨_, rfl⟩
        obtain ⟨rm, hrm⟩ : ∃ z, qq.m = z := ⟨_, rfl⟩
        obtain ⟨ra, hra⟩ : ∃ z, qq.a = z := ⟨_, rfl⟩
        obtain ⟨rb, hrb⟩ : ∃ z, qq.b = z := ⟨_, rfl⟩
        obtain ⟨rc, hrc⟩ : ∃ z, qq.c = z := ⟨_, rfl⟩
        obtain ⟨rd, hrd⟩ : ∃ z, qq.d = z := ⟨_, rfl⟩
        obtain ⟨rx, hrx⟩ : ∃ z, qq.x = z := ⟨_, rfl⟩
        obtain ⟨ry, hry⟩ : ∃ z, qq.y = z := ⟨_, rfl⟩
        rw [hrk, hrm, hra, hrb, hrc, hrd, hrx, hry] at UC UD US
        clear hrk hrm hra hrb hrc hrd hrx hry hs ht hj2 hg2 q1 q2 HJ
        obtain ⟨d0, d1, d2, d3, d4, d5, d6, d7, d8, d9, d10, d11, d12⟩ := HC.out _ HU.out.out
        go_wp2_with fail
        refine (UCP.out).mono ?_; rintro e w5 ⟨zL, z0, z1, z2, z3, Y, rfl, hx5, hy5, ho5⟩
        obtain ⟨iL, oL, uL, rfl⟩ := ho5.get.1.slf
        obtain ⟨i0, o0, u0, rfl⟩ := ho5.get.2.1.slf
        obtain ⟨i1, o1, u1, rfl⟩ := ho5.get.2.2.1.slf
        obtain ⟨i2, o2, u2, rfl⟩ := ho5.get.2.2.2.1.slf
        obtain ⟨i3, o3, u3, rfl⟩ := ho5.get.2.2.2.2.slf
        have H5 := Lib.hid (bag_add ((WrF.obj a).sep (DwF.objD c)) (HU.out.bag ((WrF.obj a).sep (DwF.objD c)) (P := fun _ => True) (fun _ => trivial)) hx5 ho5 hy5)
        have A6 := BoxIs.new w5 #[.int .i64 q.k, .int .i64 q.m, .int .i64 q.a, .int .i64 q.b, .int .i64 q.c, .int .i64 q.d, .int .i64 q.x, .int .i64 q.y, .slice iL oL uL, .slice i0 o0 u0, .slice i1 o1 u1, .slice i2 o2 u2, .slice i3 o3 u3] 36
        have X6 := (Ext.refl w5).alloc (.cells #[.int .i64 q.k, .int .i64 q.m, .int .i64 q.a, .int .i64 q.b, .int .i64 q.c, .int .i64 q.d, .int .i64 q.x, .int .i64 q.y, .slice iL oL uL, .slice i0 o0 u0, .slice i1 o1 u1, .slice i2 o2 u2, .slice i3 o3 u3] 36)
        obtain ⟨w6, hw6⟩ : ∃ z, w5.alloc (.cells #[.int .i64 q.k, .int .i64 q.m, .int .i64 q.a, .int .i64 q.b, .int .i64 q.c, .int .i64 q.d, .int .i64 q.x, .int .i64 q.y, .slice iL oL uL, .slice i0 o0 u0, .slice i1 o1 u1, .slice i2 o2 u2, .slice i3 o3 u3] 36) = z := ⟨_, rfl⟩
        obtain ⟨⟨e0, e1, e2, e3, e4, e5, e6, e7, e8, e9, e10, e11, e12⟩, -⟩ := sq_cells A6
        rw [hw6] at A6 X6
        have H6 := Lib.hid (bag_add ((WrF.obj a).sep (DwF.objD c)) H5.out X6 (HoF.box A6) (fun i hi => Nat.le_of_eq hi.symm))
        have HW6 := Lib.hid hw6
        clear A6 X6 hw6 H5 hx5 hy5 ho5 UCP HU d0 d1 d2 d3 d4 d5 d6 d7 d8 d9 d10 d11 d12
        go_wp2_with fail
        rw [HW6.out]
        clear HW6 e0 e1 e2 e3 e4 e5 e6 e7 e8 e9 e10 e11 e12
        refine (UC.out _ _ _ _ _ _ _ H6.out (fun W h => h.1.2)).mono ?_; rintro e w7 ⟨L5, p0, p1, p2, p3, x7, rfl, h7⟩
        obtain ⟨aL, nL, cL, rfl⟩ := h7.held.2.1.1.slf
        obtain ⟨a0, n0, c0, rfl⟩ := h7.held.2.1.2.1.slf
        obtain ⟨a1, n1, c1, rfl⟩ := h7.held.2.1.2.2.1.slf
        obtain ⟨a2, n2, c2, rfl⟩ := h7.held.2.1.2.2.2.1.slf
        obtain ⟨a3, n3, c3, rfl⟩ := h7.held.2.1.2.2.2.2.slf
        have A8 := BoxIs.new w7 #[.int .i64 rk, .int .i64 rm, .int .i64 ra, .int .i64 rb, .int .i64 rc, .int .i64 rd, .int .i64 rx, .int .i64 ry, .slice aL nL cL, .slice a0 n0 c0, .slice a1 n1 c1, .slice a2 n2 c2, .slice a3 n3 c3] 36
        have X8 := (Ext.refl w7).alloc (.cells #[.int .i64 rk, .int .i64 rm, .int .i64 ra, .int .i64 rb, .int .i64 rc, .int .i64 rd, .int .i64 rx, .int .i64 ry, .slice aL nL cL, .slice a0 n0 c0, .slice a1 n1 c1, .slice a2 n2 c2, .slice a3 n3 c3] 36)
        obtain ⟨w8, hw8⟩ : ∃ z, w7.alloc (.cells #[.int .i64 rk, .int .i64 rm, .int .i64 ra, .int .i64 rb, .int .i64 rc, .int .i64 rd, .int .i64 rx, .int .i64 ry, .slice aL nL cL, .slice a0 n0 c0, .slice a1 n1 c1, .slice a2 n2 c2, .slice a3 n3 c3] 36) = z := ⟨_, rfl⟩
        obtain ⟨d0, d1, d2, d3, d4, d5, d6, d7, d8, d9, d10, d11, d12⟩ := HC.out _ (h7.out.trans X8)
        rw [hw8] at A8 X8
        have H8 := Lib.hid (bag_add ((WrF.obj a).sep (DwF.objD c)) h7 X8 (HoF.box A8) (fun i hi => Nat.le_of_eq hi.symm))
        have HW8 := Lib.hid hw8
        clear A8 X8 hw8 h7 H6 UC
        go_wp2_with fail
        rw [HW8.out]
        clear HW8 d0 d1 d2 d3 d4 d5 d6 d7 d8 d9 d10 d11 d12
        refine (UPl.out _).mono ?_; rintro e w9 ⟨rfl, hx9⟩
        have H9 := Lib.hid (bag_ext ((WrF.obj a).sep (DwF.objD c)) H8.out hx9)
        clear hx9 H8
        go_wp2_with fail
        refine (UD.out _ _ H9.out).mono ?_; rintro e wa ⟨L7, y0, y1, y2, y3, ec, ea, en, ek, rfl, ha⟩
        obtain ⟨bL, hL, gL, rfl⟩ := ha.held.2.1.1.slf
        obtain ⟨b0, h0, g0, rfl⟩ := ha.held.2.1.2.1.slf
        obtain ⟨b1, h1, g1, rfl⟩ := ha.held.2.1.2.2.1.slf
        obtain ⟨b2, h2, g2, rfl⟩ := ha.held.2.1.2.2.2.1.slf
        obtain ⟨b3, h3, g3, rfl⟩ := ha.held.2.1.2.2.2.2.slf
        have Bb := (BoxIs.new wa #[.int .i64 rk, .int .i64 rm, .int .i64 ra, .int .i64 rb, .int .i64 rc, .int .i64 rd, .int .i64 rx, .int .i64 ry, .slice bL hL gL, .slice b0 h0 g0, .slice b1 h1 g1, .slice b2 h2 g2, .slice b3 h3 g3] 42).ext ((Ext.refl _).alloc (.cells #[.int .i64 ec, .slice ea en ek] 46))
        have Db := BoxIs.new (wa.alloc (.cells #[.int .i64 rk, .int .i64 rm, .int .i64 ra, .int .i64 rb, .int .i64 rc, .int .i64 rd, .int .i64 rx, .int .i64 ry, .slice bL hL gL, .slice b0 h0 g0, .slice b1 h1 g1, .slice b2 h2 g2, .slice b3 h3 g3] 42)) #[.int .i64 ec, .slice ea en ek] 46
        have hsb : (wa.alloc (.cells #[.int .i64 rk, .int .i64 rm, .int .i64 ra, .int .i64 rb, .int .i64 rc, .int .i64 rd, .int .i64 rx, .int .i64 ry, .slice bL hL gL, .slice b0 h0 g0, .slice b1 h1 g1, .slice b2 h2 g2, .slice b3 h3 g3] 42)).heap.size = wa.heap.size + 1 := by simp
        rw [hsb] at Db
        have Xb := ((Ext.refl wa).alloc (.cells #[.int .i64 rk, .int .i64 rm, .int .i64 ra, .int .i64 rb, .int .i64 rc, .int .i64 rd, .int .i64 rx, .int .i64 ry, .slice bL hL gL, .slice b0 h0 g0, .slice b1 h1 g1, .slice b2 h2 g2, .slice b3 h3 g3] 42)).alloc (.cells #[.int .i64 ec, .slice ea en ek] 46)
        obtain ⟨wb, hwb⟩ : ∃ z, (wa.alloc (.cells #[.int .i64 rk, .int .i64 rm, .int .i64 ra, .int .i64 rb, .int .i64 rc, .int .i64 rd, .int .i64 rx, .int .i64 ry, .slice bL hL gL, .slice b0 h0 g0, .slice b1 h1 g1, .slice b2 h2 g2, .slice b3 h3 g3] 42)).alloc (.cells #[.int .i64 ec, .slice ea en ek] 46) = z := ⟨_, rfl⟩
        rw [hwb] at Bb Db Xb
        have HBb := Lib.hid Bb
        have HDb := Lib.hid Db
        have Hb := Lib.hid (bag_ext ((WrF.obj a).sep (DwF.objD c)) ha Xb)
        have HAb := Lib.hid Hb.out.held.1.2
        have HIb := Lib.hid Hb.out.held.1.1.1.2
        have HWb := Lib.hid hwb
        clear Bb Db Xb hsb hwb ha H9 UD
        go_wp2_with fail
        rw [HWb.out]
        clear HWb
        have K0 : Hid (∀ w', Ext wb w' → w'.cell? ⟨w5.heap.size, 0, none⟩ = some (.int .i64 q.k) ∧ w'.cell? ⟨w5.heap.size, 1, none⟩ = some (.int .i64 q.m) ∧ w'.cell? ⟨w5.heap.size, 2, none⟩ = some (.int .i64 q.a) ∧ w'.cell? ⟨w5.heap.size, 3, none⟩ = some (.int .i64 q.b) ∧ w'.cell? ⟨w5.heap.size, 4, none⟩ = some (.int .i64 q.c) ∧ w'.cell? ⟨w5.heap.size, 5, none⟩ = some (.int .i64 q.d) ∧ w'.cell? ⟨w5.heap.size, 6, none⟩ = some (.int .i64 q.x) ∧ w'.cell? ⟨w5.heap.size, 7, none⟩ = some (.int .i64 q.y) ∧ w'.cell? ⟨w5.heap.size, 8, none⟩ = some (.slice iL oL uL) ∧ w'.cell? ⟨w5.heap.size, 9, none⟩ = some (.slice i0 o0 u0) ∧ w'.cell? ⟨w5.heap.size, 10, none⟩ = some (.slice i1 o1 u1) ∧ w'.cell? ⟨w5.heap.size, 11, none⟩ = some (.slice i2 o2 u2) ∧ w'.cell? ⟨w5.heap.size, 12, none⟩ = some (.slice i3 o3 u3) ∧ w'.cell? ⟨w7.heap.size, 0, none⟩ = some (.int .i64 rk) ∧ w'.cell? ⟨w7.heap.size, 1, none⟩ = some (.int .i64 rm) ∧ w'.cell? ⟨w7.heap.size, 2, none⟩ = some (.int .i64 ra) ∧ w'.cell? ⟨w7.heap.size, 3, none⟩ = some (.int .i64 rb) ∧ w'.cell? ⟨w7.heap.size, 4, none⟩ = some (.int .i64 rc) ∧ w'.cell? ⟨w7.heap.size, 5, none⟩ = some (.int .i64 rd) ∧ w'.cell? ⟨w7.heap.size, 6, none⟩ = some (.int .i64 rx) ∧ w'.cell? ⟨w7.heap.size, 7, none⟩ = some (.int .i64 ry) ∧ w'.cell? ⟨w7.heap.size, 8, none⟩ = some (.slice aL nL cL) ∧ w'.cell? ⟨w7.heap.size, 9, none⟩ = some (.slice a0 n0 c0) ∧ w'.cell? ⟨w7.heap.size, 10, none⟩ = some (.slice a1 n1 c1) ∧ w'.cell? ⟨w7.heap.size, 11, none⟩ = some (.slice a2 n2 c2) ∧ w'.cell? ⟨w7.heap.size, 12, none⟩ = some (.slice a3 n3 c3) ∧ w'.cell? ⟨wa.heap.size, 0, none⟩ = some (.int .i64 rk) ∧ w'.cell? ⟨wa.heap.size, 1, none⟩ = some (.int .i64 rm) ∧ w'.cell? ⟨wa.heap.size, 2, none⟩ = some (.int .i64 ra) ∧ w'.cell? ⟨wa.heap.size, 3, none⟩ = some (.int .i64 rb) ∧ w'.cell? ⟨wa.heap.size, 4, none⟩ = some (.int .i64 rc) ∧ w'.cell? ⟨wa.heap.size, 5, none⟩ = some (.int .i64 rd) ∧ w'.cell? ⟨wa.heap.size, 6, none⟩ = some (.int .i64 rx) ∧ w'.cell? ⟨wa.heap.size, 7, none⟩ = some (.int .i64 ry) ∧ w'.cell? ⟨wa.heap.size, 8, none⟩ = some (.slice bL hL gL) ∧ w'.cell? ⟨wa.heap.size, 9, none⟩ = some (.slice b0 h0 g0) ∧ w'.cell? ⟨wa.heap.size, 10, none⟩ = some (.slice b1 h1 g1) ∧ w'.cell? ⟨wa.heap.size, 11, none⟩ = some (.slice b2 h2 g2) ∧ w'.cell? ⟨wa.heap.size, 12, none⟩ = some (.slice b3 h3 g3) ∧ w'.cell? ⟨wa.heap.size + 1, 0, none⟩ = some (.int .i64 ec) ∧ w'.cell? ⟨wa.heap.size + 1, 1, none⟩ = some (.slice ea en ek) ∧ w'.cell? ⟨g, off + i * 13, none⟩ = some (.int .i64 q.k) ∧ w'.cell? ⟨g, off + i * 13 + 1, none⟩ = some (.int .i64 q.m) ∧ w'.cell? ⟨g, off + i * 13 + 2, none⟩ = some (.int .i64 q.a) ∧ w'.cell? ⟨g, off + i * 13 + 3, none⟩ = some (.int .i64 q.b) ∧ w'.cell? ⟨g, off + i * 13 + 4, none⟩ = some (.int .i64 q.c) ∧ w'.cell? ⟨g, off + i * 13 + 5, none⟩ = some (.int .i64 q.d) ∧ w'.cell? ⟨g, off + i * 13 + 6, none⟩ = some (.int .i64 q.x) ∧ w'.cell? ⟨g, off + i * 13 + 7, none⟩ = some (.int .i64 q.y) ∧ w'.cell? ⟨g, off + i * 13 + 8, none⟩ = some (.slice lL mL kL) ∧ w'.cell? ⟨g, off + i * 13 + 9, none⟩ = some (.slice l0 m0 k0) ∧ w'.cell? ⟨g, off + i * 13 + 10, none⟩ = some (.slice l1 m1 k1) ∧ w'.cell? ⟨g, off + i * 13 + 11, none⟩ = some (.slice l2 m2 k2) ∧ w'.cell? ⟨g, off + i * 13 + 12, none⟩ = some (.slice l3 m3 k3)) := fun w' h => ⟨(HIb.out.ext h).cell rfl, (HIb.out.ext h).cell rfl, (HIb.out.ext h).cell rfl, (HIb.out.ext h).cell rfl, (HIb.out.ext h).cell rfl, (HIb.out.ext h).cell rfl, (HIb.out.ext h).cell rfl, (HIb.out.ext h).cell rfl, (HIb.out.ext h).cell rfl, (HIb.out.ext h).cell rfl, (HIb.out.ext h).cell rfl, (HIb.out.ext h).cell rfl, (HIb.out.ext h).cell rfl, (HAb.out.ext h).cell rfl, (HAb.out.ext h).cell rfl, (HAb.out.ext h).cell rfl, (HAb.out.ext h).cell rfl, (HAb.out.ext h).cell rfl, (HAb.out.ext h).cell rfl, (HAb.out.ext h).cell rfl, (HAb.out.ext h).cell rfl, (HAb.out.ext h).cell rfl, (HAb.out.ext h).cell rfl, (HAb.out.ext h).cell rfl, (HAb.out.ext h).cell rfl, (HAb.out.ext h).cell rfl, (HBb.out.ext h).cell rfl, (HBb.out.ext h).cell rfl, (HBb.out.ext h).cell rfl, (HBb.out.ext h).cell rfl, (HBb.out.ext h).cell rfl, (HBb.out.ext h).cell rfl, (HBb.out.ext h).cell rfl, (HBb.out.ext h).cell rfl, (HBb.out.ext h).cell rfl, (HBb.out.ext h).cell rfl, (HBb.out.ext h).cell rfl, (HBb.out.ext h).cell rfl, (HBb.out.ext h).cell rfl, (HDb.out.ext h).cell rfl, (HDb.out.ext h).cell rfl, HC.out _ (Hb.out.out.trans h)⟩
        refine wp_region_held_drew (S := fun w' => w'.cell? ⟨w5.heap.size, 0, none⟩ = some (.int .i64 q.k) ∧ w'.cell? ⟨w5.heap.size, 1, none⟩ = some (.int .i64 q.m) ∧ w'.cell? ⟨w5.heap.size, 2, none⟩ = some (.int .i64 q.a) ∧ w'.cell? ⟨w5.heap.size, 3, none⟩ = some (.int .i64 q.b) ∧ w'.cell? ⟨w5.heap.size, 4, none⟩ = some (.int .i64 q.c) ∧ w'.cell? ⟨w5.heap.size, 5, none⟩ = some (.int .i64 q.d) ∧ w'.cell? ⟨w5.heap.size, 6, none⟩ = some (.int .i64 q.x) ∧ w'.cell? ⟨w5.heap.size, 7, none⟩ = some (.int .i64 q.y) ∧ w'.cell? ⟨w5.heap.size, 8, none⟩ = some (.slice iL oL uL) ∧ w'.cell? ⟨w5.heap.size, 9, none⟩ = some (.slice i0 o0 u0) ∧ w'.cell? ⟨w5.heap.size, 10, none⟩ = some (.slice i1 o1 u1) ∧ w'.cell? ⟨w5.heap.size, 11, none⟩ = some (.slice i2 o2 u2) ∧ w'.cell? ⟨w5.heap.size, 12, none⟩ = some (.slice i3 o3 u3) ∧ w'.cell? ⟨w7.heap.size, 0, none⟩ = some (.int .i64 rk) ∧ w'.cell? ⟨w7.heap.size, 1, none⟩ = some (.int .i64 rm) ∧ w'.cell? ⟨w7.heap.size, 2, none⟩ = some (.int .i64 ra) ∧ w'.cell? ⟨w7.heap.size, 3, none⟩ = some (.int .i64 rb) ∧ w'.cell? ⟨w7.heap.size, 4, none⟩ = some (.int .i64 rc) ∧ w'.cell? ⟨w7.heap.size, 5, none⟩ = some (.int .i64 rd) ∧ w'.cell? ⟨w7.heap.size, 6, none⟩ = some (.int .i64 rx) ∧ w'.cell? ⟨w7.heap.size, 7, none⟩ = some (.int .i64 ry) ∧ w'.cell? ⟨w7.heap.size, 8, none⟩ = some (.slice aL nL cL) ∧ w'.cell? ⟨w7.heap.size, 9, none⟩ = some (.slice a0 n0 c0) ∧ w'.cell? ⟨w7.heap.size, 10, none⟩ = some (.slice a1 n1 c1) ∧ w'.cell? ⟨w7.heap.size, 11, none⟩ = some (.slice a2 n2 c2) ∧ w'.cell? ⟨w7.heap.size, 12, none⟩ = some (.slice a3 n3 c3) ∧ w'.cell? ⟨wa.heap.size, 0, none⟩ = some (.int .i64 rk) ∧ w'.cell? ⟨wa.heap.size, 1, none⟩ = some (.int .i64 rm) ∧ w'.cell? ⟨wa.heap.size, 2, none⟩ = some (.int .i64 ra) ∧ w'.cell? ⟨wa.heap.size, 3, none⟩ = some (.int .i64 rb) ∧ w'.cell? ⟨wa.heap.size, 4, none⟩ = some (.int .i64 rc) ∧ w'.cell? ⟨wa.heap.size, 5, none⟩ = some (.int .i64 rd) ∧ w'.cell? ⟨wa.heap.size, 6, none⟩ = some (.int .i64 rx) ∧ w'.cell? ⟨wa.heap.size, 7, none⟩ = some (.int .i64 ry) ∧ w'.cell? ⟨wa.heap.size, 8, none⟩ = some (.slice bL hL gL) ∧ w'.cell? ⟨wa.heap.size, 9, none⟩ = some (.slice b0 h0 g0) ∧ w'.cell? ⟨wa.heap.size, 10, none⟩ = some (.slice b1 h1 g1) ∧ w'.cell? ⟨wa.heap.size, 11, none⟩ = some (.slice b2 h2 g2) ∧ w'.cell? ⟨wa.heap.size, 12, none⟩ = some (.slice b3 h3 g3) ∧ w'.cell? ⟨wa.heap.size + 1, 0, none⟩ = some (.int .i64 ec) ∧ w'.cell? ⟨wa.heap.size + 1, 1, none⟩ = some (.slice ea en ek) ∧ w'.cell? ⟨g, off + i * 13, none⟩ = some (.int .i64 q.k) ∧ w'.cell? ⟨g, off + i * 13 + 1, none⟩ = some (.int .i64 q.m) ∧ w'.cell? ⟨g, off + i * 13 + 2, none⟩ = some (.int .i64 q.a) ∧ w'.cell? ⟨g, off + i * 13 + 3, none⟩ = some (.int .i64 q.b) ∧ w'.cell? ⟨g, off + i * 13 + 4, none⟩ = some (.int .i64 q.c) ∧ w'.cell? ⟨g, off + i * 13 + 5, none⟩ = some (.int .i64 q.d) ∧ w'.cell? ⟨g, off + i * 13 + 6, none⟩ = some (.int .i64 q.x) ∧ w'.cell? ⟨g, off + i * 13 + 7, none⟩ = some (.int .i64 q.y) ∧ w'.cell? ⟨g, off + i * 13 + 8, none⟩ = some (.slice lL mL kL) ∧ w'.cell? ⟨g, off + i * 13 + 9, none⟩ = some (.slice l0 m0 k0) ∧ w'.cell? ⟨g, off + i * 13 + 10, none⟩ = some (.slice l1 m1 k1) ∧ w'.cell? ⟨g, off + i * 13 + 11, none⟩ = some (.slice l2 m2 k2) ∧ w'.cell? ⟨g, off + i * 13 + 12, none⟩ = some (.slice l3 m3 k3)) (by kernel_rfl) (K0.out _ ((Ext.refl wb).drew)) (fun hHeld => ?_)
        refine wpAnyH_take (i := 0) (oi := { dst := some 70, op := Op.load 36 (Operand.tmp 10), type := 36, pos := "law.go:104", after := #[], guard := none }) (v := ?_) rfl (by kernel_rfl) (by kernel_rfl) (by kernel_rfl) (fun _ _ _ h => h) (Or.inl ⟨by rfl, ?_⟩) (by assumption) ?_
        case refine_2 => (intro w hSw; (try dsimp only at hSw); go_simp; (try with_reducible rfl))
        try simp only [Act.put, List.setIfInBounds_toArray, List.set_cons_zero, List.set_cons_succ]
        refine wpAnyH_take (i := 1) (oi := { dst := some 71, op := Op.load 42 (Operand.tmp 12), type := 42, pos := "law.go:104", after := #[], guard := none }) (v := ?_) rfl (by kernel_rfl) (by kernel_rfl) (by kernel_rfl) (fun _ _ _ h => h) (Or.inl ⟨by rfl, ?_⟩) (by assumption) ?_
        case refine_2 => (intro w hSw; (try dsimp only at hSw); go_simp; (try with_reducible rfl))
        try simp only [Act.put, List.setIfInBounds_toArray, List.set_cons_zero, List.set_cons_succ]
        refine wpAnyH_ready (rs := [2]) (by kernel_rfl) (by simp) ?_
        refine AllReadyH.cons (o := { dst := some 72, op := Op.call { callee := Callee.value (Operand.func 14), args := #[Operand.tmp 70, Operand.tmp 71], argTypes := #[36, 42] }, type := 4, pos := "law.go:104", after := #[{ on := 0, ground := Ground.data }, { on := 1, ground := Ground.data }], guard := none }) rfl (fun K hK => ?_) AllReadyH.nil
        go_simp
        go_at_call 14
        have Hc := Lib.hid (bag_ext ((WrF.obj a).sep (DwF.objD c)) Hb.out ((Ext.refl wb).drew))
        refine (US.out _ _ _ _ _ _ _ _ _ _ _ Hc.out.held.1.1.2.1 Hc.out.held.2.1).mono ?_; rintro e wc ⟨rfl, hxc⟩
        have Hd := Lib.hid (bag_ext ((WrF.obj a).sep (DwF.objD c)) Hc.out hxc)
        have Xd := Lib.hid (((Ext.refl wb).drew).trans hxc)
        clear hxc Hc
        refine hK.out _ _ (K0.out _ Xd.out) (fun hHeld => ?_)
        clear hK K
        try simp only [Act.put, List.setIfInBounds_toArray, List.set_cons_zero, List.set_cons_succ]
        refine wpAnyH_take (i := 3) (oi := { dst := some 73, op := Op.unOp UnOp.not 4 (Operand.tmp 72), type := 4, pos := "law.go:104", after := #[{ on := 2, ground := Ground.data }], guard := none }) (v := ?_) rfl (by kernel_rfl) (by kernel_rfl) (by kernel_rfl) (fun _ _ _ h => h) (Or.inl ⟨by rfl, ?_⟩) (by assumption) ?_
        case refine_2 => (intro w hSw; (try dsimp only at hSw); go_simp; (try with_reducible rfl))
        try simp only [Act.put, List.setIfInBounds_toArray, List.set_cons_zero, List.set_cons_succ]
        refine wpAnyH_take (i := 4) (oi := { dst := some 74, op := Op.move (Operand.tmp 73), type := 4, pos := "law.go:104", after := #[{ on := 3, ground := Ground.data }, { on := 2, ground := Ground.chain }], guard := none }) (v := ?_) rfl (by kernel_rfl) (by kernel_rfl) (by kernel_rfl) (fun _ _ _ h => h) (Or.inl ⟨by rfl, ?_⟩) (by assumption) ?_
        case refine_2 => (intro w hSw; (try dsimp only at hSw); go_simp; (try with_reducible rfl))
        try simp only [Act.put, List.setIfInBounds_toArray, List.set_cons_zero, List.set_cons_succ]
        refine wpAnyH_take (i := 5) (oi := { dst := some 75, op := Op.move (Operand.tmp 11), type := 39, pos := "law.go:104", after := #[{ on := 4, ground := Ground.guard }], guard := some (4, false) }) (v := ?_) rfl (by kernel_rfl) (by kernel_rfl) (by kernel_rfl) (fun _ _ _ h => h) (Or.inl ⟨by rfl, ?_⟩) (by assumption) ?_
        case refine_2 => (intro w hSw; (try dsimp only at hSw); go_simp; (try with_reducible rfl))
        try simp only [Act.put, List.setIfInBounds_toArray, List.set_cons_zero, List.set_cons_succ]
        refine wpAnyH_take (i := 6) (oi := { dst := some 76, op := Op.load 46 (Operand.tmp 13), type := 46, pos := "law.go:104", after := #[{ on := 4, ground := Ground.guard }], guard := some (4, false) }) (v := ?_) rfl (by kernel_rfl) (by kernel_rfl) (by kernel_rfl) (fun _ _ _ h => h) (Or.inl ⟨by rfl, ?_⟩) (by assumption) ?_
        case refine_2 => (intro w hSw; (try dsimp only at hSw); go_simp; (try with_reducible rfl))
        try simp only [Act.put, List.setIfInBounds_toArray, List.set_cons_zero, List.set_cons_succ]
        refine wpAnyH_ready (rs := [7]) (by kernel_rfl) (by simp) ?_
        refine AllReadyH.cons (o := { dst := some 77, op := Op.call { callee := Callee.value (Operand.func 15), args := #[Operand.tmp 75, Operand.tmp 76], argTypes := #[39, 46] }, type := 4, pos := "law.go:104", after := #[{ on := 5, ground := Ground.data }, { on := 6, ground := Ground.data }, { on := 4, ground := Ground.chain }, { on := 4, ground := Ground.guard }], guard := some (4, false) }) rfl (fun K hK => ?_) AllReadyH.nil
        go_simp
        go_at_call 15
        refine (same_fall f x7 (.slice ea en ek) ec _ (HET.out.ext Hd.out.out) Hd.out.held.1.1.2.2 Hd.out.held.2.2).mono ?_; rintro e wd ⟨rfl, hxd⟩
        have He := Lib.hid (bag_ext ((WrF.obj a).sep (DwF.objD c)) Hd.out hxd)
        have Xe' := Lib.hid (Xd.out.trans hxd)
        clear hxd Hd Xd
        refine hK.out _ _ (K0.out _ Xe'.out) (fun hHeld => ?_)
        clear hK K
        try simp only [Act.put, List.setIfInBounds_toArray, List.set_cons_zero, List.set_cons_succ]
        refine wpAnyH_take (i := 8) (oi := { dst := some 78, op := Op.unOp UnOp.not 4 (Operand.tmp 77), type := 4, pos := "law.go:104", after := #[{ on := 7, ground := Ground.data }, { on := 4, ground := Ground.guard }], guard := some (4, false) }) (v := ?_) rfl (by kernel_rfl) (by kernel_rfl) (by kernel_rfl) (fun _ _ _ h => h) (Or.inl ⟨by rfl, ?_⟩) (by assumption) ?_
        case refine_2 => (intro w hSw; (try dsimp only at hSw); go_simp; (try with_reducible rfl))
        try simp only [Act.put, List.setIfInBounds_toArray, List.set_cons_zero, List.set_cons_succ]
        refine wpAnyH_take (i := 9) (oi := { dst := some 79, op := Op.pick (Operand.tmp 74) (Operand.const (Value.bool true)) (Operand.tmp 78), type := 4, pos := "law.go:104", after := #[{ on := 4, ground := Ground.data }, { on := 8, ground := Ground.data }], guard := none }) (v := ?_) rfl (by kernel_rfl) (by kernel_rfl) (by kernel_rfl) (fun _ _ _ h => h) (Or.inl ⟨by rfl, ?_⟩) (by assumption) ?_
        case refine_2 => (intro w hSw; (try dsimp only at hSw); go_simp; (try with_reducible rfl))
        try simp only [Act.put, List.setIfInBounds_toArray, List.set_cons_zero, List.set_cons_succ]
        refine wpAnyH_take (i := 10) (oi := { dst := some 80, op := Op.move (Operand.tmp 79), type := 4, pos := "law.go:104", after := #[{ on := 9, ground := Ground.data }, { on := 7, ground := Ground.chain }], guard := none }) (v := ?_) rfl (by kernel_rfl) (by kernel_rfl) (by kernel_rfl) (fun _ _ _ h => h) (Or.inl ⟨by rfl, ?_⟩) (by assumption) ?_
        case refine_2 => (intro w hSw; (try dsimp only at hSw); go_simp; (try with_reducible rfl))
        try simp only [Act.put, List.setIfInBounds_toArray, List.set_cons_zero, List.set_cons_succ]
        refine wpAnyH_take (i := 11) (oi := { dst := some 81, op := Op.load 36 (Operand.tmp 9), type := 36, pos := "law.go:104", after := #[{ on := 10, ground := Ground.guard }], guard := some (10, false) }) (v := ?_) rfl (by kernel_rfl) (by kernel_rfl) (by kernel_rfl) (fun _ _ _ h => h) (Or.inl ⟨by rfl, ?_⟩) (by assumption) ?_
        case refine_2 => (intro w hSw; (try dsimp only at hSw); go_simp; (try with_reducible rfl))
        try simp only [Act.put, List.setIfInBounds_toArray, List.set_cons_zero, List.set_cons_succ]
        refine wpAnyH_take (i := 12) (oi := { dst := some 82, op := Op.move (Operand.tmp 0), type := 22, pos := "law.go:104", after := #[{ on := 10, ground := Ground.guard }], guard := some (10, false) }) (v := ?_) rfl (by kernel_rfl) (by kernel_rfl) (by kernel_rfl) (fun _ _ _ h => h) (Or.inl ⟨by rfl, ?_⟩) (by assumption) ?_
        case refine_2 => (intro w hSw; (try dsimp only at hSw); go_simp; (try with_reducible rfl))
        try simp only [Act.put, List.setIfInBounds_toArray, List.set_cons_zero, List.set_cons_succ]
        refine wpAnyH_take (i := 13) (oi := { dst := some 83, op := Op.move (Operand.tmp 7), type := 3, pos := "law.go:104", after := #[{ on := 10, ground := Ground.guard }], guard := some (10, false) }) (v := ?_) rfl (by kernel_rfl) (by kernel_rfl) (by kernel_rfl) (fun _ _ _ h => h) (Or.inl ⟨by rfl, ?_⟩) (by assumption) ?_
        case refine_2 => (intro w hSw; (try dsimp only at hSw); go_simp; (try with_reducible rfl))
        try simp only [Act.put, List.setIfInBounds_toArray, List.set_cons_zero, List.set_cons_succ]
        refine wpAnyH_take (i := 14) (oi := { dst := some 84, op := Op.indexAddr 22 (Operand.tmp 82) (Operand.tmp 83), type := 0, pos := "law.go:104", after := #[{ on := 12, ground := Ground.data }, { on := 13, ground := Ground.data }, { on := 10, ground := Ground.guard }], guard := some (10, false) }) (v := ?_) rfl (by kernel_rfl) (by kernel_rfl) (by kernel_rfl) (fun _ _ _ h => h) (Or.inl ⟨by rfl, ?_⟩) (by assumption) ?_
        case refine_2 => (intro w hSw; (try dsimp only at hSw); go_simp; (try with_reducible rfl))
        try simp only [Act.put, List.setIfInBounds_toArray, List.set_cons_zero, List.set_cons_succ]
        refine wpAnyH_take (i := 15) (oi := { dst := some 85, op := Op.load 36 (Operand.tmp 84), type := 36, pos := "law.go:104", after := #[{ on := 14, ground := Ground.data }, { on := 10, ground := Ground.guard }], guard := some (10, false) }) (v := ?_) rfl (by kernel_rfl) (by kernel_rfl) (by kernel_rfl) (fun _ _ _ h => h) (Or.inl ⟨by rfl, ?_⟩) (by assumption) ?_
        case refine_2 => (intro w hSw; (try dsimp only at hSw); go_simp; (try with_reducible rfl))
        try simp only [Act.put, List.setIfInBounds_toArray, List.set_cons_zero, List.set_cons_succ]
        refine wpAnyH_ready (rs := [16]) (by kernel_rfl) (by simp) ?_
        refine AllReadyH.cons (o := { dst := some 86, op := Op.call { callee := Callee.value (Operand.func 13), args := #[Operand.tmp 85], argTypes := #[36] }, type := 42, pos := "law.go:104", after := #[{ on := 15, ground := Ground.data }, { on := 10, ground := Ground.chain }, { on := 10, ground := Ground.guard }], guard := some (10, false) }) rfl (fun K hK => ?_) AllReadyH.nil
        go_simp
        go_at_call 13
        refine (UPl.out _).mono ?_; rintro e we ⟨rfl, hxe⟩
        have Hf := Lib.hid (bag_ext ((WrF.obj a).sep (DwF.objD c)) He.out hxe)
        have Xf := Lib.hid (Xe'.out.trans hxe)
        clear hxe He Xe'
        refine hK.out _ _ (K0.out _ Xf.out) (fun hHeld => ?_)
        clear hK K
        try simp only [Act.put, List.setIfInBounds_toArray, List.set_cons_zero, List.set_cons_succ]
        refine wpAnyH_ready (rs := [17]) (by kernel_rfl) (by simp) ?_
        refine AllReadyH.cons (o := { dst := some 87, op := Op.call { callee := Callee.value (Operand.func 14), args := #[Operand.tmp 81, Operand.tmp 86], argTypes := #[36, 42] }, type := 4, pos := "law.go:104", after := #[{ on := 11, ground := Ground.data }, { on := 16, ground := Ground.data }, { on := 16, ground := Ground.chain }, { on := 10, ground := Ground.guard }], guard := some (10, false) }) rfl (fun K hK => ?_) AllReadyH.nil
        go_simp
        go_at_call 14
        refine (UI.out _ _ _ _ _ _ _ _ _ _ _ Hf.out.held.1.1.1.1.2 (HSQ.out.ext Hf.out.out)).mono ?_; rintro e wg ⟨rfl, hxg⟩
        have HUz := Lib.hid ((bag_ext ((WrF.obj a).sep (DwF.objD c)) Hf.out hxg).fst)
        have Xg := Lib.hid (Xf.out.trans hxg)
        clear hxg Hf Xf
        refine hK.out _ _ (K0.out _ Xg.out) (fun hHeld => ?_)
        clear hK K
        try simp only [Act.put, List.setIfInBounds_toArray, List.set_cons_zero, List.set_cons_succ]
        refine wpAnyH_take (i := 18) (oi := { dst := some 88, op := Op.unOp UnOp.not 4 (Operand.tmp 87), type := 4, pos := "law.go:104", after := #[{ on := 17, ground := Ground.data }, { on := 10, ground := Ground.guard }], guard := some (10, false) }) (v := ?_) rfl (by kernel_rfl) (by kernel_rfl) (by kernel_rfl) (fun _ _ _ h => h) (Or.inl ⟨by rfl, ?_⟩) (by assumption) ?_
        case refine_2 => (intro w hSw; (try dsimp only at hSw); go_simp; (try with_reducible rfl))
        try simp only [Act.put, List.setIfInBounds_toArray, List.set_cons_zero, List.set_cons_succ]
        refine wpAnyH_take (i := 19) (oi := { dst := some 89, op := Op.pick (Operand.tmp 80) (Operand.const (Value.bool true)) (Operand.tmp 88), type := 4, pos := "law.go:104", after := #[{ on := 10, ground := Ground.data }, { on := 18, ground := Ground.data }], guard := none }) (v := ?_) rfl (by kernel_rfl) (by kernel_rfl) (by kernel_rfl) (fun _ _ _ h => h) (Or.inl ⟨by rfl, ?_⟩) (by assumption) ?_
        case refine_2 => (intro w hSw; (try dsimp only at hSw); go_simp; (try with_reducible rfl))
        try simp only [Act.put, List.setIfInBounds_toArray, List.set_cons_zero, List.set_cons_succ]
        refine wpAnyH_done (by kernel_rfl) ?_ _
        clear K0 Xg Hb HAb HIb HBb HDb hHeld US UI UPl
        have HNR : Hid (22164 * i + 22164 = 22164 * (i + 1)) := by show _ = _; omega
        rw [HNR.out] at HJ2
        go_wp2
        go_roundw
        case rel => exact ⟨i + 1, s2, t2, by omega, by go_num, HJ2.out, HG2.out, HUz.out⟩
        case measure => simp [intOf] <;> omega
      · have x3 : ¬ (i : Int) < (mk : Int) := by omega
        obtain ⟨q1, q2⟩ := ral_ok HJ.out
        obtain ⟨f, qq, s2, t2, hs, ht, hj2, hg2⟩ := sq_both (key := false) (q := q) HJ.out HGS.out
        have HJ2 := Lib.hid hj2
        have HG2 := Lib.hid hg2
        have UCP := Lib.hid (copied_any q _ _ _ _ _ wr (HSQ.out.ext HU.out.out) (wgS_out HWG.out))
        have UC := Lib.hid (fun (P : World → Prop) (vL v0 v1 v2 v3 : Value) w' (h : Uno (Sep (Sep (WrF a) (DwF c)) HoF) w w' ((s, t), P)) (hP : ∀ W, P W → SqIs W q vL v0 v1 v2 v3) => wsq_p (DwF.objD c) h q1 HGS.out (by omega) hs hP)
        have UD := Lib.hid (fun (P : World → Prop) w' (h : Uno (Sep (Sep (WrF a) (DwF c)) HoF) w w' ((s2, t), P)) => wsq_d (WrF.obj a) h q2 (by omega) ht HSQ.out)
        have UPl := Lib.hid (fun w' => plain_sq q.k q.m q.a q.b q.c q.d q.x q.y (.slice lL mL kL) (.slice l0 m0 k0) (.slice l1 m1 k1) (.slice l2 m2 k2) (.slice l3 m3 k3) w' ⟨_, _, _, rfl⟩ ⟨_, _, _, rfl⟩ ⟨_, _, _, rfl⟩ ⟨_, _, _, rfl⟩ ⟨_, _, _, rfl⟩)
        have US := Lib.hid (fun uL u0 u1 u2 u3 zL z0 z1 z2 z3 w' (h : SqIs w' qq uL u0 u1 u2 u3) (k : SqIs w' qq zL z0 z1 z2 z3) => same_sq qq uL u0 u1 u2 u3 zL z0 z1 z2 z3 w' h k)
        have UI := Lib.hid (fun uL u0 u1 u2 u3 zL z0 z1 z2 z3 w' (h : SqIs w' q uL u0 u1 u2 u3) (k : SqIs w' q zL z0 z1 z2 z3) => same_sq q uL u0 u1 u2 u3 zL z0 z1 z2 z3 w' h k)
        unfold KqP at UC
        unfold KrPW at UD
        unfold sqQ sqV at UC UD UCP US UI
        unfold sqV at UPl
        obtain ⟨rk, hrk⟩ : ∃ z, qq.k = z := ⟨_, rfl⟩
        obtain ⟨rm, hrm⟩ : ∃ z, qq.m = z := ⟨_, rfl⟩
        obtain ⟨ra, hra⟩ : ∃ z, qq.a = z := ⟨_, rfl⟩
        obtain ⟨rb, hrb⟩ : ∃ z, qq.b = z := ⟨_, rfl⟩
        obtain ⟨rc, hrc⟩ : ∃ z, qq.c = z := ⟨_, rfl⟩
        obtain ⟨rd, hrd⟩ : ∃ z, qq.d = z := ⟨_, rfl⟩
        obtain ⟨rx, hrx⟩ : ∃ z, qq.x = z := ⟨_, rfl⟩
        obtain ⟨ry, hry⟩ : ∃ z, qq.y = z := ⟨_, rfl⟩
        rw [hrk, hrm, hra, hrb, hrc, hrd, hrx, hry] at UC UD US
        clear hrk hrm hra hrb hrc hrd hrx hry hs ht hj2 hg2 q1 q2 HJ
        obtain ⟨d0, d1, d2, d3, d4, d5, d6, d7, d8, d9, d10, d11, d12⟩ := HC.out _ HU.out.out
        go_wp2_with fail
        refine (UCP.out).mono ?_; rintro e w5 ⟨zL, z0, z1, z2, z3, Y, rfl, hx5, hy5, ho5⟩
        obtain ⟨iL, oL, uL, rfl⟩ := ho5.get.1.slf
        obtain ⟨i0, o0, u0, rfl⟩ := ho5.get.2.1.slf
        obtain ⟨i1, o1, u1, rfl⟩ := ho5.get.2.2.1.slf
        obtain ⟨i2, o2, u2, rfl⟩ := ho5.get.2.2.2.1.slf
        obtain ⟨i3, o3, u3, rfl⟩ := ho5.get.2.2.2.2.slf
        have H5 := Lib.hid (bag_add ((WrF.obj a).sep (DwF.objD c)) (HU.out.bag ((WrF.obj a).sep (DwF.objD c)) (P := fun _ => True) (fun _ => trivial)) hx5 ho5 hy5)
        have A6 := BoxIs.new w5 #[.int .i64 q.k, .int .i64 q.m, .int .i64 q.a, .int .i64 q.b, .int .i64 q.c, .int .i64 q.d, .int .i64 q.x, .int .i64 q.y, .slice iL oL uL, .slice i0 o0 u0, .slice i1 o1 u1, .slice i2 o2 u2, .slice i3 o3 u3] 36
        have X6 := (Ext.refl w5).alloc (.cells #[.int .i64 q.k, .int .i64 q.m, .int .i64 q.a, .int .i64 q.b, .int .i64 q.c, .int .i64 q.d, .int .i64 q.x, .int .i64 q.y, .slice iL oL uL, .slice i0 o0 u0, .slice i1 o1 u1, .slice i2 o2 u2, .slice i3 o3 u3] 36)
        obtain ⟨w6, hw6⟩ : ∃ z, w5.alloc (.cells #[.int .i64 q.k, .int .i64 q.m, .int .i64 q.a, .int .i64 q.b, .int .i64 q.c, .int .i64 q.d, .int .i64 q.x, .int .i64 q.y, .slice iL oL uL, .slice i0 o0 u0, .slice i1 o1 u1, .slice i2 o2 u2, .slice i3 o3 u3] 36) = z := ⟨_, rfl⟩
        obtain ⟨⟨e0, e1, e2, e3, e4, e5, e6, e7, e8, e9, e10, e11, e12⟩, -⟩ := sq_cells A6
        rw [hw6] at A6 X6
        have H6 := Lib.hid (bag_add ((WrF.obj a).sep (DwF.objD c)) H5.out X6 (HoF.box A6) (fun i hi => Nat.le_of_eq hi.symm))
        have HW6 := Lib.hid hw6
        clear A6 X6 hw6 H5 hx5 hy5 ho5 UCP HU d0 d1 d2 d3 d4 d5 d6 d7 d8 d9 d10 d11 d12
        go_wp2_with fail
        rw [HW6.out]
        clear HW6 e0 e1 e2 e3 e4 e5 e6 e7 e8 e9 e10 e11 e12
        refine (UC.out _ _ _ _ _ _ _ H6.out (fun W h => h.1.2)).mono ?_; rintro e w7 ⟨L5, p0, p1, p2, p3, x7, rfl, h7⟩
        obtain ⟨aL, nL, cL, rfl⟩ := h7.held.2.1.1.slf
        obtain ⟨a0, n0, c0, rfl⟩ := h7.held.2.1.2.1.slf
        obtain ⟨a1, n1, c1, rfl⟩ := h7.held.2.1.2.2.1.slf
        obtain ⟨a2, n2, c2, rfl⟩ := h7.held.2.1.2.2.2.1.slf
        obtain ⟨a3, n3, c3, rfl⟩ := h7.held.2.1.2.2.2.2.slf
        have A8 := BoxIs.new w7 #[.int .i64 rk, .int .i64 rm, .int .i64 ra, .int .i64 rb, .int .i64 rc, .int .i64 rd, .int .i64 rx, .int .i64 ry, .slice aL nL cL, .slice a0 n0 c0, .slice a1 n1 c1, .slice a2 n2 c2, .slice a3 n3 c3] 36
        have X8 := (Ext.refl w7).alloc (.cells #[.int .i64 rk, .int .i64 rm, .int .i64 ra, .int .i64 rb, .int .i64 rc, .int .i64 rd, .int .i64 rx, .int .i64 ry, .slice aL nL cL, .slice a0 n0 c0, .slice a1 n1 c1, .slice a2 n2 c2, .slice a3 n3 c3] 36)
        obtain ⟨w8, hw8⟩ : ∃ z, w7.alloc (.cells #[.int .i64 rk, .int .i64 rm, .int .i64 ra, .int .i64 rb, .int .i64 rc, .int .i64 rd, .int .i64 rx, .int .i64 ry, .slice aL nL cL, .slice a0 n0 c0, .slice a1 n1 c1, .slice a2 n2 c2, .slice a3 n3 c3] 36) = z := ⟨_, rfl⟩
        obtain ⟨d0, d1, d2, d3, d4, d5, d6, d7, d8, d9, d10, d11, d12⟩ := HC.out _ (h7.out.trans X8)
        rw [hw8] at A8 X8
        have H8 := Lib.hid (bag_add ((WrF.obj a).sep (DwF.objD c)) h7 X8 (HoF.box A8) (fun i hi => Nat.le_of_eq hi.symm))
        have HW8 := Lib.hid hw8
        clear A8 X8 hw8 h7 H6 UC
        go_wp2_with fail
        rw [HW8.out]
        clear HW8 d0 d1 d2 d3 d4 d5 d6 d7 d8 d9 d10 d11 d12
        refine (UPl.out _).mono ?_; rintro e w9 ⟨rfl, hx9⟩
        have H9 := Lib.hid (bag_ext ((WrF.obj a).sep (DwF.objD c)) H8.out hx9)
        clear hx9 H8
        go_wp2_with fail
        refine (UD.out _ _ H9.out).mono ?_; rintro e wa ⟨L7, y0, y1, y2, y3, ec, ea, en, ek, rfl, ha⟩
        obtain ⟨bL, hL, gL, rfl⟩ := ha.held.2.1.1.slf
        obtain ⟨b0, h0, g0, rfl⟩ := ha.held.2.1.2.1.slf
        obtain ⟨b1, h1, g1, rfl⟩ := ha.held.2.1.2.2.1.slf
        obtain ⟨b2, h2, g2, rfl⟩ := ha.held.2.1.2.2.2.1.slf
        obtain ⟨b3, h3, g3, rfl⟩ := ha.held.2.1.2.2.2.2.slf
        have Bb := (BoxIs.new wa #[.int .i64 rk, .int .i64 rm, .int .i64 ra, .int .i64 rb, .int .i64 rc, .int .i64 rd, .int .i64 rx, .int .i64 ry, .slice bL hL gL, .slice b0 h0 g0, .slice b1 h1 g1, .slice b2 h2 g2, .slice b3 h3 g3] 42).ext ((Ext.refl _).alloc (.cells #[.int .i64 ec, .slice ea en ek] 46))
        have Db := BoxIs.new (wa.alloc (.cells #[.int .i64 rk, .int .i64 rm, .int .i64 ra, .int .i64 rb, .int .i64 rc, .int .i64 rd, .int .i64 rx, .int .i64 ry, .slice bL hL gL, .slice b0 h0 g0, .slice b1 h1 g1, .slice b2 h2 g2, .slice b3 h3 g3] 42)) #[.int .i64 ec, .slice ea en ek] 46
        have hsb : (wa.alloc (.cells #[.int .i64 rk, .int .i64 rm, .int .i64 ra, .int .i64 rb, .int .i64 rc, .int .i64 rd, .int .i64 rx, .int .i64 ry, .slice bL hL gL, .slice b0 h0 g0, .slice b1 h1 g1, .slice b2 h2 g2, .slice b3 h3 g3] 42)).heap.size = wa.heap.size + 1 := by simp
        rw [hsb] at Db
        have Xb := ((Ext.refl wa).alloc (.cells #[.int .i64 rk, .int .i64 rm, .int .i64 ra, .int .i64 rb, .int .i64 rc, .int .i64 rd, .int .i64 rx, .int .i64 ry, .slice bL hL gL, .slice b0 h0 g0, .slice b1 h1 g1, .slice b2 h2 g2, .slice b3 h3 g3] 42)).alloc (.cells #[.int .i64 ec, .slice ea en ek] 46)
        obtain ⟨wb, hwb⟩ : ∃ z, (wa.alloc (.cells #[.int .i64 rk, .int .i64 rm, .int .i64 ra, .int .i64 rb, .int .i64 rc, .int .i64 rd, .int .i64 rx, .int .i64 ry, .slice bL hL gL, .slice b0 h0 g0, .slice b1 h1 g1, .slice b2 h2 g2, .slice b3 h3 g3] 42)).alloc (.cells #[.int .i64 ec, .slice ea en ek] 46) = z := ⟨_, rfl⟩
        rw [hwb] at Bb Db Xb
        have HBb := Lib.hid Bb
        have HDb := Lib.hid Db
        have Hb := Lib.hid (bag_ext ((WrF.obj a).sep (DwF.objD c)) ha Xb)
        have HAb := Lib.hid Hb.out.held.1.2
        have HIb := Lib.hid Hb.out.held.1.1.1.2
        have HWb := Lib.hid hwb
        clear Bb Db Xb hsb hwb ha H9 UD
        go_wp2_with fail
        rw [HWb.out]
        clear HWb
        have K0 : Hid (∀ w', Ext wb w' → w'.cell? ⟨w5.heap.size, 0, none⟩ = some (.int .i64 q.k) ∧ w'.cell? ⟨w5.heap.size, 1, none⟩ = some (.int .i64 q.m) ∧ w'.cell? ⟨w5.heap.size, 2, none⟩ = some (.int .i64 q.a) ∧ w'.cell? ⟨w5.heap.size, 3, none⟩ = some (.int .i64 q.b) ∧ w'.cell? ⟨w5.heap.size, 4, none⟩ = some (.int .i64 q.c) ∧ w'.cell? ⟨w5.heap.size, 5, none⟩ = some (.int .i64 q.d) ∧ w'.cell? ⟨w5.heap.size, 6, none⟩ = some (.int .i64 q.x) ∧ w'.cell? ⟨w5.heap.size, 7, none⟩ = some (.int .i64 q.y) ∧ w'.cell? ⟨w5.heap.size, 8, none⟩ = some (.slice iL oL uL) ∧ w'.cell? ⟨w5.heap.size, 9, none⟩ = some (.slice i0 o0 u0) ∧ w'.cell? ⟨w5.heap.size, 10, none⟩ = some (.slice i1 o1 u1) ∧ w'.cell? ⟨w5.heap.size, 11, none⟩ = some (.slice i2 o2 u2) ∧ w'.cell? ⟨w5.heap.size, 12, none⟩ = some (.slice i3 o3 u3) ∧ w'.cell? ⟨w7.heap.size, 0, none⟩ = some (.int .i64 rk) ∧ w'.cell? ⟨w7.heap.size, 1, none⟩ = some (.int .i64 rm) ∧ w'.cell? ⟨w7.heap.size, 2, none⟩ = some (.int .i64 ra) ∧ w'.cell? ⟨w7.heap.size, 3, none⟩ = some (.int .i64 rb) ∧ w'.cell? ⟨w7.heap.size, 4, none⟩ = some (.int .i64 rc) ∧ w'.cell? ⟨w7.heap.size, 5, none⟩ = some (.int .i64 rd) ∧ w'.cell? ⟨w7.heap.size, 6, none⟩ = some (.int .i64 rx) ∧ w'.cell? ⟨w7.heap.size, 7, none⟩ = some (.int .i64 ry) ∧ w'.cell? ⟨w7.heap.size, 8, none⟩ = some (.slice aL nL cL) ∧ w'.cell? ⟨w7.heap.size, 9, none⟩ = some (.slice a0 n0 c0) ∧ w'.cell? ⟨w7.heap.size, 10, none⟩ = some (.slice a1 n1 c1) ∧ w'.cell? ⟨w7.heap.size, 11, none⟩ = some (.slice a2 n2 c2) ∧ w'.cell? ⟨w7.heap.size, 12, none⟩ = some (.slice a3 n3 c3) ∧ w'.cell? ⟨wa.heap.size, 0, none⟩ = some (.int .i64 rk) ∧ w'.cell? ⟨wa.heap.size, 1, none⟩ = some (.int .i64 rm) ∧ w'.cell? ⟨wa.heap.size, 2, none⟩ = some (.int .i64 ra) ∧ w'.cell? ⟨wa.heap.size, 3, none⟩ = some (.int .i64 rb) ∧ w'.cell? ⟨wa.heap.size, 4, none⟩ = some (.int .i64 rc) ∧ w'.cell? ⟨wa.heap.size, 5, none⟩ = some (.int .i64 rd) ∧ w'.cell? ⟨wa.heap.size, 6, none⟩ = some (.int .i64 rx) ∧ w'.cell? ⟨wa.heap.size, 7, none⟩ = some (.int .i64 ry) ∧ w'.cell? ⟨wa.heap.size, 8, none⟩ = some (.slice bL hL gL) ∧ w'.cell? ⟨wa.heap.size, 9, none⟩ = some (.slice b0 h0 g0) ∧ w'.cell? ⟨wa.heap.size, 10, none⟩ = some (.slice b1 h1 g1) ∧ w'.cell? ⟨wa.heap.size, 11, none⟩ = some (.slice b2 h2 g2) ∧ w'.cell? ⟨wa.heap.size, 12, none⟩ = some (.slice b3 h3 g3) ∧ w'.cell? ⟨wa.heap.size + 1, 0, none⟩ = some (.int .i64 ec) ∧ w'.cell? ⟨wa.heap.size + 1, 1, none⟩ = some (.slice ea en ek) ∧ w'.cell? ⟨g, off + i * 13, none⟩ = some (.int .i64 q.k) ∧ w'.cell? ⟨g, off + i * 13 + 1, none⟩ = some (.int .i64 q.m) ∧ w'.cell? ⟨g, off + i * 13 + 2, none⟩ = some (.int .i64 q.a) ∧ w'.cell? ⟨g, off + i * 13 + 3, none⟩ = some (.int .i64 q.b) ∧ w'.cell? ⟨g, off + i * 13 + 4, none⟩ = some (.int .i64 q.c) ∧ w'.cell? ⟨g, off + i * 13 + 5, none⟩ = some (.int .i64 q.d) ∧ w'.cell? ⟨g, off + i * 13 + 6, none⟩ = some (.int .i64 q.x) ∧ w'.cell? ⟨g, off + i * 13 + 7, none⟩ = some (.int .i64 q.y) ∧ w'.cell? ⟨g, off + i * 13 + 8, none⟩ = some (.slice lL mL kL) ∧ w'.cell? ⟨g, off + i * 13 + 9, none⟩ = some (.slice l0 m0 k0) ∧ w'.cell? ⟨g, off + i * 13 + 10, none⟩ = some (.slice l1 m1 k1) ∧ w'.cell? ⟨g, off + i * 13 + 11, none⟩ = some (.slice l2 m2 k2) ∧ w'.cell? ⟨g, off + i * 13 + 12, none⟩ = some (.slice l3 m3 k3)) := fun w' h => ⟨(HIb.out.ext h).cell rfl, (HIb.out.ext h).cell rfl, (HIb.out.ext h).cell rfl, (HIb.out.ext h).cell rfl, (HIb.out.ext h).cell rfl, (HIb.out.ext h).cell rfl, (HIb.out.ext h).cell rfl, (HIb.out.ext h).cell rfl, (HIb.out.ext h).cell rfl, (HIb.out.ext h).cell rfl, (HIb.out.ext h).cell rfl, (HIb.out.ext h).cell rfl, (HIb.out.ext h).cell rfl, (HAb.out.ext h).cell rfl, (HAb.out.ext h).cell rfl, (HAb.out.ext h).cell rfl, (HAb.out.ext h).cell rfl, (HAb.out.ext h).cell rfl, (HAb.out.ext h).cell rfl, (HAb.out.ext h).cell rfl, (HAb.out.ext h).cell rfl, (HAb.out.ext h).cell rfl, (HAb.out.ext h).cell rfl, (HAb.out.ext h).cell rfl, (HAb.out.ext h).cell rfl, (HAb.out.ext h).cell rfl, (HBb.out.ext h).cell rfl, (HBb.out.ext h).cell rfl, (HBb.out.ext h).cell rfl, (HBb.out.ext h).cell rfl, (HBb.out.ext h).cell rfl, (HBb.out.ext h).cell rfl, (HBb.out.ext h).cell rfl, (HBb.out.ext h).cell rfl, (HBb.out.ext h).cell rfl, (HBb.out.ext h).cell rfl, (HBb.out.ext h).cell rfl, (HBb.out.ext h).cell rfl, (HBb.out.ext h).cell rfl, (HDb.out.ext h).cell rfl, (HDb.out.ext h).cell rfl, HC.out _ (Hb.out.out.trans h)⟩
        refine wp_region_held_drew (S := fun w' => w'.cell? ⟨w5.heap.size, 0, none⟩ = some (.int .i64 q.k) ∧ w'.cell? ⟨w5.heap.size, 1, none⟩ = some (.int .i64 q.m) ∧ w'.cell? ⟨w5.heap.size, 2, none⟩ = some (.int .i64 q.a) ∧ w'.cell? ⟨w5.heap.size, 3, none⟩ = some (.int .i64 q.b) ∧ w'.cell? ⟨w5.heap.size, 4, none⟩ = some (.int .i64 q.c) ∧ w'.cell? ⟨w5.heap.size, 5, none⟩ = some (.int .i64 q.d) ∧ w'.cell? ⟨w5.heap.size, 6, none⟩ = some (.int .i64 q.x) ∧ w'.cell? ⟨w5.heap.size, 7, none⟩ = some (.int .i64 q.y) ∧ w'.cell? ⟨w5.heap.size, 8, none⟩ = some (.slice iL oL uL) ∧ w'.cell? ⟨w5.heap.size, 9, none⟩ = some (.slice i0 o0 u0) ∧ w'.cell? ⟨w5.heap.size, 10, none⟩ = some (.slice i1 o1 u1) ∧ w'.cell? ⟨w5.heap.size, 11, none⟩ = some (.slice i2 o2 u2) ∧ w'.cell? ⟨w5.heap.size, 12, none⟩ = some (.slice i3 o3 u3) ∧ w'.cell? ⟨w7.heap.size, 0, none⟩ = some (.int .i64 rk) ∧ w'.cell? ⟨w7.heap.size, 1, none⟩ = some (.int .i64 rm) ∧ w'.cell? ⟨w7.heap.size, 2, none⟩ = some (.int .i64 ra) ∧ w'.cell? ⟨w7.heap.size, 3, none⟩ = some (.int .i64 rb) ∧ w'.cell? ⟨w7.heap.size, 4, none⟩ = some (.int .i64 rc) ∧ w'.cell? ⟨w7.heap.size, 5, none⟩ = some (.int .i64 rd) ∧ w'.cell? ⟨w7.heap.size, 6, none⟩ = some (.int .i64 rx) ∧ w'.cell? ⟨w7.heap.size, 7, none⟩ = some (.int .i64 ry) ∧ w'.cell? ⟨w7.heap.size, 8, none⟩ = some (.slice aL nL cL) ∧ w'.cell? ⟨w7.heap.size, 9, none⟩ = some (.slice a0 n0 c0) ∧ w'.cell? ⟨w7.heap.size, 10, none⟩ = some (.slice a1 n1 c1) ∧ w'.cell? ⟨w7.heap.size, 11, none⟩ = some (.slice a2 n2 c2) ∧ w'.cell? ⟨w7.heap.size, 12, none⟩ = some (.slice a3 n3 c3) ∧ w'.cell? ⟨wa.heap.size, 0, none⟩ = some (.int .i64 rk) ∧ w'.cell? ⟨wa.heap.size, 1, none⟩ = some (.int .i64 rm) ∧ w'.cell? ⟨wa.heap.size, 2, none⟩ = some (.int .i64 ra) ∧ w'.cell? ⟨wa.heap.size, 3, none⟩ = some (.int .i64 rb) ∧ w'.cell? ⟨wa.heap.size, 4, none⟩ = some (.int .i64 rc) ∧ w'.cell? ⟨wa.heap.size, 5, none⟩ = some (.int .i64 rd) ∧ w'.cell? ⟨wa.heap.size, 6, none⟩ = some (.int .i64 rx) ∧ w'.cell? ⟨wa.heap.size, 7, none⟩ = some (.int .i64 ry) ∧ w'.cell? ⟨wa.heap.size, 8, none⟩ = some (.slice bL hL gL) ∧ w'.cell? ⟨wa.heap.size, 9, none⟩ = some (.slice b0 h0 g0) ∧ w'.cell? ⟨wa.heap.size, 10, none⟩ = some (.slice b1 h1 g1) ∧ w'.cell? ⟨wa.heap.size, 11, none⟩ = some (.slice b2 h2 g2) ∧ w'.cell? ⟨wa.heap.size, 12, none⟩ = some (.slice b3 h3 g3) ∧ w'.cell? ⟨wa.heap.size + 1, 0, none⟩ = some (.int .i64 ec) ∧ w'.cell? ⟨wa.heap.size + 1, 1, none⟩ = some (.slice ea en ek) ∧ w'.cell? ⟨g, off + i * 13, none⟩ = some (.int .i64 q.k) ∧ w'.cell? ⟨g, off + i * 13 + 1, none⟩ = some (.int .i64 q.m) ∧ w'.cell? ⟨g, off + i * 13 + 2, none⟩ = some (.int .i64 q.a) ∧ w'.cell? ⟨g, off + i * 13 + 3, none⟩ = some (.int .i64 q.b) ∧ w'.cell? ⟨g, off + i * 13 + 4, none⟩ = some (.int .i64 q.c) ∧ w'.cell? ⟨g, off + i * 13 + 5, none⟩ = some (.int .i64 q.d) ∧ w'.cell? ⟨g, off + i * 13 + 6, none⟩ = some (.int .i64 q.x) ∧ w'.cell? ⟨g, off + i * 13 + 7, none⟩ = some (.int .i64 q.y) ∧ w'.cell? ⟨g, off + i * 13 + 8, none⟩ = some (.slice lL mL kL) ∧ w'.cell? ⟨g, off + i * 13 + 9, none⟩ = some (.slice l0 m0 k0) ∧ w'.cell? ⟨g, off + i * 13 + 10, none⟩ = some (.slice l1 m1 k1) ∧ w'.cell? ⟨g, off + i * 13 + 11, none⟩ = some (.slice l2 m2 k2) ∧ w'.cell? ⟨g, off + i * 13 + 12, none⟩ = some (.slice l3 m3 k3)) (by kernel_rfl) (K0.out _ ((Ext.refl wb).drew)) (fun hHeld => ?_)
        refine wpAnyH_take (i := 0) (oi := { dst := some 70, op := Op.load 36 (Operand.tmp 10), type := 36, pos := "law.go:104", after := #[], guard := none }) (v := ?_) rfl (by kernel_rfl) (by kernel_rfl) (by kernel_rfl) (fun _ _ _ h => h) (Or.inl ⟨by rfl, ?_⟩) (by assumption) ?_
        case refine_2 => (intro w hSw; (try dsimp only at hSw); go_simp; (try with_reducible rfl))
        try simp only [Act.put, List.setIfInBounds_toArray, List.set_cons_zero, List.set_cons_succ]
        refine wpAnyH_take (i := 1) (oi := { dst := some 71, op := Op.load 42 (Operand.tmp 12), type := 42, pos := "law.go:104", after := #[], guard := none }) (v := ?_) rfl (by kernel_rfl) (by kernel_rfl) (by kernel_rfl) (fun _ _ _ h => h) (Or.inl ⟨by rfl, ?_⟩) (by assumption) ?_
        case refine_2 => (intro w hSw; (try dsimp only at hSw); go_simp; (try with_reducible rfl))
        try simp only [Act.put, List.setIfInBounds_toArray, List.set_cons_zero, List.set_cons_succ]
        refine wpAnyH_ready (rs := [2]) (by kernel_rfl) (by simp) ?_
        refine AllReadyH.cons (o := { dst := some 72, op := Op.call { callee := Callee.value (Operand.func 14), args := #[Operand.tmp 70, Operand.tmp 71], argTypes := #[36, 42] }, type := 4, pos := "law.go:104", after := #[{ on := 0, ground := Ground.data }, { on := 1, ground := Ground.data }], guard := none }) rfl (fun K hK => ?_) AllReadyH.nil
        go_simp
        go_at_call 14
        have Hc := Lib.hid (bag_ext ((WrF.obj a).sep (DwF.objD c)) Hb.out ((Ext.refl wb).drew))
        refine (US.out _ _ _ _ _ _ _ _ _ _ _ Hc.out.held.1.1.2.1 Hc.out.held.2.1).mono ?_; rintro e wc ⟨rfl, hxc⟩
        have Hd := Lib.hid (bag_ext ((WrF.obj a).sep (DwF.objD c)) Hc.out hxc)
        have Xd := Lib.hid (((Ext.refl wb).drew).trans hxc)
        clear hxc Hc
        refine hK.out _ _ (K0.out _ Xd.out) (fun hHeld => ?_)
        clear hK K
        try simp only [Act.put, List.setIfInBounds_toArray, List.set_cons_zero, List.set_cons_succ]
        refine wpAnyH_take (i := 3) (oi := { dst := some 73, op := Op.unOp UnOp.not 4 (Operand.tmp 72), type := 4, pos := "law.go:104", after := #[{ on := 2, ground := Ground.data }], guard := none }) (v := ?_) rfl (by kernel_rfl) (by kernel_rfl) (by kernel_rfl) (fun _ _ _ h => h) (Or.inl ⟨by rfl, ?_⟩) (by assumption) ?_
        case refine_2 => (intro w hSw; (try dsimp only at hSw); go_simp; (try with_reducible rfl))
        try simp only [Act.put, List.setIfInBounds_toArray, List.set_cons_zero, List.set_cons_succ]
        refine wpAnyH_take (i := 4) (oi := { dst := some 74, op := Op.move (Operand.tmp 73), type := 4, pos := "law.go:104", after := #[{ on := 3, ground := Ground.data }, { on := 2, ground := Ground.chain }], guard := none }) (v := ?_) rfl (by kernel_rfl) (by kernel_rfl) (by kernel_rfl) (fun _ _ _ h => h) (Or.inl ⟨by rfl, ?_⟩) (by assumption) ?_
        case refine_2 => (intro w hSw; (try dsimp only at hSw); go_simp; (try with_reducible rfl))
        try simp only [Act.put, List.setIfInBounds_toArray, List.set_cons_zero, List.set_cons_succ]
        refine wpAnyH_take (i := 5) (oi := { dst := some 75, op := Op.move (Operand.tmp 11), type := 39, pos := "law.go:104", after := #[{ on := 4, ground := Ground.guard }], guard := some (4, false) }) (v := ?_) rfl (by kernel_rfl) (by kernel_rfl) (by kernel_rfl) (fun _ _ _ h => h) (Or.inl ⟨by rfl, ?_⟩) (by assumption) ?_
        case refine_2 => (intro w hSw; (try dsimp only at hSw); go_simp; (try with_reducible rfl))
        try simp only [Act.put, List.setIfInBounds_toArray, List.set_cons_zero, List.set_cons_succ]
        refine wpAnyH_take (i := 6) (oi := { dst := some 76, op := Op.load 46 (Operand.tmp 13), type := 46, pos := "law.go:104", after := #[{ on := 4, ground := Ground.guard }], guard := some (4, false) }) (v := ?_) rfl (by kernel_rfl) (by kernel_rfl) (by kernel_rfl) (fun _ _ _ h => h) (Or.inl ⟨by rfl, ?_⟩) (by assumption) ?_
        case refine_2 => (intro w hSw; (try dsimp only at hSw); go_simp; (try with_reducible rfl))
        try simp only [Act.put, List.setIfInBounds_toArray, List.set_cons_zero, List.set_cons_succ]
        refine wpAnyH_ready (rs := [7]) (by kernel_rfl) (by simp) ?_
        refine AllReadyH.cons (o := { dst := some 77, op := Op.call { callee := Callee.value (Operand.func 15), args := #[Operand.tmp 75, Operand.tmp 76], argTypes := #[39, 46] }, type := 4, pos := "law.go:104", after := #[{ on := 5, ground := Ground.data }, { on := 6, ground := Ground.data }, { on := 4, ground := Ground.chain }, { on := 4, ground := Ground.guard }], guard := some (4, false) }) rfl (fun K hK => ?_) AllReadyH.nil
        go_simp
        go_at_call 15
        refine (same_fall f x7 (.slice ea en ek) ec _ (HET.out.ext Hd.out.out) Hd.out.held.1.1.2.2 Hd.out.held.2.2).mono ?_; rintro e wd ⟨rfl, hxd⟩
        have He := Lib.hid (bag_ext ((WrF.obj a).sep (DwF.objD c)) Hd.out hxd)
        have Xe' := Lib.hid (Xd.out.trans hxd)
        clear hxd Hd Xd
        refine hK.out _ _ (K0.out _ Xe'.out) (fun hHeld => ?_)
        clear hK K
        try simp only [Act.put, List.setIfInBounds_toArray, List.set_cons_zero, List.set_cons_succ]
        refine wpAnyH_take (i := 8) (oi := { dst := some 78, op := Op.unOp UnOp.not 4 (Operand.tmp 77), type := 4, pos := "law.go:104", after := #[{ on := 7, ground := Ground.data }, { on := 4, ground := Ground.guard }], guard := some (4, false) }) (v := ?_) rfl (by kernel_rfl) (by kernel_rfl) (by kernel_rfl) (fun _ _ _ h => h) (Or.inl ⟨by rfl, ?_⟩) (by assumption) ?_
        case refine_2 => (intro w hSw; (try dsimp only at hSw); go_simp; (try with_reducible rfl))
        try simp only [Act.put, List.setIfInBounds_toArray, List.set_cons_zero, List.set_cons_succ]
        refine wpAnyH_take (i := 9) (oi := { dst := some 79, op := Op.pick (Operand.tmp 74) (Operand.const (Value.bool true)) (Operand.tmp 78), type := 4, pos := "law.go:104", after := #[{ on := 4, ground := Ground.data }, { on := 8, ground := Ground.data }], guard := none }) (v := ?_) rfl (by kernel_rfl) (by kernel_rfl) (by kernel_rfl) (fun _ _ _ h => h) (Or.inl ⟨by rfl, ?_⟩) (by assumption) ?_
        case refine_2 => (intro w hSw; (try dsimp only at hSw); go_simp; (try with_reducible rfl))
        try simp only [Act.put, List.setIfInBounds_toArray, List.set_cons_zero, List.set_cons_succ]
        refine wpAnyH_take (i := 10) (oi := { dst := some 80, op := Op.move (Operand.tmp 79), type := 4, pos := "law.go:104", after := #[{ on := 9, ground := Ground.data }, { on := 7, ground := Ground.chain }], guard := none }) (v := ?_) rfl (by kernel_rfl) (by kernel_rfl) (by kernel_rfl) (fun _ _ _ h => h) (Or.inl ⟨by rfl, ?_⟩) (by assumption) ?_
        case refine_2 => (intro w hSw; (try dsimp only at hSw); go_simp; (try with_reducible rfl))
        try simp only [Act.put, List.setIfInBounds_toArray, List.set_cons_zero, List.set_cons_succ]
        refine wpAnyH_take (i := 11) (oi := { dst := some 81, op := Op.load 36 (Operand.tmp 9), type := 36, pos := "law.go:104", after := #[{ on := 10, ground := Ground.guard }], guard := some (10, false) }) (v := ?_) rfl (by kernel_rfl) (by kernel_rfl) (by kernel_rfl) (fun _ _ _ h => h) (Or.inl ⟨by rfl, ?_⟩) (by assumption) ?_
        case refine_2 => (intro w hSw; (try dsimp only at hSw); go_simp; (try with_reducible rfl))
        try simp only [Act.put, List.setIfInBounds_toArray, List.set_cons_zero, List.set_cons_succ]
        refine wpAnyH_take (i := 12) (oi := { dst := some 82, op := Op.move (Operand.tmp 0), type := 22, pos := "law.go:104", after := #[{ on := 10, ground := Ground.guard }], guard := some (10, false) }) (v := ?_) rfl (by kernel_rfl) (by kernel_rfl) (by kernel_rfl) (fun _ _ _ h => h) (Or.inl ⟨by rfl, ?_⟩) (by assumption) ?_
        case refine_2 => (intro w hSw; (try dsimp only at hSw); go_simp; (try with_reducible rfl))
        try simp only [Act.put, List.setIfInBounds_toArray, List.set_cons_zero, List.set_cons_succ]
        refine wpAnyH_take (i := 13) (oi := { dst := some 83, op := Op.move (Operand.tmp 7), type := 3, pos := "law.go:104", after := #[{ on := 10, ground := Ground.guard }], guard := some (10, false) }) (v := ?_) rfl (by kernel_rfl) (by kernel_rfl) (by kernel_rfl) (fun _ _ _ h => h) (Or.inl ⟨by rfl, ?_⟩) (by assumption) ?_
        case refine_2 => (intro w hSw; (try dsimp only at hSw); go_simp; (try with_reducible rfl))
        try simp only [Act.put, List.setIfInBounds_toArray, List.set_cons_zero, List.set_cons_succ]
        refine wpAnyH_take (i := 14) (oi := { dst := some 84, op := Op.indexAddr 22 (Operand.tmp 82) (Operand.tmp 83), type := 0, pos := "law.go:104", after := #[{ on := 12, ground := Ground.data }, { on := 13, ground := Ground.data }, { on := 10, ground := Ground.guard }], guard := some (10, false) }) (v := ?_) rfl (by kernel_rfl) (by kernel_rfl) (by kernel_rfl) (fun _ _ _ h => h) (Or.inl ⟨by rfl, ?_⟩) (by assumption) ?_
        case refine_2 => (intro w hSw; (try dsimp only at hSw); go_simp; (try with_reducible rfl))
        try simp only [Act.put, List.setIfInBounds_toArray, List.set_cons_zero, List.set_cons_succ]
        refine wpAnyH_take (i := 15) (oi := { dst := some 85, op := Op.load 36 (Operand.tmp 84), type := 36, pos := "law.go:104", after := #[{ on := 14, ground := Ground.data }, { on := 10, ground := Ground.guard }], guard := some (10, false) }) (v := ?_) rfl (by kernel_rfl) (by kernel_rfl) (by kernel_rfl) (fun _ _ _ h => h) (Or.inl ⟨by rfl, ?_⟩) (by assumption) ?_
        case refine_2 => (intro w hSw; (try dsimp only at hSw); go_simp; (try with_reducible rfl))
        try simp only [Act.put, List.setIfInBounds_toArray, List.set_cons_zero, List.set_cons_succ]
        refine wpAnyH_ready (rs := [16]) (by kernel_rfl) (by simp) ?_
        refine AllReadyH.cons (o := { dst := some 86, op := Op.call { callee := Callee.value (Operand.func 13), args := #[Operand.tmp 85], argTypes := #[36] }, type := 42, pos := "law.go:104", after := #[{ on := 15, ground := Ground.data }, { on := 10, ground := Ground.chain }, { on := 10, ground := Ground.guard }], guard := some (10, false) }) rfl (fun K hK => ?_) AllReadyH.nil
        go_simp
        go_at_call 13
        refine (UPl.out _).mono ?_; rintro e we ⟨rfl, hxe⟩
        have Hf := Lib.hid (bag_ext ((WrF.obj a).sep (DwF.objD c)) He.out hxe)
        have Xf := Lib.hid (Xe'.out.trans hxe)
        clear hxe He Xe'
        refine hK.out _ _ (K0.out _ Xf.out) (fun hHeld => ?_)
        clear hK K
        try simp only [Act.put, List.setIfInBounds_toArray, List.set_cons_zero, List.set_cons_succ]
        refine wpAnyH_ready (rs := [17]) (by kernel_rfl) (by simp) ?_
        refine AllReadyH.cons (o := { dst := some 87, op := Op.call { callee := Callee.value (Operand.func 14), args := #[Operand.tmp 81, Operand.tmp 86], argTypes := #[36, 42] }, type := 4, pos := "law.go:104", after := #[{ on := 11, ground := Ground.data }, { on := 16, ground := Ground.data }, { on := 16, ground := Ground.chain }, { on := 10, ground := Ground.guard }], guard := some (10, false) }) rfl (fun K hK => ?_) AllReadyH.nil
        go_simp
        go_at_call 14
        refine (UI.out _ _ _ _ _ _ _ _ _ _ _ Hf.out.held.1.1.1.1.2 (HSQ.out.ext Hf.out.out)).mono ?_; rintro e wg ⟨rfl, hxg⟩
        have HUz := Lib.hid ((bag_ext ((WrF.obj a).sep (DwF.objD c)) Hf.out hxg).fst)
        have Xg := Lib.hid (Xf.out.trans hxg)
        clear hxg Hf Xf
        refine hK.out _ _ (K0.out _ Xg.out) (fun hHeld => ?_)
        clear hK K
        try simp only [Act.put, List.setIfInBounds_toArray, List.set_cons_zero, List.set_cons_succ]
        refine wpAnyH_take (i := 18) (oi := { dst := some 88, op := Op.unOp UnOp.not 4 (Operand.tmp 87), type := 4, pos := "law.go:104", after := #[{ on := 17, ground := Ground.data }, { on := 10, ground := Ground.guard }], guard := some (10, false) }) (v := ?_) rfl (by kernel_rfl) (by kernel_rfl) (by kernel_rfl) (fun _ _ _ h => h) (Or.inl ⟨by rfl, ?_⟩) (by assumption) ?_
        case refine_2 => (intro w hSw; (try dsimp only at hSw); go_simp; (try with_reducible rfl))
        try simp only [Act.put, List.setIfInBounds_toArray, List.set_cons_zero, List.set_cons_succ]
        refine wpAnyH_take (i := 19) (oi := { dst := some 89, op := Op.pick (Operand.tmp 80) (Operand.const (Value.bool true)) (Operand.tmp 88), type := 4, pos := "law.go:104", after := #[{ on := 10, ground := Ground.data }, { on := 18, ground := Ground.data }], guard := none }) (v := ?_) rfl (by kernel_rfl) (by kernel_rfl) (by kernel_rfl) (fun _ _ _ h => h) (Or.inl ⟨by rfl, ?_⟩) (by assumption) ?_
        case refine_2 => (intro w hSw; (try dsimp only at hSw); go_simp; (try with_reducible rfl))
        try simp only [Act.put, List.setIfInBounds_toArray, List.set_cons_zero, List.set_cons_succ]
        refine wpAnyH_done (by kernel_rfl) ?_ _
        clear K0 Xg Hb HAb HIb HBb HDb hHeld US UI UPl
        have HNR : Hid (22164 * i + 22164 = 22164 * (i + 1)) := by show _ = _; omega
        rw [HNR.out] at HJ2
        go_wp2
        go_roundw
        case rel => exact ⟨i + 1, s2, t2, by omega, by go_num, HJ2.out, HG2.out, HUz.out⟩
        case measure => simp [intOf] <;> omega
    · have x2 : ¬ (i : Int) < (m : Int) := by omega
      obtain ⟨q1, q2⟩ := ral_ok HJ.out
      have HQ1 := Lib.hid q1
      have HQ2 := Lib.hid q2
      have HAL := Lib.hid HJ.out.2.2.1
      have hN9 : 22164 * i + 5 ≤ 3840000 := by omega
      have hL9 : (trimE (allE s.co)).length ≤ 4000000 := by
        have h1 := trim_le (allE s.co)
        rw [allE_len] at h1
        have h2 := q1.2.1.1
        have h3 : lenE s.co ≤ s.co.done.length + s.co.run + 5 := by unfold lenE; split <;> omega
        omega
      have HLT := Lib.hid (fun (y : Nat) (hy : y ∈ trimE (allE s.co)) => all_lt q1.2.1 y (trim_mem _ y hy))
      clear q1 q2
      have HU' := HU
      obtain ⟨_, hd⟩ := HU'.out.r
      obtain ⟨xb, _, hx1, -, ⟨-, cx⟩, -⟩ := hd
      clear hx1 HU'
      have O2 := (WrF.obj a).sep (DwF.obj c)
      have KS : Hid (∀ w', Ext wr w' → w'.cell? ⟨c, 1, none⟩ = some (.pointer (some ⟨xb, 0, none⟩)) ∧ Ext wr w') := fun w' h => ⟨h.cell cx, h⟩
      obtain ⟨bs, hbs⟩ : ∃ bs, trimE (allE s.co) = bs := ⟨_, rfl⟩
      have UE : Hid (∀ w', Ext wr w' → Calls Tryz.prog 17 #[.pointer (some ⟨a, 0, none⟩)] w' (XvPost w' bs)) := fun w' h => by
        refine (uw_end (HU.out.ext O2 h) HQ1.out (by omega)).mono ?_
        rintro e w8 ⟨g8, k8, c8, rfl, hl8, ho8, hx8⟩
        rw [hbs] at hl8 ho8
        have hL := HLT.out
        rw [hbs] at hL hL9
        exact ⟨_, rfl, Bys_n ho8 hl8 hL (by omega), by rw [hl8]; exact ho8, hx8⟩
      have UX : Hid (∀ w', Ext wr w' → Calls Tryz.prog 18 #[.pointer (some ⟨xb, 0, none⟩)] w' (XvPost w' bs)) := fun w' h => by
        rw [← hbs, ← HAL.out.2.1]
        exact ux_end (HU.out.ext O2 h) (h.cell cx) HQ2.out (by omega)
      have UFI : Hid (∀ w', Ext wr w' → Calls Tryz.prog 6 #[] w' fun e w'' => e = .returned (.bool true) ∧ Ext w' w'') := fun w' h => first20_any w' (HET.out.ext (HU.out.out.trans h))
      have HEW := Lib.hid HU.out.out
      clear hbs HQ1 HQ2 HAL HLT hL9 HJ hN9
      go_wp2_with fail
      go_region_held3 (fun w' => w'.cell? ⟨c, 1, none⟩ = some (.pointer (some ⟨xb, 0, none⟩)) ∧ Ext wr w')
        (first | assumption | (go_split_ands; exact KS.out _ (by repeat (first | exact Ext.refl _ | assumption | refine Ext.drew ?_ | refine Ext.trans ?_ (by assumption)))))
        ((first
          | (go_at_call 6; obtain ⟨_, hE1⟩ : _ ∧ Ext wr _ := (by assumption); refine (UFI.out _ hE1).mono ?_; rintro e w6 ⟨rfl, hx6⟩; have E6 := hE1.trans hx6; clear hE1)
          | (go_at_call 17; obtain ⟨_, hE1⟩ : _ ∧ Ext wr _ := (by assumption); refine (UE.out _ hE1).mono ?_; rintro e w8 ⟨u8, rfl, hy8, -, hx8⟩; have E8 := hE1.trans hx8; have HY := Lib.hid hy8; clear hE1 hy8)
          | (go_at_call 18; obtain ⟨_, hE1⟩ : _ ∧ Ext wr _ := (by assumption); refine (UX.out _ hE1).mono ?_; rintro e w9 ⟨u9, rfl, hy9, -, hx9⟩; have E9 := hE1.trans hx9; have HX := Lib.hid hy9; clear hE1 hy9)
          | (go_at_call 16; refine (bytes_same bs _ _ _ (HY.out.ext (by repeat (first | exact Ext.refl _ | assumption | refine Ext.drew ?_ | refine Ext.trans ?_ (by assumption)))) (HX.out.ext (by repeat (first | exact Ext.refl _ | assumption | refine Ext.drew ?_ | refine Ext.trans ?_ (by assumption))))).mono ?_; rintro e w10 ⟨rfl, rfl⟩)))
      all_goals obtain ⟨_, hE9⟩ : _ ∧ Ext wr _ := by assumption
      all_goals go_wp2
      all_goals go_ret
      all_goals exact ⟨rfl, HEW.out.trans hE9⟩
end Go.Proofs.YtpofabebmeickaaGreatDoor

