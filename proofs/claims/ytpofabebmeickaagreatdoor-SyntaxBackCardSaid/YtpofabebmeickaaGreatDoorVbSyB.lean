/- kinlaw20.SyntaxBack: the walk. -/
import Derived.Test.YtpofabebmeickaaGreatDoorVbSkm
import Derived.Test.YtpofabebmeickaaGreatDoorVbSyK
namespace Go.Proofs.YtpofabebmeickaaGreatDoor
set_option linter.unusedVariables false
set_option linter.unusedSimpArgs false
open Go.RowKit Go.Extern.Stop Go.Stop Go.Extern

theorem HoF.sqs {w0 w : World} {q : Sq} {L s0 s1 s2 s3 : Value} (h : SqIs w0 q L s0 s1 s2 s3) (k : Ext w0 w) : HoF w (fun i => i < w0.heap.size) (fun W => SqIs W q L s0 s1 s2 s3) :=
  ⟨fun _ hi => Nat.lt_of_lt_of_le hi k.size, fun w' a => ⟨(HoF.args h.1 k).2 w' a, (HoF.args h.2.1 k).2 w' a, (HoF.args h.2.2.1 k).2 w' a, (HoF.args h.2.2.2.1 k).2 w' a, (HoF.args h.2.2.2.2 k).2 w' a⟩⟩
section
variable {σ τ : Type} {A : World → (Nat → Prop) → σ → Prop} {B : World → (Nat → Prop) → τ → Prop} {w0 w : World} {P : World → Prop}
theorem wsq_a (ob : Obj B) {a N : Nat} {key : Bool} {q q' : Sq} {f : Fall} {vL v0 v1 v2 v3 : Value} {s s' : Ms Ec} {t : τ} (h : Uno (Sep (Sep (WrF a) B) HoF) w0 w ((s, t), P)) (hk : okS okEm N s) (hg : gS s) (hN : N ≤ 3840000) (hr : sqW key q s = ((f, q'), s')) (hv : SqIs w0 q vL v0 v1 v2 v3) :
    Calls Tryz.prog 11 #[.iface 25 (.pointer (some ⟨a, 0, none⟩)), .bool key, sqQ q vL v0 v1 v2 v3] w (KqP (Sep (WrF a) B) P w0 (s', t) f q') := by
  refine (bag_ql ob h (fun G X hG hX hd hb => mwsq_any a N key q vL v0 v1 v2 v3 (fun i => i < w0.heap.size) s G w hG hk hg hN (HoF.sqs hv h.out) (fun i hi hf => by have := hb i hf; omega))).mono ?_
  rintro e w' ⟨s2, P', ⟨L, s0, s1, s2', s3, x, rfl, hp⟩, hu⟩
  rw [hr] at hp ⊢
  obtain ⟨rfl, rfl⟩ := Prod.mk.inj hp
  exact ⟨L, s0, s1, s2', s3, x, rfl, hu⟩
theorem rsq_r (oa : Obj A) {a N : Nat} {bs : List Nat} (hb : ∀ x ∈ bs, x < 256) {key : Bool} {q q' : Sq} {f : Fall} {vL v0 v1 v2 v3 : Value} {s : σ} {t t' : Ms Dc} (h : Uno (Sep (Sep A (RdF a bs)) HoF) w0 w ((s, t), P)) (hk : okS okDm N t) (hN : N ≤ 3840000) (hr : sqD key bs q.k t = ((f, q'), t')) (hL : SlF vL) (h0 : SlF v0) (h1 : SlF v1) (h2 : SlF v2) (h3 : SlF v3) :
    Calls Tryz.prog 11 #[.iface 61 (.pointer (some ⟨a, 0, none⟩)), .bool key, sqQ q vL v0 v1 v2 v3] w (KqP (Sep A (RdF a bs)) P w0 (s, t') f q') := by
  refine (bag_qr oa h (fun G X hG hX hd hb' => mrsq_any a N bs hb key q vL v0 v1 v2 v3 t G w hG hk hN hL h0 h1 h2 h3)).mono ?_
  rintro e w' ⟨s2, P', ⟨L, s0, s1, s2', s3, x, rfl, hp⟩, hu⟩
  rw [hr] at hp ⊢
  obtain ⟨rfl, rfl⟩ := Prod.mk.inj hp
  exact ⟨L, s0, s1, s2', s3, x, rfl, hu⟩
theorem tl_cellS {T : List Int} {ta : Option Addr} {n tc j : Nat} {x : Int} {s : σ} {t : τ} (h : Uno (Sep (Sep (Sep A TlF) B) HoF) w0 w (((s, (.slice ta n tc, T)), t), P)) (hx : T[j]? = some x) : ∃ g, ta = some ⟨g, 0, none⟩ ∧ w.cell? ⟨g, j, none⟩ = some (.int .i64 x) := by
  obtain ⟨_, _, _, _, ⟨_, F2, _, h2, _⟩, _⟩ := bag_out h
  obtain ⟨g, cap, e, hc⟩ := h2.cell hx
  simp only [Value.slice.injEq] at e
  exact ⟨g, e.1, hc⟩
theorem tl_formS {T : List Int} {dv : Value} {s : σ} (h : Uno (Sep A TlF) w0 w (s, (dv, T))) : ∃ ta tc, dv = .slice ta T.length tc := by
  obtain ⟨_, h⟩ := h.r
  exact h.form
end
theorem parts_in {q : Sq} {K : Bool} (h : okK K q.k = true) : 0 ≤ q.k ∧ q.k ≤ 3 := by
  simp only [okK, Bool.and_eq_true, decide_eq_true_eq] at h
  exact h.1

set_option maxHeartbeats 32000000 in
set_option maxRecDepth 20000 in
theorem back20_law (l : List Sq) (K : List Bool) (jq : Sq) (jL j0 j1 j2 j3 v x : Value) (w : World) (hg : EtIs w) (hl : Sqs w v l) (hK : Bls w x K) (hj : RawSq w jq jL j0 j1 j2 j3) : Calls Tryz.prog 5 #[v, x, sqQ jq jL j0 j1 j2 j3] w fun e w' => e = .returned (.bool true) ∧ Ext w w' := by
  have hmk := hK.smallK
  have hm := hl.small
  obtain ⟨la, lc, rfl⟩ := hl.form
  obtain ⟨ka, kc, rfl⟩ := hK.formK
  obtain ⟨m, hm'⟩ : ∃ m, l.length = m := ⟨_, rfl⟩
  obtain ⟨mk, hmk'⟩ : ∃ m, K.length = m := ⟨_, rfl⟩
  have HNL := Lib.hid hm'
  have HNK := Lib.hid hmk'
  rw [hm'] at hm ⊢
  rw [hmk'] at hmk ⊢
  unfold maxLen at hm hmk
  have UWJ := Lib.hid (fun w' (h : Ext w w') => weighs_any jq _ _ _ _ _ w' (hj.ext h))
  obtain ⟨jL, oL, pL, rfl⟩ : SlF jL := by obtain ⟨a, c, e⟩ := hj.1.form; exact ⟨a, _, c, e⟩
  obtain ⟨j0, o0, p0, rfl⟩ : SlF j0 := by obtain ⟨a, c, e⟩ := hj.2.1.form; exact ⟨a, _, c, e⟩
  obtain ⟨j1, o1, p1, rfl⟩ : SlF j1 := by obtain ⟨a, c, e⟩ := hj.2.2.1.form; exact ⟨a, _, c, e⟩
  obtain ⟨j2, o2, p2, rfl⟩ : SlF j2 := by obtain ⟨a, c, e⟩ := hj.2.2.2.1.form; exact ⟨a, _, c, e⟩
  obtain ⟨j3, o3, p3, rfl⟩ : SlF j3 := by obtain ⟨a, c, e⟩ := hj.2.2.2.2.form; exact ⟨a, _, c, e⟩
  have B0 := BoxIs.new w #[.int .i64 jq.k, .int .i64 jq.m, .int .i64 jq.a, .int .i64 jq.b, .int .i64 jq.c, .int .i64 jq.d, .int .i64 jq.x, .int .i64 jq.y, .slice jL oL pL, .slice j0 o0 p0, .slice j1 o1 p1, .slice j2 o2 p2, .slice j3 o3 p3] 36
  have E0 := (Ext.refl w).alloc (.cells #[.int .i64 jq.k, .int .i64 jq.m, .int .i64 jq.a, .int .i64 jq.b, .int .i64 jq.c, .int .i64 jq.d, .int .i64 jq.x, .int .i64 jq.y, .slice jL oL pL, .slice j0 o0 p0, .slice j1 o1 p1, .slice j2 o2 p2, .slice j3 o3 p3] 36)
  obtain ⟨u, hu⟩ : ∃ z, w.alloc (.cells #[.int .i64 jq.k, .int .i64 jq.m, .int .i64 jq.a, .int .i64 jq.b, .int .i64 jq.c, .int .i64 jq.d, .int .i64 jq.x, .int .i64 jq.y, .slice jL oL pL, .slice j0 o0 p0, .slice j1 o1 p1, .slice j2 o2 p2, .slice j3 o3 p3] 36) = z := ⟨_, rfl⟩
  rw [hu] at B0 E0
  have HU0 := Lib.hid hu
  have HEU := Lib.hid E0
  have HET := Lib.hid (hg.ext E0)
  have HJB := Lib.hid B0
  have HJC : Hid (∀ w', Ext u w' → w'.cell? ⟨w.heap.size, 0, none⟩ = some (.int .i64 jq.k) ∧ w'.cell? ⟨w.heap.size, 1, none⟩ = some (.int .i64 jq.m) ∧ w'.cell? ⟨w.heap.size, 2, none⟩ = some (.int .i64 jq.a) ∧ w'.cell? ⟨w.heap.size, 3, none⟩ = some (.int .i64 jq.b) ∧ w'.cell? ⟨w.heap.size, 4, none⟩ = some (.int .i64 jq.c) ∧ w'.cell? ⟨w.heap.size, 5, none⟩ = some (.int .i64 jq.d) ∧ w'.cell? ⟨w.heap.size, 6, none⟩ = some (.int .i64 jq.x) ∧ w'.cell? ⟨w.heap.size, 7, none⟩ = some (.int .i64 jq.y) ∧ w'.cell? ⟨w.heap.size, 8, none⟩ = some (.slice jL oL pL) ∧ w'.cell? ⟨w.heap.size, 9, none⟩ = some (.slice j0 o0 p0) ∧ w'.cell? ⟨w.heap.size, 10, none⟩ = some (.slice j1 o1 p1) ∧ w'.cell? ⟨w.heap.size, 11, none⟩ = some (.slice j2 o2 p2) ∧ w'.cell? ⟨w.heap.size, 12, none⟩ = some (.slice j3 o3 p3)) := fun w' h => (sq_cells (HJB.out.ext h)).1
  have HJR := Lib.hid (hj.ext E0)
  have HOT : Hid (Sqs u (.slice la m lc) l) := by have := hl.ext E0; rw [hm'] at this; exact this
  have HOK2 : Hid (Bls u (.slice ka mk kc) K) := by have := hK.ext E0; rw [hmk'] at this; exact this
  have UF := Lib.hid (fun w' (h : Ext u w') => few_any20 l (.slice la m lc) w' (HOT.out.ext h))
  have UW := Lib.hid (fun w' (h : Ext u w') => UWJ.out w' (HEU.out.trans h))
  unfold sqQ sqV at UW
  clear hg hl hK hj B0 E0 hu hm' hmk' UWJ
  unfold sqQ sqV
  go_enter Tryz.func5, Tryz.ntmps5
  go_wp2_with fail
  rw [HU0.out]
  clear HU0
  refine (first20_any _ HET.out).mono ?_; rintro e w1 ⟨rfl, hx1⟩
  have HE1 := Lib.hid hx1
  clear hx1
  go_wp2_with fail
  refine (mwnew_any _).mono ?_; rintro e w2 ⟨a, F, rfl, hF, hW, hx2⟩
  have HU : Hid (Uno (WrF a) u w2 ⟨ch0, newE⟩) := Uno.first hW (HE1.out.trans hx2) (fun k hk => Nat.le_trans HE1.out.size (hF k hk))
  clear hF hW hx2 HE1
  go_wp2_with fail
  refine (UF.out _ HU.out.out).mono ?_; rintro e w3 ⟨rfl, hx3⟩
  have HU2 := Lib.hid (HU.out.ext (WrF.obj a) hx3)
  clear UF hx3 HU
  obtain ⟨fb, hfb⟩ : ∃ b, fewB l = b := ⟨_, rfl⟩
  rw [hfb]
  cases fb
  · have HU := HU2
    go_wp2_with fail
    refine (first20_any _ (HET.out.ext HU.out.out)).mono ?_; rintro e w6 ⟨rfl, hx6⟩
    go_wp2
    go_ret
    exact ⟨rfl, HEU.out.trans (HU.out.out.trans hx6)⟩
  have HFW := Lib.hid (fewB_out hfb)
  have hm2 : m ≤ 100 := by have := HFW.out.1; rw [HNL.out] at this; exact this
  obtain ⟨e0, e1, e2, e3, e4, e5, e6, e7, e8, e9, e10, e11, e12⟩ := HJC.out _ HU2.out.out
  go_wp2_with fail
  refine (UW.out _ HU2.out.out).mono ?_; rintro e w4 ⟨rfl, hx4⟩
  have HU := Lib.hid (HU2.out.ext (WrF.obj a) hx4)
  clear UW hx4 HU2 hfb e0 e1 e2 e3 e4 e5 e6 e7 e8 e9 e10 e11 e12
  by_cases hwj : wgS jq ≤ 20000
  case neg =>
    have hwj2 : 20000 < wgS jq := by omega
    go_wp2_with fail
    refine (first20_any _ (HET.out.ext HU.out.out)).mono ?_; rintro e w6 ⟨rfl, hx6⟩
    go_wp2
    go_ret
    exact ⟨rfl, HEU.out.trans (HU.out.out.trans hx6)⟩
  have hwj2 : ¬ 20000 < wgS jq := by omega
  have HJS := Lib.hid (HJR.out.is hwj)
  have HJL := Lib.hid (wgS_out hwj)
  have HU3 : Hid (Uno (Sep (WrF a) TlF) u w4 (wsS [], (.slice none 0 0, []))) := HU.out.add (WrF.obj a) (Ext.refl w4) (TlF.nil w4) (fun _ h => h.elim)
  clear HU HJR
  go_wp2_with fail
  go_loopw [8, 9] (fun dv iv wr => ∃ (i : Nat) (D : List KSq) (T : List Int), i ≤ m ∧ iv = .int .i64 (i : Int) ∧ Hid (doS l K D T i) ∧ Hid (Uno (Sep (WrF a) TlF) u wr (wsS D, (dv, T)))) (fun _ iv _ => m - (intOf iv).toNat)
  case atStart => exact ⟨0, [], [], Nat.zero_le _, rfl, doS.nil l K, HU3.out⟩
  case round =>
    clear HU3
    obtain ⟨i, D, T, hi, rfl, HD, HU⟩ := hrel
    obtain ⟨n, hn⟩ : ∃ n, D.length = n := ⟨_, rfl⟩
    have HN := Lib.hid hn
    obtain ⟨ta, tc, hdv⟩ := tl_formS HU.out
    rw [HD.out.1.2, hn] at hdv
    subst hdv
    have hnn : n ≤ i := by have := HD.out.1.1; omega
    have hDn : D.length ≤ 100 := by omega
    clear hn
    by_cases hlt : i < m
    · obtain ⟨q, hX⟩ : ∃ q, l[i]? = some q := ⟨_, List.getElem?_eq_getElem (by rw [HNL.out]; exact hlt)⟩
      obtain ⟨g, off, rfl, hsel⟩ := HOT.out.sel (by rw [HNL.out]; omega)
      obtain ⟨vL, v0, v1, v2, v3, hc, hr⟩ := hsel i q hX
      have HSQ := Lib.hid (hr.is (HFW.out.2 i q hX))
      obtain ⟨lL, mL, kL, rfl⟩ := HSQ.out.1.slf
      obtain ⟨l0, m0, k0, rfl⟩ := HSQ.out.2.1.slf
      obtain ⟨l1, m1, k1, rfl⟩ := HSQ.out.2.2.1.slf
      obtain ⟨l2, m2, k2, rfl⟩ := HSQ.out.2.2.2.1.slf
      obtain ⟨l3, m3, k3, rfl⟩ := HSQ.out.2.2.2.2.slf
      have HC : Hid (∀ w', Ext u w' → w'.cell? ⟨g, off + i * 13, none⟩ = some (.int .i64 q.k) ∧ w'.cell? ⟨g, off + i * 13 + 1, none⟩ = some (.int .i64 q.m) ∧ w'.cell? ⟨g, off + i * 13 + 2, none⟩ = some (.int .i64 q.a) ∧ w'.cell? ⟨g, off + i * 13 + 3, none⟩ = some (.int .i64 q.b) ∧ w'.cell? ⟨g, off + i * 13 + 4, none⟩ = some (.int .i64 q.c) ∧ w'.cell? ⟨g, off + i * 13 + 5, none⟩ = some (.int .i64 q.d) ∧ w'.cell? ⟨g, off + i * 13 + 6, none⟩ = some (.int .i64 q.x) ∧ w'.cell? ⟨g, off + i * 13 + 7, none⟩ = some (.int .i64 q.y) ∧ w'.cell? ⟨g, off + i * 13 + 8, none⟩ = some (.slice lL mL kL) ∧ w'.cell? ⟨g, off + i * 13 + 9, none⟩ = some (.slice l0 m0 k0) ∧ w'.cell? ⟨g, off + i * 13 + 10, none⟩ = some (.slice l1 m1 k1) ∧ w'.cell? ⟨g, off + i * 13 + 11, none⟩ = some (.slice l2 m2 k2) ∧ w'.cell? ⟨g, off + i * 13 + 12, none⟩ = some (.slice l3 m3 k3)) := fun w' h => ⟨h.cell (hc 0 _ rfl), h.cell (hc 1 _ rfl), h.cell (hc 2 _ rfl), h.cell (hc 3 _ rfl), h.cell (hc 4 _ rfl), h.cell (hc 5 _ rfl), h.cell (hc 6 _ rfl), h.cell (hc 7 _ rfl), h.cell (hc 8 _ rfl), h.cell (hc 9 _ rfl), h.cell (hc 10 _ rfl), h.cell (hc 11 _ rfl), h.cell (hc 12 _ rfl)⟩
      have HQ := Lib.hid hX
      have x1 : (0 : Int) ≤ (i : Int) := by omega
      have x2 : (i : Int) < (m : Int) := by omega
      clear hX hsel hc hr
      by_cases hik : i < mk
      · obtain ⟨kb, hkb⟩ : ∃ o, K[i]? = some o := ⟨_, List.getElem?_eq_getElem (by rw [HNK.out]; exact hik)⟩
        have HKB := Lib.hid (kAt_lt hkb)
        obtain ⟨gk, ofk, rfl, hqk⟩ := HOK2.out.hadK (by rw [HNK.out]; omega)
        have ck := HU.out.out.cell (hqk i _ hkb)
        have x3 : (i : Int) < (mk : Int) := by omega
        clear hkb hqk
        obtain ⟨fa, hfa⟩ : ∃ f, askE kb q = f := ⟨_, rfl⟩
        have HFA := Lib.hid hfa
        have HOK : Hid (okS okEm (22164 * D.length) (wsS D)) := ws_okS HD.out.2.1
        have H0 := Lib.hid (HU.out.bag ((WrF.obj a).sep TlF.obj) (P := fun _ => True) (fun _ => trivial))
        obtain ⟨d0, d1, d2, d3, d4, d5, d6, d7, d8, d9, d10, d11, d12⟩ := HC.out _ HU.out.out
        clear hfa
        cases fa with
        | some fe =>
          have hr : sqW kb q (wsS D) = ((some fe, sq0), wsS D) := by unfold sqW; rw [HFA.out]
          have UC := Lib.hid (wsq_a TlF.obj H0.out HOK.out (ws_gS D) (by omega) hr HSQ.out)
          unfold sqQ sqV at UC
          clear hr
          go_wp2_with fail
          refine (UC.out).mono ?_; rintro e w5 ⟨L5, p0, p1, p2, p3, x5, rfl, h5⟩
          obtain ⟨aL, nL, cL, rfl⟩ := h5.held.2.1.1.slf
          obtain ⟨a0, n0, c0, rfl⟩ := h5.held.2.1.2.1.slf
          obtain ⟨a1, n1, c1, rfl⟩ := h5.held.2.1.2.2.1.slf
          obtain ⟨a2, n2, c2, rfl⟩ := h5.held.2.1.2.2.2.1.slf
          obtain ⟨a3, n3, c3, rfl⟩ := h5.held.2.1.2.2.2.2.slf
          obtain ⟨xt, xv, rfl⟩ := ErrIs.ne h5.held.2.2
          have HU6 := Lib.hid (h5.fst.ext ((WrF.obj a).sep TlF.obj) ((Ext.refl w5).alloc (.cells #[.int .i64 0, .int .i64 0, .int .i64 0, .int .i64 0, .int .i64 0, .int .i64 0, .int .i64 0, .int .i64 0, .slice aL nL cL, .slice a0 n0 c0, .slice a1 n1 c1, .slice a2 n2 c2, .slice a3 n3 c3] 36)))
          have HD2 := Lib.hid HD.out.skip
          clear h5 UC H0 HU HOK d0 d1 d2 d3 d4 d5 d6 d7 d8 d9 d10 d11 d12
          unfold sqQ sqV sq0
          go_wp2
          go_roundw
          case rel => exact ⟨i + 1, D, T, by omega, by go_num, HD2.out, HU6.out⟩
          case measure => simp [intOf] <;> omega
        | none =>
          obtain ⟨tt, ht1, ht2, -, -⟩ := sqW_yes HOK.out (ws_gS D) HFA.out
          have ht3 : tt = wsS (D ++ [(kAt K i, q)]) := by rw [ht2, ws_snocS, HKB.out]; rfl
          have HD2 := Lib.hid (HD.out.snoc HQ.out (by rw [HKB.out]; exact HFA.out))
          rw [ht3] at ht1
          have HTL := Lib.hid HD.out.1.2
          obtain ⟨qq, hqq⟩ : ∃ z, partS q = z := ⟨_, rfl⟩
          rw [hqq] at ht1
          have UC := Lib.hid (wsq_a TlF.obj H0.out HOK.out (ws_gS D) (by omega) ht1 HSQ.out)
          have UP := Lib.hid (fun w' (h : Ext u w') => prts_any q _ _ _ _ _ w' (HSQ.out.ext h) (parts_in (ask_out HFA.out).1))
          rw [hqq] at UP
          have US := Lib.hid (fun uL u0 u1 u2 u3 zL z0 z1 z2 z3 w' (h : SqIs w' qq uL u0 u1 u2 u3) (k : SqIs w' qq zL z0 z1 z2 z3) => same_sq qq uL u0 u1 u2 u3 zL z0 z1 z2 z3 w' h k)
          unfold KqP at UC
          unfold sqQ sqV at UC UP US
          obtain ⟨rk, hrk⟩ : ∃ z, qq.k = z := ⟨_, rfl⟩
          obtain ⟨rm, hrm⟩ : ∃ z, qq.m = z := ⟨_, rfl⟩
          obtain ⟨ra, hra⟩ : ∃ z, qq.a = z := ⟨_, rfl⟩
          obtain ⟨rb, hrb⟩ : ∃ z, qq.b = z := ⟨_, rfl⟩
          obtain ⟨rc, hrc⟩ : ∃ z, qq.c = z := ⟨_, rfl⟩
          obtain ⟨rd, hrd⟩ : ∃ z, qq.d = z := ⟨_, rfl⟩
          obtain ⟨rx, hrx⟩ : ∃ z, qq.x = z := ⟨_, rfl⟩
          obtain ⟨ry, hry⟩ : ∃ z, qq.y = z := ⟨_, rfl⟩
          rw [hrk, hrm, hra, hrb, hrc, hrd, hrx, hry] at UC UP US
          clear hrk hrm hra hrb hrc hrd hrx hry ht1 ht2 ht3 hqq
          go_wp2_with fail
          refine (UC.out).mono ?_; rintro e w5 ⟨L5, p0, p1, p2, p3, x5, rfl, h5⟩
          obtain ⟨aL, nL, cL, rfl⟩ := h5.held.2.1.1.slf
          obtain ⟨a0, n0, c0, rfl⟩ := h5.held.2.1.2.1.slf
          obtain ⟨a1, n1, c1, rfl⟩ := h5.held.2.1.2.2.1.slf
          obtain ⟨a2, n2, c2, rfl⟩ := h5.held.2.1.2.2.2.1.slf
          obtain ⟨a3, n3, c3, rfl⟩ := h5.held.2.1.2.2.2.2.slf
          obtain rfl : x5 = .nilIface := h5.held.2.2
          have A6 := BoxIs.new w5 #[.int .i64 rk, .int .i64 rm, .int .i64 ra, .int .i64 rb, .int .i64 rc, .int .i64 rd, .int .i64 rx, .int .i64 ry, .slice aL nL cL, .slice a0 n0 c0, .slice a1 n1 c1, .slice a2 n2 c2, .slice a3 n3 c3] 36
          have X6 := (Ext.refl w5).alloc (.cells #[.int .i64 rk, .int .i64 rm, .int .i64 ra, .int .i64 rb, .int .i64 rc, .int .i64 rd, .int .i64 rx, .int .i64 ry, .slice aL nL cL, .slice a0 n0 c0, .slice a1 n1 c1, .slice a2 n2 c2, .slice a3 n3 c3] 36)
          obtain ⟨w6, hw6⟩ : ∃ z, w5.alloc (.cells #[.int .i64 rk, .int .i64 rm, .int .i64 ra, .int .i64 rb, .int .i64 rc, .int .i64 rd, .int .i64 rx, .int .i64 ry, .slice aL nL cL, .slice a0 n0 c0, .slice a1 n1 c1, .slice a2 n2 c2, .slice a3 n3 c3] 36) = z := ⟨_, rfl⟩
          rw [hw6] at A6 X6
          have HA6 := Lib.hid A6
          have HSV := Lib.hid (h5.held.2.1.ext X6)
          have HU6 := Lib.hid (h5.fst.ext ((WrF.obj a).sep TlF.obj) X6)
          have HW6 := Lib.hid hw6
          clear A6 X6 hw6 h5 UC H0 HU HOK d0 d1 d2 d3 d4 d5 d6 d7 d8 d9 d10 d11 d12
          go_wp2_with fail
          rw [HW6.out]
          clear HW6
          refine wp_region_held_drew (S := fun w' => w'.cell? ⟨w5.heap.size, 0, none⟩ = some (.int .i64 rk) ∧ w'.cell? ⟨w5.heap.size, 1, none⟩ = some (.int .i64 rm) ∧ w'.cell? ⟨w5.heap.size, 2, none⟩ = some (.int .i64 ra) ∧ w'.cell? ⟨w5.heap.size, 3, none⟩ = some (.int .i64 rb) ∧ w'.cell? ⟨w5.heap.size, 4, none⟩ = some (.int .i64 rc) ∧ w'.cell? ⟨w5.heap.size, 5, none⟩ = some (.int .i64 rd) ∧ w'.cell? ⟨w5.heap.size, 6, none⟩ = some (.int .i64 rx) ∧ w'.cell? ⟨w5.heap.size, 7, none⟩ = some (.int .i64 ry) ∧ w'.cell? ⟨w5.heap.size, 8, none⟩ = some (.slice aL nL cL) ∧ w'.cell? ⟨w5.heap.size, 9, none⟩ = some (.slice a0 n0 c0) ∧ w'.cell? ⟨w5.heap.size, 10, none⟩ = some (.slice a1 n1 c1) ∧ w'.cell? ⟨w5.heap.size, 11, none⟩ = some (.slice a2 n2 c2) ∧ w'.cell? ⟨w5.heap.size, 12, none⟩ = some (.slice a3 n3 c3) ∧ w'.cell? ⟨g, off + i * 13, none⟩ = some (.int .i64 q.k) ∧ w'.cell? ⟨g, off + i * 13 + 1, none⟩ = some (.int .i64 q.m) ∧ w'.cell? ⟨g, off + i * 13 + 2, none⟩ = some (.int .i64 q.a) ∧ w'.cell? ⟨g, off + i * 13 + 3, none⟩ = some (.int .i64 q.b) ∧ w'.cell? ⟨g, off + i * 13 + 4, none⟩ = some (.int .i64 q.c) ∧ w'.cell? ⟨g, off + i * 13 + 5, none⟩ = some (.int .i64 q.d) ∧ w'.cell? ⟨g, off + i * 13 + 6, none⟩ = some (.int .i64 q.x) ∧ w'.cell? ⟨g, off + i * 13 + 7, none⟩ = some (.int .i64 q.y) ∧ w'.cell? ⟨g, off + i * 13 + 8, none⟩ = some (.slice lL mL kL) ∧ w'.cell? ⟨g, off + i * 13 + 9, none⟩ = some (.slice l0 m0 k0) ∧ w'.cell? ⟨g, off + i * 13 + 10, none⟩ = some (.slice l1 m1 k1) ∧ w'.cell? ⟨g, off + i * 13 + 11, none⟩ = some (.slice l2 m2 k2) ∧ w'.cell? ⟨g, off + i * 13 + 12, none⟩ = some (.slice l3 m3 k3)) (by kernel_rfl) (⟨(HA6.out.ext ((Ext.refl w6).drew)).cell rfl, (HA6.out.ext ((Ext.refl w6).drew)).cell rfl, (HA6.out.ext ((Ext.refl w6).drew)).cell rfl, (HA6.out.ext ((Ext.refl w6).drew)).cell rfl, (HA6.out.ext ((Ext.refl w6).drew)).cell rfl, (HA6.out.ext ((Ext.refl w6).drew)).cell rfl, (HA6.out.ext ((Ext.refl w6).drew)).cell rfl, (HA6.out.ext ((Ext.refl w6).drew)).cell rfl, (HA6.out.ext ((Ext.refl w6).drew)).cell rfl, (HA6.out.ext ((Ext.refl w6).drew)).cell rfl, (HA6.out.ext ((Ext.refl w6).drew)).cell rfl, (HA6.out.ext ((Ext.refl w6).drew)).cell rfl, (HA6.out.ext ((Ext.refl w6).drew)).cell rfl, HC.out _ (HU6.out.out.trans ((Ext.refl w6).drew))⟩) (fun hHeld => ?_)
          refine wpAnyH_take (i := 0) (oi := { dst := some 67, op := Op.load 36 (Operand.tmp 11), type := 36, pos := "law.go:162", after := #[], guard := none }) (v := ?_) rfl (by kernel_rfl) (by kernel_rfl) (by kernel_rfl) (fun _ _ _ h => h) (Or.inl ⟨by rfl, ?_⟩) (by assumption) ?_
          case refine_2 => (intro w hSw; (try dsimp only at hSw); go_simp; (try with_reducible rfl))
          try simp only [Act.put, List.setIfInBounds_toArray, List.set_cons_zero, List.set_cons_succ]
          refine wpAnyH_take (i := 1) (oi := { dst := some 68, op := Op.move (Operand.tmp 0), type := 22, pos := "law.go:162", after := #[], guard := none }) (v := ?_) rfl (by kernel_rfl) (by kernel_rfl) (by kernel_rfl) (fun _ _ _ h => h) (Or.inl ⟨by rfl, ?_⟩) (by assumption) ?_
          case refine_2 => (intro w hSw; (try dsimp only at hSw); go_simp; (try with_reducible rfl))
          try simp only [Act.put, List.setIfInBounds_toArray, List.set_cons_zero, List.set_cons_succ]
          refine wpAnyH_take (i := 2) (oi := { dst := some 69, op := Op.move (Operand.tmp 9), type := 3, pos := "law.go:162", after := #[], guard := none }) (v := ?_) rfl (by kernel_rfl) (by kernel_rfl) (by kernel_rfl) (fun _ _ _ h => h) (Or.inl ⟨by rfl, ?_⟩) (by assumption) ?_
          case refine_2 => (intro w hSw; (try dsimp only at hSw); go_simp; (try with_reducible rfl))
          try simp only [Act.put, List.setIfInBounds_toArray, List.set_cons_zero, List.set_cons_succ]
          refine wpAnyH_take (i := 3) (oi := { dst := some 70, op := Op.indexAddr 22 (Operand.tmp 68) (Operand.tmp 69), type := 0, pos := "law.go:162", after := #[{ on := 1, ground := Ground.data }, { on := 2, ground := Ground.data }], guard := none }) (v := ?_) rfl (by kernel_rfl) (by kernel_rfl) (by kernel_rfl) (fun _ _ _ h => h) (Or.inl ⟨by rfl, ?_⟩) (by assumption) ?_
          case refine_2 => (intro w hSw; (try dsimp only at hSw); go_simp; (try with_reducible rfl))
          try simp only [Act.put, List.setIfInBounds_toArray, List.set_cons_zero, List.set_cons_succ]
          refine wpAnyH_take (i := 4) (oi := { dst := some 71, op := Op.load 36 (Operand.tmp 70), type := 36, pos := "law.go:162", after := #[{ on := 3, ground := Ground.data }], guard := none }) (v := ?_) rfl (by kernel_rfl) (by kernel_rfl) (by kernel_rfl) (fun _ _ _ h => h) (Or.inl ⟨by rfl, ?_⟩) (by assumption) ?_
          case refine_2 => (intro w hSw; (try dsimp only at hSw); go_simp; (try with_reducible rfl))
          try simp only [Act.put, List.setIfInBounds_toArray, List.set_cons_zero, List.set_cons_succ]
          refine wpAnyH_ready (rs := [5]) (by kernel_rfl) (by simp) ?_
          refine AllReadyH.cons (o := { dst := some 72, op := Op.call { callee := Callee.value (Operand.func 24), args := #[Operand.tmp 71], argTypes := #[36] }, type := 42, pos := "law.go:162", after := #[{ on := 4, ground := Ground.data }], guard := none }) rfl (fun K hK => ?_) AllReadyH.nil
          go_simp
          go_at_call 24
          refine (UP.out _ (HU6.out.out.trans ((Ext.refl w6).drew))).mono ?_; rintro e w7 ⟨yL, y0, y1, y2, y3, rfl, hx7, hy⟩
          have E7 := Lib.hid (((Ext.refl w6).drew).trans hx7)
          have HY := Lib.hid (hy _ (HSQ.out.ext (HU6.out.out.trans E7.out)))
          clear hx7 hy
          refine hK.out _ _ (⟨(HA6.out.ext E7.out).cell rfl, (HA6.out.ext E7.out).cell rfl, (HA6.out.ext E7.out).cell rfl, (HA6.out.ext E7.out).cell rfl, (HA6.out.ext E7.out).cell rfl, (HA6.out.ext E7.out).cell rfl, (HA6.out.ext E7.out).cell rfl, (HA6.out.ext E7.out).cell rfl, (HA6.out.ext E7.out).cell rfl, (HA6.out.ext E7.out).cell rfl, (HA6.out.ext E7.out).cell rfl, (HA6.out.ext E7.out).cell rfl, (HA6.out.ext E7.out).cell rfl, HC.out _ (HU6.out.out.trans E7.out)⟩) (fun hHeld => ?_)
          clear hK K
          try simp only [Act.put, List.setIfInBounds_toArray, List.set_cons_zero, List.set_cons_succ]
          refine wpAnyH_ready (rs := [6]) (by kernel_rfl) (by simp) ?_
          refine AllReadyH.cons (o := { dst := some 73, op := Op.call { callee := Callee.value (Operand.func 14), args := #[Operand.tmp 67, Operand.tmp 72], argTypes := #[36, 42] }, type := 4, pos := "law.go:162", after := #[{ on := 0, ground := Ground.data }, { on := 5, ground := Ground.data }, { on := 5, ground := Ground.chain }], guard := none }) rfl (fun K hK => ?_) AllReadyH.nil
          go_simp
          go_at_call 14
          refine (US.out _ _ _ _ _ _ _ _ _ _ _ (HSV.out.ext E7.out) HY.out).mono ?_; rintro e w8 ⟨rfl, hx8⟩
          have E8 := Lib.hid (E7.out.trans hx8)
          clear hx8 HY E7
          refine hK.out _ _ (⟨(HA6.out.ext E8.out).cell rfl, (HA6.out.ext E8.out).cell rfl, (HA6.out.ext E8.out).cell rfl, (HA6.out.ext E8.out).cell rfl, (HA6.out.ext E8.out).cell rfl, (HA6.out.ext E8.out).cell rfl, (HA6.out.ext E8.out).cell rfl, (HA6.out.ext E8.out).cell rfl, (HA6.out.ext E8.out).cell rfl, (HA6.out.ext E8.out).cell rfl, (HA6.out.ext E8.out).cell rfl, (HA6.out.ext E8.out).cell rfl, (HA6.out.ext E8.out).cell rfl, HC.out _ (HU6.out.out.trans E8.out)⟩) (fun hHeld => ?_)
          clear hK K
          try simp only [Act.put, List.setIfInBounds_toArray, List.set_cons_zero, List.set_cons_succ]
          refine wpAnyH_take (i := 7) (oi := { dst := some 74, op := Op.unOp UnOp.not 4 (Operand.tmp 73), type := 4, pos := "law.go:162", after := #[{ on := 6, ground := Ground.data }], guard := none }) (v := ?_) rfl (by kernel_rfl) (by kernel_rfl) (by kernel_rfl) (fun _ _ _ h => h) (Or.inl ⟨by rfl, ?_⟩) (by assumption) ?_
          case refine_2 => (intro w hSw; (try dsimp only at hSw); go_simp; (try with_reducible rfl))
          try simp only [Act.put, List.setIfInBounds_toArray, List.set_cons_zero, List.set_cons_succ]
          refine wpAnyH_done (by kernel_rfl) ?_ _
          have HU8 := Lib.hid (HU6.out.ext ((WrF.obj a).sep TlF.obj) E8.out)
          clear E8 HU6 HSV HA6 hHeld UP US
          go_wp2_with (at_builtin; refine push_tl (WrF.obj a) rfl _ _ 33 rfl Tryz.underlying33 (.slice ta n tc) T n _ _ (by rw [HTL.out, HN.out]) (by rfl) HU8.out (by rfl) (by omega) ?_; intro g8 c8 w9 h8; have H8 := Lib.hid h8; clear h8)
          go_roundw
          case rel => exact ⟨i + 1, D ++ [(kAt K i, q)], _, by omega, by go_num, HD2.out, H8.out⟩
          case measure => simp [intOf] <;> omega
      · obtain ⟨kb, hkb⟩ : ∃ b, b = false := ⟨_, rfl⟩
        have HKB : Hid (kAt K i = kb) := by show _ = _; rw [hkb]; exact kAt_ge (by rw [HNK.out]; omega)
        subst hkb
        have x3 : ¬ (i : Int) < (mk : Int) := by omega
        obtain ⟨fa, hfa⟩ : ∃ f, askE false q = f := ⟨_, rfl⟩
        have HFA := Lib.hid hfa
        have HOK : Hid (okS okEm (22164 * D.length) (wsS D)) := ws_okS HD.out.2.1
        have H0 := Lib.hid (HU.out.bag ((WrF.obj a).sep TlF.obj) (P := fun _ => True) (fun _ => trivial))
        obtain ⟨d0, d1, d2, d3, d4, d5, d6, d7, d8, d9, d10, d11, d12⟩ := HC.out _ HU.out.out
        clear hfa
        cases fa with
        | some fe =>
          have hr : sqW false q (wsS D) = ((some fe, sq0), wsS D) := by unfold sqW; rw [HFA.out]
          have UC := Lib.hid (wsq_a TlF.obj H0.out HOK.out (ws_gS D) (by omega) hr HSQ.out)
          unfold sqQ sqV at UC
          clear hr
          go_wp2_with fail
          refine (UC.out).mono ?_; rintro e w5 ⟨L5, p0, p1, p2, p3, x5, rfl, h5⟩
          obtain ⟨aL, nL, cL, rfl⟩ := h5.held.2.1.1.slf
          obtain ⟨a0, n0, c0, rfl⟩ := h5.held.2.1.2.1.slf
          obtain ⟨a1, n1, c1, rfl⟩ := h5.held.2.1.2.2.1.slf
          obtain ⟨a2, n2, c2, rfl⟩ := h5.held.2.1.2.2.2.1.slf
          obtain ⟨a3, n3, c3, rfl⟩ := h5.held.2.1.2.2.2.2.slf
          obtain ⟨xt, xv, rfl⟩ := ErrIs.ne h5.held.2.2
          have HU6 := Lib.hid (h5.fst.ext ((WrF.obj a).sep TlF.obj) ((Ext.refl w5).alloc (.cells #[.int .i64 0, .int .i64 0, .int .i64 0, .int .i64 0, .int .i64 0, .int .i64 0, .int .i64 0, .int .i64 0, .slice aL nL cL, .slice a0 n0 c0, .slice a1 n1 c1, .slice a2 n2 c2, .slice a3 n3 c3] 36)))
          have HD2 := Lib.hid HD.out.skip
          clear h5 UC H0 HU HOK d0 d1 d2 d3 d4 d5 d6 d7 d8 d9 d10 d11 d12
          unfold sqQ sqV sq0
          go_wp2
          go_roundw
          case rel => exact ⟨i + 1, D, T, by omega, by go_num, HD2.out, HU6.out⟩
          case measure => simp [intOf] <;> omega
        | none =>
          obtain ⟨tt, ht1, ht2, -, -⟩ := sqW_yes HOK.out (ws_gS D) HFA.out
          have ht3 : tt = wsS (D ++ [(kAt K i, q)]) := by rw [ht2, ws_snocS, HKB.out]; rfl
          have HD2 := Lib.hid (HD.out.snoc HQ.out (by rw [HKB.out]; exact HFA.out))
          rw [ht3] at ht1
          have HTL := Lib.hid HD.out.1.2
          obtain ⟨qq, hqq⟩ : ∃ z, partS q = z := ⟨_, rfl⟩
          rw [hqq] at ht1
          have UC := Lib.hid (wsq_a TlF.obj H0.out HOK.out (ws_gS D) (by omega) ht1 HSQ.out)
          have UP := Lib.hid (fun w' (h : Ext u w') => prts_any q _ _ _ _ _ w' (HSQ.out.ext h) (parts_in (ask_out HFA.out).1))
          rw [hqq] at UP
          have US := Lib.hid (fun uL u0 u1 u2 u3 zL z0 z1 z2 z3 w' (h : SqIs w' qq uL u0 u1 u2 u3) (k : SqIs w' qq zL z0 z1 z2 z3) => same_sq qq uL u0 u1 u2 u3 zL z0 z1 z2 z3 w' h k)
          unfold KqP at UC
          unfold sqQ sqV at UC UP US
          obtain ⟨rk, hrk⟩ : ∃ z, qq.k = z := ⟨_, rfl⟩
          obtain ⟨rm, hrm⟩ : ∃ z, qq.m = z := ⟨_, rfl⟩
          obtain ⟨ra, hra⟩ : ∃ z, qq.a = z := ⟨_, rfl⟩
          obtain ⟨rb, hrb⟩ : ∃ z, qq.b = z := ⟨_, rfl⟩
          obtain ⟨rc, hrc⟩ : ∃ z, qq.c = z := ⟨_, rfl⟩
          obtain ⟨rd, hrd⟩ : ∃ z, qq.d = z := ⟨_, rfl⟩
          obtain ⟨rx, hrx⟩ : ∃ z, qq.x = z := ⟨_, rfl⟩
          obtain ⟨ry, hry⟩ : ∃ z, qq.y = z := ⟨_, rfl⟩
          rw [hrk, hrm, hra, hrb, hrc, hrd, hrx, hry] at UC UP US
          clear hrk hrm hra hrb hrc hrd hrx hry ht1 ht2 ht3 hqq
          go_wp2_with fail
          refine (UC.out).mono ?_; rintro e w5 ⟨L5, p0, p1, p2, p3, x5, rfl, h5⟩
          obtain ⟨aL, nL, cL, rfl⟩ := h5.held.2.1.1.slf
          obtain ⟨a0, n0, c0, rfl⟩ := h5.held.2.1.2.1.slf
          obtain ⟨a1, n1, c1, rfl⟩ := h5.held.2.1.2.2.1.slf
          obtain ⟨a2, n2, c2, rfl⟩ := h5.held.2.1.2.2.2.1.slf
          obtain ⟨a3, n3, c3, rfl⟩ := h5.held.2.1.2.2.2.2.slf
          obtain rfl : x5 = .nilIface := h5.held.2.2
          have A6 := BoxIs.new w5 #[.int .i64 rk, .int .i64 rm, .int .i64 ra, .int .i64 rb, .int .i64 rc, .int .i64 rd, .int .i64 rx, .int .i64 ry, .slice aL nL cL, .slice a0 n0 c0, .slice a1 n1 c1, .slice a2 n2 c2, .slice a3 n3 c3] 36
          have X6 := (Ext.refl w5).alloc (.cells #[.int .i64 rk, .int .i64 rm, .int .i64 ra, .int .i64 rb, .int .i64 rc, .int .i64 rd, .int .i64 rx, .int .i64 ry, .slice aL nL cL, .slice a0 n0 c0, .slice a1 n1 c1, .slice a2 n2 c2, .slice a3 n3 c3] 36)
          obtain ⟨w6, hw6⟩ : ∃ z, w5.alloc (.cells #[.int .i64 rk, .int .i64 rm, .int .i64 ra, .int .i64 rb, .int .i64 rc, .int .i64 rd, .int .i64 rx, .int .i64 ry, .slice aL nL cL, .slice a0 n0 c0, .slice a1 n1 c1, .slice a2 n2 c2, .slice a3 n3 c3] 36) = z := ⟨_, rfl⟩
          rw [hw6] at A6 X6
          have HA6 := Lib.hid A6
          have HSV := Lib.hid (h5.held.2.1.ext X6)
          have HU6 := Lib.hid (h5.fst.ext ((WrF.obj a).sep TlF.obj) X6)
          have HW6 := Lib.hid hw6
          clear A6 X6 hw6 h5 UC H0 HU HOK d0 d1 d2 d3 d4 d5 d6 d7 d8 d9 d10 d11 d12
          go_wp2_with fail
          rw [HW6.out]
          clear HW6
          refine wp_region_held_drew (S := fun w' => w'.cell? ⟨w5.heap.size, 0, none⟩ = some (.int .i64 rk) ∧ w'.cell? ⟨w5.heap.size, 1, none⟩ = some (.int .i64 rm) ∧ w'.cell? ⟨w5.heap.size, 2, none⟩ = some (.int .i64 ra) ∧ w'.cell? ⟨w5.heap.size, 3, none⟩ = some (.int .i64 rb) ∧ w'.cell? ⟨w5.heap.size, 4, none⟩ = some (.int .i64 rc) ∧ w'.cell? ⟨w5.heap.size, 5, none⟩ = some (.int .i64 rd) ∧ w'.cell? ⟨w5.heap.size, 6, none⟩ = some (.int .i64 rx) ∧ w'.cell? ⟨w5.heap.size, 7, none⟩ = some (.int .i64 ry) ∧ w'.cell? ⟨w5.heap.size, 8, none⟩ = some (.slice aL nL cL) ∧ w'.cell? ⟨w5.heap.size, 9, none⟩ = some (.slice a0 n0 c0) ∧ w'.cell? ⟨w5.heap.size, 10, none⟩ = some (.slice a1 n1 c1) ∧ w'.cell? ⟨w5.heap.size, 11, none⟩ = some (.slice a2 n2 c2) ∧ w'.cell? ⟨w5.heap.size, 12, none⟩ = some (.slice a3 n3 c3) ∧ w'.cell? ⟨g, off + i * 13, none⟩ = some (.int .i64 q.k) ∧ w'.cell? ⟨g, off + i * 13 + 1, none⟩ = some (.int .i64 q.m) ∧ w'.cell? ⟨g, off + i * 13 + 2, none⟩ = some (.int .i64 q.a) ∧ w'.cell? ⟨g, off + i * 13 + 3, none⟩ = some (.int .i64 q.b) ∧ w'.cell? ⟨g, off + i * 13 + 4, none⟩ = some (.int .i64 q.c) ∧ w'.cell? ⟨g, off + i * 13 + 5, none⟩ = some (.int .i64 q.d) ∧ w'.cell? ⟨g, off + i * 13 + 6, none⟩ = some (.int .i64 q.x) ∧ w'.cell? ⟨g, off + i * 13 + 7, none⟩ = some (.int .i64 q.y) ∧ w'.cell? ⟨g, off + i * 13 + 8, none⟩ = some (.slice lL mL kL) ∧ w'.cell? ⟨g, off + i * 13 + 9, none⟩ = some (.slice l0 m0 k0) ∧ w'.cell? ⟨g, off + i * 13 + 10, none⟩ = some (.slice l1 m1 k1) ∧ w'.cell? ⟨g, off + i * 13 + 11, none⟩ = some (.slice l2 m2 k2) ∧ w'.cell? ⟨g, off + i * 13 + 12, none⟩ = some (.slice l3 m3 k3)) (by kernel_rfl) (⟨(HA6.out.ext ((Ext.refl w6).drew)).cell rfl, (HA6.out.ext ((Ext.refl w6).drew)).cell rfl, (HA6.out.ext ((Ext.refl w6).drew)).cell rfl, (HA6.out.ext ((Ext.refl w6).drew)).cell rfl, (HA6.out.ext ((Ext.refl w6).drew)).cell rfl, (HA6.out.ext ((Ext.refl w6).drew)).cell rfl, (HA6.out.ext ((Ext.refl w6).drew)).cell rfl, (HA6.out.ext ((Ext.refl w6).drew)).cell rfl, (HA6.out.ext ((Ext.refl w6).drew)).cell rfl, (HA6.out.ext ((Ext.refl w6).drew)).cell rfl, (HA6.out.ext ((Ext.refl w6).drew)).cell rfl, (HA6.out.ext ((Ext.refl w6).drew)).cell rfl, (HA6.out.ext ((Ext.refl w6).drew)).cell rfl, HC.out _ (HU6.out.out.trans ((Ext.refl w6).drew))⟩) (fun hHeld => ?_)
          refine wpAnyH_take (i := 0) (oi := { dst := some 67, op := Op.load 36 (Operand.tmp 11), type := 36, pos := "law.go:162", after := #[], guard := none }) (v := ?_) rfl (by kernel_rfl) (by kernel_rfl) (by kernel_rfl) (fun _ _ _ h => h) (Or.inl ⟨by rfl, ?_⟩) (by assumption) ?_
          case refine_2 => (intro w hSw; (try dsimp only at hSw); go_simp; (try with_reducible rfl))
          try simp only [Act.put, List.setIfInBounds_toArray, List.set_cons_zero, List.set_cons_succ]
          refine wpAnyH_take (i := 1) (oi := { dst := some 68, op := Op.move (Operand.tmp 0), type := 22, pos := "law.go:162", after := #[], guard := none }) (v := ?_) rfl (by kernel_rfl) (by kernel_rfl) (by kernel_rfl) (fun _ _ _ h => h) (Or.inl ⟨by rfl, ?_⟩) (by assumption) ?_
          case refine_2 => (intro w hSw; (try dsimp only at hSw); go_simp; (try with_reducible rfl))
          try simp only [Act.put, List.setIfInBounds_toArray, List.set_cons_zero, List.set_cons_succ]
          refine wpAnyH_take (i := 2) (oi := { dst := some 69, op := Op.move (Operand.tmp 9), type := 3, pos := "law.go:162", after := #[], guard := none }) (v := ?_) rfl (by kernel_rfl) (by kernel_rfl) (by kernel_rfl) (fun _ _ _ h => h) (Or.inl ⟨by rfl, ?_⟩) (by assumption) ?_
          case refine_2 => (intro w hSw; (try dsimp only at hSw); go_simp; (try with_reducible rfl))
          try simp only [Act.put, List.setIfInBounds_toArray, List.set_cons_zero, List.set_cons_succ]
          refine wpAnyH_take (i := 3) (oi := { dst := some 70, op := Op.indexAddr 22 (Operand.tmp 68) (Operand.tmp 69), type := 0, pos := "law.go:162", after := #[{ on := 1, ground := Ground.data }, { on := 2, ground := Ground.data }], guard := none }) (v := ?_) rfl (by kernel_rfl) (by kernel_rfl) (by kernel_rfl) (fun _ _ _ h => h) (Or.inl ⟨by rfl, ?_⟩) (by assumption) ?_
          case refine_2 => (intro w hSw; (try dsimp only at hSw); go_simp; (try with_reducible rfl))
          try simp only [Act.put, List.setIfInBounds_toArray, List.set_cons_zero, List.set_cons_succ]
          refine wpAnyH_take (i := 4) (oi := { dst := some 71, op := Op.load 36 (Operand.tmp 70), type := 36, pos := "law.go:162", after := #[{ on := 3, ground := Ground.data }], guard := none }) (v := ?_) rfl (by kernel_rfl) (by kernel_rfl) (by kernel_rfl) (fun _ _ _ h => h) (Or.inl ⟨by rfl, ?_⟩) (by assumption) ?_
          case refine_2 => (intro w hSw; (try dsimp only at hSw); go_simp; (try with_reducible rfl))
          try simp only [Act.put, List.setIfInBounds_toArray, List.set_cons_zero, List.set_cons_succ]
          refine wpAnyH_ready (rs := [5]) (by kernel_rfl) (by simp) ?_
          refine AllReadyH.cons (o := { dst := some 72, op := Op.call { callee := Callee.value (Operand.func 24), args := #[Operand.tmp 71], argTypes := #[36] }, type := 42, pos := "law.go:162", after := #[{ on := 4, ground := Ground.data }], guard := none }) rfl (fun K hK => ?_) AllReadyH.nil
          go_simp
          go_at_call 24
          refine (UP.out _ (HU6.out.out.trans ((Ext.refl w6).drew))).mono ?_; rintro e w7 ⟨yL, y0, y1, y2, y3, rfl, hx7, hy⟩
          have E7 := Lib.hid (((Ext.refl w6).drew).trans hx7)
          have HY := Lib.hid (hy _ (HSQ.out.ext (HU6.out.out.trans E7.out)))
          clear hx7 hy
          refine hK.out _ _ (⟨(HA6.out.ext E7.out).cell rfl, (HA6.out.ext E7.out).cell rfl, (HA6.out.ext E7.out).cell rfl, (HA6.out.ext E7.out).cell rfl, (HA6.out.ext E7.out).cell rfl, (HA6.out.ext E7.out).cell rfl, (HA6.out.ext E7.out).cell rfl, (HA6.out.ext E7.out).cell rfl, (HA6.out.ext E7.out).cell rfl, (HA6.out.ext E7.out).cell rfl, (HA6.out.ext E7.out).cell rfl, (HA6.out.ext E7.out).cell rfl, (HA6.out.ext E7.out).cell rfl, HC.out _ (HU6.out.out.trans E7.out)⟩) (fun hHeld => ?_)
          clear hK K
          try simp only [Act.put, List.setIfInBounds_toArray, List.set_cons_zero, List.set_cons_succ]
          refine wpAnyH_ready (rs := [6]) (by kernel_rfl) (by simp) ?_
          refine AllReadyH.cons (o := { dst := some 73, op := Op.call { callee := Callee.value (Operand.func 14), args := #[Operand.tmp 67, Operand.tmp 72], argTypes := #[36, 42] }, type := 4, pos := "law.go:162", after := #[{ on := 0, ground := Ground.data }, { on := 5, ground := Ground.data }, { on := 5, ground := Ground.chain }], guard := none }) rfl (fun K hK => ?_) AllReadyH.nil
          go_simp
          go_at_call 14
          refine (US.out _ _ _ _ _ _ _ _ _ _ _ (HSV.out.ext E7.out) HY.out).mono ?_; rintro e w8 ⟨rfl, hx8⟩
          have E8 := Lib.hid (E7.out.trans hx8)
          clear hx8 HY E7
          refine hK.out _ _ (⟨(HA6.out.ext E8.out).cell rfl, (HA6.out.ext E8.out).cell rfl, (HA6.out.ext E8.out).cell rfl, (HA6.out.ext E8.out).cell rfl, (HA6.out.ext E8.out).cell rfl, (HA6.out.ext E8.out).cell rfl, (HA6.out.ext E8.out).cell rfl, (HA6.out.ext E8.out).cell rfl, (HA6.out.ext E8.out).cell rfl, (HA6.out.ext E8.out).cell rfl, (HA6.out.ext E8.out).cell rfl, (HA6.out.ext E8.out).cell rfl, (HA6.out.ext E8.out).cell rfl, HC.out _ (HU6.out.out.trans E8.out)⟩) (fun hHeld => ?_)
          clear hK K
          try simp only [Act.put, List.setIfInBounds_toArray, List.set_cons_zero, List.set_cons_succ]
          refine wpAnyH_take (i := 7) (oi := { dst := some 74, op := Op.unOp UnOp.not 4 (Operand.tmp 73), type := 4, pos := "law.go:162", after := #[{ on := 6, ground := Ground.data }], guard := none }) (v := ?_) rfl (by kernel_rfl) (by kernel_rfl) (by kernel_rfl) (fun _ _ _ h => h) (Or.inl ⟨by rfl, ?_⟩) (by assumption) ?_
          case refine_2 => (intro w hSw; (try dsimp only at hSw); go_simp; (try with_reducible rfl))
          try simp only [Act.put, List.setIfInBounds_toArray, List.set_cons_zero, List.set_cons_succ]
          refine wpAnyH_done (by kernel_rfl) ?_ _
          have HU8 := Lib.hid (HU6.out.ext ((WrF.obj a).sep TlF.obj) E8.out)
          clear E8 HU6 HSV HA6 hHeld UP US
          go_wp2_with (at_builtin; refine push_tl (WrF.obj a) rfl _ _ 33 rfl Tryz.underlying33 (.slice ta n tc) T n _ _ (by rw [HTL.out, HN.out]) (by rfl) HU8.out (by rfl) (by omega) ?_; intro g8 c8 w9 h8; have H8 := Lib.hid h8; clear h8)
          go_roundw
          case rel => exact ⟨i + 1, D ++ [(kAt K i, q)], _, by omega, by go_num, HD2.out, H8.out⟩
          case measure => simp [intOf] <;> omega
    · have x2 : ¬ (i : Int) < (m : Int) := by omega
      have HOK : Hid (okS okEm (22164 * D.length) (wsS D)) := ws_okS HD.out.2.1
      have hB9 : (bsS D).length ≤ 4000000 := bsS_len HD.out.2.1 (by omega)
      obtain ⟨FW, hW⟩ := HU.out.l
      have UE := Lib.hid (mwend_any a (22164 * D.length) (wsS D) FW wr hW HOK.out (by omega))
      have HBL := Lib.hid (bsS_lt HD.out.2.1)
      clear hW
      go_wp2_with fail
      refine (UE.out).mono ?_; rintro e w4 ⟨g4, k4, c4, rfl, hl4, ho4, hx4⟩
      have hy4 := Bys_n ho4 hl4 HBL.out (by rw [← hl4]; exact Nat.le_trans hB9 (by omega))
      have HY4 : Hid (Bys w4 (.slice (some ⟨g4, 0, none⟩) k4 c4) (bsS D)) := hy4
      have HU4 := Lib.hid (HU.out.ext ((WrF.obj a).sep TlF.obj) hx4)
      clear hy4 ho4 hx4 UE HU
      go_wp2_with fail
      refine (mrnew_any _ _ _ HY4.out).mono ?_; rintro e w5 ⟨d, G, rfl, hG, hR, hx5⟩
      have OR := Lib.hid (((WrF.obj a).sep TlF.obj).sep (RdF.obj d (bsS D)))
      have HU5 : Hid (Uno (Sep (Sep (WrF a) TlF) (RdF d (bsS D))) u w5 ((wsS D, (.slice ta n tc, T)), rsS D jq.k 0)) := HU4.out.add ((WrF.obj a).sep TlF.obj) hx5 hR hG
      clear hG hR hx5 HU4 HY4 hl4 HOK hB9
      go_wp2_with fail
      go_loopw [14] (fun iv wr => ∃ j : Nat, j ≤ n ∧ iv = .int .i64 (j : Int) ∧ Hid (Uno (Sep (Sep (WrF a) TlF) (RdF d (bsS D))) u wr ((wsS D, (.slice ta n tc, T)), rsS D jq.k j))) (fun iv _ => n - (intOf iv).toNat)
      case atStart => exact ⟨0, Nat.zero_le _, rfl, HU5.out⟩
      case round =>
        clear HU5
        obtain ⟨j, hj, rfl, HU⟩ := hrel
        by_cases hjl : j < n
        · obtain ⟨p, hX⟩ : ∃ p, D[j]? = some p := ⟨_, List.getElem?_eq_getElem (by rw [HN.out]; exact hjl)⟩
          obtain ⟨t, ht1, ht2, ht3, ht4⟩ := HD.out.2.2 j p hX
          have HRO := Lib.hid (rs_oS HD.out.2.1 jq.k hX)
          have HRK : Hid (okS okDm (4 + 22164 * j) (rsS D jq.k j)) := rs_okS HD.out.2.1 jq.k j (by rw [HN.out]; omega)
          have HK3 := Lib.hid (parts_in (ask_out (HD.out.2.1 p (List.mem_of_getElem? hX))).1)
          obtain ⟨kb, q⟩ := p
          dsimp only at ht3 ht4
          have H1 := Lib.hid (HU.out.bag OR.out (P := fun _ => True) (fun _ => trivial))
          have HT1 := Lib.hid ht1
          have HKB := Lib.hid ht4
          have htm : t < m := by have := (List.getElem?_eq_some_iff.1 ht3).1; rw [HNL.out] at this; exact this
          obtain ⟨g, off, rfl, hsel⟩ := HOT.out.sel (by rw [HNL.out]; omega)
          obtain ⟨vL, v0, v1, v2, v3, hc, hr⟩ := hsel t q ht3
          have HSQ := Lib.hid (hr.is (HFW.out.2 t q ht3))
          obtain ⟨lL, mL, kL, rfl⟩ := HSQ.out.1.slf
          obtain ⟨l0, m0, k0, rfl⟩ := HSQ.out.2.1.slf
          obtain ⟨l1, m1, k1, rfl⟩ := HSQ.out.2.2.1.slf
          obtain ⟨l2, m2, k2, rfl⟩ := HSQ.out.2.2.2.1.slf
          obtain ⟨l3, m3, k3, rfl⟩ := HSQ.out.2.2.2.2.slf
          have HC : Hid (∀ w', Ext u w' → w'.cell? ⟨g, off + t * 13, none⟩ = some (.int .i64 q.k) ∧ w'.cell? ⟨g, off + t * 13 + 1, none⟩ = some (.int .i64 q.m) ∧ w'.cell? ⟨g, off + t * 13 + 2, none⟩ = some (.int .i64 q.a) ∧ w'.cell? ⟨g, off + t * 13 + 3, none⟩ = some (.int .i64 q.b) ∧ w'.cell? ⟨g, off + t * 13 + 4, none⟩ = some (.int .i64 q.c) ∧ w'.cell? ⟨g, off + t * 13 + 5, none⟩ = some (.int .i64 q.d) ∧ w'.cell? ⟨g, off + t * 13 + 6, none⟩ = some (.int .i64 q.x) ∧ w'.cell? ⟨g, off + t * 13 + 7, none⟩ = some (.int .i64 q.y) ∧ w'.cell? ⟨g, off + t * 13 + 8, none⟩ = some (.slice lL mL kL) ∧ w'.cell? ⟨g, off + t * 13 + 9, none⟩ = some (.slice l0 m0 k0) ∧ w'.cell? ⟨g, off + t * 13 + 10, none⟩ = some (.slice l1 m1 k1) ∧ w'.cell? ⟨g, off + t * 13 + 11, none⟩ = some (.slice l2 m2 k2) ∧ w'.cell? ⟨g, off + t * 13 + 12, none⟩ = some (.slice l3 m3 k3)) := fun w' h => ⟨h.cell (hc 0 _ rfl), h.cell (hc 1 _ rfl), h.cell (hc 2 _ rfl), h.cell (hc 3 _ rfl), h.cell (hc 4 _ rfl), h.cell (hc 5 _ rfl), h.cell (hc 6 _ rfl), h.cell (hc 7 _ rfl), h.cell (hc 8 _ rfl), h.cell (hc 9 _ rfl), h.cell (hc 10 _ rfl), h.cell (hc 11 _ rfl), h.cell (hc 12 _ rfl)⟩
          have y1 : (0 : Int) ≤ (j : Int) := by omega
          have y2 : (j : Int) < (n : Int) := by omega
          have z1 : (0 : Int) ≤ (t : Int) := by omega
          have z2 : (t : Int) < (m : Int) := by omega
          clear hX ht1 ht2 ht3 ht4 hsel hc hr HU
          obtain ⟨wb, hwb⟩ : ∃ z, z = wr := ⟨_, rfl⟩
          subst hwb
          by_cases hik : t < mk
          · obtain ⟨kc, hkc⟩ : ∃ o, K[t]? = some o := ⟨_, List.getElem?_eq_getElem (by rw [HNK.out]; exact hik)⟩
            obtain rfl : kc = kb := by rw [← HKB.out]; exact (kAt_lt hkc).symm
            obtain ⟨gk, ofk, rfl, hqk⟩ := HOK2.out.hadK (by rw [HNK.out]; omega)
            have ck := H1.out.out.cell (hqk t _ hkc)
            have y3 : (t : Int) < (mk : Int) := by omega
            clear hkc hqk
            obtain ⟨g2, hg2, t0⟩ := tl_cellS H1.out HT1.out
            subst hg2
            obtain ⟨d0, d1, d2, d3, d4, d5, d6, d7, d8, d9, d10, d11, d12⟩ := HC.out _ H1.out.out
            obtain ⟨e0, e1, e2, e3, e4, e5, e6, e7, e8, e9, e10, e11, e12⟩ := HJC.out _ H1.out.out
            have UY := Lib.hid (fun w' (h : Ext u w') => copied_forms jq _ _ _ _ _ w' (HJS.out.ext h) HJL.out)
            obtain ⟨qq, hqq⟩ : ∃ z, partS q = z := ⟨_, rfl⟩
            have hro := HRO.out
            rw [hqq] at hro
            have UR := Lib.hid (fun (vL v0 v1 v2 v3 : Value) w' (h : Uno (Sep (Sep (Sep (WrF a) TlF) (RdF d (bsS D))) HoF) u w' (((wsS D, (.slice (some ⟨g2, 0, none⟩) n tc, T)), rsS D jq.k j), fun _ => True)) (hL : SlF vL) (h0 : SlF v0) (h1 : SlF v1) (h2 : SlF v2) (h3 : SlF v3) => rsq_r (q := jq) ((WrF.obj a).sep TlF.obj) HBL.out h HRK.out (by omega) hro hL h0 h1 h2 h3)
            have UP := Lib.hid (fun w' (h : Ext u w') => prts_any q _ _ _ _ _ w' (HSQ.out.ext h) HK3.out)
            rw [hqq] at UP
            have US := Lib.hid (fun uL u0 u1 u2 u3 zL z0 z1 z2 z3 w' (h : SqIs w' qq uL u0 u1 u2 u3) (k : SqIs w' qq zL z0 z1 z2 z3) => same_sq qq uL u0 u1 u2 u3 zL z0 z1 z2 z3 w' h k)
            unfold KqP at UR
            unfold sqQ sqV at UR UP US UY
            obtain ⟨rk, hrk⟩ : ∃ z, qq.k = z := ⟨_, rfl⟩
            obtain ⟨rm, hrm⟩ : ∃ z, qq.m = z := ⟨_, rfl⟩
            obtain ⟨ra, hra⟩ : ∃ z, qq.a = z := ⟨_, rfl⟩
            obtain ⟨rb, hrb⟩ : ∃ z, qq.b = z := ⟨_, rfl⟩
            obtain ⟨rc, hrc⟩ : ∃ z, qq.c = z := ⟨_, rfl⟩
            obtain ⟨rd, hrd⟩ : ∃ z, qq.d = z := ⟨_, rfl⟩
            obtain ⟨rx, hrx⟩ : ∃ z, qq.x = z := ⟨_, rfl⟩
            obtain ⟨ry, hry⟩ : ∃ z, qq.y = z := ⟨_, rfl⟩
            rw [hrk, hrm, hra, hrb, hrc, hrd, hrx, hry] at UR UP US
            clear hrk hrm hra hrb hrc hrd hrx hry hqq hro
            go_wp2_with fail
            refine (UY.out _ H1.out.out).mono ?_; rintro e w4 ⟨z4, z0, z1, z2, z3, rfl, hx4, s4, s0, s1, s2, s3⟩
            have H4 := Lib.hid (bag_ext OR.out H1.out hx4)
            obtain ⟨_, _, _, rfl⟩ := s4
            obtain ⟨_, _, _, rfl⟩ := s0
            obtain ⟨_, _, _, rfl⟩ := s1
            obtain ⟨_, _, _, rfl⟩ := s2
            obtain ⟨_, _, _, rfl⟩ := s3
            clear hx4 H1 UY t0 d0 d1 d2 d3 d4 d5 d6 d7 d8 d9 d10 d11 d12 e0 e1 e2 e3 e4 e5 e6 e7 e8 e9 e10 e11 e12
            go_wp2_with fail
            refine (UR.out _ _ _ _ _ _ H4.out ⟨_, _, _, rfl⟩ ⟨_, _, _, rfl⟩ ⟨_, _, _, rfl⟩ ⟨_, _, _, rfl⟩ ⟨_, _, _, rfl⟩).mono ?_; rintro e w5 ⟨L5, p0, p1, p2, p3, x5, rfl, h5⟩
            obtain ⟨aL, nL, cL, rfl⟩ := h5.held.2.1.1.slf
            obtain ⟨a0, n0, c0, rfl⟩ := h5.held.2.1.2.1.slf
            obtain ⟨a1, n1, c1, rfl⟩ := h5.held.2.1.2.2.1.slf
            obtain ⟨a2, n2, c2, rfl⟩ := h5.held.2.1.2.2.2.1.slf
            obtain ⟨a3, n3, c3, rfl⟩ := h5.held.2.1.2.2.2.2.slf
            obtain rfl : x5 = .nilIface := h5.held.2.2
            have A6 := BoxIs.new w5 #[.int .i64 rk, .int .i64 rm, .int .i64 ra, .int .i64 rb, .int .i64 rc, .int .i64 rd, .int .i64 rx, .int .i64 ry, .slice aL nL cL, .slice a0 n0 c0, .slice a1 n1 c1, .slice a2 n2 c2, .slice a3 n3 c3] 36
            have X6 := (Ext.refl w5).alloc (.cells #[.int .i64 rk, .int .i64 rm, .int .i64 ra, .int .i64 rb, .int .i64 rc, .int .i64 rd, .int .i64 rx, .int .i64 ry, .slice aL nL cL, .slice a0 n0 c0, .slice a1 n1 c1, .slice a2 n2 c2, .slice a3 n3 c3] 36)
            obtain ⟨w6, hw6⟩ : ∃ z, w5.alloc (.cells #[.int .i64 rk, .int .i64 rm, .int .i64 ra, .int .i64 rb, .int .i64 rc, .int .i64 rd, .int .i64 rx, .int .i64 ry, .slice aL nL cL, .slice a0 n0 c0, .slice a1 n1 c1, .slice a2 n2 c2, .slice a3 n3 c3] 36) = z := ⟨_, rfl⟩
            rw [hw6] at A6 X6
            have HA6 := Lib.hid A6
            have H6 := Lib.hid (bag_ext OR.out h5 X6)
            have HW6 := Lib.hid hw6
            obtain ⟨g3, hg3, t6⟩ := tl_cellS H6.out HT1.out
            simp only [Option.some.injEq, Addr.mk.injEq, and_true] at hg3
            subst hg3
            have HT6 := Lib.hid t6
            clear A6 X6 hw6 h5 UR H4 t6
            go_wp2_with fail
            rw [HW6.out]
            clear HW6
            refine wp_region_held_drew (S := fun w' => w'.cell? ⟨w5.heap.size, 0, none⟩ = some (.int .i64 rk) ∧ w'.cell? ⟨w5.heap.size, 1, none⟩ = some (.int .i64 rm) ∧ w'.cell? ⟨w5.heap.size, 2, none⟩ = some (.int .i64 ra) ∧ w'.cell? ⟨w5.heap.size, 3, none⟩ = some (.int .i64 rb) ∧ w'.cell? ⟨w5.heap.size, 4, none⟩ = some (.int .i64 rc) ∧ w'.cell? ⟨w5.heap.size, 5, none⟩ = some (.int .i64 rd) ∧ w'.cell? ⟨w5.heap.size, 6, none⟩ = some (.int .i64 rx) ∧ w'.cell? ⟨w5.heap.size, 7, none⟩ = some (.int .i64 ry) ∧ w'.cell? ⟨w5.heap.size, 8, none⟩ = some (.slice aL nL cL) ∧ w'.cell? ⟨w5.heap.size, 9, none⟩ = some (.slice a0 n0 c0) ∧ w'.cell? ⟨w5.heap.size, 10, none⟩ = some (.slice a1 n1 c1) ∧ w'.cell? ⟨w5.heap.size, 11, none⟩ = some (.slice a2 n2 c2) ∧ w'.cell? ⟨w5.heap.size, 12, none⟩ = some (.slice a3 n3 c3) ∧ w'.cell? ⟨g2, j, none⟩ = some (.int .i64 (t : Int)) ∧ w'.cell? ⟨g, off + t * 13, none⟩ = some (.int .i64 q.k) ∧ w'.cell? ⟨g, off + t * 13 + 1, none⟩ = some (.int .i64 q.m) ∧ w'.cell? ⟨g, off + t * 13 + 2, none⟩ = some (.int .i64 q.a) ∧ w'.cell? ⟨g, off + t * 13 + 3, none⟩ = some (.int .i64 q.b) ∧ w'.cell? ⟨g, off + t * 13 + 4, none⟩ = some (.int .i64 q.c) ∧ w'.cell? ⟨g, off + t * 13 + 5, none⟩ = some (.int .i64 q.d) ∧ w'.cell? ⟨g, off + t * 13 + 6, none⟩ = some (.int .i64 q.x) ∧ w'.cell? ⟨g, off + t * 13 + 7, none⟩ = some (.int .i64 q.y) ∧ w'.cell? ⟨g, off + t * 13 + 8, none⟩ = some (.slice lL mL kL) ∧ w'.cell? ⟨g, off + t * 13 + 9, none⟩ = some (.slice l0 m0 k0) ∧ w'.cell? ⟨g, off + t * 13 + 10, none⟩ = some (.slice l1 m1 k1) ∧ w'.cell? ⟨g, off + t * 13 + 11, none⟩ = some (.slice l2 m2 k2) ∧ w'.cell? ⟨g, off + t * 13 + 12, none⟩ = some (.slice l3 m3 k3)) (by kernel_rfl) (⟨(HA6.out.ext ((Ext.refl w6).drew)).cell rfl, (HA6.out.ext ((Ext.refl w6).drew)).cell rfl, (HA6.out.ext ((Ext.refl w6).drew)).cell rfl, (HA6.out.ext ((Ext.refl w6).drew)).cell rfl, (HA6.out.ext ((Ext.refl w6).drew)).cell rfl, (HA6.out.ext ((Ext.refl w6).drew)).cell rfl, (HA6.out.ext ((Ext.refl w6).drew)).cell rfl, (HA6.out.ext ((Ext.refl w6).drew)).cell rfl, (HA6.out.ext ((Ext.refl w6).drew)).cell rfl, (HA6.out.ext ((Ext.refl w6).drew)).cell rfl, (HA6.out.ext ((Ext.refl w6).drew)).cell rfl, (HA6.out.ext ((Ext.refl w6).drew)).cell rfl, (HA6.out.ext ((Ext.refl w6).drew)).cell rfl, ((Ext.refl w6).drew).cell HT6.out, HC.out _ (H6.out.out.trans ((Ext.refl w6).drew))⟩) (fun hHeld => ?_)
            refine wpAnyH_take (i := 0) (oi := { dst := some 115, op := Op.move (Operand.tmp 17), type := 39, pos := "law.go:175", after := #[], guard := none }) (v := ?_) rfl (by kernel_rfl) (by kernel_rfl) (by kernel_rfl) (fun _ _ _ h => h) (Or.inl ⟨by rfl, ?_⟩) (by assumption) ?_
            case refine_2 => (intro w hSw; (try dsimp only at hSw); go_simp; (try with_reducible rfl))
            try simp only [Act.put, List.setIfInBounds_toArray, List.set_cons_zero, List.set_cons_succ]
            refine wpAnyH_take (i := 1) (oi := { dst := some 116, op := Op.binOp BinOp.neq 39 (Operand.tmp 115) (Operand.const Value.nilIface) 39, type := 4, pos := "law.go:175", after := #[{ on := 0, ground := Ground.data }], guard := none }) (v := ?_) rfl (by kernel_rfl) (by kernel_rfl) (by kernel_rfl) (fun _ _ _ h => h) (Or.inl ⟨by rfl, ?_⟩) (by assumption) ?_
            case refine_2 => (intro w hSw; (try dsimp only at hSw); go_simp; (try with_reducible rfl))
            try simp only [Act.put, List.setIfInBounds_toArray, List.set_cons_zero, List.set_cons_succ]
            refine wpAnyH_take (i := 2) (oi := { dst := some 117, op := Op.move (Operand.tmp 116), type := 4, pos := "law.go:175", after := #[{ on := 1, ground := Ground.data }], guard := none }) (v := ?_) rfl (by kernel_rfl) (by kernel_rfl) (by kernel_rfl) (fun _ _ _ h => h) (Or.inl ⟨by rfl, ?_⟩) (by assumption) ?_
            case refine_2 => (intro w hSw; (try dsimp only at hSw); go_simp; (try with_reducible rfl))
            try simp only [Act.put, List.setIfInBounds_toArray, List.set_cons_zero, List.set_cons_succ]
            refine wpAnyH_take (i := 3) (oi := { dst := some 118, op := Op.load 36 (Operand.tmp 16), type := 36, pos := "law.go:175", after := #[{ on := 2, ground := Ground.guard }], guard := some (2, false) }) (v := ?_) rfl (by kernel_rfl) (by kernel_rfl) (by kernel_rfl) (fun _ _ _ h => h) (Or.inl ⟨by rfl, ?_⟩) (by assumption) ?_
            case refine_2 => (intro w hSw; (try dsimp only at hSw); go_simp; (try with_reducible rfl))
            try simp only [Act.put, List.setIfInBounds_toArray, List.set_cons_zero, List.set_cons_succ]
            refine wpAnyH_take (i := 4) (oi := { dst := some 119, op := Op.move (Operand.tmp 0), type := 22, pos := "law.go:175", after := #[{ on := 2, ground := Ground.guard }], guard := some (2, false) }) (v := ?_) rfl (by kernel_rfl) (by kernel_rfl) (by kernel_rfl) (fun _ _ _ h => h) (Or.inl ⟨by rfl, ?_⟩) (by assumption) ?_
            case refine_2 => (intro w hSw; (try dsimp only at hSw); go_simp; (try with_reducible rfl))
            try simp only [Act.put, List.setIfInBounds_toArray, List.set_cons_zero, List.set_cons_succ]
            refine wpAnyH_take (i := 5) (oi := { dst := some 120, op := Op.move (Operand.tmp 8), type := 33, pos := "law.go:175", after := #[{ on := 2, ground := Ground.guard }], guard := some (2, false) }) (v := ?_) rfl (by kernel_rfl) (by kernel_rfl) (by kernel_rfl) (fun _ _ _ h => h) (Or.inl ⟨by rfl, ?_⟩) (by assumption) ?_
            case refine_2 => (intro w hSw; (try dsimp only at hSw); go_simp; (try with_reducible rfl))
            try simp only [Act.put, List.setIfInBounds_toArray, List.set_cons_zero, List.set_cons_succ]
            refine wpAnyH_take (i := 6) (oi := { dst := some 121, op := Op.move (Operand.tmp 14), type := 3, pos := "law.go:175", after := #[{ on := 2, ground := Ground.guard }], guard := some (2, false) }) (v := ?_) rfl (by kernel_rfl) (by kernel_rfl) (by kernel_rfl) (fun _ _ _ h => h) (Or.inl ⟨by rfl, ?_⟩) (by assumption) ?_
            case refine_2 => (intro w hSw; (try dsimp only at hSw); go_simp; (try with_reducible rfl))
            try simp only [Act.put, List.setIfInBounds_toArray, List.set_cons_zero, List.set_cons_succ]
            refine wpAnyH_take (i := 7) (oi := { dst := some 122, op := Op.indexAddr 33 (Operand.tmp 120) (Operand.tmp 121), type := 0, pos := "law.go:175", after := #[{ on := 5, ground := Ground.data }, { on := 6, ground := Ground.data }, { on := 2, ground := Ground.guard }], guard := some (2, false) }) (v := ?_) rfl (by kernel_rfl) (by kernel_rfl) (by kernel_rfl) (fun _ _ _ h => h) (Or.inl ⟨by rfl, ?_⟩) (by assumption) ?_
            case refine_2 => (intro w hSw; (try dsimp only at hSw); go_simp; (try with_reducible rfl))
            try simp only [Act.put, List.setIfInBounds_toArray, List.set_cons_zero, List.set_cons_succ]
            refine wpAnyH_take (i := 8) (oi := { dst := some 123, op := Op.load 3 (Operand.tmp 122), type := 3, pos := "law.go:175", after := #[{ on := 7, ground := Ground.data }, { on := 2, ground := Ground.guard }], guard := some (2, false) }) (v := ?_) rfl (by kernel_rfl) (by kernel_rfl) (by kernel_rfl) (fun _ _ _ h => h) (Or.inl ⟨by rfl, ?_⟩) (by assumption) ?_
            case refine_2 => (intro w hSw; (try dsimp only at hSw); go_simp; (try with_reducible rfl))
            try simp only [Act.put, List.setIfInBounds_toArray, List.set_cons_zero, List.set_cons_succ]
            refine wpAnyH_take (i := 9) (oi := { dst := some 124, op := Op.indexAddr 22 (Operand.tmp 119) (Operand.tmp 123), type := 0, pos := "law.go:175", after := #[{ on := 4, ground := Ground.data }, { on := 8, ground := Ground.data }, { on := 2, ground := Ground.guard }], guard := some (2, false) }) (v := ?_) rfl (by kernel_rfl) (by kernel_rfl) (by kernel_rfl) (fun _ _ _ h => h) (Or.inl ⟨by rfl, ?_⟩) (by assumption) ?_
            case refine_2 => (intro w hSw; (try dsimp only at hSw); go_simp; (try with_reducible rfl))
            try simp only [Act.put, List.setIfInBounds_toArray, List.set_cons_zero, List.set_cons_succ]
            refine wpAnyH_take (i := 10) (oi := { dst := some 125, op := Op.load 36 (Operand.tmp 124), type := 36, pos := "law.go:175", after := #[{ on := 9, ground := Ground.data }, { on := 2, ground := Ground.guard }], guard := some (2, false) }) (v := ?_) rfl (by kernel_rfl) (by kernel_rfl) (by kernel_rfl) (fun _ _ _ h => h) (Or.inl ⟨by rfl, ?_⟩) (by assumption) ?_
            case refine_2 => (intro w hSw; (try dsimp only at hSw); go_simp; (try with_reducible rfl))
            try simp only [Act.put, List.setIfInBounds_toArray, List.set_cons_zero, List.set_cons_succ]
            refine wpAnyH_ready (rs := [11]) (by kernel_rfl) (by simp) ?_
            refine AllReadyH.cons (o := { dst := some 126, op := Op.call { callee := Callee.value (Operand.func 24), args := #[Operand.tmp 125], argTypes := #[36] }, type := 42, pos := "law.go:175", after := #[{ on := 10, ground := Ground.data }, { on := 2, ground := Ground.chain }, { on := 2, ground := Ground.guard }], guard := some (2, false) }) rfl (fun K hK => ?_) AllReadyH.nil
            go_simp
            go_at_call 24
            refine (UP.out _ (H6.out.out.trans ((Ext.refl w6).drew))).mono ?_; rintro e w7 ⟨yL, y0, y1, y2, y3, rfl, hx7, hy⟩
            have E7 := Lib.hid (((Ext.refl w6).drew).trans hx7)
            have HY := Lib.hid (hy _ (HSQ.out.ext (H6.out.out.trans E7.out)))
            clear hx7 hy
            refine hK.out _ _ (⟨(HA6.out.ext E7.out).cell rfl, (HA6.out.ext E7.out).cell rfl, (HA6.out.ext E7.out).cell rfl, (HA6.out.ext E7.out).cell rfl, (HA6.out.ext E7.out).cell rfl, (HA6.out.ext E7.out).cell rfl, (HA6.out.ext E7.out).cell rfl, (HA6.out.ext E7.out).cell rfl, (HA6.out.ext E7.out).cell rfl, (HA6.out.ext E7.out).cell rfl, (HA6.out.ext E7.out).cell rfl, (HA6.out.ext E7.out).cell rfl, (HA6.out.ext E7.out).cell rfl, E7.out.cell HT6.out, HC.out _ (H6.out.out.trans E7.out)⟩) (fun hHeld => ?_)
            clear hK K
            try simp only [Act.put, List.setIfInBounds_toArray, List.set_cons_zero, List.set_cons_succ]
            refine wpAnyH_ready (rs := [12]) (by kernel_rfl) (by simp) ?_
            refine AllReadyH.cons (o := { dst := some 127, op := Op.call { callee := Callee.value (Operand.func 14), args := #[Operand.tmp 118, Operand.tmp 126], argTypes := #[36, 42] }, type := 4, pos := "law.go:175", after := #[{ on := 3, ground := Ground.data }, { on := 11, ground := Ground.data }, { on := 11, ground := Ground.chain }, { on := 2, ground := Ground.guard }], guard := some (2, false) }) rfl (fun K hK => ?_) AllReadyH.nil
            go_simp
            go_at_call 14
            refine (US.out _ _ _ _ _ _ _ _ _ _ _ (H6.out.held.2.1.ext E7.out) HY.out).mono ?_; rintro e w8 ⟨rfl, hx8⟩
            have E8 := Lib.hid (E7.out.trans hx8)
            clear hx8 HY E7
            refine hK.out _ _ (⟨(HA6.out.ext E8.out).cell rfl, (HA6.out.ext E8.out).cell rfl, (HA6.out.ext E8.out).cell rfl, (HA6.out.ext E8.out).cell rfl, (HA6.out.ext E8.out).cell rfl, (HA6.out.ext E8.out).cell rfl, (HA6.out.ext E8.out).cell rfl, (HA6.out.ext E8.out).cell rfl, (HA6.out.ext E8.out).cell rfl, (HA6.out.ext E8.out).cell rfl, (HA6.out.ext E8.out).cell rfl, (HA6.out.ext E8.out).cell rfl, (HA6.out.ext E8.out).cell rfl, E8.out.cell HT6.out, HC.out _ (H6.out.out.trans E8.out)⟩) (fun hHeld => ?_)
            clear hK K
            try simp only [Act.put, List.setIfInBounds_toArray, List.set_cons_zero, List.set_cons_succ]
            refine wpAnyH_take (i := 13) (oi := { dst := some 128, op := Op.unOp UnOp.not 4 (Operand.tmp 127), type := 4, pos := "law.go:175", after := #[{ on := 12, ground := Ground.data }, { on := 2, ground := Ground.guard }], guard := some (2, false) }) (v := ?_) rfl (by kernel_rfl) (by kernel_rfl) (by kernel_rfl) (fun _ _ _ h => h) (Or.inl ⟨by rfl, ?_⟩) (by assumption) ?_
            case refine_2 => (intro w hSw; (try dsimp only at hSw); go_simp; (try with_reducible rfl))
            try simp only [Act.put, List.setIfInBounds_toArray, List.set_cons_zero, List.set_cons_succ]
            refine wpAnyH_take (i := 14) (oi := { dst := some 129, op := Op.pick (Operand.tmp 117) (Operand.const (Value.bool true)) (Operand.tmp 128), type := 4, pos := "law.go:175", after := #[{ on := 2, ground := Ground.data }, { on := 13, ground := Ground.data }], guard := none }) (v := ?_) rfl (by kernel_rfl) (by kernel_rfl) (by kernel_rfl) (fun _ _ _ h => h) (Or.inl ⟨by rfl, ?_⟩) (by assumption) ?_
            case refine_2 => (intro w hSw; (try dsimp only at hSw); go_simp; (try with_reducible rfl))
            try simp only [Act.put, List.setIfInBounds_toArray, List.set_cons_zero, List.set_cons_succ]
            refine wpAnyH_done (by kernel_rfl) ?_ _
            have HU8 := Lib.hid ((bag_ext OR.out H6.out E8.out).fst)
            clear E8 H6 HA6 HT6 hHeld UP US
            go_wp2
            go_roundw
            case rel => exact ⟨j + 1, by omega, by go_num, HU8.out⟩
            case measure => simp [intOf] <;> omega
          · obtain rfl : kb = false := by rw [← HKB.out]; exact kAt_ge (by rw [HNK.out]; omega)
            have y3 : ¬ (t : Int) < (mk : Int) := by omega
            obtain ⟨g2, hg2, t0⟩ := tl_cellS H1.out HT1.out
            subst hg2
            obtain ⟨d0, d1, d2, d3, d4, d5, d6, d7, d8, d9, d10, d11, d12⟩ := HC.out _ H1.out.out
            obtain ⟨e0, e1, e2, e3, e4, e5, e6, e7, e8, e9, e10, e11, e12⟩ := HJC.out _ H1.out.out
            have UY := Lib.hid (fun w' (h : Ext u w') => copied_forms jq _ _ _ _ _ w' (HJS.out.ext h) HJL.out)
            obtain ⟨qq, hqq⟩ : ∃ z, partS q = z := ⟨_, rfl⟩
            have hro := HRO.out
            rw [hqq] at hro
            have UR := Lib.hid (fun (vL v0 v1 v2 v3 : Value) w' (h : Uno (Sep (Sep (Sep (WrF a) TlF) (RdF d (bsS D))) HoF) u w' (((wsS D, (.slice (some ⟨g2, 0, none⟩) n tc, T)), rsS D jq.k j), fun _ => True)) (hL : SlF vL) (h0 : SlF v0) (h1 : SlF v1) (h2 : SlF v2) (h3 : SlF v3) => rsq_r (q := jq) ((WrF.obj a).sep TlF.obj) HBL.out h HRK.out (by omega) hro hL h0 h1 h2 h3)
            have UP := Lib.hid (fun w' (h : Ext u w') => prts_any q _ _ _ _ _ w' (HSQ.out.ext h) HK3.out)
            rw [hqq] at UP
            have US := Lib.hid (fun uL u0 u1 u2 u3 zL z0 z1 z2 z3 w' (h : SqIs w' qq uL u0 u1 u2 u3) (k : SqIs w' qq zL z0 z1 z2 z3) => same_sq qq uL u0 u1 u2 u3 zL z0 z1 z2 z3 w' h k)
            unfold KqP at UR
            unfold sqQ sqV at UR UP US UY
            obtain ⟨rk, hrk⟩ : ∃ z, qq.k = z := ⟨_, rfl⟩
            obtain ⟨rm, hrm⟩ : ∃ z, qq.m = z := ⟨_, rfl⟩
            obtain ⟨ra, hra⟩ : ∃ z, qq.a = z := ⟨_, rfl⟩
            obtain ⟨rb, hrb⟩ : ∃ z, qq.b = z := ⟨_, rfl⟩
            obtain ⟨rc, hrc⟩ : ∃ z, qq.c = z := ⟨_, rfl⟩
            obtain ⟨rd, hrd⟩ : ∃ z, qq.d = z := ⟨_, rfl⟩
            obtain ⟨rx, hrx⟩ : ∃ z, qq.x = z := ⟨_, rfl⟩
            obtain ⟨ry, hry⟩ : ∃ z, qq.y = z := ⟨_, rfl⟩
            rw [hrk, hrm, hra, hrb, hrc, hrd, hrx, hry] at UR UP US
            clear hrk hrm hra hrb hrc hrd hrx hry hqq hro
            go_wp2_with fail
            refine (UY.out _ H1.out.out).mono ?_; rintro e w4 ⟨z4, z0, z1, z2, z3, rfl, hx4, s4, s0, s1, s2, s3⟩
            have H4 := Lib.hid (bag_ext OR.out H1.out hx4)
            obtain ⟨_, _, _, rfl⟩ := s4
            obtain ⟨_, _, _, rfl⟩ := s0
            obtain ⟨_, _, _, rfl⟩ := s1
            obtain ⟨_, _, _, rfl⟩ := s2
            obtain ⟨_, _, _, rfl⟩ := s3
            clear hx4 H1 UY t0 d0 d1 d2 d3 d4 d5 d6 d7 d8 d9 d10 d11 d12 e0 e1 e2 e3 e4 e5 e6 e7 e8 e9 e10 e11 e12
            go_wp2_with fail
            refine (UR.out _ _ _ _ _ _ H4.out ⟨_, _, _, rfl⟩ ⟨_, _, _, rfl⟩ ⟨_, _, _, rfl⟩ ⟨_, _, _, rfl⟩ ⟨_, _, _, rfl⟩).mono ?_; rintro e w5 ⟨L5, p0, p1, p2, p3, x5, rfl, h5⟩
            obtain ⟨aL, nL, cL, rfl⟩ := h5.held.2.1.1.slf
            obtain ⟨a0, n0, c0, rfl⟩ := h5.held.2.1.2.1.slf
            obtain ⟨a1, n1, c1, rfl⟩ := h5.held.2.1.2.2.1.slf
            obtain ⟨a2, n2, c2, rfl⟩ := h5.held.2.1.2.2.2.1.slf
            obtain ⟨a3, n3, c3, rfl⟩ := h5.held.2.1.2.2.2.2.slf
            obtain rfl : x5 = .nilIface := h5.held.2.2
            have A6 := BoxIs.new w5 #[.int .i64 rk, .int .i64 rm, .int .i64 ra, .int .i64 rb, .int .i64 rc, .int .i64 rd, .int .i64 rx, .int .i64 ry, .slice aL nL cL, .slice a0 n0 c0, .slice a1 n1 c1, .slice a2 n2 c2, .slice a3 n3 c3] 36
            have X6 := (Ext.refl w5).alloc (.cells #[.int .i64 rk, .int .i64 rm, .int .i64 ra, .int .i64 rb, .int .i64 rc, .int .i64 rd, .int .i64 rx, .int .i64 ry, .slice aL nL cL, .slice a0 n0 c0, .slice a1 n1 c1, .slice a2 n2 c2, .slice a3 n3 c3] 36)
            obtain ⟨w6, hw6⟩ : ∃ z, w5.alloc (.cells #[.int .i64 rk, .int .i64 rm, .int .i64 ra, .int .i64 rb, .int .i64 rc, .int .i64 rd, .int .i64 rx, .int .i64 ry, .slice aL nL cL, .slice a0 n0 c0, .slice a1 n1 c1, .slice a2 n2 c2, .slice a3 n3 c3] 36) = z := ⟨_, rfl⟩
            rw [hw6] at A6 X6
            have HA6 := Lib.hid A6
            have H6 := Lib.hid (bag_ext OR.out h5 X6)
            have HW6 := Lib.hid hw6
            obtain ⟨g3, hg3, t6⟩ := tl_cellS H6.out HT1.out
            simp only [Option.some.injEq, Addr.mk.injEq, and_true] at hg3
            subst hg3
            have HT6 := Lib.hid t6
            clear A6 X6 hw6 h5 UR H4 t6
            go_wp2_with fail
            rw [HW6.out]
            clear HW6
            refine wp_region_held_drew (S := fun w' => w'.cell? ⟨w5.heap.size, 0, none⟩ = some (.int .i64 rk) ∧ w'.cell? ⟨w5.heap.size, 1, none⟩ = some (.int .i64 rm) ∧ w'.cell? ⟨w5.heap.size, 2, none⟩ = some (.int .i64 ra) ∧ w'.cell? ⟨w5.heap.size, 3, none⟩ = some (.int .i64 rb) ∧ w'.cell? ⟨w5.heap.size, 4, none⟩ = some (.int .i64 rc) ∧ w'.cell? ⟨w5.heap.size, 5, none⟩ = some (.int .i64 rd) ∧ w'.cell? ⟨w5.heap.size, 6, none⟩ = some (.int .i64 rx) ∧ w'.cell? ⟨w5.heap.size, 7, none⟩ = some (.int .i64 ry) ∧ w'.cell? ⟨w5.heap.size, 8, none⟩ = some (.slice aL nL cL) ∧ w'.cell? ⟨w5.heap.size, 9, none⟩ = some (.slice a0 n0 c0) ∧ w'.cell? ⟨w5.heap.size, 10, none⟩ = some (.slice a1 n1 c1) ∧ w'.cell? ⟨w5.heap.size, 11, none⟩ = some (.slice a2 n2 c2) ∧ w'.cell? ⟨w5.heap.size, 12, none⟩ = some (.slice a3 n3 c3) ∧ w'.cell? ⟨g2, j, none⟩ = some (.int .i64 (t : Int)) ∧ w'.cell? ⟨g, off + t * 13, none⟩ = some (.int .i64 q.k) ∧ w'.cell? ⟨g, off + t * 13 + 1, none⟩ = some (.int .i64 q.m) ∧ w'.cell? ⟨g, off + t * 13 + 2, none⟩ = some (.int .i64 q.a) ∧ w'.cell? ⟨g, off + t * 13 + 3, none⟩ = some (.int .i64 q.b) ∧ w'.cell? ⟨g, off + t * 13 + 4, none⟩ = some (.int .i64 q.c) ∧ w'.cell? ⟨g, off + t * 13 + 5, none⟩ = some (.int .i64 q.d) ∧ w'.cell? ⟨g, off + t * 13 + 6, none⟩ = some (.int .i64 q.x) ∧ w'.cell? ⟨g, off + t * 13 + 7, none⟩ = some (.int .i64 q.y) ∧ w'.cell? ⟨g, off + t * 13 + 8, none⟩ = some (.slice lL mL kL) ∧ w'.cell? ⟨g, off + t * 13 + 9, none⟩ = some (.slice l0 m0 k0) ∧ w'.cell? ⟨g, off + t * 13 + 10, none⟩ = some (.slice l1 m1 k1) ∧ w'.cell? ⟨g, off + t * 13 + 11, none⟩ = some (.slice l2 m2 k2) ∧ w'.cell? ⟨g, off + t * 13 + 12, none⟩ = some (.slice l3 m3 k3)) (by kernel_rfl) (⟨(HA6.out.ext ((Ext.refl w6).drew)).cell rfl, (HA6.out.ext ((Ext.refl w6).drew)).cell rfl, (HA6.out.ext ((Ext.refl w6).drew)).cell rfl, (HA6.out.ext ((Ext.refl w6).drew)).cell rfl, (HA6.out.ext ((Ext.refl w6).drew)).cell rfl, (HA6.out.ext ((Ext.refl w6).drew)).cell rfl, (HA6.out.ext ((Ext.refl w6).drew)).cell rfl, (HA6.out.ext ((Ext.refl w6).drew)).cell rfl, (HA6.out.ext ((Ext.refl w6).drew)).cell rfl, (HA6.out.ext ((Ext.refl w6).drew)).cell rfl, (HA6.out.ext ((Ext.refl w6).drew)).cell rfl, (HA6.out.ext ((Ext.refl w6).drew)).cell rfl, (HA6.out.ext ((Ext.refl w6).drew)).cell rfl, ((Ext.refl w6).drew).cell HT6.out, HC.out _ (H6.out.out.trans ((Ext.refl w6).drew))⟩) (fun hHeld => ?_)
            refine wpAnyH_take (i := 0) (oi := { dst := some 115, op := Op.move (Operand.tmp 17), type := 39, pos := "law.go:175", after := #[], guard := none }) (v := ?_) rfl (by kernel_rfl) (by kernel_rfl) (by kernel_rfl) (fun _ _ _ h => h) (Or.inl ⟨by rfl, ?_⟩) (by assumption) ?_
            case refine_2 => (intro w hSw; (try dsimp only at hSw); go_simp; (try with_reducible rfl))
            try simp only [Act.put, List.setIfInBounds_toArray, List.set_cons_zero, List.set_cons_succ]
            refine wpAnyH_take (i := 1) (oi := { dst := some 116, op := Op.binOp BinOp.neq 39 (Operand.tmp 115) (Operand.const Value.nilIface) 39, type := 4, pos := "law.go:175", after := #[{ on := 0, ground := Ground.data }], guard := none }) (v := ?_) rfl (by kernel_rfl) (by kernel_rfl) (by kernel_rfl) (fun _ _ _ h => h) (Or.inl ⟨by rfl, ?_⟩) (by assumption) ?_
            case refine_2 => (intro w hSw; (try dsimp only at hSw); go_simp; (try with_reducible rfl))
            try simp only [Act.put, List.setIfInBounds_toArray, List.set_cons_zero, List.set_cons_succ]
            refine wpAnyH_take (i := 2) (oi := { dst := some 117, op := Op.move (Operand.tmp 116), type := 4, pos := "law.go:175", after := #[{ on := 1, ground := Ground.data }], guard := none }) (v := ?_) rfl (by kernel_rfl) (by kernel_rfl) (by kernel_rfl) (fun _ _ _ h => h) (Or.inl ⟨by rfl, ?_⟩) (by assumption) ?_
            case refine_2 => (intro w hSw; (try dsimp only at hSw); go_simp; (try with_reducible rfl))
            try simp only [Act.put, List.setIfInBounds_toArray, List.set_cons_zero, List.set_cons_succ]
            refine wpAnyH_take (i := 3) (oi := { dst := some 118, op := Op.load 36 (Operand.tmp 16), type := 36, pos := "law.go:175", after := #[{ on := 2, ground := Ground.guard }], guard := some (2, false) }) (v := ?_) rfl (by kernel_rfl) (by kernel_rfl) (by kernel_rfl) (fun _ _ _ h => h) (Or.inl ⟨by rfl, ?_⟩) (by assumption) ?_
            case refine_2 => (intro w hSw; (try dsimp only at hSw); go_simp; (try with_reducible rfl))
            try simp only [Act.put, List.setIfInBounds_toArray, List.set_cons_zero, List.set_cons_succ]
            refine wpAnyH_take (i := 4) (oi := { dst := some 119, op := Op.move (Operand.tmp 0), type := 22, pos := "law.go:175", after := #[{ on := 2, ground := Ground.guard }], guard := some (2, false) }) (v := ?_) rfl (by kernel_rfl) (by kernel_rfl) (by kernel_rfl) (fun _ _ _ h => h) (Or.inl ⟨by rfl, ?_⟩) (by assumption) ?_
            case refine_2 => (intro w hSw; (try dsimp only at hSw); go_simp; (try with_reducible rfl))
            try simp only [Act.put, List.setIfInBounds_toArray, List.set_cons_zero, List.set_cons_succ]
            refine wpAnyH_take (i := 5) (oi := { dst := some 120, op := Op.move (Operand.tmp 8), type := 33, pos := "law.go:175", after := #[{ on := 2, ground := Ground.guard }], guard := some (2, false) }) (v := ?_) rfl (by kernel_rfl) (by kernel_rfl) (by kernel_rfl) (fun _ _ _ h => h) (Or.inl ⟨by rfl, ?_⟩) (by assumption) ?_
            case refine_2 => (intro w hSw; (try dsimp only at hSw); go_simp; (try with_reducible rfl))
            try simp only [Act.put, List.setIfInBounds_toArray, List.set_cons_zero, List.set_cons_succ]
            refine wpAnyH_take (i := 6) (oi := { dst := some 121, op := Op.move (Operand.tmp 14), type := 3, pos := "law.go:175", after := #[{ on := 2, ground := Ground.guard }], guard := some (2, false) }) (v := ?_) rfl (by kernel_rfl) (by kernel_rfl) (by kernel_rfl) (fun _ _ _ h => h) (Or.inl ⟨by rfl, ?_⟩) (by assumption) ?_
            case refine_2 => (intro w hSw; (try dsimp only at hSw); go_simp; (try with_reducible rfl))
            try simp only [Act.put, List.setIfInBounds_toArray, List.set_cons_zero, List.set_cons_succ]
            refine wpAnyH_take (i := 7) (oi := { dst := some 122, op := Op.indexAddr 33 (Operand.tmp 120) (Operand.tmp 121), type := 0, pos := "law.go:175", after := #[{ on := 5, ground := Ground.data }, { on := 6, ground := Ground.data }, { on := 2, ground := Ground.guard }], guard := some (2, false) }) (v := ?_) rfl (by kernel_rfl) (by kernel_rfl) (by kernel_rfl) (fun _ _ _ h => h) (Or.inl ⟨by rfl, ?_⟩) (by assumption) ?_
            case refine_2 => (intro w hSw; (try dsimp only at hSw); go_simp; (try with_reducible rfl))
            try simp only [Act.put, List.setIfInBounds_toArray, List.set_cons_zero, List.set_cons_succ]
            refine wpAnyH_take (i := 8) (oi := { dst := some 123, op := Op.load 3 (Operand.tmp 122), type := 3, pos := "law.go:175", after := #[{ on := 7, ground := Ground.data }, { on := 2, ground := Ground.guard }], guard := some (2, false) }) (v := ?_) rfl (by kernel_rfl) (by kernel_rfl) (by kernel_rfl) (fun _ _ _ h => h) (Or.inl ⟨by rfl, ?_⟩) (by assumption) ?_
            case refine_2 => (intro w hSw; (try dsimp only at hSw); go_simp; (try with_reducible rfl))
            try simp only [Act.put, List.setIfInBounds_toArray, List.set_cons_zero, List.set_cons_succ]
            refine wpAnyH_take (i := 9) (oi := { dst := some 124, op := Op.indexAddr 22 (Operand.tmp 119) (Operand.tmp 123), type := 0, pos := "law.go:175", after := #[{ on := 4, ground := Ground.data }, { on := 8, ground := Ground.data }, { on := 2, ground := Ground.guard }], guard := some (2, false) }) (v := ?_) rfl (by kernel_rfl) (by kernel_rfl) (by kernel_rfl) (fun _ _ _ h => h) (Or.inl ⟨by rfl, ?_⟩) (by assumption) ?_
            case refine_2 => (intro w hSw; (try dsimp only at hSw); go_simp; (try with_reducible rfl))
            try simp only [Act.put, List.setIfInBounds_toArray, List.set_cons_zero, List.set_cons_succ]
            refine wpAnyH_take (i := 10) (oi := { dst := some 125, op := Op.load 36 (Operand.tmp 124), type := 36, pos := "law.go:175", after := #[{ on := 9, ground := Ground.data }, { on := 2, ground := Ground.guard }], guard := some (2, false) }) (v := ?_) rfl (by kernel_rfl) (by kernel_rfl) (by kernel_rfl) (fun _ _ _ h => h) (Or.inl ⟨by rfl, ?_⟩) (by assumption) ?_
            case refine_2 => (intro w hSw; (try dsimp only at hSw); go_simp; (try with_reducible rfl))
            try simp only [Act.put, List.setIfInBounds_toArray, List.set_cons_zero, List.set_cons_succ]
            refine wpAnyH_ready (rs := [11]) (by kernel_rfl) (by simp) ?_
            refine AllReadyH.cons (o := { dst := some 126, op := Op.call { callee := Callee.value (Operand.func 24), args := #[Operand.tmp 125], argTypes := #[36] }, type := 42, pos := "law.go:175", after := #[{ on := 10, ground := Ground.data }, { on := 2, ground := Ground.chain }, { on := 2, ground := Ground.guard }], guard := some (2, false) }) rfl (fun K hK => ?_) AllReadyH.nil
            go_simp
            go_at_call 24
            refine (UP.out _ (H6.out.out.trans ((Ext.refl w6).drew))).mono ?_; rintro e w7 ⟨yL, y0, y1, y2, y3, rfl, hx7, hy⟩
            have E7 := Lib.hid (((Ext.refl w6).drew).trans hx7)
            have HY := Lib.hid (hy _ (HSQ.out.ext (H6.out.out.trans E7.out)))
            clear hx7 hy
            refine hK.out _ _ (⟨(HA6.out.ext E7.out).cell rfl, (HA6.out.ext E7.out).cell rfl, (HA6.out.ext E7.out).cell rfl, (HA6.out.ext E7.out).cell rfl, (HA6.out.ext E7.out).cell rfl, (HA6.out.ext E7.out).cell rfl, (HA6.out.ext E7.out).cell rfl, (HA6.out.ext E7.out).cell rfl, (HA6.out.ext E7.out).cell rfl, (HA6.out.ext E7.out).cell rfl, (HA6.out.ext E7.out).cell rfl, (HA6.out.ext E7.out).cell rfl, (HA6.out.ext E7.out).cell rfl, E7.out.cell HT6.out, HC.out _ (H6.out.out.trans E7.out)⟩) (fun hHeld => ?_)
            clear hK K
            try simp only [Act.put, List.setIfInBounds_toArray, List.set_cons_zero, List.set_cons_succ]
            refine wpAnyH_ready (rs := [12]) (by kernel_rfl) (by simp) ?_
            refine AllReadyH.cons (o := { dst := some 127, op := Op.call { callee := Callee.value (Operand.func 14), args := #[Operand.tmp 118, Operand.tmp 126], argTypes := #[36, 42] }, type := 4, pos := "law.go:175", after := #[{ on := 3, ground := Ground.data }, { on := 11, ground := Ground.data }, { on := 11, ground := Ground.chain }, { on := 2, ground := Ground.guard }], guard := some (2, false) }) rfl (fun K hK => ?_) AllReadyH.nil
            go_simp
            go_at_call 14
            refine (US.out _ _ _ _ _ _ _ _ _ _ _ (H6.out.held.2.1.ext E7.out) HY.out).mono ?_; rintro e w8 ⟨rfl, hx8⟩
            have E8 := Lib.hid (E7.out.trans hx8)
            clear hx8 HY E7
            refine hK.out _ _ (⟨(HA6.out.ext E8.out).cell rfl, (HA6.out.ext E8.out).cell rfl, (HA6.out.ext E8.out).cell rfl, (HA6.out.ext E8.out).cell rfl, (HA6.out.ext E8.out).cell rfl, (HA6.out.ext E8.out).cell rfl, (HA6.out.ext E8.out).cell rfl, (HA6.out.ext E8.out).cell rfl, (HA6.out.ext E8.out).cell rfl, (HA6.out.ext E8.out).cell rfl, (HA6.out.ext E8.out).cell rfl, (HA6.out.ext E8.out).cell rfl, (HA6.out.ext E8.out).cell rfl, E8.out.cell HT6.out, HC.out _ (H6.out.out.trans E8.out)⟩) (fun hHeld => ?_)
            clear hK K
            try simp only [Act.put, List.setIfInBounds_toArray, List.set_cons_zero, List.set_cons_succ]
            refine wpAnyH_take (i := 13) (oi := { dst := some 128, op := Op.unOp UnOp.not 4 (Operand.tmp 127), type := 4, pos := "law.go:175", after := #[{ on := 12, ground := Ground.data }, { on := 2, ground := Ground.guard }], guard := some (2, false) }) (v := ?_) rfl (by kernel_rfl) (by kernel_rfl) (by kernel_rfl) (fun _ _ _ h => h) (Or.inl ⟨by rfl, ?_⟩) (by assumption) ?_
            case refine_2 => (intro w hSw; (try dsimp only at hSw); go_simp; (try with_reducible rfl))
            try simp only [Act.put, List.setIfInBounds_toArray, List.set_cons_zero, List.set_cons_succ]
            refine wpAnyH_take (i := 14) (oi := { dst := some 129, op := Op.pick (Operand.tmp 117) (Operand.const (Value.bool true)) (Operand.tmp 128), type := 4, pos := "law.go:175", after := #[{ on := 2, ground := Ground.data }, { on := 13, ground := Ground.data }], guard := none }) (v := ?_) rfl (by kernel_rfl) (by kernel_rfl) (by kernel_rfl) (fun _ _ _ h => h) (Or.inl ⟨by rfl, ?_⟩) (by assumption) ?_
            case refine_2 => (intro w hSw; (try dsimp only at hSw); go_simp; (try with_reducible rfl))
            try simp only [Act.put, List.setIfInBounds_toArray, List.set_cons_zero, List.set_cons_succ]
            refine wpAnyH_done (by kernel_rfl) ?_ _
            have HU8 := Lib.hid ((bag_ext OR.out H6.out E8.out).fst)
            clear E8 H6 HA6 HT6 hHeld UP US
            go_wp2
            go_roundw
            case rel => exact ⟨j + 1, by omega, by go_num, HU8.out⟩
            case measure => simp [intOf] <;> omega
        · have y2 : ¬ (j : Int) < (n : Int) := by omega
          go_wp2_with fail
          refine (first20_any _ (HET.out.ext HU.out.out)).mono ?_; rintro e w6 ⟨rfl, hx6⟩
          go_wp2
          go_ret
          exact ⟨rfl, HEU.out.trans (HU.out.out.trans hx6)⟩
end Go.Proofs.YtpofabebmeickaaGreatDoor

