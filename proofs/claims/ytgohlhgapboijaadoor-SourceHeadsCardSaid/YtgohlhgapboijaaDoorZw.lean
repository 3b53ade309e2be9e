/- Contracts of this seat: Shd. -/
import Derived.Test.YtgohlhgapboijaaDoorZv
import Derived.Test.YtgohlhgapboijaaDoorZr
import Derived.Deep.QuietTactic
import Derived.BigQuiet
/- kinlaw15.SourceHeads: the walk. -/
namespace Go.Proofs.YtgohlhgapboijaaDoor
set_option linter.unusedVariables false
set_option linter.unusedSimpArgs false
open Go.RowKit Go.Extern.Stop Go.Stop Go.Extern

theorem fms_one {w : World} {g off n cap : Nat} {L : List Fr} (h : Fms w (.slice (some ⟨g, off, none⟩) n cap) L) {q : Nat} (hq : q < L.length) (c : Nat) : Fms w (.slice (some ⟨g, off + q * 3, none⟩) 1 c) [frAt L q] :=
  ⟨some ⟨g, off + q * 3, none⟩, c, rfl, fun _ => ⟨g, off + q * 3, rfl, fun j f hj => by
    have hj0 : j = 0 := by have := (List.getElem?_eq_some_iff.1 hj).1; simp only [List.length_cons, List.length_nil] at this; omega
    subst hj0
    obtain rfl := Option.some.inj hj
    simpa using h.at (frAt_get hq)⟩⟩
theorem small_one {L : List Fr} (hs : Small L) (q : Nat) : Small [frAt L q] := ⟨by simp, fun j => by
  by_cases hj : j = 0
  · subst hj
    exact hs.2 q
  · unfold frAt
    rw [List.getD, List.getElem?_eq_none (by simp only [List.length_cons, List.length_nil]; omega)]
    decide⟩
theorem en_six {L : List Fr} (hc : ckF L = none) : 6 ≤ (enBytes L).length := by
  obtain ⟨h0, hm, -, -⟩ := ckF_none hc
  obtain ⟨m, he⟩ := enB_part (L := L) (i := 0) h0
  have h := hm 0 h0
  have hz : (frAt L 0).2.2.length ≤ 1024 := by have := may_area h; have := h.2.2.1; omega
  have := (frBits_le hz).1
  rw [en_len, he]
  simp only [List.length_append]
  omega
theorem sumB_small {L : List Fr} (hc : ckF L = none) {i : Nat} (hi : i ≤ L.length) : sumB L i ≤ 1000000 := by
  obtain ⟨-, hm, -, h16⟩ := ckF_none hc
  have h1 := (sumB_is hi).2
  have h2 := enB_le hm i hi
  omega
theorem str_ks : strOf [75, 83] = { data := #[75, 83] } := by rfl
set_option maxHeartbeats 8000000 in
set_option maxRecDepth 100000 in
theorem heads_few (L : List Fr) (v : Value) (w : World) (hg : EtIs w) (hT : PwIs w) (h : Fms w v L) (hp : pixB L = true) (hcap : ∀ (a : Option Addr) (n cap : Nat), v = .slice a n cap → n ≤ cap ∧ cap ≤ maxLen) :
    Calls Tryd.prog 12 #[v] w fun e w' => e = .returned (.bool true) ∧ Ext w w' := by
  have hs := few_small hp
  have HS := Lib.hid hs
  have UF := Lib.hid (fun (W : World) (k : Ext w W) => few15_all L v W (h.ext k))
  rw [hp] at UF
  obtain ⟨a, cap, rfl⟩ := h.form
  obtain ⟨n, hn⟩ : ∃ n, L.length = n := ⟨_, rfl⟩
  rw [hn] at h UF hcap ⊢
  obtain ⟨hc1, hc2⟩ := hcap _ _ _ rfl
  unfold maxLen at hc2
  have HN := Lib.hid hn
  have HF := Lib.hid h
  have HG := Lib.hid hg
  have HT := Lib.hid hT
  clear h hg hT hn hs hp hcap
  go_enter Tryd.func12, Tryd.ntmps12
  go_wp2_with fail
  refine (first15_any _ HG.out HT.out).mono ?_; rintro e w1 ⟨rfl, x1⟩
  have HX1 := Lib.hid x1
  clear x1
  go_wp2_with fail
  refine (UF.out _ HX1.out).mono ?_; rintro e w2 ⟨rfl, x2⟩
  have HX2 := Lib.hid (HX1.out.trans x2)
  clear x2 HX1 UF
  go_wp2_with fail
  refine (sencode_any L _ _ (HF.out.ext HX2.out) HS.out).mono ?_; rintro e w3 ⟨bv, xe, rfl, x3, he, hb, hnb⟩
  have HX3 := Lib.hid (HX2.out.trans x3)
  cases hck : ckF L with
  | some fc =>
    rw [hck] at he
    obtain ⟨tx, vx, rfl⟩ := ErrIs.ne he
    have hbv := hnb (by rw [hck]; simp)
    subst hbv
    clear he hb hnb hck x3
    go_wp2_with fail
    refine (first15_any _ (HG.out.ext HX3.out) (HT.out.ext HX3.out)).mono ?_; rintro e w4 ⟨rfl, x4⟩
    go_wp2
    go_ret
    exact ⟨rfl, HX3.out.trans x4⟩
  | none =>
    rw [hck] at he
    have hxe : xe = .nilIface := he
    subst hxe
    have HCK := Lib.hid hck
    have hby := (hb hck).1
    have hl6 := en_six hck
    have hlm := (enBytes_lt hck).2.2
    obtain ⟨h0, hm, ha, h16⟩ := ckF_none hck
    obtain ⟨X, Y, hX, hY, hX4, hY4, hq, hE⟩ := sidesN hm ha h0
    rw [HN.out] at h0 h16 hE
    obtain ⟨bs, hbs⟩ : ∃ bs, enBytes L = bs := ⟨_, rfl⟩
    have HBS := Lib.hid hbs
    rw [hbs] at hby hl6 hlm hE
    obtain ⟨N, hN⟩ : ∃ N, bs.length = N := ⟨_, rfl⟩
    have HNN := Lib.hid hN
    obtain ⟨ba, bc, rfl⟩ := hby.form
    rw [hN] at hby hl6 hlm ⊢
    obtain ⟨g1, off1, rfl⟩ := hby.had (by omega)
    have hcp := hby.caps
    have hb2 := hby.at (j := 2) (x := X) (by rw [hE]; rfl)
    have hb3 := hby.at (j := 3) (x := Y) (by rw [hE]; rfl)
    have hb4 := hby.at (j := 4) (x := n) (by rw [hE]; rfl)
    have CV := Lib.hid (fun i => conv_bys (w := w3.drewN i) ((hby.ext ((Ext.refl w3).drewN i)).upto15 (k := 2) (by omega)))
    rw [show bs.take 2 = [75, 83] by rw [hE]; rfl, str_ks] at CV
    obtain ⟨g, off, rfl⟩ := HF.out.had h0
    obtain ⟨fa, fn, fc, c0, c1, -, -⟩ := fms_frame (HF.out.ext HX3.out) HS.out (q := 0) (by rw [HN.out]; exact h0)
    rw [show off + 0 * 3 = off by omega] at c0 c1
    rw [(hq 0 (by rw [HN.out]; exact h0)).1] at c0
    rw [(hq 0 (by rw [HN.out]; exact h0)).2] at c1
    obtain ⟨W, hW⟩ : ∃ W, 8 * X = W := ⟨_, rfl⟩
    obtain ⟨H, hH⟩ : ∃ H, 8 * Y = H := ⟨_, rfl⟩
    rw [hW] at c0
    rw [hH] at c1
    have e1 : decide ((N : Int) < 6) = false := decide_eq_false (by omega)
    have e2 : IntKind.i64.wrap (X : Int) = (X : Int) := by rw [IntKind.wrap_i64]; omega
    have e3 : IntKind.i64.wrap (Y : Int) = (Y : Int) := by rw [IntKind.wrap_i64]; omega
    have e4 : IntKind.i64.wrap (n : Int) = (n : Int) := by rw [IntKind.wrap_i64]; omega
    have e5 : IntKind.i64.wrap (8 * (X : Int)) = (W : Int) := by rw [IntKind.wrap_i64]; omega
    have e6 : IntKind.i64.wrap (8 * (Y : Int)) = (H : Int) := by rw [IntKind.wrap_i64]; omega
    have e7 : ((W : Int) != (W : Int)) = false := by simp
    have e8 : ((H : Int) != (H : Int)) = false := by simp
    have e9 : ((n : Int) != (n : Int)) = false := by simp
    have hss : (({ data := #[75, 83] } : ByteArray) != { data := #[75, 83] }) = false := by
      unfold bne
      rw [beq_toListBytes]
      simp
    have s2 : (2 : Int) ≤ (bc : Int) := by omega
    have s3 : (2 : Int) < (N : Int) := by omega
    have s4 : (3 : Int) < (N : Int) := by omega
    have s5 : (4 : Int) < (N : Int) := by omega
    have s6 : (0 : Int) < (n : Int) := by omega
    have s7 : 0 < n := by omega
    have cv0 := CV.out
    clear he hb hnb hck x3 hby hbs hN hm ha hX hY hE hq hW hH h0
    go_wp2_with fail
    go_quiet (fail)
    have HX4 := Lib.hid (HX3.out.drewN nq)
    clear cv0 CV hb2 hb3 hb4 c0 c1 e1 e5 e6 e7 e8 e9 hss
    revert HX4
    generalize w3.drewN nq = w4
    intro HX4
    go_wp2_with fail
    go_loopw [5, 6] (fun sv iv wr => ∃ (i s : Nat), i ≤ n ∧ iv = .int .i64 (i : Int) ∧ sv = .int .i64 (s : Int) ∧ Hid (s = 5 + sumB L i) ∧ Hid (Ext w wr)) (fun _ iv _ => n - (intOf iv).toNat)
    case atStart => exact ⟨0, 5, Nat.zero_le _, rfl, rfl, rfl, HX4⟩
    case round =>
      obtain ⟨i, s, hi, rfl, rfl, HSB, HE⟩ := hrel
      by_cases hlt : i < n
      · have hLi : i < L.length := by rw [HN.out]; exact hlt
        have hck := ck_one (ckF_none HCK.out).2.1 hLi
        have HF1 := Lib.hid (fms_one (HF.out.ext HE.out) hLi (cap - i))
        have UE := Lib.hid (sencode_any [frAt L i] _ _ HF1.out (small_one HS.out i))
        obtain ⟨ra, rn, rc, c0, c1, c2, c3⟩ := fms_frame (HF.out.ext HE.out) HS.out hLi
        obtain ⟨l1, hl1⟩ : ∃ l1, (enBytes [frAt L i]).length = l1 := ⟨_, rfl⟩
        have hl2 := en_one (frAt L i)
        rw [hl1] at hl2
        have hsb := sumB_small HCK.out (i := i + 1) (by omega)
        have hsn : sumB L (i + 1) = sumB L i + (l1 - 5) := by
          show sumB L i + _ = _
          omega
        have hs0 := HSB.out
        have m1 : IntKind.i64.wrap ((i : Int) + 1) = ((i + 1 : Nat) : Int) := by rw [IntKind.wrap_i64]; omega
        have m2 : IntKind.i64.wrap ((l1 : Int) - 5) = ((l1 - 5 : Nat) : Int) := by rw [IntKind.wrap_i64]; omega
        have m3 : IntKind.i64.wrap ((s : Int) + ((l1 - 5 : Nat) : Int)) = ((s + (l1 - 5) : Nat) : Int) := by rw [IntKind.wrap_i64]; omega
        have HSN : Hid (s + (l1 - 5) = 5 + sumB L (i + 1)) := by show _ = _; omega
        have t1 : (i : Int) < (n : Int) := by omega
        have t2 : (0 : Int) ≤ (i : Int) := by omega
        have t3 : ¬ cap = i := by omega
        have t4 : ¬ cap - i = 0 := by omega
        have t5 : ((i + 1 : Nat) : Int) ≤ (cap : Int) := by omega
        have t6 : (i : Int) ≤ ((i + 1 : Nat) : Int) := by omega
        have t7 : (i : Int) ≤ (cap : Int) := by omega
        have t8 : i + 1 - i = 1 := by omega
        have HL1 := Lib.hid hl1
        have HC3 := Lib.hid c3
        have HCK1 := Lib.hid hck
        obtain ⟨f, hf⟩ : ∃ f, frAt L i = f := ⟨_, rfl⟩
        rw [hf] at UE HL1 HCK1 c0 c1 HC3
        have HSf : Hid (Small [f]) := by show Small [f]; rw [← hf]; exact small_one HS.out i
        obtain ⟨Wf, Hf, zf⟩ := f
        clear hsb hsn hs0 hl2 c3 hl1 hck hf hLi HF1
        go_wp2_with fail
        refine UE.out.mono ?_; rintro e w5 ⟨b1, y1, rfl, x5, he1, hb1, -⟩
        rw [HCK1.out] at he1
        have hy1 : y1 = .nilIface := he1
        subst hy1
        have hby1 := (hb1 HCK1.out).1
        obtain ⟨da, dc, rfl⟩ := hby1.form
        have HBY1 := Lib.hid hby1
        rw [HL1.out] at HBY1 ⊢
        have HX5 := Lib.hid x5
        clear he1 hb1 hby1 x5 UE
        go_wp2_with fail
        refine (decode_any _ _ _ HBY1.out).mono ?_; rintro e w6 ⟨lv, y2, rfl, x6, he2, hf2⟩
        rw [dcR_back HCK1.out] at he2 hf2
        have hy2 : y2 = .nilIface := he2
        subst hy2
        have hf2 : Fms w6 lv [(Wf, Hf, zf)] := hf2
        obtain ⟨ea, ec, rfl⟩ := hf2.form
        have h1l : ([(Wf, Hf, zf)] : List Fr).length = 1 := rfl
        rw [h1l] at hf2 ⊢
        obtain ⟨g6, off6, rfl⟩ := hf2.had (by decide)
        obtain ⟨qa, qn, qc, D0, D1, d2, D3⟩ := fms_frame hf2 HSf.out (q := 0) Nat.one_pos
        rw [show off6 + 0 * 3 = off6 by omega] at D0 D1 d2
        have d0 : w6.cell? ⟨g6, off6, none⟩ = some (.int .i64 Wf) := D0
        have d1 : w6.cell? ⟨g6, off6 + 1, none⟩ = some (.int .i64 Hf) := D1
        have d3 : Ints w6 (.slice qa qn qc) zf := D3
        clear D0 D1 D3
        have HX6 := Lib.hid (HX5.out.trans x6)
        have b0 := HX6.out.cell c0
        have b1 := HX6.out.cell c1
        have b2 := HX6.out.cell c2
        have UFS := Lib.hid (fun (W' : World) (k : Ext w6 W') => frame_same Wf Hf zf qa ra qn rn qc rc W' (d3.ext k) ((HC3.out.ext HX6.out).ext k))
        have r1 : (0 : Int) < 1 := by decide
        have HE6 := Lib.hid (HE.out.trans HX6.out)
        clear he2 hf2 h1l d3 x6 c0 c1 c2 HC3 HX5
        go_wp2_with fail
        go_region_held3 (fun w' => (w'.cell? ⟨g6, off6, none⟩ = some (.int .i64 Wf) ∧ w'.cell? ⟨g6, off6 + 1, none⟩ = some (.int .i64 Hf) ∧ w'.cell? ⟨g6, off6 + 2, none⟩ = some (.slice qa qn qc)) ∧ w'.cell? ⟨g, off + i * 3, none⟩ = some (.int .i64 Wf) ∧ w'.cell? ⟨g, off + i * 3 + 1, none⟩ = some (.int .i64 Hf) ∧ w'.cell? ⟨g, off + i * 3 + 2, none⟩ = some (.slice ra rn rc))
          (first
            | go_keep
            | (go_split_ands; exact ⟨⟨x7.cell (by assumption), x7.cell (by assumption), x7.cell (by assumption)⟩, x7.cell (by assumption), x7.cell (by assumption), x7.cell (by assumption)⟩))
          ((go_at_call 36; refine (UFS.out _ (Ext.refl w6).drew).mono ?_; rintro e w7 ⟨rfl, x7⟩))
        have HE7 := Lib.hid ((HE6.out.drew).trans x7)
        clear x7 HE6 b0 b1 b2 d0 d1 d2 UFS
        go_wp2_with fail
        exact ⟨⟨i + 1, s + (l1 - 5), by omega, by go_num, by go_num, HSN, HE7⟩, by simp [intOf]; omega⟩
      · obtain rfl : i = n := by omega
        have t1 : ¬ (i : Int) < (i : Int) := by omega
        have hsa := sumB_all L
        rw [HN.out, HBS.out, HNN.out, ← HSB.out] at hsa
        have hsl := sumB_small HCK.out (i := i) (by rw [HN.out]; exact Nat.le_refl _)
        have m4 : IntKind.i64.wrap ((s : Int) - (i : Int)) = (s : Int) - (i : Int) := by rw [IntKind.wrap_i64]; have := HSB.out; omega
        have m5 : (N : Int) ≤ (s : Int) := by omega
        have m6 : (s : Int) - (i : Int) ≤ (N : Int) := by omega
        clear hsa hsl
        go_wp2_with fail
        refine (first15_any _ (HG.out.ext HE.out) (HT.out.ext HE.out)).mono ?_; rintro e w8 ⟨rfl, x8⟩
        go_wp2
        go_ret
        exact ⟨rfl, HE.out.trans x8⟩
set_option maxHeartbeats 4000000 in
set_option maxRecDepth 100000 in
theorem heads_law (L : List Fr) (v : Value) (w : World) (hg : EtIs w) (hT : PwIs w) (h : Fms w v L) (hcap : ∀ (a : Option Addr) (n cap : Nat), v = .slice a n cap → n ≤ cap ∧ cap ≤ maxLen) :
    Calls Tryd.prog 12 #[v] w fun e w' => e = .returned (.bool true) ∧ Ext w w' := by
  by_cases hp : pixB L = true
  · exact heads_few L v w hg hT h hp hcap
  · have hp : pixB L = false := by simpa using hp
    have UF := Lib.hid (fun (W : World) (k : Ext w W) => few15_all L v W (h.ext k))
    rw [hp] at UF
    obtain ⟨a, cap, rfl⟩ := h.form
    have HG := Lib.hid hg
    have HT := Lib.hid hT
    generalize L.length = n at *
    clear h hg hT hp hcap
    go_enter Tryd.func12, Tryd.ntmps12
    go_wp2_with fail
    refine (first15_any _ HG.out HT.out).mono ?_; rintro e w1 ⟨rfl, x1⟩
    have HX1 := Lib.hid x1
    clear x1
    go_wp2_with fail
    refine (UF.out _ HX1.out).mono ?_; rintro e w2 ⟨rfl, x2⟩
    have HX2 := Lib.hid (HX1.out.trans x2)
    clear x2
    go_wp2_with fail
    refine (first15_any _ (HG.out.ext HX2.out) (HT.out.ext HX2.out)).mono ?_; rintro e w3 ⟨rfl, x3⟩
    go_wp2
    go_ret
    exact ⟨rfl, HX2.out.trans x3⟩
end Go.Proofs.YtgohlhgapboijaaDoor
