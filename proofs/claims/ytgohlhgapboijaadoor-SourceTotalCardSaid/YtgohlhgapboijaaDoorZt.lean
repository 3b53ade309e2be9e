/- Contracts of this seat: St5. -/
import Derived.Test.YtgohlhgapboijaaDoorZs
import Derived.Deep.RegionHeld3
/- kinlaw15.SourceTotal: the walk. -/
namespace Go.Proofs.YtgohlhgapboijaaDoor
set_option linter.unusedVariables false
set_option linter.unusedSimpArgs false
open Go.RowKit Go.Extern.Stop Go.Stop Go.Extern

theorem frAt_mem {L : List Fr} {q : Nat} (h : q < L.length) : frAt L q ∈ L := List.mem_of_getElem? (frAt_get h)
theorem like_may {X Y : Nat} {L : List Fr} (hX : 1 ≤ X ∧ X ≤ 4) (hY : 1 ≤ Y ∧ Y ≤ 4) (h : likeF (8 * X) (8 * Y) L) {f : Fr} (hf : f ∈ L) : may f.1 f.2.1 f.2.2 := by
  obtain ⟨h1, h2, h3, h4⟩ := h f hf
  have hs : ∀ n : Nat, 1 ≤ n ∧ n ≤ 4 → sideB ((8 * n : Nat) : Int) = true := fun n hn => by
    unfold sideB
    simp only [Bool.and_eq_true, decide_eq_true_eq]
    omega
  refine ⟨by rw [h1]; exact hs X hX, by rw [h2]; exact hs Y hY, by rw [h1, h2, h3]; simp, ?_⟩
  intro v hv
  obtain ⟨j, hj⟩ := List.getElem?_of_mem hv
  have := h4 j
  rw [List.getD, hj] at this
  exact this
set_option maxHeartbeats 8000000 in
set_option maxRecDepth 100000 in
theorem total_few (bs : List Nat) (v : Value) (w : World) (hg : EtIs w) (hT : PwIs w) (h : Bys w v bs) (hl : bs.length ≤ 20000) :
    Calls Tryd.prog 11 #[v] w fun e w' => e = .returned (.bool true) ∧ Ext w w' := by
  obtain ⟨a, cap, rfl⟩ := h.form
  obtain ⟨n, hn⟩ : ∃ n, bs.length = n := ⟨_, rfl⟩
  rw [hn] at h hl ⊢
  have HB := Lib.hid h
  have HG := Lib.hid hg
  have HT := Lib.hid hT
  have HN := Lib.hid hn
  have UD := Lib.hid (fun (W : World) (x : Ext w W) => decode_any bs _ W (h.ext x))
  have hl' : ¬ (20000 : Int) < (n : Int) := by omega
  clear h hg hT hn hl
  go_enter Tryd.func11, Tryd.ntmps11
  go_wp2_with fail
  refine (first15_any _ HG.out HT.out).mono ?_; rintro e w1 ⟨rfl, x1⟩
  have HX1 := Lib.hid x1
  clear x1
  go_wp2_with fail
  refine (UD.out _ HX1.out).mono ?_; rintro e w2 ⟨lv, x, rfl, x2, he, hf⟩
  have HX2 := Lib.hid (HX1.out.trans x2)
  have HF := Lib.hid hf
  clear x2 UD hf HX1
  cases hR : (dcR bs).1 with
  | none =>
    rw [hR] at he
    have hx : x = .nilIface := he
    subst hx
    obtain ⟨h0, hlen, hlk⟩ := dcR_like hR
    obtain ⟨h5, -, -, hX, hY, hNb⟩ := hdC_zero h0
    rw [HN.out] at h5
    obtain ⟨g0, off0, rfl⟩ := HB.out.had (by omega)
    have c4 := HX2.out.cell (HB.out.at (nget_of_lt (j := 4) (by rw [HN.out]; omega)))
    obtain ⟨L, hL⟩ : ∃ L, (dcR bs).2 = L := ⟨_, rfl⟩
    rw [hL] at HF hlen hlk
    obtain ⟨N, hNN⟩ : ∃ N, bs.getD 4 0 = N := ⟨_, rfl⟩
    rw [hNN] at c4 hlen hNb
    have HMY : Hid (∀ q, q < N → may (frAt L q).1 (frAt L q).2.1 (frAt L q).2.2 ∧ (frAt L q).1 = ((8 * bs.getD 2 0 : Nat) : Int) ∧ (frAt L q).2.1 = ((8 * bs.getD 3 0 : Nat) : Int)) := fun q hq => by
      have hm := frAt_mem (L := L) (q := q) (by omega)
      exact ⟨like_may hX hY hlk hm, (hlk _ hm).1, (hlk _ hm).2.1⟩
    have HSM : Hid (Small L) := ⟨by omega, fun q => by
      by_cases hq : q < L.length
      · have := may_len (HMY.out q (by omega)).1
        omega
      · unfold frAt
        rw [List.getD, List.getElem?_eq_none (by omega)]
        decide⟩
    obtain ⟨W, hW⟩ : ∃ W : Int, ((8 * bs.getD 2 0 : Nat) : Int) = W := ⟨_, rfl⟩
    obtain ⟨H, hH⟩ : ∃ H : Int, ((8 * bs.getD 3 0 : Nat) : Int) = H := ⟨_, rfl⟩
    rw [hW, hH] at HMY
    obtain ⟨ra, rc, rfl⟩ := HF.out.form
    have HLL := Lib.hid hlen
    rw [hlen] at HF ⊢
    obtain ⟨g, off, rfl⟩ := HF.out.had (by omega)
    have e0 : ((N : Int) == 0) = false := by simp; omega
    have e1 : ¬ (16 : Int) < (N : Int) := by omega
    have e2 : ¬ (n : Int) < 5 := by omega
    have e3 : (4 : Int) < (n : Int) := by omega
    have e4 : ((N : Int) != (N : Int)) = false := by simp
    have e5 : IntKind.i64.wrap (N : Int) = (N : Int) := by rw [IntKind.wrap_i64]; omega
    have e6 : (W != W) = false := by simp
    have e7 : (H != H) = false := by simp
    have hN1 : 1 ≤ N := hNb.1
    clear he hR h0 hlen hlk h5 hX hY hNb hL hNN hW hH
    go_wp2_with fail
    go_loopw [5] (fun iv wr => ∃ i : Nat, i ≤ N ∧ iv = .int .i64 (i : Int) ∧ Hid (Ext w2 wr)) (fun iv _ => N - (intOf iv).toNat)
    case atStart => exact ⟨0, Nat.zero_le _, rfl, Ext.refl _⟩
    case round =>
      obtain ⟨i, hi, rfl, HE⟩ := hrel
      by_cases hlt : i < N
      · have t1 : (i : Int) < (N : Int) := by omega
        have t2 : (0 : Int) ≤ (i : Int) := by omega
        have t3 : (0 : Int) < (N : Int) := by omega
        have t3' : 0 < N := by omega
        obtain ⟨fa, fn, fc, c0, c1, c2, c3⟩ := fms_frame (HF.out.ext HE.out) HSM.out (q := i) (by rw [HLL.out]; exact hlt)
        obtain ⟨-, -, -, d0, d1, -, -⟩ := fms_frame (HF.out.ext HE.out) HSM.out (q := 0) (by rw [HLL.out]; omega)
        rw [show off + 0 * 3 = off by omega] at d0 d1
        obtain ⟨hm, q1, q2⟩ := HMY.out i hlt
        obtain ⟨-, q3, q4⟩ := HMY.out 0 (by omega)
        rw [q1] at c0
        rw [q2] at c1
        rw [q3] at d0
        rw [q4] at d1
        rw [q1, q2] at hm
        have UM := Lib.hid (fun (W' : World) (x : Ext wr W') => rmay_any W H (frAt L i).2.2 fa fn fc W' (c3.ext x))
        rw [decide_eq_true hm] at UM
        clear c3 hm q1 q2 q3 q4
        go_wp2_with fail
        go_region_held3 (fun w' => (w'.cell? ⟨g, off + i * 3, none⟩ = some (.int .i64 W) ∧ w'.cell? ⟨g, off + i * 3 + 1, none⟩ = some (.int .i64 H) ∧ w'.cell? ⟨g, off + i * 3 + 2, none⟩ = some (.slice fa fn fc)) ∧ w'.cell? ⟨g, off, none⟩ = some (.int .i64 W) ∧ w'.cell? ⟨g, off + 1, none⟩ = some (.int .i64 H))
          (first
            | go_keep
            | (go_split_ands; exact ⟨⟨x5.cell (by assumption), x5.cell (by assumption), x5.cell (by assumption)⟩, x5.cell (by assumption), x5.cell (by assumption)⟩))
          ((go_at_call 35; refine (UM.out _ (Ext.refl wr).drew).mono ?_; rintro e w5 ⟨rfl, x5⟩))
        have HE5 := Lib.hid (HE.out.drew.trans x5)
        go_wp2_with fail
        exact ⟨⟨i + 1, by omega, by go_num, HE5⟩, by simp [intOf]; omega⟩
      · obtain rfl : i = N := by omega
        have t1 : ¬ (i : Int) < (i : Int) := by omega
        go_wp2_with fail
        refine (first15_any _ (HG.out.ext (HX2.out.trans HE.out)) (HT.out.ext (HX2.out.trans HE.out))).mono ?_; rintro e w3 ⟨rfl, x3⟩
        go_wp2
        go_ret
        exact ⟨rfl, (HX2.out.trans HE.out).trans x3⟩
  | some fc =>
    obtain ⟨p, c⟩ := fc
    obtain ⟨i, t, rfl, hi, hc, -⟩ := dcR_ok bs p c hR
    have hnil : (dcR bs).2 = [] := dcR_err (by rw [hR]; simp)
    rw [hR] at he
    rw [hnil] at HF
    obtain ⟨hI, -, -⟩ := he
    have HI := Lib.hid hI
    obtain ⟨b, u, rfl, k0, k1, -, -⟩ := hI
    have K0 := Lib.hid k0
    have K1 := Lib.hid k1
    obtain ⟨ra, rc, rfl⟩ := HF.out.form
    have hlz : ([] : List Fr).length = 0 := rfl
    rw [hlz] at HF ⊢
    have hss : (({ data := #[115, 111, 117, 114, 99, 101] } : ByteArray) == { data := #[115, 111, 117, 114, 99, 101] }) = true := by rw [beq_toListBytes]; simp
    have hcc : (c == c) = true := by simp
    have i1 : (-1 : Int) ≤ i := hi.1
    have i2 : i ≤ (16 : Int) := hi.2
    have HKN : Hid ((c == 1) = true ∨ ((c == 1) = false ∧ (c == 2) = true) ∨ ((c == 1) = false ∧ (c == 2) = false ∧ (c == 3) = true) ∨ ((c == 1) = false ∧ (c == 2) = false ∧ (c == 3) = false ∧ (c == 5) = true)) := by
      show _ ∨ _
      rcases hc with rfl | rfl | rfl | rfl <;> simp
    clear hR k0 k1 hi hc hnil hlz
    go_wp2_with fail
    have E3 := Lib.hid ((Ext.refl w2).alloc (.cells #[.pointer none] 38))
    have HFC : Hid ((w2.alloc (.cells #[.pointer none] 38)).cell? ⟨w2.heap.size, 0, none⟩ = some (.pointer none)) := by show _ = _; simp
    have HFZ : Hid ((w2.alloc (.cells #[.pointer none] 38)).frozen? ⟨w2.heap.size, 0, none⟩ = false) := by show _ = _; simp
    revert E3 HFC HFZ
    generalize w2.alloc _ = w3
    intro E3 HFC HFZ
    refine (of_err _ c _ _ (HG.out.ext (HX2.out.trans E3.out)) (HI.out.ext E3.out)).mono ?_; rintro e w4 ⟨rfl, x4⟩
    have HX4 := Lib.hid x4
    clear x4
    go_upto_region 17 with fail
    go_cut [8] (fun kv wx => kv = .bool true ∧ w4 = wx)
    case first =>
      rcases HKN.out with h1 | ⟨h1, h2⟩ | ⟨h1, h2, h3⟩ | ⟨h1, h2, h3, h4⟩
      all_goals clear HKN
      all_goals go_wp2_with fail
      all_goals go_meet
      all_goals exact ⟨rfl, rfl⟩
    obtain ⟨rfl, rfl⟩ := hcut
    go_wp2_with fail
    refine (first15_any _ (HG.out.ext ((HX2.out.trans E3.out).trans HX4.out)) (HT.out.ext ((HX2.out.trans E3.out).trans HX4.out))).mono ?_; rintro e w5 ⟨rfl, x5⟩
    have HX5 := Lib.hid (HX4.out.trans x5)
    clear x5
    go_wp2_with fail
    refine (Is_code _ c c _ _ (HI.out.ext (E3.out.trans HX5.out))).mono ?_; rintro e w6 ⟨rfl, rfl⟩
    rw [hcc]
    go_wp2_with fail
    refine (As_fault b (.pointer none) ⟨w2.heap.size, 0, none⟩ _ (HG.out.ext ((HX2.out.trans E3.out).trans HX5.out)) (HX5.out.cell HFC.out) ((Below.frozen HX5.out (Ext.lt HFC.out)).trans HFZ.out)).mono ?_
    rintro e w' ⟨rfl, w7, x7, rfl⟩
    have HB7 := setCell_cell ((HX5.out.trans x7).cell HFC.out) (.pointer (some ⟨b, 0, none⟩))
    have HX7 := Lib.hid (((E3.out.trans HX5.out).trans x7).setCell (p := ⟨w2.heap.size, 0, none⟩) (Nat.le_refl _) (.pointer (some ⟨b, 0, none⟩)))
    revert HB7 HX7
    generalize w7.setCell _ _ = w8
    intro HB7 HX7
    have k0 : w8.cell? ⟨b, 0, none⟩ = some (.string { data := #[115, 111, 117, 114, 99, 101] }) := HX7.out.cell K0.out
    have k1 := HX7.out.cell K1.out
    go_wp2
    go_ret
    exact ⟨rfl, HX2.out.trans HX7.out⟩
set_option maxHeartbeats 4000000 in
set_option maxRecDepth 100000 in
theorem total_law (bs : List Nat) (v : Value) (w : World) (hg : EtIs w) (hT : PwIs w) (rb : Row w v bs.length (bs.map fun x : Nat => Value.int .u8 (x : Int))) (hb : ∀ x ∈ bs, x < 256) :
    Calls Tryd.prog 11 #[v] w fun e w' => e = .returned (.bool true) ∧ Ext w w' := by
  by_cases hs : bs.length ≤ 20000
  · exact total_few bs v w hg hT ⟨rb, hb, by omega⟩ hs
  · obtain ⟨a, cap, rfl⟩ := rb.form
    obtain ⟨n, hn⟩ : ∃ n, bs.length = n := ⟨_, rfl⟩
    rw [hn] at rb hs ⊢
    have hl : (20000 : Int) < (n : Int) := by omega
    have HG := Lib.hid hg
    have HT := Lib.hid hT
    clear rb hg hT hn hs
    go_enter Tryd.func11, Tryd.ntmps11
    go_wp2_with fail
    refine (first15_any _ HG.out HT.out).mono ?_; rintro e w2 ⟨rfl, x2⟩
    have HX2 := Lib.hid x2
    clear x2
    go_wp2_with fail
    refine (first15_any _ (HG.out.ext HX2.out) (HT.out.ext HX2.out)).mono ?_; rintro e w3 ⟨rfl, x3⟩
    go_wp2
    go_ret
    exact ⟨rfl, HX2.out.trans x3⟩
end Go.Proofs.YtgohlhgapboijaaDoor
