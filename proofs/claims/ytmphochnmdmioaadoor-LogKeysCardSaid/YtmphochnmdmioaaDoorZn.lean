/- Contracts of this seat: LgG, LgK, LgJ, LgB. -/
import Derived.Test.YtmphochnmdmioaaDoorZi
import Derived.Test.YtmphochnmdmioaaDoorZe
import Derived.BigQuiet
import Derived.Deep.QuietTactic
/- kinlaw26.LogAgain: the walk. -/
namespace Go.Proofs.YtmphochnmdmioaaDoor
set_option linter.unusedVariables false
set_option linter.unusedSimpArgs false
open Go.RowKit Go.Extern.Stop Go.Stop Go.Extern

theorem Bys.pre {w : World} {a : Option Addr} {n cap : Nat} {bs : List Nat} (h : Bys w (.slice a n cap) bs) {e : Nat} (he : e ≤ n) : Bys w (.slice a e cap) (bs.take e) := by
  have hl := h.len
  have hc := h.caps
  obtain ⟨⟨a', cap', e1, h1, h2, h3, h4⟩, h5, h6⟩ := h
  simp only [Value.slice.injEq] at e1
  obtain ⟨rfl, -, rfl⟩ := e1
  have hte : (bs.take e).length = e := by rw [List.length_take]; omega
  refine ⟨⟨a, cap, by rw [hte], by rw [hte]; omega, h2, fun h0 => h3 (by rw [hte] at h0; omega), fun g off ha j u hu => ?_⟩, fun x hx => h5 x (List.mem_of_mem_take hx), by rw [hte]; omega⟩
  refine h4 g off ha j u ?_
  rw [List.getElem?_map] at hu ⊢
  rw [List.getElem?_take] at hu
  split at hu
  · exact hu
  · cases hu
theorem nx_bytes (bs : List Nat) (k : Nat) : (nxU bs (k : Int)).2.2.1.length ≤ 65536 ∧ ∀ x ∈ (nxU bs (k : Int)).2.2.1, x ∈ bs := by
  by_cases h0 : k < bs.length
  · rcases sc_step bs k h0 with ⟨K, D, E, e1, ⟨-, -, h1⟩, h2, -⟩ | ⟨C, -, e1, -⟩
    · rw [e1]; exact ⟨h1, h2⟩
    · rw [e1]; exact ⟨Nat.zero_le _, fun x hx => by cases hx⟩
  · have e1 : nxU bs (k : Int) = (some ([], 7), 0, [], 0, 0) := by
      unfold nxU
      rw [if_pos (.inr (by omega))]
    rw [e1]
    exact ⟨Nat.zero_le _, fun x hx => by cases hx⟩
set_option maxHeartbeats 8000000 in
set_option maxRecDepth 20000 in
theorem logagain_law (bs : List Nat) (v : Value) (w : World) (hg : EtIs w) (hnb : NbIs w) (rb : Row w v bs.length (bs.map fun x : Nat => Value.int .u8 (x : Int))) (hb : ∀ x ∈ bs, x < 256) :
    Calls Tryd.prog 7 #[v] w fun e w' => e = .returned (.bool true) ∧ Ext w w' := by
  have HG := Lib.hid hg
  have HNB := Lib.hid hnb
  obtain ⟨a, cap, rfl⟩ := rb.form
  obtain ⟨n, hn⟩ : ∃ n, bs.length = n := ⟨_, rfl⟩
  have HN := Lib.hid hn
  by_cases hl : 20000 < n
  · have hl' : (20000 : Int) < (n : Int) := by omega
    rw [hn]
    clear hg hnb rb hn
    go_enter Tryd.func7, Tryd.ntmps7
    go_wp2_with fail
    refine (first26_any _ HG.out HNB.out).mono ?_; rintro e w1 ⟨rfl, hx1⟩
    have HX1 := Lib.hid hx1
    clear hx1
    go_wp2_with fail
    refine (first26_any _ (HG.out.ext HX1.out) (HNB.out.ext HX1.out)).mono ?_; rintro e w2 ⟨rfl, hx2⟩
    have HX2 := Lib.hid (HX1.out.trans hx2)
    clear hx2
    go_wp2
    go_ret
    exact ⟨rfl, HX2.out⟩
  · have hl' : ¬ (20000 : Int) < (n : Int) := by omega
    have HB : Hid (Bys w (.slice a n cap) bs) := ⟨by rw [hn] at rb ⊢; exact rb, hb, by rw [hn]; omega⟩
    have US := Lib.hid (fun v w h k => scan_any bs v w h k (by rw [hn]; omega))
    obtain ⟨i1, -, i3, i4, i5⟩ := sc_again hb (bs.length + 1) 0 (by omega) (Nat.zero_le _)
    have hc := sc_count bs (bs.length + 1) 0 (by omega) (Nat.zero_le _)
    obtain ⟨⟨L, E⟩, hR⟩ : ∃ R, scR bs 0 = R := ⟨_, rfl⟩
    rw [hR] at US hc i1 i3 i4 i5
    have hLE : L.length ≤ n := by have : L.length + 0 ≤ E ∧ E ≤ bs.length := hc; omega
    have hEn : E ≤ n := by have : E ≤ bs.length := i3; omega
    have HM : Hid (∀ r ∈ L, MayR r) := i1
    have HPRE : Hid (bs.take E = outR L) := by
      have i4 : (bs.drop 0).take (E - 0) = outR L := i4
      rw [List.drop_zero, Nat.sub_zero] at i4
      exact i4
    have i5 : scR bs E = ([], E) := i5
    have HST := Lib.hid (sc_stop i5)
    have HNX := Lib.hid (nx_bytes bs E)
    have HOL : Hid ((outR L).length = E) := by show _ = _; rw [← HPRE.out, List.length_take, hn]; omega
    obtain ⟨m, hm⟩ : ∃ m, L.length = m := ⟨_, rfl⟩
    have HLM := Lib.hid hm
    have hmn : m ≤ 20000 := by omega
    rw [hn]
    clear hg hnb rb hn hR hc i1 i3 i4 i5 hLE hm
    go_enter Tryd.func7, Tryd.ntmps7
    go_wp2_with fail
    refine (first26_any _ HG.out HNB.out).mono ?_; rintro e w1 ⟨rfl, hx1⟩
    have HX1 := Lib.hid hx1
    clear hx1
    go_wp2_with fail
    refine (US.out _ _ (HNB.out.ext HX1.out) (HB.out.ext HX1.out)).mono ?_; rintro e w2 ⟨u2, rfl, ho2, hx2⟩
    have ho2 : w2.ownsRow w1.heap.size 24 5 u2 L.length (rcs L) := ho2
    rw [HLM.out] at ho2
    obtain ⟨la, lc, rfl⟩ := uform ho2
    have HX2 := Lib.hid (HX1.out.trans hx2)
    have HO2 := Lib.hid ho2
    clear ho2 hx2
    go_wp2_with fail
    go_loopw [5, 6] (fun ov iv wr => ∃ i : Nat, i ≤ m ∧ iv = .int .i64 (i : Int) ∧ Hid (wr.ownsRow w2.heap.size 5 1 ov (outR (L.take i)).length (byC (outR (L.take i)))) ∧ Hid (Ext w2 wr)) (fun _ iv _ => m - (intOf iv).toNat)
    case atStart => exact ⟨0, Nat.zero_le _, rfl, World.ownsRow_nil _ _ _ _, Ext.refl w2⟩
    case round =>
      obtain ⟨i, hi, rfl, HO, HE⟩ := hrel
      by_cases hlt : i < m
      · obtain ⟨r, hr⟩ : ∃ r, L[i]? = some r := ⟨_, List.getElem?_eq_getElem (by rw [HLM.out]; exact hlt)⟩
        have hmay := HM.out r (List.mem_of_getElem? hr)
        obtain ⟨g, cu, e1, -, -⟩ := uaddr HO2.out (by omega)
        simp only [Value.slice.injEq, true_and] at e1
        obtain ⟨rfl, rfl⟩ := e1
        have HRC := Lib.hid (rc_at HO2.out hr)
        obtain ⟨p0, p1, p2, p3, p4⟩ := HRC.out.ext HE.out
        have HTK : Hid (outR (L.take (i + 1)) = outR (L.take i) ++ pkR r) := by show _ = _; rw [List.take_add_one, hr]; exact outR_snoc _ hmay
        have UP := Lib.hid (fun W h => lpack_any r W h)
        have UM := Lib.hid (fun W => lmay_any r W)
        rw [pkE_none.2 hmay] at UP
        rw [decide_eq_true hmay] at UM
        have HPL := Lib.hid (pk_lt hmay)
        have HP9 : Hid ((pkR r).length ≤ 17) := by show _ ≤ _; rw [pk_len hmay]; have := lenR_le r.k; omega
        have HOL2 : Hid ((outR (L.take i)).length ≤ 400000) := by
          show _ ≤ _
          have := outR_len (l := L.take i) (fun x hx => HM.out x (List.mem_of_mem_take hx))
          rw [List.length_take] at this
          omega
        have x1 : (0 : Int) ≤ (i : Int) := by omega
        have x2 : (i : Int) < (m : Int) := by omega
        clear hr hmay
        go_wp2_with fail
        refine (UP.out _ (HNB.out.ext (HX2.out.trans HE.out))).mono ?_; rintro e w3 ⟨u3, z3, rfl, ho3, hz3, hx3⟩
        obtain rfl : z3 = .nilIface := hz3
        have HE3 := Lib.hid (HE.out.trans hx3)
        have HO3 := Lib.hid (ownsRow_ext HO.out hx3)
        have HY3 := Lib.hid (Bys.of_owns ho3 HPL.out (by have := HP9.out; omega))
        have HPP3 := Lib.hid (Plain.of_owns ho3)
        obtain ⟨q0, q1, q2, q3, q4⟩ := HRC.out.ext HE3.out
        clear ho3 hx3 HO HE p0 p1 p2 p3 p4
        go_wp2_with fail
        refine (UM.out _).mono ?_; rintro e w4 ⟨rfl, hx4⟩
        have HE4 := Lib.hid (HE3.out.trans hx4)
        have HO4 := Lib.hid (ownsRow_ext HO3.out hx4)
        have HY4 := Lib.hid (HY3.out.ext hx4)
        have hB4 := HE4.out.size
        clear hx4 HE3 HO3 HY3 q0 q1 q2 q3 q4
        go_wp2_with (at_builtin; refine app_any rfl _ _ 25 rfl Tryd.underlying25 _ (outR (L.take i)).length (outR (L.take i)) (pkR r) _ rfl HO4.out rfl HY4.out HPP3.out hB4 (by have := HP9.out; have := HOL2.out; omega) ?_; intro v5 w5 h5 g5; have HO5 : Hid (w5.ownsRow w2.heap.size 5 1 v5 (outR (L.take (i + 1))).length (byC (outR (L.take (i + 1))))) := (by show World.ownsRow _ _ _ _ _ _ _; rw [HTK.out, List.length_append]; exact h5); have HE5 := Lib.hid (own_grow HO4.out g5 HE4.out (Nat.le_refl _)); clear h5 g5)
        go_roundw
        case rel => exact ⟨i + 1, by omega, by go_num, HO5, HE5⟩
        case measure => simp [intOf]; omega
      · obtain rfl : i = m := by omega
        have ht : L.take i = L := List.take_of_length_le (by rw [HLM.out]; exact Nat.le_refl _)
        rw [ht] at HO
        have HYO := Lib.hid (Bys.of_owns HO.out (by have := HB.out.2.1; rw [← HPRE.out]; exact fun x hx => this x (List.mem_of_mem_take hx)) (by rw [HOL.out]; omega))
        have HYB := (HB.out.pre hEn).ext (HX2.out.trans HE.out)
        rw [HPRE.out] at HYB
        have HYB := Lib.hid HYB
        have hcap := HB.out.caps
        have x1 : ¬ (E : Int) < 0 := by omega
        have x2 : ¬ (n : Int) < (E : Int) := by omega
        have x3 : (E : Int) ≤ (cap : Int) := by omega
        have x4 : (0 : Int) ≤ (E : Int) := by omega
        have HEE := Lib.hid (HX2.out.trans HE.out)
        clear ht HO HE
        go_wp2_with fail
        refine (bytes_same (outR L) _ _ _ HYO.out HYB.out).mono ?_; rintro e w6 ⟨rfl, rfl⟩
        go_wp2_with fail
        have UNX := next_any bs (E : Int) (.slice a n cap) wr (HNB.out.ext HEE.out) (HB.out.ext HEE.out)
        obtain ⟨⟨F, K, D, A, B⟩, hNX⟩ : ∃ R, nxU bs (E : Int) = R := ⟨_, rfl⟩
        have HST2 : Hid (F ≠ none ∨ (prR (K : Int) D).1 ≠ none) := by have := HST.out; rw [hNX] at this; exact this
        have HD2 : Hid (D.length ≤ 65536 ∧ ∀ x ∈ D, x ∈ bs) := by have := HNX.out; rw [hNX] at this; exact this
        rw [hNX] at UNX
        clear hNX HST HNX
        refine UNX.mono ?_; rintro e w7 ⟨u7, z7, rfl, ho7, hz7, hx7⟩
        have ho7 : w7.ownsRow wr.heap.size 5 1 u7 D.length (byC D) := ho7
        have hz7 : ErrIs w7 F z7 := hz7
        obtain ⟨a7, c7, rfl⟩ := uform ho7
        have HX7 := Lib.hid ((HEE.out.trans hx7).alloc (.cells #[.int .i64 (K : Int), .slice a7 D.length c7, .int .i64 A, .int .i64 B] 27))
        have HY7 := Lib.hid ((Bys.of_owns ho7 (fun x hx => HB.out.2.1 x (HD2.out.2 x hx)) (by have := HD2.out.1; omega)).ext ((Ext.refl w7).alloc (.cells #[.int .i64 (K : Int), .slice a7 D.length c7, .int .i64 A, .int .i64 B] 27)))
        have HZ7 := Lib.hid hz7
        clear UNX ho7 hz7 hx7 HEE
        go_wp2_with fail
        refine (parse_any (K : Int) A B D _ _ HY7.out).mono ?_; rintro e w8 ⟨z8, rfl, hz8, hx8⟩
        have HX8 := Lib.hid ((HX7.out.trans hx8).alloc (.cells #[.int .i64 (prR (K : Int) D).2.k, .int .i64 (prR (K : Int) D).2.s, .int .i64 (prR (K : Int) D).2.n, .int .i64 (prR (K : Int) D).2.l, .int .i64 (prR (K : Int) D).2.c] 24))
        have HZ8 := Lib.hid hz8
        clear hz8 hx8 HY7
        go_wp2_with fail
        refine (first26_any _ (HG.out.ext HX8.out) (HNB.out.ext HX8.out)).mono ?_; rintro e w9 ⟨rfl, hx9⟩
        have HX9 := Lib.hid (HX8.out.trans hx9)
        clear hx9
        cases F with
        | some fa =>
          obtain ⟨t7, y7, rfl⟩ := ErrIs.ne HZ7.out
          go_wp2
          go_ret
          exact ⟨rfl, HX9.out⟩
        | none =>
          obtain rfl : z7 = .nilIface := HZ7.out
          obtain ⟨fb, hfb⟩ : ∃ fb, (prR (K : Int) D).1 = some fb := by
            rcases HST2.out with h | h
            · exact absurd rfl h
            · cases hq : (prR (K : Int) D).1 with
              | none => exact absurd hq h
              | some fb => exact ⟨fb, rfl⟩
          have hz8 := HZ8.out
          rw [hfb] at hz8
          obtain ⟨t8, y8, rfl⟩ := ErrIs.ne hz8
          clear hz8 HZ8 hfb
          go_wp2
          go_ret
          exact ⟨rfl, HX9.out⟩
end Go.Proofs.YtmphochnmdmioaaDoor

/- kinlaw26.LogPacks: the walk. -/
namespace Go.Proofs.YtmphochnmdmioaaDoor
set_option linter.unusedVariables false
set_option linter.unusedSimpArgs false
open Go.RowKit Go.Extern.Stop Go.Stop Go.Extern

theorem rerr_form {w : World} {f : Fall} {c : Int} {x : Value} (h : RErrIs w f c x) : ∃ a n cap, x = .slice a n cap := by
  cases f with
  | none => exact ⟨_, _, _, h.2⟩
  | some p => obtain ⟨_, _, a, cap, e, -⟩ := h; exact ⟨_, _, _, e⟩
set_option maxHeartbeats 8000000 in
set_option maxRecDepth 20000 in
theorem logpacks_law (r : Rc) (K A E : Int) (bs : List Nat) (v : Value) (w : World) (hg : EtIs w) (hnb : NbIs w) (rb : Row w v bs.length (bs.map fun x : Nat => Value.int .u8 (x : Int))) (hb : ∀ x ∈ bs, x < 256) :
    Calls Tryd.prog 3 #[rcA r, .agg #[.int .i64 K, v, .int .i64 A, .int .i64 E]] w fun e w' => e = .returned (.bool true) ∧ Ext w w' := by
  obtain ⟨a, cap, rfl⟩ := rb.form
  obtain ⟨n, hn⟩ : ∃ n, bs.length = n := ⟨_, rfl⟩
  have HN := Lib.hid hn
  obtain ⟨k, s, m, l, c⟩ := r
  rw [hn]
  have X0 : Ext w ((w.alloc (.cells #[.int .i64 k, .int .i64 s, .int .i64 m, .int .i64 l, .int .i64 c] 24)).alloc (.cells #[.int .i64 K, .slice a n cap, .int .i64 A, .int .i64 E] 27)) := ((Ext.refl w).alloc _).alloc _
  have HX0 := Lib.hid X0
  have HG := Lib.hid (hg.ext X0)
  have HNB := Lib.hid (hnb.ext X0)
  have HR0 := Lib.hid ((RcAt.new w ⟨k, s, m, l, c⟩ 24).ext ((Ext.refl _).alloc (.cells #[.int .i64 K, .slice a n cap, .int .i64 A, .int .i64 E] 27)))
  have HU0 := Lib.hid (BoxIs.newAt (w.alloc (.cells #[.int .i64 k, .int .i64 s, .int .i64 m, .int .i64 l, .int .i64 c] 24)) (w.heap.size + 1) (by simp) #[.int .i64 K, .slice a n cap, .int .i64 A, .int .i64 E] 27)
  have HB : n ≤ 20000 → Bys ((w.alloc (.cells #[.int .i64 k, .int .i64 s, .int .i64 m, .int .i64 l, .int .i64 c] 24)).alloc (.cells #[.int .i64 K, .slice a n cap, .int .i64 A, .int .i64 E] 27)) (.slice a n cap) bs := fun h => Bys.ext (w := w) ⟨by rw [hn] at rb ⊢; exact rb, hb, by rw [hn]; omega⟩ X0
  clear hg hnb rb hn X0
  go_enter Tryd.func3, Tryd.ntmps3
  go_wp2_with fail
  revert HX0 HG HNB HR0 HU0 HB
  generalize World.alloc (World.alloc w _) _ = w0
  intro HX0 HG HNB HR0 HU0 HB
  refine (first26_any _ HG.out HNB.out).mono ?_; rintro e w1 ⟨rfl, hx1⟩
  have HX1 := Lib.hid hx1
  have u1 := (HU0.out.ext hx1).cell (i := 1) rfl
  clear hx1
  by_cases hl : 20000 < n
  · have hl' : (20000 : Int) < (n : Int) := by omega
    go_wp2_with fail
    refine (first26_any _ (HG.out.ext HX1.out) (HNB.out.ext HX1.out)).mono ?_; rintro e w2 ⟨rfl, hx2⟩
    have HX2 := Lib.hid (HX0.out.trans (HX1.out.trans hx2))
    clear hx2
    go_wp2
    go_ret
    exact ⟨rfl, HX2.out⟩
  · have hl' : ¬ (20000 : Int) < (n : Int) := by omega
    have HB := Lib.hid (HB (by omega))
    obtain ⟨p0, p1, p2, p3, p4⟩ := HR0.out.ext HX1.out
    go_wp2_with fail
    refine (lpack_any ⟨k, s, m, l, c⟩ _ (HNB.out.ext HX1.out)).mono ?_; rintro e w2 ⟨u2, z2, rfl, ho2, hz2, hx2⟩
    have HX2 := Lib.hid (HX1.out.trans hx2)
    have HZ2 := Lib.hid hz2
    have hpl : (∀ x ∈ pkR ⟨k, s, m, l, c⟩, x < 256) ∧ (pkR ⟨k, s, m, l, c⟩).length ≤ 17 := by
      by_cases hm : MayR ⟨k, s, m, l, c⟩
      · exact ⟨pk_lt hm, by rw [pk_len hm]; have := lenR_le k; show lenR k + 8 ≤ 17; omega⟩
      · unfold pkR; rw [if_neg hm]; exact ⟨fun x hx => (by cases hx), Nat.zero_le _⟩
    have HY2 := Lib.hid (Bys.of_owns ho2 hpl.1 (by omega))
    obtain ⟨q0, q1, q2, q3, q4⟩ := HR0.out.ext HX2.out
    clear ho2 hz2 hx2 p0 p1 p2 p3 p4 u1 hpl
    go_wp2_with fail
    refine (plain_any ⟨k, s, m, l, c⟩ _).mono ?_; rintro e w3 ⟨rfl, hx3⟩
    have HX3 := Lib.hid (HX2.out.trans hx3)
    have HZ3 := Lib.hid (ErrIs.ext HZ2.out hx3)
    have HY3 := Lib.hid (HY2.out.ext hx3)
    clear hx3 q0 q1 q2 q3 q4 HZ2 HY2
    go_wp2_with fail
    refine (rpack_any ⟨k, s, m, l, c⟩ _).mono ?_; rintro e w4 ⟨u4, c4, x4, rfl, hy4, hz4, hx4⟩
    obtain ⟨xa, xn, xc, rfl⟩ := rerr_form hz4
    have A4 : Ext w4 (w4.alloc (.cells #[.int .i64 c4, .slice xa xn xc] 35)) := (Ext.refl w4).alloc _
    have HX4 := Lib.hid ((HX3.out.trans hx4).trans A4)
    have HZ4 := Lib.hid ((ErrIs.ext HZ3.out hx4).ext A4)
    have HY4 := Lib.hid ((HY3.out.ext hx4).ext A4)
    have HV4 := Lib.hid (hy4.ext A4)
    have HW4 := Lib.hid (RErrIs.ext hz4 A4)
    have HF4 := Lib.hid (BoxIs.new w4 #[.int .i64 c4, .slice xa xn xc] 35)
    have HU4 := Lib.hid (HU0.out.ext HX4.out)
    have v0 := HU4.out.cell (i := 0) rfl
    have v1 := HU4.out.cell (i := 1) rfl
    have v2 := HU4.out.cell (i := 2) rfl
    have v3 := HU4.out.cell (i := 3) rfl
    clear hy4 hz4 hx4 A4 HZ3 HY3
    go_wp2_with fail
    refine (parse_any K A E bs _ _ (HB.out.ext HX4.out)).mono ?_; rintro e w5 ⟨z5, rfl, hz5, hx5⟩
    obtain ⟨⟨PF, PR⟩, hP⟩ : ∃ P, prR K bs = P := ⟨_, rfl⟩
    rw [hP] at hz5 ⊢
    have hz5 : ErrIs w5 PF z5 := hz5
    have HP := Lib.hid hP
    obtain ⟨k5, s5, m5, l5, c5⟩ := PR
    have A5 : Ext w5 (w5.alloc (.cells #[.int .i64 k5, .int .i64 s5, .int .i64 m5, .int .i64 l5, .int .i64 c5] 24)) := (Ext.refl w5).alloc _
    have HX5 := Lib.hid ((HX4.out.trans hx5).trans A5)
    have HZ5 := Lib.hid ((ErrIs.ext HZ4.out hx5).ext A5)
    have HY5 := Lib.hid ((HY4.out.ext hx5).ext A5)
    have HV5 := Lib.hid ((HV4.out.ext hx5).ext A5)
    have HW5 := Lib.hid ((RErrIs.ext HW4.out hx5).ext A5)
    have HF5 := Lib.hid ((HF4.out.ext hx5).ext A5)
    have HQ5 := Lib.hid (ErrIs.ext hz5 A5)
    have HC5 := Lib.hid (RcAt.new w5 ⟨k5, s5, m5, l5, c5⟩ 24)
    have HU5 := Lib.hid ((HU4.out.ext hx5).ext A5)
    clear hz5 hx5 A5 HZ4 HY4 HV4 HW4 HF4 HU4 v0 v1 v2 v3 hP
    have v0 := HU5.out.cell (i := 0) rfl
    have v1 := HU5.out.cell (i := 1) rfl
    have v2 := HU5.out.cell (i := 2) rfl
    have v3 := HU5.out.cell (i := 3) rfl
    go_wp2_with fail
    refine (rparse_any K A E bs _ _ (HB.out.ext HX5.out)).mono ?_; rintro e w6 ⟨c6, x6, rfl, hz6, hx6⟩
    rw [HP.out] at hz6 ⊢
    have hz6 : RErrIs w6 PF c6 x6 := hz6
    obtain ⟨ya, yn, yc, rfl⟩ := rerr_form hz6
    have A6 : Ext w6 ((w6.alloc (.cells #[.int .i64 k5, .int .i64 s5, .int .i64 m5, .int .i64 l5, .int .i64 c5] 38)).alloc (.cells #[.int .i64 c6, .slice ya yn yc] 35)) := ((Ext.refl w6).alloc _).alloc _
    have HX6 := Lib.hid ((HX5.out.trans hx6).trans A6)
    have HZ6 := Lib.hid ((ErrIs.ext HZ5.out hx6).ext A6)
    have HY6 := Lib.hid ((HY5.out.ext hx6).ext A6)
    have HV6 := Lib.hid ((HV5.out.ext hx6).ext A6)
    have HW6 := Lib.hid ((RErrIs.ext HW5.out hx6).ext A6)
    have HF6 := Lib.hid ((HF5.out.ext hx6).ext A6)
    have HQ6 := Lib.hid ((ErrIs.ext HQ5.out hx6).ext A6)
    have HC6 := Lib.hid ((HC5.out.ext hx6).ext A6)
    have HQR6 := Lib.hid (RErrIs.ext hz6 A6)
    have HD6 := Lib.hid ((RcAt.new w6 ⟨k5, s5, m5, l5, c5⟩ 38).ext ((Ext.refl _).alloc (.cells #[.int .i64 c6, .slice ya yn yc] 35)))
    have HH6 := Lib.hid (BoxIs.newAt (w6.alloc (.cells #[.int .i64 k5, .int .i64 s5, .int .i64 m5, .int .i64 l5, .int .i64 c5] 38)) (w6.heap.size + 1) (by simp) #[.int .i64 c6, .slice ya yn yc] 35)
    clear hz6 hx6 A6 HZ5 HY5 HV5 HW5 HF5 HQ5 HC5 HU5 v0 v1 v2 v3
    have HR6 := Lib.hid (HR0.out.ext HX6.out)
    go_wp2_with fail
    revert HR6 HX6 HZ6 HY6 HV6 HW6 HF6 HQ6 HC6 HQR6 HD6 HH6
    generalize World.alloc (World.alloc w6 _) _ = w7
    generalize w4.heap.size = B4
    generalize w5.heap.size = B5
    generalize w6.heap.size = B6
    generalize w.heap.size = R
    intro HX6 HZ6 HY6 HV6 HW6 HF6 HQ6 HC6 HQR6 HD6 HH6 HR6
    obtain ⟨p0, p1, p2, p3, p4⟩ := HR6.out
    obtain ⟨⟨f0, f1⟩, -⟩ := HF6.out.two
    obtain ⟨q0, q1, q2, q3, q4⟩ := HC6.out
    obtain ⟨d0, d1, d2, d3, d4⟩ := HD6.out
    obtain ⟨⟨h0, h1⟩, -⟩ := HH6.out.two
    have KS : Hid (∀ w', Ext w7 w' → (w'.cell? ⟨R, 0, none⟩ = some (.int .i64 k) ∧ w'.cell? ⟨R, 1, none⟩ = some (.int .i64 s) ∧ w'.cell? ⟨R, 2, none⟩ = some (.int .i64 m) ∧ w'.cell? ⟨R, 3, none⟩ = some (.int .i64 l) ∧ w'.cell? ⟨R, 4, none⟩ = some (.int .i64 c)) ∧ (w'.cell? ⟨B4, 0, none⟩ = some (.int .i64 c4) ∧ w'.cell? ⟨B4, 1, none⟩ = some (.slice xa xn xc)) ∧ (w'.cell? ⟨B5, 0, none⟩ = some (.int .i64 k5) ∧ w'.cell? ⟨B5, 1, none⟩ = some (.int .i64 s5) ∧ w'.cell? ⟨B5, 2, none⟩ = some (.int .i64 m5) ∧ w'.cell? ⟨B5, 3, none⟩ = some (.int .i64 l5) ∧ w'.cell? ⟨B5, 4, none⟩ = some (.int .i64 c5)) ∧ (w'.cell? ⟨B6, 0, none⟩ = some (.int .i64 k5) ∧ w'.cell? ⟨B6, 1, none⟩ = some (.int .i64 s5) ∧ w'.cell? ⟨B6, 2, none⟩ = some (.int .i64 m5) ∧ w'.cell? ⟨B6, 3, none⟩ = some (.int .i64 l5) ∧ w'.cell? ⟨B6, 4, none⟩ = some (.int .i64 c5)) ∧ (w'.cell? ⟨B6 + 1, 0, none⟩ = some (.int .i64 c6) ∧ w'.cell? ⟨B6 + 1, 1, none⟩ = some (.slice ya yn yc)) ∧ Ext w7 w') := fun w' x => ⟨⟨x.cell p0, x.cell p1, x.cell p2, x.cell p3, x.cell p4⟩, ⟨x.cell f0, x.cell f1⟩, ⟨x.cell q0, x.cell q1, x.cell q2, x.cell q3, x.cell q4⟩, ⟨x.cell d0, x.cell d1, x.cell d2, x.cell d3, x.cell d4⟩, ⟨x.cell h0, x.cell h1⟩, x⟩
    obtain ⟨b, hbm⟩ : ∃ b, decide (MayR ⟨k, s, m, l, c⟩) = b := ⟨_, rfl⟩
    have UM := Lib.hid (fun W => lmay_any ⟨k, s, m, l, c⟩ W)
    have UR := Lib.hid (fun W => rlmay_any ⟨k, s, m, l, c⟩ W)
    rw [hbm] at UM UR
    have hbb : (b == b) = true := by simp
    have UF := Lib.hid (fun W (x : Ext w7 W) => first26_any W (HG.out.ext (HX6.out.trans x)) (HNB.out.ext (HX6.out.trans x)))
    have UP := Lib.hid (fun W => plain_any ⟨k, s, m, l, c⟩ W)
    have UQ := Lib.hid (fun W => plain_any ⟨k5, s5, m5, l5, c5⟩ W)
    have UB := Lib.hid (fun W (x : Ext w7 W) => bytes_same (pkR ⟨k, s, m, l, c⟩) u2 u4 W (HY6.out.ext x) (HV6.out.ext x))
    have UE := Lib.hid (fun W (x : Ext w7 W) => same_fall (pkE ⟨k, s, m, l, c⟩) z2 (.slice xa xn xc) c4 W (HG.out.ext (HX6.out.trans x)) (ErrIs.ext HZ6.out x) (RErrIs.ext HW6.out x))
    have UH := Lib.hid (fun W (x : Ext w7 W) => same_fall PF z5 (.slice ya yn yc) c6 W (HG.out.ext (HX6.out.trans x)) (ErrIs.ext HQ6.out x) (RErrIs.ext HQR6.out x))
    have HXF := Lib.hid (HX0.out.trans HX6.out)
    clear hbm HR6 HX6 HZ6 HY6 HV6 HW6 HF6 HQ6 HC6 HQR6 HD6 HH6
    go_wp2_with fail
    go_region_held3 (fun w' => (w'.cell? ⟨R, 0, none⟩ = some (.int .i64 k) ∧ w'.cell? ⟨R, 1, none⟩ = some (.int .i64 s) ∧ w'.cell? ⟨R, 2, none⟩ = some (.int .i64 m) ∧ w'.cell? ⟨R, 3, none⟩ = some (.int .i64 l) ∧ w'.cell? ⟨R, 4, none⟩ = some (.int .i64 c)) ∧ (w'.cell? ⟨B4, 0, none⟩ = some (.int .i64 c4) ∧ w'.cell? ⟨B4, 1, none⟩ = some (.slice xa xn xc)) ∧ (w'.cell? ⟨B5, 0, none⟩ = some (.int .i64 k5) ∧ w'.cell? ⟨B5, 1, none⟩ = some (.int .i64 s5) ∧ w'.cell? ⟨B5, 2, none⟩ = some (.int .i64 m5) ∧ w'.cell? ⟨B5, 3, none⟩ = some (.int .i64 l5) ∧ w'.cell? ⟨B5, 4, none⟩ = some (.int .i64 c5)) ∧ (w'.cell? ⟨B6, 0, none⟩ = some (.int .i64 k5) ∧ w'.cell? ⟨B6, 1, none⟩ = some (.int .i64 s5) ∧ w'.cell? ⟨B6, 2, none⟩ = some (.int .i64 m5) ∧ w'.cell? ⟨B6, 3, none⟩ = some (.int .i64 l5) ∧ w'.cell? ⟨B6, 4, none⟩ = some (.int .i64 c5)) ∧ (w'.cell? ⟨B6 + 1, 0, none⟩ = some (.int .i64 c6) ∧ w'.cell? ⟨B6 + 1, 1, none⟩ = some (.slice ya yn yc)) ∧ Ext w7 w')
      (first | assumption | (exact KS.out _ (by repeat (first | exact Ext.refl _ | assumption | refine Ext.drew ?_ | refine Ext.trans ?_ (by assumption)))) | (go_split_ands; exact KS.out _ (by repeat (first | exact Ext.refl _ | assumption | refine Ext.drew ?_ | refine Ext.trans ?_ (by assumption)))))
      ((first
        | (go_at_call 9; obtain ⟨-, -, -, -, -, hE1⟩ : _ ∧ _ ∧ _ ∧ _ ∧ _ ∧ Ext w7 _ := (by assumption); refine (UF.out _ hE1).mono ?_; rintro e wa ⟨rfl, hxa⟩)
        | (go_at_call 15; refine (UM.out _).mono ?_; rintro e wa ⟨rfl, hxa⟩)
        | (go_at_call 16; refine (UR.out _).mono ?_; rintro e wa ⟨rfl, hxa⟩)
        | (go_at_call 12; (with_reducible refine (UP.out _).mono ?_); rintro e wa ⟨rfl, hxa⟩)
        | (go_at_call 12; (with_reducible refine (UQ.out _).mono ?_); rintro e wa ⟨rfl, hxa⟩)
        | (go_at_call 17; obtain ⟨-, -, -, -, -, hE1⟩ : _ ∧ _ ∧ _ ∧ _ ∧ _ ∧ Ext w7 _ := (by assumption); refine (UB.out _ hE1).mono ?_; rintro e wa ⟨rfl, rfl⟩)
        | (go_at_call 18; obtain ⟨-, -, -, -, -, hE1⟩ : _ ∧ _ ∧ _ ∧ _ ∧ _ ∧ Ext w7 _ := (by assumption); (with_reducible refine (UE.out _ hE1).mono ?_); rintro e wa ⟨rfl, hxa⟩)
        | (go_at_call 18; obtain ⟨-, -, -, -, -, hE1⟩ : _ ∧ _ ∧ _ ∧ _ ∧ _ ∧ Ext w7 _ := (by assumption); (with_reducible refine (UH.out _ hE1).mono ?_); rintro e wa ⟨rfl, hxa⟩)))
    all_goals obtain ⟨-, -, -, -, -, hE9⟩ : _ ∧ _ ∧ _ ∧ _ ∧ _ ∧ Ext w7 _ := by assumption
    all_goals have HX9 := Lib.hid (HXF.out.trans hE9)
    all_goals go_wp2
    all_goals go_ret
    all_goals exact ⟨rfl, HX9.out⟩
end Go.Proofs.YtmphochnmdmioaaDoor

/- Lists of records that came in; kinlaw26.LogJoins: the walk. -/
namespace Go.Proofs.YtmphochnmdmioaaDoor
set_option linter.unusedVariables false
set_option linter.unusedSimpArgs false
open Go.RowKit Go.Extern.Stop Go.Stop Go.Extern

theorem row_rc {w : World} {g off n cap : Nat} {L : List Rc} (h : Row w (.slice (some ⟨g, off, none⟩) n cap) n (rcs L)) {i : Nat} {r : Rc} (hi : L[i]? = some r) : RcAt w g (off + i * 5) r :=
  ⟨by have := h.at (rcs_get hi 0 _ rfl); rwa [Nat.add_zero] at this, by have := h.at (rcs_get hi 1 _ rfl); rwa [← Nat.add_assoc] at this, by have := h.at (rcs_get hi 2 _ rfl); rwa [← Nat.add_assoc] at this, by have := h.at (rcs_get hi 3 _ rfl); rwa [← Nat.add_assoc] at this, by have := h.at (rcs_get hi 4 _ rfl); rwa [← Nat.add_assoc] at this⟩
theorem Bys.of_ownz {w : World} {base n : Nat} {v : Value} {bs : List Nat} (h : w.ownsRow base 5 1 v n (byC bs)) (hn : bs.length = n) (hb : ∀ x ∈ bs, x < 256) (hl : n ≤ 1000000) : Bys w v bs := by
  subst hn
  exact Bys.of_owns h hb (by omega)
/-- the records that may be -/
def okl (l : List Rc) : List Rc := l.filter fun r => decide (MayR r)
theorem okl_may {l : List Rc} : ∀ r ∈ okl l, MayR r := fun r hr => of_decide_eq_true (List.mem_filter.1 hr).2
theorem okl_len (l : List Rc) : (okl l).length ≤ l.length := List.length_filter_le _ _
theorem okl_yes {l : List Rc} {i : Nat} {r : Rc} (h : l[i]? = some r) (hm : MayR r) : okl (l.take (i + 1)) = okl (l.take i) ++ [r] := by
  unfold okl
  rw [List.take_add_one, h, List.filter_append]
  show _ ++ List.filter _ [r] = _
  rw [List.filter_cons_of_pos (by simpa using hm)]
  rfl
theorem okl_no {l : List Rc} {i : Nat} {r : Rc} (h : l[i]? = some r) (hm : ¬ MayR r) : okl (l.take (i + 1)) = okl (l.take i) := by
  unfold okl
  rw [List.take_add_one, h, List.filter_append]
  show _ ++ List.filter _ [r] = _
  rw [List.filter_cons_of_neg (by simpa using hm)]
  exact List.append_nil _
set_option maxHeartbeats 8000000 in
set_option maxRecDepth 20000 in
theorem logjoins_law (L : List Rc) (bs : List Nat) (u v : Value) (w : World) (hg : EtIs w) (hnb : NbIs w) (ra : Row w u L.length (rcs L)) (rb : Row w v bs.length (bs.map fun x : Nat => Value.int .u8 (x : Int))) (hb : ∀ x ∈ bs, x < 256) (hp : Plain v) :
    Calls Tryd.prog 8 #[u, v] w fun e w' => e = .returned (.bool true) ∧ Ext w w' := by
  have HG := Lib.hid hg
  have HNB := Lib.hid hnb
  obtain ⟨a, ca, rfl⟩ := ra.form
  obtain ⟨b, cap, rfl⟩ := rb.form
  obtain ⟨n, hn⟩ : ∃ n, bs.length = n := ⟨_, rfl⟩
  obtain ⟨m, hm⟩ : ∃ m, L.length = m := ⟨_, rfl⟩
  rw [hn] at rb hp ⊢
  rw [hm] at ra ⊢
  by_cases hl0 : 400 < m
  · have hl0' : (400 : Int) < (m : Int) := by omega
    clear hg hnb rb ra hn hm hp
    go_enter Tryd.func8, Tryd.ntmps8
    go_wp2_with fail
    refine (first26_any _ HG.out HNB.out).mono ?_; rintro e w1 ⟨rfl, hx1⟩
    have HX1 := Lib.hid hx1
    clear hx1
    go_wp2_with fail
    refine (first26_any _ (HG.out.ext HX1.out) (HNB.out.ext HX1.out)).mono ?_; rintro e w2 ⟨rfl, hx2⟩
    have HX2 := Lib.hid (HX1.out.trans hx2)
    clear hx2
    go_wp2
    go_ret
    exact ⟨rfl, HX2.out⟩
  have hl0' : ¬ (400 : Int) < (m : Int) := by omega
  by_cases hl : 20000 < n
  · have hl' : (20000 : Int) < (n : Int) := by omega
    clear hg hnb rb ra hn hm hp
    go_enter Tryd.func8, Tryd.ntmps8
    go_wp2_with fail
    refine (first26_any _ HG.out HNB.out).mono ?_; rintro e w1 ⟨rfl, hx1⟩
    have HX1 := Lib.hid hx1
    clear hx1
    go_wp2_with fail
    refine (first26_any _ (HG.out.ext HX1.out) (HNB.out.ext HX1.out)).mono ?_; rintro e w2 ⟨rfl, hx2⟩
    have HX2 := Lib.hid (HX1.out.trans hx2)
    clear hx2
    go_wp2
    go_ret
    exact ⟨rfl, HX2.out⟩
  have hl' : ¬ (20000 : Int) < (n : Int) := by omega
  have HB : Hid (Bys w (.slice b n cap) bs) := ⟨by rw [hn]; exact rb, hb, by rw [hn]; omega⟩
  have HBB := Lib.hid hb
  have HP := Lib.hid hp
  have HL := Lib.hid ra
  have HN := Lib.hid hn
  have HM := Lib.hid hm
  clear hg hnb rb ra hn hm hp hb
  go_enter Tryd.func8, Tryd.ntmps8
  go_wp2_with fail
  refine (first26_any _ HG.out HNB.out).mono ?_; rintro e w1 ⟨rfl, hx1⟩
  have HX1 := Lib.hid hx1
  clear hx1
  go_wp2_with fail
  go_loopw [5, 6, 7] (fun ov nv iv wr => ∃ i : Nat, i ≤ m ∧ iv = .int .i64 (i : Int) ∧ nv = .int .i64 ((okl (L.take i)).length : Int) ∧ Hid (wr.ownsRow w1.heap.size 5 1 ov (outR (okl (L.take i))).length (byC (outR (okl (L.take i))))) ∧ Hid (Ext w1 wr)) (fun _ _ iv _ => m - (intOf iv).toNat)
  case atStart => exact ⟨0, Nat.zero_le _, rfl, rfl, World.ownsRow_nil _ _ _ _, Ext.refl w1⟩
  case round =>
    obtain ⟨i, hi, rfl, rfl, HO, HE⟩ := hrel
    by_cases hlt : i < m
    · obtain ⟨r, hr⟩ : ∃ r, L[i]? = some r := ⟨_, List.getElem?_eq_getElem (by rw [HM.out]; exact hlt)⟩
      obtain ⟨g, off, c9, e1, -, -⟩ := HL.out.some (by omega)
      simp only [Value.slice.injEq, true_and] at e1
      obtain ⟨rfl, rfl⟩ := e1
      obtain ⟨p0, p1, p2, p3, p4⟩ := (row_rc HL.out hr).ext (HX1.out.trans HE.out)
      have UP := Lib.hid (fun W h => lpack_any r W h)
      have HOL2 : Hid ((outR (okl (L.take i))).length ≤ 10000 ∧ (okl (L.take i)).length ≤ 400) := by
        show _ ∧ _
        have h1 := outR_len (l := okl (L.take i)) okl_may
        have h2 := okl_len (L.take i)
        rw [List.length_take] at h2
        omega
      have x1 : (0 : Int) ≤ (i : Int) := by omega
      have x2 : (i : Int) < (m : Int) := by omega
      have hN4 := HOL2.out.2
      by_cases hmay : MayR r
      · have HTK := Lib.hid (okl_yes hr hmay)
        have HTO : Hid (outR (okl (L.take (i + 1))) = outR (okl (L.take i)) ++ pkR r) := by show _ = _; rw [HTK.out]; exact outR_snoc _ hmay
        rw [pkE_none.2 hmay] at UP
        have HPL := Lib.hid (pk_lt hmay)
        have HP9 : Hid ((pkR r).length ≤ 17) := by show _ ≤ _; rw [pk_len hmay]; have := lenR_le r.k; omega
        have HNN : Hid ((okl (L.take (i + 1))).length = (okl (L.take i)).length + 1) := by show _ = _; rw [HTK.out, List.length_append]; rfl
        clear hr hmay
        go_wp2_with fail
        refine (UP.out _ (HNB.out.ext (HX1.out.trans HE.out))).mono ?_; rintro e w3 ⟨u3, z3, rfl, ho3, hz3, hx3⟩
        obtain rfl : z3 = .nilIface := hz3
        have HE3 := Lib.hid (HE.out.trans hx3)
        have HO3 := Lib.hid (ownsRow_ext HO.out hx3)
        have HY3 := Lib.hid (Bys.of_owns ho3 HPL.out (by have := HP9.out; omega))
        have HPP3 := Lib.hid (Plain.of_owns ho3)
        have hB3 := HE3.out.size
        clear ho3 hx3 HO HE p0 p1 p2 p3 p4
        obtain ⟨q, hq⟩ : ∃ q, (okl (L.take i)).length = q := ⟨_, rfl⟩
        rw [hq] at HNN hN4 ⊢
        have m1 : IntKind.i64.wrap ((q : Int) + 1) = ((q + 1 : Nat) : Int) := by rw [IntKind.wrap_i64]; omega
        clear hq
        go_wp2_with (at_builtin; refine app_any rfl _ _ 25 rfl Tryd.underlying25 _ (outR (okl (L.take i))).length (outR (okl (L.take i))) (pkR r) _ rfl HO3.out rfl HY3.out HPP3.out hB3 (by have := HP9.out; have := HOL2.out.1; omega) ?_; intro v5 w5 h5 g5; have HO5 : Hid (w5.ownsRow w1.heap.size 5 1 v5 (outR (okl (L.take (i + 1)))).length (byC (outR (okl (L.take (i + 1)))))) := (by show World.ownsRow _ _ _ _ _ _ _; rw [HTO.out, List.length_append]; exact h5); have HE5 := Lib.hid (own_grow HO3.out g5 HE3.out (Nat.le_refl _)); clear h5 g5)
        go_roundw
        case rel => exact ⟨i + 1, by omega, by go_num, by rw [HNN.out]; rfl, HO5, HE5⟩
        case measure => simp [intOf]; omega
      · have HTK := Lib.hid (okl_no hr hmay)
        obtain ⟨fa, hfa⟩ : ∃ fa, pkE r = some fa := by
          cases hq : pkE r with
          | none => exact absurd (pkE_none.1 hq) hmay
          | some fa => exact ⟨fa, rfl⟩
        rw [hfa] at UP
        clear hr hmay hfa
        go_wp2_with fail
        refine (UP.out _ (HNB.out.ext (HX1.out.trans HE.out))).mono ?_; rintro e w3 ⟨u3, z3, rfl, ho3, hz3, hx3⟩
        obtain ⟨t3, y3, rfl⟩ := ErrIs.ne hz3
        have HE3 := Lib.hid (HE.out.trans hx3)
        have HO3 := Lib.hid (ownsRow_ext HO.out hx3)
        clear ho3 hz3 hx3 HO HE p0 p1 p2 p3 p4
        go_wp2
        go_roundw
        case rel => exact ⟨i + 1, by omega, by go_num, by rw [HTK.out], by show World.ownsRow _ _ _ _ _ _ _; rw [HTK.out]; exact HO3.out, HE3⟩
        case measure => simp [intOf]; omega
    · obtain rfl : i = m := by omega
      have ht : L.take i = L := List.take_of_length_le (by rw [HM.out]; exact Nat.le_refl _)
      rw [ht] at HO ⊢
      have hc1 := outR_len (l := okl L) okl_may
      have hc2 := okl_len L
      rw [HM.out] at hc2
      have HAM : Hid (∀ r ∈ okl L, MayR r) := okl_may
      obtain ⟨A, hA⟩ : ∃ A, okl L = A := ⟨_, rfl⟩
      rw [hA] at HO HAM hc1 hc2 ⊢
      have hJ := sc_join HAM.out bs
      have hcb := sc_count bs (bs.length + 1) 0 (by omega) (Nat.zero_le _)
      obtain ⟨⟨M, T⟩, hR⟩ : ∃ R, scR bs 0 = R := ⟨_, rfl⟩
      have UB := Lib.hid (fun v w h k => scan_any bs v w h k (by rw [HN.out]; omega))
      have UJ := Lib.hid (fun v w h k => scan_any (outR A ++ bs) v w h k (by rw [List.length_append, HN.out]; omega))
      rw [hR] at UB hJ hcb
      rw [hJ] at UJ
      obtain ⟨q, hq⟩ : ∃ q, A.length = q := ⟨_, rfl⟩
      obtain ⟨z, hz⟩ : ∃ z, (outR A).length = z := ⟨_, rfl⟩
      obtain ⟨t, ht'⟩ : ∃ t, M.length = t := ⟨_, rfl⟩
      have HQ := Lib.hid hq
      have HZ := Lib.hid hz
      have HT := Lib.hid ht'
      have hcb' : M.length + 0 ≤ T ∧ T ≤ bs.length := hcb
      rw [HN.out] at hcb'
      rw [hz] at hc1 HO
      rw [hq] at hc1 hc2 ⊢
      have HAB := Lib.hid (outR_lt HAM.out)
      have HYA := Lib.hid (Bys.of_ownz HO.out hz HAB.out (by omega))
      obtain ⟨oa, oc, hov⟩ := uform HO.out
      subst hov
      obtain ⟨N, hNN⟩ : ∃ N, q + t = N := ⟨_, rfl⟩
      obtain ⟨W, hWW⟩ : ∃ W, z + T = W := ⟨_, rfl⟩
      rw [hz, hWW] at UJ
      have HNN := Lib.hid hNN
      have xN : IntKind.i64.wrap ((q : Int) + (t : Int)) = (N : Int) := by rw [IntKind.wrap_i64]; omega
      have xW : IntKind.i64.wrap ((z : Int) + (T : Int)) = (W : Int) := by rw [IntKind.wrap_i64]; omega
      have hZ9 := Lib.hid hc1
      have hQ9 := Lib.hid hc2
      have hT9 := Lib.hid hcb'
      have ht9 : Hid (t ≤ 20000) := by show _ ≤ _; omega
      clear ht hA hJ hcb hR hq hz ht' hNN hWW hc1 hc2 hcb'
      go_wp2_with fail
      refine (UB.out _ _ (HNB.out.ext (HX1.out.trans HE.out)) (HB.out.ext (HX1.out.trans HE.out))).mono ?_; rintro e w3 ⟨u3, rfl, ho3, hx3⟩
      have ho3 : w3.ownsRow wr.heap.size 24 5 u3 M.length (rcs M) := ho3
      rw [HT.out] at ho3
      obtain ⟨ma, mc, rfl⟩ := uform ho3
      have HO3 := Lib.hid ho3
      have HE3 := Lib.hid (HE.out.trans hx3)
      have HYA3 := Lib.hid (HYA.out.ext hx3)
      clear ho3 HYA
      go_wp2_with fail
      refine (cpb_any (outR A) _ _ HYA3.out).mono ?_; rintro e w4 ⟨u4, rfl, ho4, hx4⟩
      obtain ⟨ca4, cc4, rfl⟩ := uform ho4
      rw [HZ.out] at ho4 ⊢
      have HX4 := Lib.hid hx4
      have HO4 := Lib.hid ho4
      have hB4 := hx4.size
      have HMO := Lib.hid (ownsRow_ext HO3.out hx4)
      have HE4 := Lib.hid (HE3.out.trans hx4)
      have HOO := Lib.hid HO
      clear ho4 hx4 hx3
      go_wp2_with (first | (at_builtin; refine app_any rfl _ _ 25 rfl Tryd.underlying25 _ z (outR A) bs _ rfl HO4.out rfl (HB.out.ext (HX1.out.trans HE4.out)) HP.out hB4 (by rw [HN.out]; have := hZ9.out; have := hQ9.out; omega) ?_; intro v5 w5 h5 g5; obtain ⟨va, vc, rfl⟩ := uform h5; have HX5 : Hid (Ext w3 w5) := own_grow HO4.out g5 HX4.out (Nat.le_refl _); have HY5 := Lib.hid (Bys.of_ownz h5 (by rw [List.length_append, HZ.out]) (fun x hx => (List.mem_append.1 hx).elim (HAB.out x) (HBB.out x)) (by rw [HN.out]; have := hZ9.out; have := hQ9.out; omega)); clear h5 g5) | (go_at_call 19; refine (UJ.out _ _ (HNB.out.ext (HX1.out.trans (HE3.out.trans HX5.out))) HY5.out).mono ?_; rintro e w6 ⟨u6, rfl, ho6, hx6⟩; have ho6 : w6.ownsRow w5.heap.size 24 5 u6 (A ++ M).length (rcs (A ++ M)) := ho6; rw [List.length_append, HQ.out, HT.out, HNN.out] at ho6; obtain ⟨ja, jc, rfl⟩ := uform ho6; have HO6 := Lib.hid ho6; have HE6 := Lib.hid ((HE3.out.trans HX5.out).trans hx6); have HM6 := Lib.hid (ownsRow_ext HO3.out (HX5.out.trans hx6)); clear ho6 hx6))
      have HMJ : Hid (∀ j r, M[j]? = some r → (A ++ M)[q + j]? = some r) := fun j r h => by
        rw [List.getElem?_append_right (by rw [HQ.out]; omega), HQ.out, Nat.add_sub_cancel_left]; exact h
      have HXX := Lib.hid (HX1.out.trans HE6.out)
      clear HO HOO HYA3 HO3 HX4 HO4 HMO HE4 HX5 HY5 UB UJ HE3 HE6 xW hB4
      go_loopw [14] (fun iv wx => ∃ j : Nat, j ≤ t ∧ iv = .int .i64 (j : Int) ∧ Hid (Ext w6 wx)) (fun iv _ => t - (intOf iv).toNat)
      case atStart => exact ⟨0, Nat.zero_le _, rfl, Ext.refl w6⟩
      case round =>
        obtain ⟨j, hj, rfl, HJ⟩ := hrel
        by_cases hlt : j < t
        · obtain ⟨r, hr⟩ : ∃ r, M[j]? = some r := ⟨_, List.getElem?_eq_getElem (by rw [HT.out]; exact hlt)⟩
          obtain ⟨g1, d1, e1, -, -⟩ := uaddr HO6.out (by have := HNN.out; omega)
          obtain ⟨g2, d2, e2, -, -⟩ := uaddr HM6.out (by omega)
          simp only [Value.slice.injEq, true_and] at e1 e2
          obtain ⟨rfl, rfl⟩ := e1
          obtain ⟨rfl, rfl⟩ := e2
          obtain ⟨K, hK⟩ : ∃ K, q + j = K := ⟨_, rfl⟩
          have hjr := HMJ.out j r hr
          rw [hK] at hjr
          obtain ⟨p0, p1, p2, p3, p4⟩ := (rc_at HO6.out hjr).ext HJ.out
          obtain ⟨q0, q1, q2, q3, q4⟩ := (rc_at HM6.out hr).ext HJ.out
          have hKN : K < N := by have := HNN.out; omega
          have x3 : IntKind.i64.wrap ((q : Int) + (j : Int)) = (K : Int) := by rw [IntKind.wrap_i64]; have := hQ9.out; have := ht9.out; omega
          have x4 : (0 : Int) ≤ (K : Int) := by omega
          have x5 : (K : Int) < (N : Int) := by omega
          have x6 : (0 : Int) ≤ (j : Int) := by omega
          have x7 : (j : Int) < (t : Int) := by omega
          have hb9 : t ≤ 20000 := ht9.out
          clear hr hjr hK
          go_wp2_with fail
          go_quiet (fail)
          have HJ9 := Lib.hid (HJ.out.drewN nq)
          go_wp2
          go_roundw
          case rel => exact ⟨j + 1, by omega, by go_num, HJ9⟩
          case measure => simp [intOf]; omega
        · obtain rfl : j = t := by omega
          go_wp2_with fail
          refine (first26_any _ (HG.out.ext (HXX.out.trans HJ.out)) (HNB.out.ext (HXX.out.trans HJ.out))).mono ?_; rintro e w9 ⟨rfl, hx9⟩
          have HX9 := Lib.hid ((HXX.out.trans HJ.out).trans hx9)
          go_wp2
          go_ret
          exact ⟨rfl, HX9.out⟩
end Go.Proofs.YtmphochnmdmioaaDoor

/- kinlaw26.LogBack: the walk. -/
namespace Go.Proofs.YtmphochnmdmioaaDoor
set_option linter.unusedVariables false
set_option linter.unusedSimpArgs false
open Go.RowKit Go.Extern.Stop Go.Stop Go.Extern

theorem push_iL {ops : Array Oper} {rest : List Oper} {o : Oper} {a : Act} {Q : Exit → Act → World → Prop} {W : World} {base : Nat} (hgd : o.guard = none) (s y : Operand) (t : TypeId)
    (ho : o.op = .call { callee := .builtin .append, args := #[s, y], argTypes := #[t, t] }) (ht : Tryd.prog.underlying t = some (.slice 3))
    (v : Value) (n : Nat) (xs : List Value) (x : Int) (hs : a.eval s = v) (hown : W.ownsRow base 3 1 v n xs) (hx : a.eval y = .slice (some ⟨W.heap.size, 0, none⟩) 1 1) (hb : base ≤ W.heap.size) (hn : n ≤ 1000000000000)
    (h : ∀ v' w', w'.ownsRow base 3 1 v' (n + 1) (xs ++ [.int .i64 x]) → W.grownBy w' v.ownBlock → wpList Tryd.prog ops Q rest (a.put o.dst v') w') :
    wpList Tryd.prog ops Q (o :: rest) a (W.alloc (.cells #[.int .i64 x] 3)) := by
  obtain ⟨i0, hi, hz0, hz1, hz2⟩ := info_parts infoInt
  refine wpList_append_own_at _ hgd s y t ho base 3 i0 (.int .i64 0) 1 8 ht hi hz0 hz1 hz2 rfl (by decide) v n xs hs (hown.alloc _) ⟨W.heap.size, 0, none⟩ 1 1 [.int .i64 x] hx rfl (cell_one_new _ _ _) (one_int _) (by unfold maxLen; omega) (by omega) (by simp; omega) ?_
  intro v' w' h1 h2 h3 h4
  refine h v' w' h1 ⟨h2.os, h2.tape, h2.output, Nat.le_trans (by simp) h2.size, fun k hk hne => ?_⟩
  exact (h2.block k (by simp; omega) hne).trans (Below.heap_alloc W _ k hk)
/-- a row of one type stays when one of another type grows -/
theorem own_otherL {W W' : World} {b b' n n' s s' : Nat} {e e' : TypeId} {v v' : Value} {xs xs' : List Value} (h : W.ownsRow b e s v n xs) (k : W.ownsRow b' e' s' v' n' xs') (hne : e ≠ e') (g : W.grownBy W' v'.ownBlock) : W'.ownsRow b e s v n xs := by
  refine own_kept h g ?_
  rcases h.2 with ⟨rfl, -⟩ | ⟨c, cap, cur, rfl, -, hg, -⟩
  · exact .inl rfl
  · right
    intro e9
    rcases k.2 with ⟨rfl, -⟩ | ⟨c', cap', cur', rfl, -, hg', -⟩
    · cases e9
    · have : c = c' := Option.some.inj e9
      subst this
      rw [hg] at hg'
      simp only [Option.some.injEq, Obj.cells.injEq] at hg'
      exact hne hg'.2.1
def enR (l : List Rc) : List Int := endsM (l.map umR)
theorem enR_len (l : List Rc) : (enR l).length = l.length := by unfold enR; rw [ends_len, List.length_map]
theorem enR_snoc (l : List Rc) {r : Rc} (h : MayR r) : enR (l ++ [r]) = enR l ++ [((outR l ++ pkR r).length : Int)] := by
  unfold enR
  rw [List.map_append, pkR_form h]
  exact ends_snoc _ _
theorem enR_get (l : List Rc) {q : Nat} (h : q < l.length) : (enR l)[q]? = some ((eN (l.map umR) (q + 1) : Nat) : Int) := ends_get _ (by rw [List.length_map]; exact h)
theorem eN_le (l : List Rc) (q : Nat) : eN (l.map umR) q ≤ (outR l).length := by
  unfold eN outR
  have : outM (l.map umR) = outM ((l.map umR).take q) ++ outM ((l.map umR).drop q) := by rw [← outM_app, List.take_append_drop]
  rw [this, List.length_append]
  omega
set_option maxHeartbeats 8000000 in
set_option maxRecDepth 20000 in
theorem logback_law (L : List Rc) (cut : Int) (u : Value) (w : World) (hg : EtIs w) (hnb : NbIs w) (ra : Row w u L.length (rcs L)) (hcut : -9223372036854775808 ≤ cut ∧ cut ≤ 9223372036854775807) :
    Calls Tryd.prog 6 #[u, .int .i64 cut] w fun e w' => e = .returned (.bool true) ∧ Ext w w' := by
  have HG := Lib.hid hg
  have HNB := Lib.hid hnb
  obtain ⟨a, ca, rfl⟩ := ra.form
  obtain ⟨m, hm⟩ : ∃ m, L.length = m := ⟨_, rfl⟩
  rw [hm] at ra ⊢
  by_cases hl0 : 400 < m
  · have hl0' : (400 : Int) < (m : Int) := by omega
    clear hg hnb ra hm
    go_enter Tryd.func6, Tryd.ntmps6
    go_wp2_with fail
    refine (first26_any _ HG.out HNB.out).mono ?_; rintro e w1 ⟨rfl, hx1⟩
    have HX1 := Lib.hid hx1
    clear hx1
    go_wp2_with fail
    refine (first26_any _ (HG.out.ext HX1.out) (HNB.out.ext HX1.out)).mono ?_; rintro e w2 ⟨rfl, hx2⟩
    have HX2 := Lib.hid (HX1.out.trans hx2)
    clear hx2
    go_wp2
    go_ret
    exact ⟨rfl, HX2.out⟩
  have hl0' : ¬ (400 : Int) < (m : Int) := by omega
  have HL := Lib.hid ra
  have HM := Lib.hid hm
  clear hg hnb ra hm
  go_enter Tryd.func6, Tryd.ntmps6
  go_wp2_with fail
  refine (first26_any _ HG.out HNB.out).mono ?_; rintro e w1 ⟨rfl, hx1⟩
  have HX1 := Lib.hid hx1
  clear hx1
  go_wp2_with fail
  go_loopw [5, 6, 7, 8] (fun ov ev dv iv wr => ∃ i : Nat, i ≤ m ∧ iv = .int .i64 (i : Int) ∧ Hid (wr.ownsRow w1.heap.size 5 1 ov (outR (okl (L.take i))).length (byC (outR (okl (L.take i))))) ∧ Hid (wr.ownsRow w1.heap.size 3 1 ev (okl (L.take i)).length ((enR (okl (L.take i))).map (Value.int .i64))) ∧ Hid (wr.ownsRow w1.heap.size 24 5 dv (okl (L.take i)).length (rcs (okl (L.take i)))) ∧ Hid (Ext w1 wr)) (fun _ _ _ iv _ => m - (intOf iv).toNat)
  case atStart => exact ⟨0, Nat.zero_le _, rfl, World.ownsRow_nil _ _ _ _, World.ownsRow_nil _ _ _ _, World.ownsRow_nil _ _ _ _, Ext.refl w1⟩
  case round =>
    obtain ⟨i, hi, rfl, HO, HN, HD, HE⟩ := hrel
    by_cases hlt : i < m
    · obtain ⟨r, hr⟩ : ∃ r, L[i]? = some r := ⟨_, List.getElem?_eq_getElem (by rw [HM.out]; exact hlt)⟩
      obtain ⟨g, off, c9, e1, -, -⟩ := HL.out.some (by omega)
      simp only [Value.slice.injEq, true_and] at e1
      obtain ⟨rfl, rfl⟩ := e1
      have HRC := Lib.hid (row_rc HL.out hr)
      obtain ⟨p0, p1, p2, p3, p4⟩ := HRC.out.ext (HX1.out.trans HE.out)
      have UP := Lib.hid (fun W h => lpack_any r W h)
      have UM := Lib.hid (fun W => lmay_any r W)
      have HOL2 : Hid ((outR (okl (L.take i))).length ≤ 10000 ∧ (okl (L.take i)).length ≤ 400) := by
        show _ ∧ _
        have h1 := outR_len (l := okl (L.take i)) okl_may
        have h2 := okl_len (L.take i)
        rw [List.length_take] at h2
        omega
      have x1 : (0 : Int) ≤ (i : Int) := by omega
      have x2 : (i : Int) < (m : Int) := by omega
      by_cases hmay : MayR r
      · have HTK := Lib.hid (okl_yes hr hmay)
        have HTO : Hid (outR (okl (L.take (i + 1))) = outR (okl (L.take i)) ++ pkR r) := by show _ = _; rw [HTK.out]; exact outR_snoc _ hmay
        have HTE : Hid (enR (okl (L.take (i + 1))) = enR (okl (L.take i)) ++ [(((outR (okl (L.take i))) ++ pkR r).length : Int)]) := by show _ = _; rw [HTK.out]; exact enR_snoc _ hmay
        rw [pkE_none.2 hmay] at UP
        rw [decide_eq_true hmay] at UM
        have HPL := Lib.hid (pk_lt hmay)
        have HP9 : Hid ((pkR r).length ≤ 17) := by show _ ≤ _; rw [pk_len hmay]; have := lenR_le r.k; omega
        obtain ⟨P, hP⟩ : ∃ P, okl (L.take i) = P := ⟨_, rfl⟩
        obtain ⟨P2, hP2⟩ : ∃ P2, okl (L.take (i + 1)) = P2 := ⟨_, rfl⟩
        have HPP2 := Lib.hid hP2
        rw [hP] at HTK HTO HTE HOL2 HO HN HD
        rw [hP2] at HTK HTO HTE
        obtain ⟨z, hz⟩ : ∃ z, (outR P).length = z := ⟨_, rfl⟩
        obtain ⟨q, hq⟩ : ∃ q, P.length = q := ⟨_, rfl⟩
        rw [hz] at HO HOL2
        rw [hq] at HN HD HOL2
        have HZ := Lib.hid hz
        have HQ := Lib.hid hq
        have hq4 := HOL2.out.2
        clear hr hmay hP hP2 hz hq
        go_wp2_with fail
        refine (UP.out _ (HNB.out.ext (HX1.out.trans HE.out))).mono ?_; rintro e w3 ⟨u3, z3, rfl, ho3, hz3, hx3⟩
        obtain rfl : z3 = .nilIface := hz3
        have HE3 := Lib.hid (HE.out.trans hx3)
        have HO3 := Lib.hid (ownsRow_ext HO.out hx3)
        have HN3 := Lib.hid (ownsRow_ext HN.out hx3)
        have HD3 := Lib.hid (ownsRow_ext HD.out hx3)
        have HY3 := Lib.hid (Bys.of_owns ho3 HPL.out (by have := HP9.out; omega))
        have HPP3 := Lib.hid (Plain.of_owns ho3)
        obtain ⟨q0, q1, q2, q3, q4⟩ := HRC.out.ext (HX1.out.trans HE3.out)
        clear ho3 hx3 HO HN HD HE p0 p1 p2 p3 p4
        have HRK := HRC
        obtain ⟨k, s, n, l, c⟩ := r
        simp only at q0 q1 q2 q3 q4
        have KS : Hid (∀ w', Ext w3 w' → (w'.cell? ⟨g, off + i * 5, none⟩ = some (.int .i64 k) ∧ w'.cell? ⟨g, off + i * 5 + 1, none⟩ = some (.int .i64 s) ∧ w'.cell? ⟨g, off + i * 5 + 2, none⟩ = some (.int .i64 n) ∧ w'.cell? ⟨g, off + i * 5 + 3, none⟩ = some (.int .i64 l) ∧ w'.cell? ⟨g, off + i * 5 + 4, none⟩ = some (.int .i64 c)) ∧ Ext w3 w') := fun w' x => ⟨⟨x.cell q0, x.cell q1, x.cell q2, x.cell q3, x.cell q4⟩, x⟩
        go_wp2_with fail
        go_region_held3 (fun w' => (w'.cell? ⟨g, off + i * 5, none⟩ = some (.int .i64 k) ∧ w'.cell? ⟨g, off + i * 5 + 1, none⟩ = some (.int .i64 s) ∧ w'.cell? ⟨g, off + i * 5 + 2, none⟩ = some (.int .i64 n) ∧ w'.cell? ⟨g, off + i * 5 + 3, none⟩ = some (.int .i64 l) ∧ w'.cell? ⟨g, off + i * 5 + 4, none⟩ = some (.int .i64 c)) ∧ Ext w3 w')
          (first | assumption | (exact KS.out _ (by repeat (first | exact Ext.refl _ | assumption | refine Ext.drew ?_ | refine Ext.trans ?_ (by assumption)))) | (go_split_ands; exact KS.out _ (by repeat (first | exact Ext.refl _ | assumption | refine Ext.drew ?_ | refine Ext.trans ?_ (by assumption)))))
          ((go_at_call 15; refine (UM.out _).mono ?_; rintro e w4 ⟨rfl, hx4⟩))
        obtain ⟨-, hE4⟩ : _ ∧ Ext w3 _ := by assumption
        have HE4 := Lib.hid (HE3.out.trans hE4)
        have HO4 := Lib.hid (ownsRow_ext HO3.out hE4)
        have HN4 := Lib.hid (ownsRow_ext HN3.out hE4)
        have HD4 := Lib.hid (ownsRow_ext HD3.out hE4)
        have HY4 := Lib.hid (HY3.out.ext hE4)
        have hB4 := HE4.out.size
        clear HE3 HO3 HN3 HD3 HY3 KS q0 q1 q2 q3 q4 hE4
        obtain ⟨y, hy⟩ : ∃ y, (pkR ⟨k, s, n, l, c⟩).length = y := ⟨_, rfl⟩
        have HYL := Lib.hid hy
        rw [hy] at HP9
        obtain ⟨G, hG⟩ : ∃ G, z + y = G := ⟨_, rfl⟩
        have HGG := Lib.hid hG
        have hGb : G ≤ 20000 := by have := HP9.out; have := HOL2.out.1; omega
        have HGL : Hid ((outR P ++ pkR ⟨k, s, n, l, c⟩).length = G) := by show _ = _; rw [List.length_append, HZ.out, HYL.out]; exact hG
        rw [HGL.out] at HTE
        clear hy hG
        go_wp2_with (first
          | (at_builtin; refine app_any rfl _ _ 25 rfl Tryd.underlying25 _ z (outR P) (pkR ⟨k, s, n, l, c⟩) _ rfl HO4.out rfl HY4.out HPP3.out hB4 (by rw [HYL.out]; have := HP9.out; have := HOL2.out.1; omega) ?_; intro v5 w5 h5 g5; rw [HYL.out, HGG.out] at h5; obtain ⟨oa, oc, rfl⟩ := uform h5; have HO5 := Lib.hid h5; have HN5 := Lib.hid (own_otherL HN4.out HO4.out (by decide) g5); have HD5 := Lib.hid (own_otherL HD4.out HO4.out (by decide) g5); have HE5 := Lib.hid (own_grow HO4.out g5 HE4.out (Nat.le_refl _)); have hB5 := Nat.le_trans hB4 g5.size; obtain ⟨q0, q1, q2, q3, q4⟩ := HRC.out.ext (HX1.out.trans HE5.out); clear h5 g5)
          | (at_builtin; refine push_iL rfl _ _ 65 rfl Tryd.underlying65 _ q _ (G : Int) rfl HN5.out (by show Value.slice (some ⟨_, 0, none⟩) 1 1 = _; simp) hB5 (by omega) ?_; intro v6 w6 h6 g6; have HN6 := Lib.hid h6; have HO6 := Lib.hid (own_otherL HO5.out HN5.out (by decide) g6); have HD6 := Lib.hid (own_otherL HD5.out HN5.out (by decide) g6); have HE6 := Lib.hid (Below.grown HE5.out g6 HE5.out.size (fun q hq => (HN5.out.lt q hq).1)); have hB6 := Nat.le_trans hB5 g6.size; obtain ⟨r0, r1, r2, r3, r4⟩ := HRC.out.ext (HX1.out.trans HE6.out); clear h6 g6)
          | (at_builtin; refine push_rc rfl _ _ 49 rfl Tryd.underlying49 _ q _ ⟨k, s, n, l, c⟩ rfl HD6.out (by show Value.slice (some ⟨_, 0, none⟩) 1 1 = _; simp) hB6 (by omega) ?_; intro g7 c7 w7 h7 G7; have HD7 := Lib.hid h7; have HO7 := Lib.hid (own_otherL HO6.out HD6.out (by decide) G7); have HN7 := Lib.hid (own_otherL HN6.out HD6.out (by decide) G7); have HE7 := Lib.hid (Below.grown HE6.out G7 HE6.out.size (fun q hq => (HD6.out.lt q hq).1)); clear h7 G7))
        go_roundw
        case rel =>
          have e2 : P2.length = q + 1 := by rw [HTK.out, List.length_append, HQ.out]; rfl
          refine ⟨i + 1, by omega, by go_num, ?_, ?_, ?_, HE7⟩
          all_goals (try rw [HPP2.out])
          · show World.ownsRow _ _ _ _ _ _ _
            rw [HTO.out, HGL.out]
            exact HO7.out
          · show World.ownsRow _ _ _ _ _ _ _
            rw [e2, HTE.out, List.map_append]
            exact HN7.out
          · show World.ownsRow _ _ _ _ _ _ _
            rw [e2, HTK.out, rcs_snoc]
            exact HD7.out
        case measure => simp [intOf]; omega
      · have HTK := Lib.hid (okl_no hr hmay)
        obtain ⟨fa, hfa⟩ : ∃ fa, pkE r = some fa := by
          cases hq : pkE r with
          | none => exact absurd (pkE_none.1 hq) hmay
          | some fa => exact ⟨fa, rfl⟩
        rw [hfa] at UP
        rw [decide_eq_false hmay] at UM
        clear hr hmay hfa
        go_wp2_with fail
        refine (UP.out _ (HNB.out.ext (HX1.out.trans HE.out))).mono ?_; rintro e w3 ⟨u3, z3, rfl, ho3, hz3, hx3⟩
        obtain ⟨t3, y3, rfl⟩ := ErrIs.ne hz3
        have HE3 := Lib.hid (HE.out.trans hx3)
        have HO3 := Lib.hid (ownsRow_ext HO.out hx3)
        have HN3 := Lib.hid (ownsRow_ext HN.out hx3)
        have HD3 := Lib.hid (ownsRow_ext HD.out hx3)
        obtain ⟨q0, q1, q2, q3, q4⟩ := HRC.out.ext (HX1.out.trans HE3.out)
        clear ho3 hz3 hx3 HO HN HD HE p0 p1 p2 p3 p4
        obtain ⟨k, s, n, l, c⟩ := r
        simp only at q0 q1 q2 q3 q4
        have KS : Hid (∀ w', Ext w3 w' → (w'.cell? ⟨g, off + i * 5, none⟩ = some (.int .i64 k) ∧ w'.cell? ⟨g, off + i * 5 + 1, none⟩ = some (.int .i64 s) ∧ w'.cell? ⟨g, off + i * 5 + 2, none⟩ = some (.int .i64 n) ∧ w'.cell? ⟨g, off + i * 5 + 3, none⟩ = some (.int .i64 l) ∧ w'.cell? ⟨g, off + i * 5 + 4, none⟩ = some (.int .i64 c)) ∧ Ext w3 w') := fun w' x => ⟨⟨x.cell q0, x.cell q1, x.cell q2, x.cell q3, x.cell q4⟩, x⟩
        go_wp2_with fail
        go_region_held3 (fun w' => (w'.cell? ⟨g, off + i * 5, none⟩ = some (.int .i64 k) ∧ w'.cell? ⟨g, off + i * 5 + 1, none⟩ = some (.int .i64 s) ∧ w'.cell? ⟨g, off + i * 5 + 2, none⟩ = some (.int .i64 n) ∧ w'.cell? ⟨g, off + i * 5 + 3, none⟩ = some (.int .i64 l) ∧ w'.cell? ⟨g, off + i * 5 + 4, none⟩ = some (.int .i64 c)) ∧ Ext w3 w')
          (first | assumption | (exact KS.out _ (by repeat (first | exact Ext.refl _ | assumption | refine Ext.drew ?_ | refine Ext.trans ?_ (by assumption)))) | (go_split_ands; exact KS.out _ (by repeat (first | exact Ext.refl _ | assumption | refine Ext.drew ?_ | refine Ext.trans ?_ (by assumption)))))
          ((go_at_call 15; refine (UM.out _).mono ?_; rintro e w4 ⟨rfl, hx4⟩))
        obtain ⟨-, hE4⟩ : _ ∧ Ext w3 _ := by assumption
        have HE4 := Lib.hid (HE3.out.trans hE4)
        have HO4 := Lib.hid (ownsRow_ext HO3.out hE4)
        have HN4 := Lib.hid (ownsRow_ext HN3.out hE4)
        have HD4 := Lib.hid (ownsRow_ext HD3.out hE4)
        clear HE3 HO3 HN3 HD3 KS q0 q1 q2 q3 q4 hE4
        go_wp2
        go_roundw
        case rel =>
          refine ⟨i + 1, by omega, by go_num, ?_, ?_, ?_, HE4⟩
          all_goals rw [HTK.out]
          · exact HO4
          · exact HN4
          · exact HD4
        case measure => simp [intOf]; omega
    · obtain rfl : i = m := by omega
      have ht : L.take i = L := List.take_of_length_le (by rw [HM.out]; exact Nat.le_refl _)
      rw [ht] at HO HN HD
      have hc1 := outR_len (l := okl L) okl_may
      have hc2 := okl_len L
      rw [HM.out] at hc2
      have HAM : Hid (∀ r ∈ okl L, MayR r) := okl_may
      obtain ⟨A, hA⟩ : ∃ A, okl L = A := ⟨_, rfl⟩
      rw [hA] at HO HN HD HAM hc1 hc2
      obtain ⟨q, hq⟩ : ∃ q, A.length = q := ⟨_, rfl⟩
      obtain ⟨z, hz⟩ : ∃ z, (outR A).length = z := ⟨_, rfl⟩
      have HQ := Lib.hid hq
      have HZ := Lib.hid hz
      rw [hz] at hc1 HO
      rw [hq] at hc1 hc2 HN HD
      have hq4 : q ≤ 400 := by omega
      have hz9 : z ≤ 10000 := by omega
      have HAB := Lib.hid (outR_lt HAM.out)
      obtain ⟨oa, oc, rfl⟩ := uform HO.out
      obtain ⟨na, nc, rfl⟩ := uform HN.out
      obtain ⟨da, dc, rfl⟩ := uform HD.out
      have HYA := Lib.hid (Bys.of_ownz HO.out hz HAB.out (by omega))
      have UA := Lib.hid (fun v w h k => scan_any (outR A) v w h k (by rw [hz]; omega))
      have hSA : scR (outR A) 0 = (A, z) := by
        have := sc_join HAM.out []
        rw [sc_done (bs := []) (a := 0) (Nat.le_refl _), List.append_nil, List.append_nil, Nat.add_zero, hz] at this
        exact this
      rw [hSA] at UA
      have HEQ : Hid (eN (A.map umR) q = z) := by
        show _ = _
        unfold eN
        rw [List.take_of_length_le (by rw [List.length_map, hq]; exact Nat.le_refl _)]
        exact hz
      have HEL : Hid (∀ k, eN (A.map umR) k ≤ z) := fun k => by rw [← hz]; exact eN_le A k
      have HCT : Hid (∀ k c, k ≤ q → eN (A.map umR) k ≤ c → (k = q ∨ c < eN (A.map umR) (k + 1)) → c ≤ z → scR ((outR A).take c) 0 = (A.take k, eN (A.map umR) k)) := fun k c h1 h2 h3 h4 => sc_cut HAM.out (by rw [hq]; exact h1) h2 (by rw [hq]; exact h3) (by rw [hz]; exact h4)
      have HGN : Hid (∀ k, k < q → (enR A)[k]? = some ((eN (A.map umR) (k + 1) : Nat) : Int)) := fun k hk => enR_get A (by rw [hq]; exact hk)
      obtain ⟨P, hP⟩ : ∃ P : Nat, (P : Int) = if cut < 0 then -(cut + 1) else cut := ⟨(if cut < 0 then -(cut + 1) else cut).toNat, by split <;> omega⟩
      obtain ⟨M, hM⟩ : ∃ M, z + 1 = M := ⟨_, rfl⟩
      obtain ⟨c, hcc⟩ : ∃ c, P % M = c := ⟨_, rfl⟩
      have hcM : c < M := by rw [← hcc]; exact Nat.mod_lt _ (by omega)
      have hcz : c ≤ z := by omega
      have hrem : Int.tmod (P : Int) (M : Int) = (c : Int) := by rw [← hcc]; rfl
      have hP6 : (P : Int) ≤ 9223372036854775807 := by rw [hP]; split <;> omega
      have hM1 : IntKind.i64.wrap ((z : Int) + 1) = (M : Int) := by rw [IntKind.wrap_i64]; omega
      have hM0 : ((M : Int) == 0) = false := by rw [beq_eq_false_iff_ne]; omega
      have hM2 : ¬ (M : Int) = 0 := by omega
      have HXX := Lib.hid (HX1.out.trans HE.out)
      have hE0 : eN (A.map umR) 0 = 0 := rfl
      have HE0 := Lib.hid hE0
      clear hcc hM hc1 hc2 hA hq hz ht hSA hE0 hcM
      by_cases hneg : cut < 0
      · rw [if_pos hneg] at hP
        have m1 : IntKind.i64.wrap (cut + 1) = cut + 1 := by rw [IntKind.wrap_i64]; omega
        have m2 : IntKind.i64.wrap (-(cut + 1)) = (P : Int) := by rw [IntKind.wrap_i64]; omega
        clear hP
        go_wp2_with fail
        go_loop [11, 12] (fun nv ev => ∃ k F : Nat, k ≤ q ∧ nv = .int .i64 (k : Int) ∧ ev = .int .i64 (F : Int) ∧ Hid (eN (A.map umR) k = F) ∧ Hid (F ≤ c)) (fun nv _ => q - (intOf nv).toNat)
        case atStart => exact ⟨0, 0, Nat.zero_le _, rfl, rfl, HE0.out, Nat.zero_le _⟩
        case round =>
          obtain ⟨k, F, hk, rfl, rfl, HF, HFc⟩ := hrel
          have HTL : Hid ((A.take k).length = k) := by show _ = _; rw [List.length_take, HQ.out]; omega
          by_cases hkq : k < q
          · obtain ⟨gn, dn, en, -, -⟩ := uaddr HN.out (by omega)
            simp only [Value.slice.injEq, true_and] at en
            obtain ⟨rfl, rfl⟩ := en
            have hx := HGN.out k hkq
            obtain ⟨F2, hF2⟩ : ∃ F2, eN (A.map umR) (k + 1) = F2 := ⟨_, rfl⟩
            rw [hF2] at hx
            have c0 := ucell HN.out (j := k) (v := .int .i64 (F2 : Int)) (by rw [List.getElem?_map, hx]; rfl)
            have hF2z : F2 ≤ z := by rw [← hF2]; exact HEL.out _
            have HF2 := Lib.hid hF2
            have y1 : (0 : Int) ≤ (k : Int) := by omega
            have y2 : (k : Int) < (q : Int) := by omega
            clear hx hF2
            by_cases hFc : F2 ≤ c
            · have y3 : (F2 : Int) ≤ (c : Int) := by omega
              go_wp2
              go_roundw
              case rel => exact ⟨k + 1, F2, by omega, by go_num, rfl, HF2.out, hFc⟩
              case measure => simp [intOf]; omega
            · have y3 : ¬ (F2 : Int) ≤ (c : Int) := by omega
              have US := Lib.hid (fun v w h k' => scan_any ((outR A).take c) v w h k' (by rw [List.length_take, HZ.out]; omega))
              have hct := HCT.out k c hk (by rw [HF.out]; exact HFc.out) (.inr (by rw [HF2.out]; omega)) hcz
              rw [HF.out] at hct
              rw [hct] at US
              clear hct
              -- in hand: k, F = eN k, hk : k <= q, the scan of the cut: US
              go_wp2_with fail
              refine (UA.out _ _ (HNB.out.ext HXX.out) HYA.out).mono ?_; rintro e w3 ⟨u3, rfl, ho3, hx3⟩
              have ho3 : w3.ownsRow wr.heap.size 24 5 u3 A.length (rcs A) := ho3
              rw [HQ.out] at ho3
              obtain ⟨aa, ac, rfl⟩ := uform ho3
              have HO3 := Lib.hid ho3
              have HX3 := Lib.hid (HXX.out.trans hx3)
              have HYC := Lib.hid ((HYA.out.pre (e := c) hcz).ext hx3)
              have HD3 := Lib.hid (ownsRow_ext HD.out hx3)
              have hcapA := HYA.out.caps
              have x1 : (c : Int) ≤ (oc : Int) := by omega
              have x2 : (0 : Int) ≤ (c : Int) := by omega
              clear ho3 hx3
              go_wp2_with fail
              refine (US.out _ _ (HNB.out.ext HX3.out) HYC.out).mono ?_; rintro e w4 ⟨u4, rfl, ho4, hx4⟩
              have ho4 : w4.ownsRow w3.heap.size 24 5 u4 (A.take k).length (rcs (A.take k)) := ho4
              rw [HTL.out] at ho4
              obtain ⟨sa, sc, rfl⟩ := uform ho4
              have HO4 := Lib.hid ho4
              have HX4 := Lib.hid (HX3.out.trans hx4)
              have HA4 := Lib.hid (ownsRow_ext HO3.out hx4)
              have HD4 := Lib.hid (ownsRow_ext HD3.out hx4)
              clear ho4 hx4
              go_wp2_with fail
              go_loopw [17] (fun iv wx => ∃ j : Nat, j ≤ q ∧ iv = .int .i64 (j : Int) ∧ Hid (Ext w4 wx)) (fun iv _ => q - (intOf iv).toNat)
              case atStart => exact ⟨0, Nat.zero_le _, rfl, Ext.refl w4⟩
              case round =>
                obtain ⟨j, hj, rfl, HJ⟩ := hrel
                by_cases hlt : j < q
                · obtain ⟨r, hr⟩ : ∃ r, A[j]? = some r := ⟨_, List.getElem?_eq_getElem (by rw [HQ.out]; exact hlt)⟩
                  obtain ⟨g1, d1, e1, -, -⟩ := uaddr HA4.out (by omega)
                  obtain ⟨g2, d2, e2, -, -⟩ := uaddr HD4.out (by omega)
                  simp only [Value.slice.injEq, true_and] at e1 e2
                  obtain ⟨rfl, rfl⟩ := e1
                  obtain ⟨rfl, rfl⟩ := e2
                  obtain ⟨p0, p1, p2, p3, p4⟩ := (rc_at HA4.out hr).ext HJ.out
                  obtain ⟨q0, q1, q2, q3, q4⟩ := (rc_at HD4.out hr).ext HJ.out
                  have x4 : (0 : Int) ≤ (j : Int) := by omega
                  have x5 : (j : Int) < (q : Int) := by omega
                  by_cases hjk : j < k
                  · have hr4 : (A.take k)[j]? = some r := by rw [List.getElem?_take_of_lt hjk]; exact hr
                    obtain ⟨g3, d3, e3, -, -⟩ := uaddr HO4.out (by omega)
                    simp only [Value.slice.injEq, true_and] at e3
                    obtain ⟨rfl, rfl⟩ := e3
                    obtain ⟨s0, s1, s2, s3, s4⟩ := (rc_at HO4.out hr4).ext HJ.out
                    have x6 : (j : Int) < (k : Int) := by omega
                    have x7 : decide ((j : Int) < (k : Int)) = true := decide_eq_true x6
                    clear hr hr4
                    go_wp2_with fail
                    go_quiet (fail)
                    have HJ9 := Lib.hid (HJ.out.drewN nq)
                    go_wp2
                    go_roundw
                    case rel => exact ⟨j + 1, by omega, by go_num, HJ9⟩
                    case measure => simp [intOf]; omega
                  · have x7 : decide ((j : Int) < (k : Int)) = false := decide_eq_false (by omega)
                    clear hr
                    go_wp2_with fail
                    go_quiet (fail)
                    have HJ9 := Lib.hid (HJ.out.drewN nq)
                    go_wp2
                    go_roundw
                    case rel => exact ⟨j + 1, by omega, by go_num, HJ9⟩
                    case measure => simp [intOf]; omega
                · obtain rfl : j = q := by omega
                  go_wp2_with fail
                  refine (first26_any _ (HG.out.ext (HX4.out.trans HJ.out)) (HNB.out.ext (HX4.out.trans HJ.out))).mono ?_; rintro e w9 ⟨rfl, hx9⟩
                  have HX9 := Lib.hid ((HX4.out.trans HJ.out).trans hx9)
                  go_wp2
                  go_ret
                  exact ⟨rfl, HX9.out⟩
          · have y2 : ¬ (k : Int) < (q : Int) := by omega
            have US := Lib.hid (fun v w h k' => scan_any ((outR A).take c) v w h k' (by rw [List.length_take, HZ.out]; omega))
            have hct := HCT.out k c hk (by rw [HF.out]; exact HFc.out) (.inl (by omega)) hcz
            rw [HF.out] at hct
            rw [hct] at US
            clear hct
            -- in hand: k, F = eN k, hk : k <= q, the scan of the cut: US
            go_wp2_with fail
            refine (UA.out _ _ (HNB.out.ext HXX.out) HYA.out).mono ?_; rintro e w3 ⟨u3, rfl, ho3, hx3⟩
            have ho3 : w3.ownsRow wr.heap.size 24 5 u3 A.length (rcs A) := ho3
            rw [HQ.out] at ho3
            obtain ⟨aa, ac, rfl⟩ := uform ho3
            have HO3 := Lib.hid ho3
            have HX3 := Lib.hid (HXX.out.trans hx3)
            have HYC := Lib.hid ((HYA.out.pre (e := c) hcz).ext hx3)
            have HD3 := Lib.hid (ownsRow_ext HD.out hx3)
            have hcapA := HYA.out.caps
            have x1 : (c : Int) ≤ (oc : Int) := by omega
            have x2 : (0 : Int) ≤ (c : Int) := by omega
            clear ho3 hx3
            go_wp2_with fail
            refine (US.out _ _ (HNB.out.ext HX3.out) HYC.out).mono ?_; rintro e w4 ⟨u4, rfl, ho4, hx4⟩
            have ho4 : w4.ownsRow w3.heap.size 24 5 u4 (A.take k).length (rcs (A.take k)) := ho4
            rw [HTL.out] at ho4
            obtain ⟨sa, sc, rfl⟩ := uform ho4
            have HO4 := Lib.hid ho4
            have HX4 := Lib.hid (HX3.out.trans hx4)
            have HA4 := Lib.hid (ownsRow_ext HO3.out hx4)
            have HD4 := Lib.hid (ownsRow_ext HD3.out hx4)
            clear ho4 hx4
            go_wp2_with fail
            go_loopw [17] (fun iv wx => ∃ j : Nat, j ≤ q ∧ iv = .int .i64 (j : Int) ∧ Hid (Ext w4 wx)) (fun iv _ => q - (intOf iv).toNat)
            case atStart => exact ⟨0, Nat.zero_le _, rfl, Ext.refl w4⟩
            case round =>
              obtain ⟨j, hj, rfl, HJ⟩ := hrel
              by_cases hlt : j < q
              · obtain ⟨r, hr⟩ : ∃ r, A[j]? = some r := ⟨_, List.getElem?_eq_getElem (by rw [HQ.out]; exact hlt)⟩
                obtain ⟨g1, d1, e1, -, -⟩ := uaddr HA4.out (by omega)
                obtain ⟨g2, d2, e2, -, -⟩ := uaddr HD4.out (by omega)
                simp only [Value.slice.injEq, true_and] at e1 e2
                obtain ⟨rfl, rfl⟩ := e1
                obtain ⟨rfl, rfl⟩ := e2
                obtain ⟨p0, p1, p2, p3, p4⟩ := (rc_at HA4.out hr).ext HJ.out
                obtain ⟨q0, q1, q2, q3, q4⟩ := (rc_at HD4.out hr).ext HJ.out
                have x4 : (0 : Int) ≤ (j : Int) := by omega
                have x5 : (j : Int) < (q : Int) := by omega
                by_cases hjk : j < k
                · have hr4 : (A.take k)[j]? = some r := by rw [List.getElem?_take_of_lt hjk]; exact hr
                  obtain ⟨g3, d3, e3, -, -⟩ := uaddr HO4.out (by omega)
                  simp only [Value.slice.injEq, true_and] at e3
                  obtain ⟨rfl, rfl⟩ := e3
                  obtain ⟨s0, s1, s2, s3, s4⟩ := (rc_at HO4.out hr4).ext HJ.out
                  have x6 : (j : Int) < (k : Int) := by omega
                  have x7 : decide ((j : Int) < (k : Int)) = true := decide_eq_true x6
                  clear hr hr4
                  go_wp2_with fail
                  go_quiet (fail)
                  have HJ9 := Lib.hid (HJ.out.drewN nq)
                  go_wp2
                  go_roundw
                  case rel => exact ⟨j + 1, by omega, by go_num, HJ9⟩
                  case measure => simp [intOf]; omega
                · have x7 : decide ((j : Int) < (k : Int)) = false := decide_eq_false (by omega)
                  clear hr
                  go_wp2_with fail
                  go_quiet (fail)
                  have HJ9 := Lib.hid (HJ.out.drewN nq)
                  go_wp2
                  go_roundw
                  case rel => exact ⟨j + 1, by omega, by go_num, HJ9⟩
                  case measure => simp [intOf]; omega
              · obtain rfl : j = q := by omega
                go_wp2_with fail
                refine (first26_any _ (HG.out.ext (HX4.out.trans HJ.out)) (HNB.out.ext (HX4.out.trans HJ.out))).mono ?_; rintro e w9 ⟨rfl, hx9⟩
                have HX9 := Lib.hid ((HX4.out.trans HJ.out).trans hx9)
                go_wp2
                go_ret
                exact ⟨rfl, HX9.out⟩
      · rw [if_neg hneg] at hP
        subst hP
        go_wp2_with fail
        go_loop [11, 12] (fun nv ev => ∃ k F : Nat, k ≤ q ∧ nv = .int .i64 (k : Int) ∧ ev = .int .i64 (F : Int) ∧ Hid (eN (A.map umR) k = F) ∧ Hid (F ≤ c)) (fun nv _ => q - (intOf nv).toNat)
        case atStart => exact ⟨0, 0, Nat.zero_le _, rfl, rfl, HE0.out, Nat.zero_le _⟩
        case round =>
          obtain ⟨k, F, hk, rfl, rfl, HF, HFc⟩ := hrel
          have HTL : Hid ((A.take k).length = k) := by show _ = _; rw [List.length_take, HQ.out]; omega
          by_cases hkq : k < q
          · obtain ⟨gn, dn, en, -, -⟩ := uaddr HN.out (by omega)
            simp only [Value.slice.injEq, true_and] at en
            obtain ⟨rfl, rfl⟩ := en
            have hx := HGN.out k hkq
            obtain ⟨F2, hF2⟩ : ∃ F2, eN (A.map umR) (k + 1) = F2 := ⟨_, rfl⟩
            rw [hF2] at hx
            have c0 := ucell HN.out (j := k) (v := .int .i64 (F2 : Int)) (by rw [List.getElem?_map, hx]; rfl)
            have hF2z : F2 ≤ z := by rw [← hF2]; exact HEL.out _
            have HF2 := Lib.hid hF2
            have y1 : (0 : Int) ≤ (k : Int) := by omega
            have y2 : (k : Int) < (q : Int) := by omega
            clear hx hF2
            by_cases hFc : F2 ≤ c
            · have y3 : (F2 : Int) ≤ (c : Int) := by omega
              go_wp2
              go_roundw
              case rel => exact ⟨k + 1, F2, by omega, by go_num, rfl, HF2.out, hFc⟩
              case measure => simp [intOf]; omega
            · have y3 : ¬ (F2 : Int) ≤ (c : Int) := by omega
              have US := Lib.hid (fun v w h k' => scan_any ((outR A).take c) v w h k' (by rw [List.length_take, HZ.out]; omega))
              have hct := HCT.out k c hk (by rw [HF.out]; exact HFc.out) (.inr (by rw [HF2.out]; omega)) hcz
              rw [HF.out] at hct
              rw [hct] at US
              clear hct
              -- in hand: k, F = eN k, hk : k <= q, the scan of the cut: US
              go_wp2_with fail
              refine (UA.out _ _ (HNB.out.ext HXX.out) HYA.out).mono ?_; rintro e w3 ⟨u3, rfl, ho3, hx3⟩
              have ho3 : w3.ownsRow wr.heap.size 24 5 u3 A.length (rcs A) := ho3
              rw [HQ.out] at ho3
              obtain ⟨aa, ac, rfl⟩ := uform ho3
              have HO3 := Lib.hid ho3
              have HX3 := Lib.hid (HXX.out.trans hx3)
              have HYC := Lib.hid ((HYA.out.pre (e := c) hcz).ext hx3)
              have HD3 := Lib.hid (ownsRow_ext HD.out hx3)
              have hcapA := HYA.out.caps
              have x1 : (c : Int) ≤ (oc : Int) := by omega
              have x2 : (0 : Int) ≤ (c : Int) := by omega
              clear ho3 hx3
              go_wp2_with fail
              refine (US.out _ _ (HNB.out.ext HX3.out) HYC.out).mono ?_; rintro e w4 ⟨u4, rfl, ho4, hx4⟩
              have ho4 : w4.ownsRow w3.heap.size 24 5 u4 (A.take k).length (rcs (A.take k)) := ho4
              rw [HTL.out] at ho4
              obtain ⟨sa, sc, rfl⟩ := uform ho4
              have HO4 := Lib.hid ho4
              have HX4 := Lib.hid (HX3.out.trans hx4)
              have HA4 := Lib.hid (ownsRow_ext HO3.out hx4)
              have HD4 := Lib.hid (ownsRow_ext HD3.out hx4)
              clear ho4 hx4
              go_wp2_with fail
              go_loopw [17] (fun iv wx => ∃ j : Nat, j ≤ q ∧ iv = .int .i64 (j : Int) ∧ Hid (Ext w4 wx)) (fun iv _ => q - (intOf iv).toNat)
              case atStart => exact ⟨0, Nat.zero_le _, rfl, Ext.refl w4⟩
              case round =>
                obtain ⟨j, hj, rfl, HJ⟩ := hrel
                by_cases hlt : j < q
                · obtain ⟨r, hr⟩ : ∃ r, A[j]? = some r := ⟨_, List.getElem?_eq_getElem (by rw [HQ.out]; exact hlt)⟩
                  obtain ⟨g1, d1, e1, -, -⟩ := uaddr HA4.out (by omega)
                  obtain ⟨g2, d2, e2, -, -⟩ := uaddr HD4.out (by omega)
                  simp only [Value.slice.injEq, true_and] at e1 e2
                  obtain ⟨rfl, rfl⟩ := e1
                  obtain ⟨rfl, rfl⟩ := e2
                  obtain ⟨p0, p1, p2, p3, p4⟩ := (rc_at HA4.out hr).ext HJ.out
                  obtain ⟨q0, q1, q2, q3, q4⟩ := (rc_at HD4.out hr).ext HJ.out
                  have x4 : (0 : Int) ≤ (j : Int) := by omega
                  have x5 : (j : Int) < (q : Int) := by omega
                  by_cases hjk : j < k
                  · have hr4 : (A.take k)[j]? = some r := by rw [List.getElem?_take_of_lt hjk]; exact hr
                    obtain ⟨g3, d3, e3, -, -⟩ := uaddr HO4.out (by omega)
                    simp only [Value.slice.injEq, true_and] at e3
                    obtain ⟨rfl, rfl⟩ := e3
                    obtain ⟨s0, s1, s2, s3, s4⟩ := (rc_at HO4.out hr4).ext HJ.out
                    have x6 : (j : Int) < (k : Int) := by omega
                    have x7 : decide ((j : Int) < (k : Int)) = true := decide_eq_true x6
                    clear hr hr4
                    go_wp2_with fail
                    go_quiet (fail)
                    have HJ9 := Lib.hid (HJ.out.drewN nq)
                    go_wp2
                    go_roundw
                    case rel => exact ⟨j + 1, by omega, by go_num, HJ9⟩
                    case measure => simp [intOf]; omega
                  · have x7 : decide ((j : Int) < (k : Int)) = false := decide_eq_false (by omega)
                    clear hr
                    go_wp2_with fail
                    go_quiet (fail)
                    have HJ9 := Lib.hid (HJ.out.drewN nq)
                    go_wp2
                    go_roundw
                    case rel => exact ⟨j + 1, by omega, by go_num, HJ9⟩
                    case measure => simp [intOf]; omega
                · obtain rfl : j = q := by omega
                  go_wp2_with fail
                  refine (first26_any _ (HG.out.ext (HX4.out.trans HJ.out)) (HNB.out.ext (HX4.out.trans HJ.out))).mono ?_; rintro e w9 ⟨rfl, hx9⟩
                  have HX9 := Lib.hid ((HX4.out.trans HJ.out).trans hx9)
                  go_wp2
                  go_ret
                  exact ⟨rfl, HX9.out⟩
          · have y2 : ¬ (k : Int) < (q : Int) := by omega
            have US := Lib.hid (fun v w h k' => scan_any ((outR A).take c) v w h k' (by rw [List.length_take, HZ.out]; omega))
            have hct := HCT.out k c hk (by rw [HF.out]; exact HFc.out) (.inl (by omega)) hcz
            rw [HF.out] at hct
            rw [hct] at US
            clear hct
            -- in hand: k, F = eN k, hk : k <= q, the scan of the cut: US
            go_wp2_with fail
            refine (UA.out _ _ (HNB.out.ext HXX.out) HYA.out).mono ?_; rintro e w3 ⟨u3, rfl, ho3, hx3⟩
            have ho3 : w3.ownsRow wr.heap.size 24 5 u3 A.length (rcs A) := ho3
            rw [HQ.out] at ho3
            obtain ⟨aa, ac, rfl⟩ := uform ho3
            have HO3 := Lib.hid ho3
            have HX3 := Lib.hid (HXX.out.trans hx3)
            have HYC := Lib.hid ((HYA.out.pre (e := c) hcz).ext hx3)
            have HD3 := Lib.hid (ownsRow_ext HD.out hx3)
            have hcapA := HYA.out.caps
            have x1 : (c : Int) ≤ (oc : Int) := by omega
            have x2 : (0 : Int) ≤ (c : Int) := by omega
            clear ho3 hx3
            go_wp2_with fail
            refine (US.out _ _ (HNB.out.ext HX3.out) HYC.out).mono ?_; rintro e w4 ⟨u4, rfl, ho4, hx4⟩
            have ho4 : w4.ownsRow w3.heap.size 24 5 u4 (A.take k).length (rcs (A.take k)) := ho4
            rw [HTL.out] at ho4
            obtain ⟨sa, sc, rfl⟩ := uform ho4
            have HO4 := Lib.hid ho4
            have HX4 := Lib.hid (HX3.out.trans hx4)
            have HA4 := Lib.hid (ownsRow_ext HO3.out hx4)
            have HD4 := Lib.hid (ownsRow_ext HD3.out hx4)
            clear ho4 hx4
            go_wp2_with fail
            go_loopw [17] (fun iv wx => ∃ j : Nat, j ≤ q ∧ iv = .int .i64 (j : Int) ∧ Hid (Ext w4 wx)) (fun iv _ => q - (intOf iv).toNat)
            case atStart => exact ⟨0, Nat.zero_le _, rfl, Ext.refl w4⟩
            case round =>
              obtain ⟨j, hj, rfl, HJ⟩ := hrel
              by_cases hlt : j < q
              · obtain ⟨r, hr⟩ : ∃ r, A[j]? = some r := ⟨_, List.getElem?_eq_getElem (by rw [HQ.out]; exact hlt)⟩
                obtain ⟨g1, d1, e1, -, -⟩ := uaddr HA4.out (by omega)
                obtain ⟨g2, d2, e2, -, -⟩ := uaddr HD4.out (by omega)
                simp only [Value.slice.injEq, true_and] at e1 e2
                obtain ⟨rfl, rfl⟩ := e1
                obtain ⟨rfl, rfl⟩ := e2
                obtain ⟨p0, p1, p2, p3, p4⟩ := (rc_at HA4.out hr).ext HJ.out
                obtain ⟨q0, q1, q2, q3, q4⟩ := (rc_at HD4.out hr).ext HJ.out
                have x4 : (0 : Int) ≤ (j : Int) := by omega
                have x5 : (j : Int) < (q : Int) := by omega
                by_cases hjk : j < k
                · have hr4 : (A.take k)[j]? = some r := by rw [List.getElem?_take_of_lt hjk]; exact hr
                  obtain ⟨g3, d3, e3, -, -⟩ := uaddr HO4.out (by omega)
                  simp only [Value.slice.injEq, true_and] at e3
                  obtain ⟨rfl, rfl⟩ := e3
                  obtain ⟨s0, s1, s2, s3, s4⟩ := (rc_at HO4.out hr4).ext HJ.out
                  have x6 : (j : Int) < (k : Int) := by omega
                  have x7 : decide ((j : Int) < (k : Int)) = true := decide_eq_true x6
                  clear hr hr4
                  go_wp2_with fail
                  go_quiet (fail)
                  have HJ9 := Lib.hid (HJ.out.drewN nq)
                  go_wp2
                  go_roundw
                  case rel => exact ⟨j + 1, by omega, by go_num, HJ9⟩
                  case measure => simp [intOf]; omega
                · have x7 : decide ((j : Int) < (k : Int)) = false := decide_eq_false (by omega)
                  clear hr
                  go_wp2_with fail
                  go_quiet (fail)
                  have HJ9 := Lib.hid (HJ.out.drewN nq)
                  go_wp2
                  go_roundw
                  case rel => exact ⟨j + 1, by omega, by go_num, HJ9⟩
                  case measure => simp [intOf]; omega
              · obtain rfl : j = q := by omega
                go_wp2_with fail
                refine (first26_any _ (HG.out.ext (HX4.out.trans HJ.out)) (HNB.out.ext (HX4.out.trans HJ.out))).mono ?_; rintro e w9 ⟨rfl, hx9⟩
                have HX9 := Lib.hid ((HX4.out.trans HJ.out).trans hx9)
                go_wp2
                go_ret
                exact ⟨rfl, HX9.out⟩
end Go.Proofs.YtmphochnmdmioaaDoor
