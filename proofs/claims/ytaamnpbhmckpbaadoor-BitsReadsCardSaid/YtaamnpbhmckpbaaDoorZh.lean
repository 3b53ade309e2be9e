/- Contracts of this seat: Bl3, OpR. -/
import Derived.Test.YtaamnpbhmckpbaaDoorZg
/- kinlaw2.BitsAligns: the walk. -/
namespace Go.Proofs.YtaamnpbhmckpbaaDoor
set_option linter.unusedVariables false
set_option linter.unusedSimpArgs false
open Go.RowKit Go.Extern.Stop Go.Stop Go.Extern

theorem alF_none (bs : List Nat) (p : Nat) : ∀ k, alF bs p k = none ↔ nmN bs p k = 0
  | 0 => by simp [alF, nmN]
  | k + 1 => by
    have h := nmN_add bs p k 1
    rw [nmN_one] at h
    have hb := btN_lt bs (p + k)
    have ih := alF_none bs p k
    rw [h]
    unfold alF
    cases hF : alF bs p k with
    | none =>
      have h0 := ih.1 hF
      rw [h0]
      by_cases h1 : btN bs (p + k) = 1
      · simp [h1]
      · have : btN bs (p + k) = 0 := by omega
        simp [this]
    | some f =>
      have h0 : nmN bs p k ≠ 0 := fun e => by rw [ih.2 e] at hF; cases hF
      simp; omega
set_option maxHeartbeats 8000000 in
set_option maxRecDepth 20000 in
theorem aligns_law (bs : List Nat) (N0 : Int) (v : Value) (w : World) (hg : EtIs w) (rb : Row w v bs.length (bs.map fun x : Nat => Value.int .u8 (x : Int))) (hb : ∀ x ∈ bs, x < 256) (hl : bs.length ≤ 140737488355328) :
    Calls Tryd.prog 8 #[v, .int .i64 N0] w fun e w' => e = .returned (.bool true) ∧ Ext w w' := by
  have HB := Lib.hid (show Bys w v bs from ⟨rb, hb, by omega⟩)
  obtain ⟨a, cap, rfl⟩ := HB.out.form
  obtain ⟨n, hn⟩ : ∃ n, n = bs.length := ⟨_, rfl⟩
  rw [← hn] at HB hl ⊢
  have HN := Lib.hid hn
  clear rb hb hn
  by_cases hn2 : 20000 < n
  · have t1 : (20000 : Int) < (n : Int) := by omega
    go_enter Tryd.func8, Tryd.ntmps8
    go_wp2_with fail
    refine (first2_any _ hg).mono ?_; rintro e w1 ⟨rfl, hx1⟩
    go_wp2_with fail
    refine (newwr_any _).mono ?_; rintro e w2 ⟨b2, rfl, hb2, hw2, hx2⟩
    go_wp2_with fail
    refine (newrd_any bs _ _ (HB.out.ext (hx1.trans hx2))).mono ?_; rintro e w3 ⟨c1, rfl, hc1, hr3, hx3⟩
    go_wp2_with fail
    refine (first2_any _ (hg.ext (hx1.trans (hx2.trans hx3)))).mono ?_; rintro e w4 ⟨rfl, hx4⟩
    go_wp2
    go_ret
    exact ⟨rfl, (hx1.trans (hx2.trans hx3)).trans hx4⟩
  · have t1 : ¬ (20000 : Int) < (n : Int) := by omega
    by_cases d1 : N0 < 0
    · go_enter Tryd.func8, Tryd.ntmps8
      go_wp2_with fail
      refine (first2_any _ hg).mono ?_; rintro e w1 ⟨rfl, hx1⟩
      go_wp2_with fail
      refine (newwr_any _).mono ?_; rintro e w2 ⟨b2, rfl, hb2, hw2, hx2⟩
      go_wp2_with fail
      refine (newrd_any bs _ _ (HB.out.ext (hx1.trans hx2))).mono ?_; rintro e w3 ⟨c1, rfl, hc1, hr3, hx3⟩
      go_wp2_with fail
      refine (first2_any _ (hg.ext (hx1.trans (hx2.trans hx3)))).mono ?_; rintro e w4 ⟨rfl, hx4⟩
      go_wp2
      go_ret
      exact ⟨rfl, (hx1.trans (hx2.trans hx3)).trans hx4⟩
    · by_cases d2 : 32 < N0
      · go_enter Tryd.func8, Tryd.ntmps8
        go_wp2_with fail
        refine (first2_any _ hg).mono ?_; rintro e w1 ⟨rfl, hx1⟩
        go_wp2_with fail
        refine (newwr_any _).mono ?_; rintro e w2 ⟨b2, rfl, hb2, hw2, hx2⟩
        go_wp2_with fail
        refine (newrd_any bs _ _ (HB.out.ext (hx1.trans hx2))).mono ?_; rintro e w3 ⟨c1, rfl, hc1, hr3, hx3⟩
        go_wp2_with fail
        refine (first2_any _ (hg.ext (hx1.trans (hx2.trans hx3)))).mono ?_; rintro e w4 ⟨rfl, hx4⟩
        go_wp2
        go_ret
        exact ⟨rfl, (hx1.trans (hx2.trans hx3)).trans hx4⟩
      · obtain ⟨N, rfl⟩ : ∃ N : Nat, N0 = (N : Int) := ⟨N0.toNat, by omega⟩
        have hput : wpF 0 (N : Int) = none ∧ wpL [] 0 (N : Int) = bsOf 0 N := by
          have hok : putOk 0 (N : Int) := ⟨by omega, by decide, by rw [Int.toNat_natCast]; exact_mod_cast Nat.two_pow_pos N⟩
          refine ⟨by unfold wpF; rw [if_pos hok], ?_⟩
          unfold wpL
          rw [if_pos hok]
          simp
        obtain ⟨K, hK⟩ : ∃ K, (N + 7) / 8 = K := ⟨_, rfl⟩
        obtain ⟨T8, hT8⟩ : ∃ T8, 8 * K = T8 := ⟨_, rfl⟩
        have hlen : (bsOf 0 N).length = N ∧ (wpad (bsOf 0 N)).length = T8 ∧ (pkL (wpad (bsOf 0 N))).length = K := by
          have e1 := bsOf_length 0 N
          have e2 := wpad_length (bsOf 0 N)
          rw [e1] at e2
          refine ⟨e1, by omega, ?_⟩
          rw [pkL_length, e2]
          omega
        have HL := Lib.hid hlen
        go_enter Tryd.func8, Tryd.ntmps8
        go_wp2_with fail
        refine (first2_any _ hg).mono ?_; rintro e w1 ⟨rfl, hx1⟩
        go_wp2_with fail
        refine (newwr_any _).mono ?_; rintro e w2 ⟨b2, rfl, hb2, hw2, hx2⟩
        go_wp2_with fail
        refine (newrd_any bs _ _ (HB.out.ext (hx1.trans hx2))).mono ?_; rintro e w3 ⟨c1, rfl, hc1, hr3, hx3⟩
        have hbw : b2 < w2.heap.size := Ext.lt (p := ⟨b2, 0, none⟩) hw2.1.1
        have HW3 := Lib.hid (WrAt.new (B := w3.heap.size) (hw2.ext hx3) (Nat.lt_of_lt_of_le hbw hx3.size) (Nat.le_refl _))
        have HR3 := Lib.hid (hr3.mono (E := fun g => g = b2) (fun g h => by subst h; exact .inl hbw))
        have HE3 := Lib.hid (hx1.trans (hx2.trans hx3))
        have hne : c1 ≠ b2 := by omega
        have hwb : w.heap.size ≤ b2 := Nat.le_trans hx1.size hb2
        have hc1 : w.heap.size ≤ c1 := Nat.le_trans hx1.size (Nat.le_trans hx2.size hc1)
        have P1 := Lib.hid (wput_any b2 w3.heap.size 0 (N : Int) [] w3 HW3.out (by decide))
        rw [hput.1, hput.2] at P1
        have P2 := Lib.hid (fun w (h : WrAt w b2 w3.heap.size (bsOf 0 N)) => wralign_any b2 w3.heap.size (bsOf 0 N) w h (by rw [HL.out.1]; omega))
        have P3 := Lib.hid (fun w (h : WrAt w b2 w3.heap.size (bsOf 0 N)) => wrlen_any b2 w3.heap.size (bsOf 0 N) w h)
        have P4 := Lib.hid (fun w (h : WrAt w b2 w3.heap.size (wpad (bsOf 0 N))) => wrlen_any b2 w3.heap.size (wpad (bsOf 0 N)) w h)
        rw [HL.out.1] at P3
        rw [HL.out.2.1] at P4
        clear hw2 hr3 hx1 hx2 hx3 hput hlen hbw hb2
        go_wp2_with fail
        refine (P1.out).mono ?_; rintro e w4 ⟨x4, rfl, q4, k4, he4⟩
        obtain rfl : x4 = .nilIface := he4
        go_wp2_with fail
        refine (P3.out _ q4).mono ?_; rintro e w5 ⟨rfl, rfl⟩
        go_wp2_with fail
        refine (P2.out _ q4).mono ?_; rintro e w5 ⟨rfl, q5, k5⟩
        have HQ5 := Lib.hid q5
        have K5 := k4.trans k5
        have HR5 := Lib.hid (HR3.out.wkp rfl hne K5)
        have HE5 := Lib.hid (WKp.out HE3.out K5 hwb HE3.out.size)
        clear q4 q5 k4 k5 K5 P1 P2 P3 HR3 HE3 HW3
        have m1 : ((T8 : Int) % 8 != 0) = false := by rw [bne_eq_false_iff_eq]; omega
        have m2 : (T8 : Int) % 8 = 0 := by omega
        obtain ⟨G, hG⟩ : ∃ G : Nat, N + G = T8 := ⟨T8 - N, by omega⟩
        have m3 : IntKind.i64.wrap ((T8 : Int) - (N : Int)) = (G : Int) := by rw [IntKind.wrap_i64]; omega
        have m4 : ¬ (7 : Int) < (G : Int) := by omega
        have m5 : ¬ (T8 : Int) < (N : Int) := by omega
        have m6 : IntKind.i64.wrap ((K : Int) * 8) = (T8 : Int) := by rw [IntKind.wrap_i64]; omega
        have HK := Lib.hid hK
        have HT8 := Lib.hid hT8
        clear hK hT8 hG
        go_wp2_with fail
        refine (P4.out _ HQ5.out).mono ?_; rintro e w6 ⟨rfl, rfl⟩
        go_wp2_with fail
        refine (P4.out _ HQ5.out).mono ?_; rintro e w6 ⟨rfl, rfl⟩
        go_wp2_with fail
        refine (P4.out _ HQ5.out).mono ?_; rintro e w6 ⟨rfl, rfl⟩
        go_wp2_with fail
        refine (wbytes_any b2 _ _ _ HQ5.out).mono ?_; rintro e w6 ⟨u6, rfl, ho6, hx6⟩
        obtain ⟨a6, n6, cp6, rfl⟩ : ∃ a6 n6 cp6, u6 = .slice a6 n6 cp6 := by
          rcases ho6.2 with ⟨rfl, h0⟩ | ⟨g, cap, cur, rfl, -⟩
          · exact ⟨none, 0, 0, rfl⟩
          · exact ⟨_, _, _, rfl⟩
        have hn6 : n6 = K := by
          rcases ho6.2 with ⟨e6, h0⟩ | ⟨g, cap, cur, e6, -⟩
          · simp only [Value.slice.injEq] at e6; rw [e6.2.1, ← HL.out.2.2, h0]
          · simp only [Value.slice.injEq] at e6; rw [e6.2.1, HL.out.2.2]
        subst hn6
        go_wp2_with fail
        refine (P4.out _ (HQ5.out.ext hx6)).mono ?_; rintro e w7 ⟨rfl, rfl⟩
        have HR6 := Lib.hid (HR5.out.ext hx6)
        have HE6 := Lib.hid (HE5.out.trans hx6)
        clear HQ5 HR5 HE5 ho6 hx6 P4 HK HT8 HL
        have U0 := Lib.hid (fun w (h : RdAt (fun g => g = b2) w c1 bs 0) => rdget_any c1 0 (N : Int) bs w h (Nat.zero_le _))
        by_cases hgood : N ≤ 8 * n
        · obtain ⟨g1, g2, g3⟩ := rd_good (bs := bs) (p := 0) (N := N) (by omega) (by rw [← HN.out]; omega)
          rw [g1, g2, g3, Nat.zero_add] at U0
          clear g1 g2 g3
          generalize nmN bs 0 N = V0 at U0
          obtain ⟨P, hPN⟩ : ∃ P, P = N := ⟨_, rfl⟩
          subst hPN
          have hP8 : P ≤ 8 * n := by omega
          have hP32 : P ≤ 32 := by omega
          obtain ⟨D7, hD7⟩ : ∃ D7, alD P = D7 := ⟨_, rfl⟩
          have hD8 : (P + D7) % 8 = 0 ∧ D7 ≤ 7 := by rw [← hD7]; unfold alD; omega
          obtain ⟨Q, hQ⟩ : ∃ Q, P + D7 = Q := ⟨_, rfl⟩
          obtain ⟨f7, hf7⟩ : ∃ f, alF bs P D7 = f := ⟨_, rfl⟩
          obtain ⟨V2, hV2⟩ : ∃ V, nmN bs P D7 = V := ⟨_, rfl⟩
          have hF := alF_none bs P D7
          rw [hf7, hV2] at hF
          have UA := Lib.hid (fun w (h : RdAt (fun g => g = b2) w c1 bs P) => rdalign_any c1 P bs w h (by rw [← HN.out]; exact hP8))
          rw [hD7, hQ, hf7] at UA
          obtain ⟨L7, hL7⟩ : ∃ L7, 8 * n - Q = L7 := ⟨_, rfl⟩
          have hQ8 : Q ≤ 8 * n := by omega
          have UL := Lib.hid (fun w (h : RdAt (fun g => g = b2) w c1 bs Q) => left_any c1 Q bs w h (by rw [← HN.out]; exact hQ8))
          rw [← HN.out, hL7] at UL
          obtain ⟨g1, g2, g3⟩ := rd_good (bs := bs) (p := 0) (N := P) hP32 (by rw [← HN.out]; omega)
          obtain ⟨e1, e2, e3⟩ := rd_good (bs := bs) (p := P) (N := D7) (by omega) (by rw [← HN.out]; omega)
          have U1 := Lib.hid (fun w c (h : RdAt (fun _ => False) w c bs 0) => rdget_any c 0 (P : Int) bs w h (Nat.zero_le _))
          have U2 := Lib.hid (fun w c (h : RdAt (fun _ => False) w c bs P) => rdget_any c P (D7 : Int) bs w h (by rw [← HN.out]; exact hP8))
          rw [g1, g2, g3, Nat.zero_add] at U1
          rw [e1, e2, e3, hV2, hQ] at U2
          obtain ⟨T, hT⟩ : ∃ T, 8 * n = T := ⟨_, rfl⟩
          have i1 : (Q : Int) % 8 = 0 := by omega
          have i2 : ((Q : Int) % 8 != 0) = false := by rw [bne_eq_false_iff_eq]; exact i1
          have i3 : ¬ (Q : Int) < (P : Int) := by omega
          have i4 : IntKind.i64.wrap ((Q : Int) - (P : Int)) = (D7 : Int) := by rw [IntKind.wrap_i64]; omega
          have i5 : ¬ (7 : Int) < (D7 : Int) := by omega
          have i6 : IntKind.i64.wrap ((Q : Int) + (L7 : Int)) = (T : Int) := by rw [IntKind.wrap_i64]; omega
          have i7 : IntKind.i64.wrap (8 * (n : Int)) = (T : Int) := by rw [IntKind.wrap_i64]; omega
          clear hD7 hD8 hQ hf7 hV2 hL7 g1 g2 g3 e1 e2 e3 hT hQ8 hP8 hP32
          go_wp2_with fail
          refine (U0.out _ HR6.out).mono ?_; rintro e w7 ⟨x5, rfl, k7, r7, he7⟩
          obtain rfl : x5 = .nilIface := he7
          have HR5 := Lib.hid r7
          have HE5 := Lib.hid (Kp.out HE6.out k7 hc1)
          clear r7 k7
          go_wp2_with fail
          refine (place_any c1 P bs _ HR5.out).mono ?_; rintro e w6 ⟨rfl, rfl⟩
          go_wp2_with fail
          refine (UA.out _ HR5.out).mono ?_; rintro e w7 ⟨x7, rfl, k7, r7, he7⟩
          have HR7 := Lib.hid r7
          have HE7 := Lib.hid (Kp.out HE5.out k7 hc1)
          clear r7 k7
          go_wp2_with fail
          refine (place_any c1 Q bs _ HR7.out).mono ?_; rintro e w8 ⟨rfl, rfl⟩
          go_wp2_with fail
          refine (UL.out _ HR7.out).mono ?_; rintro e w9 ⟨rfl, hx9⟩
          have HE9 := Lib.hid (HE7.out.trans hx9)
          clear hx9
          go_wp2_with fail
          refine (newrd_any bs _ _ (HB.out.ext HE9.out)).mono ?_; rintro e wA ⟨c2, rfl, hc2, rA, hxA⟩
          have HRA := Lib.hid (rA.mono (E := fun _ => False) (fun g h => h.elim))
          have HEA := Lib.hid (HE9.out.trans hxA)
          have hwc : w.heap.size ≤ c2 := Nat.le_trans HE9.out.size hc2
          clear rA hxA hc2
          go_wp2_with fail
          refine (U1.out _ _ HRA.out).mono ?_; rintro e wB ⟨xB, rfl, kB, rB, heB⟩
          have HRB := Lib.hid rB
          have HEB := Lib.hid (Kp.out HEA.out kB hwc)
          clear rB kB heB
          go_wp2_with fail
          refine (U2.out _ _ HRB.out).mono ?_; rintro e wC ⟨xC, rfl, kC, rC, heC⟩
          have HEC := Lib.hid (Kp.out HEB.out kC hwc)
          clear rC kC heC
          by_cases hz : V2 = 0
          · rw [hF.2 hz] at he7
            obtain rfl : x7 = .nilIface := he7
            subst hz
            clear hF
            go_wp2_with fail
            refine (first2_any _ (hg.ext HEC.out)).mono ?_; rintro e wD ⟨rfl, hxD⟩
            go_wp2
            go_ret
            exact ⟨rfl, HEC.out.trans hxD⟩
          · have hz' : ¬ (V2 : Int) = 0 := by omega
            have hne : f7 ≠ none := fun e => hz (hF.1 e)
            obtain ⟨fl, rfl⟩ := Option.ne_none_iff_exists'.1 hne
            obtain ⟨t7, y7, rfl⟩ := he7.ne
            clear he7 hne hF
            go_wp2_with fail
            refine (first2_any _ (hg.ext HEC.out)).mono ?_; rintro e wD ⟨rfl, hxD⟩
            go_wp2
            go_ret
            refine ⟨?_, HEC.out.trans hxD⟩
            first
              | rfl
              | (have hz3 : ((V2 : Int) == 0) = false := by { rw [beq_eq_false_iff_ne]; omega }; show Ending.returned (.bool (!((V2 : Int) == 0))) = _; rw [hz3]; rfl)
        · obtain ⟨f0, g1, g2, g3⟩ := rd_bad (bs := bs) (p := 0) (n := (N : Int)) (by rw [← HN.out]; omega)
          rw [g1, g2, g3] at U0
          obtain ⟨P, hP⟩ : ∃ P, 0 = P := ⟨_, rfl⟩
          have hP8 : P ≤ 8 * n := by omega
          have hP32 : P ≤ 32 := by omega
          have z1 : ((P : Int) != 0) = false := by rw [bne_eq_false_iff_eq]; omega
          have HP := Lib.hid hP
          clear g1 g2 g3 hgood hP
          obtain ⟨D7, hD7⟩ : ∃ D7, alD P = D7 := ⟨_, rfl⟩
          have hD8 : (P + D7) % 8 = 0 ∧ D7 ≤ 7 := by rw [← hD7]; unfold alD; omega
          obtain ⟨Q, hQ⟩ : ∃ Q, P + D7 = Q := ⟨_, rfl⟩
          obtain ⟨f7, hf7⟩ : ∃ f, alF bs P D7 = f := ⟨_, rfl⟩
          obtain ⟨V2, hV2⟩ : ∃ V, nmN bs P D7 = V := ⟨_, rfl⟩
          have hF := alF_none bs P D7
          rw [hf7, hV2] at hF
          have UA := Lib.hid (fun w (h : RdAt (fun g => g = b2) w c1 bs P) => rdalign_any c1 P bs w h (by rw [← HN.out]; exact hP8))
          rw [hD7, hQ, hf7] at UA
          obtain ⟨L7, hL7⟩ : ∃ L7, 8 * n - Q = L7 := ⟨_, rfl⟩
          have hQ8 : Q ≤ 8 * n := by omega
          have UL := Lib.hid (fun w (h : RdAt (fun g => g = b2) w c1 bs Q) => left_any c1 Q bs w h (by rw [← HN.out]; exact hQ8))
          rw [← HN.out, hL7] at UL
          obtain ⟨g1, g2, g3⟩ := rd_good (bs := bs) (p := 0) (N := P) hP32 (by rw [← HN.out]; omega)
          obtain ⟨e1, e2, e3⟩ := rd_good (bs := bs) (p := P) (N := D7) (by omega) (by rw [← HN.out]; omega)
          have U1 := Lib.hid (fun w c (h : RdAt (fun _ => False) w c bs 0) => rdget_any c 0 (P : Int) bs w h (Nat.zero_le _))
          have U2 := Lib.hid (fun w c (h : RdAt (fun _ => False) w c bs P) => rdget_any c P (D7 : Int) bs w h (by rw [← HN.out]; exact hP8))
          rw [g1, g2, g3, Nat.zero_add] at U1
          rw [e1, e2, e3, hV2, hQ] at U2
          obtain ⟨T, hT⟩ : ∃ T, 8 * n = T := ⟨_, rfl⟩
          have i1 : (Q : Int) % 8 = 0 := by omega
          have i2 : ((Q : Int) % 8 != 0) = false := by rw [bne_eq_false_iff_eq]; exact i1
          have i3 : ¬ (Q : Int) < (P : Int) := by omega
          have i4 : IntKind.i64.wrap ((Q : Int) - (P : Int)) = (D7 : Int) := by rw [IntKind.wrap_i64]; omega
          have i5 : ¬ (7 : Int) < (D7 : Int) := by omega
          have i6 : IntKind.i64.wrap ((Q : Int) + (L7 : Int)) = (T : Int) := by rw [IntKind.wrap_i64]; omega
          have i7 : IntKind.i64.wrap (8 * (n : Int)) = (T : Int) := by rw [IntKind.wrap_i64]; omega
          clear hD7 hD8 hQ hf7 hV2 hL7 g1 g2 g3 e1 e2 e3 hT hQ8 hP8 hP32
          go_wp2_with fail
          refine (U0.out _ HR6.out).mono ?_; rintro e w7 ⟨x5, rfl, k7, r7, he7⟩
          obtain ⟨t5, y5, rfl⟩ := he7.ne
          rw [HP.out] at r7
          have HR5 := Lib.hid r7
          have HE5 := Lib.hid (Kp.out HE6.out k7 hc1)
          clear r7 k7 he7
          go_wp2_with fail
          refine (place_any c1 P bs _ HR5.out).mono ?_; rintro e w6 ⟨rfl, rfl⟩
          go_wp2_with fail
          refine (UA.out _ HR5.out).mono ?_; rintro e w7 ⟨x7, rfl, k7, r7, he7⟩
          have HR7 := Lib.hid r7
          have HE7 := Lib.hid (Kp.out HE5.out k7 hc1)
          clear r7 k7
          go_wp2_with fail
          refine (place_any c1 Q bs _ HR7.out).mono ?_; rintro e w8 ⟨rfl, rfl⟩
          go_wp2_with fail
          refine (UL.out _ HR7.out).mono ?_; rintro e w9 ⟨rfl, hx9⟩
          have HE9 := Lib.hid (HE7.out.trans hx9)
          clear hx9
          go_wp2_with fail
          refine (newrd_any bs _ _ (HB.out.ext HE9.out)).mono ?_; rintro e wA ⟨c2, rfl, hc2, rA, hxA⟩
          have HRA := Lib.hid (rA.mono (E := fun _ => False) (fun g h => h.elim))
          have HEA := Lib.hid (HE9.out.trans hxA)
          have hwc : w.heap.size ≤ c2 := Nat.le_trans HE9.out.size hc2
          clear rA hxA hc2
          go_wp2_with fail
          refine (U1.out _ _ HRA.out).mono ?_; rintro e wB ⟨xB, rfl, kB, rB, heB⟩
          have HRB := Lib.hid rB
          have HEB := Lib.hid (Kp.out HEA.out kB hwc)
          clear rB kB heB
          go_wp2_with fail
          refine (U2.out _ _ HRB.out).mono ?_; rintro e wC ⟨xC, rfl, kC, rC, heC⟩
          have HEC := Lib.hid (Kp.out HEB.out kC hwc)
          clear rC kC heC
          by_cases hz : V2 = 0
          · rw [hF.2 hz] at he7
            obtain rfl : x7 = .nilIface := he7
            subst hz
            clear hF
            go_wp2_with fail
            refine (first2_any _ (hg.ext HEC.out)).mono ?_; rintro e wD ⟨rfl, hxD⟩
            go_wp2
            go_ret
            exact ⟨rfl, HEC.out.trans hxD⟩
          · have hz' : ¬ (V2 : Int) = 0 := by omega
            have hne : f7 ≠ none := fun e => hz (hF.1 e)
            obtain ⟨fl, rfl⟩ := Option.ne_none_iff_exists'.1 hne
            obtain ⟨t7, y7, rfl⟩ := he7.ne
            clear he7 hne hF
            go_wp2_with fail
            refine (first2_any _ (hg.ext HEC.out)).mono ?_; rintro e wD ⟨rfl, hxD⟩
            go_wp2
            go_ret
            refine ⟨?_, HEC.out.trans hxD⟩
            first
              | rfl
              | (have hz3 : ((V2 : Int) == 0) = false := by { rw [beq_eq_false_iff_ne]; omega }; show Ending.returned (.bool (!((V2 : Int) == 0))) = _; rw [hz3]; rfl)
end Go.Proofs.YtaamnpbhmckpbaaDoor

/- Bytes opened with the reach: how many there may be. -/
namespace Go.Proofs.YtaamnpbhmckpbaaDoor
set_option linter.unusedVariables false
set_option linter.unusedSimpArgs false
open Go.ChangeShapes Go.WideShapes Go.ChangeAt Go.RowKit Go.Joins Go.Deep

theorem weights_at {H : Type} {P : Program} : ∀ {ts : List TypeId} {ds : List (DataW H)} {j : Nat} {t : TypeId} {d : DataW H}, (DataW.weightsEach P ts ds).all (· ≤ reachBytes) = true → ts[j]? = some t → ds[j]? = some d → (d.weights P t).all (· ≤ reachBytes) = true
  | [], _, _, _, _, _, ht, _ => by simp at ht
  | _ :: _, [], _, _, _, _, _, hd => by simp at hd
  | a :: ts, b :: ds, j, t, d, h, ht, hd => by
    unfold DataW.weightsEach at h
    rw [List.all_append, Bool.and_eq_true] at h
    cases j with
    | zero =>
      simp only [List.getElem?_cons_zero, Option.some.injEq] at ht hd
      subst ht; subst hd
      exact h.1
    | succ j =>
      simp only [List.getElem?_cons_succ] at ht hd
      exact weights_at h.2 ht hd
section
variable {H : Type} {enc : TypeId × Value → H} {w : World}
set_option maxRecDepth 100000 in
theorem bys_reach {v : Value} {d : DataW H} {p : List MemPlace} {bs : List Nat} (h : DataW.Trod enc Tryd.prog w 0 (fun _ => true) true 43 v d p) (hr : Row w v bs.length (bs.map fun x : Nat => Value.int .u8 (x : Int)))
    (hS : (d.weights Tryd.prog 43).all (· ≤ reachBytes) = true) : bs.length ≤ 140737488355328 := by
  obtain ⟨a, cap, e, h1, h2, -, -⟩ := hr
  obtain ⟨fuel, hf⟩ := h
  rcases open_ints Tryd.underlying43 (k := .u8) Tryd.underlying5 (by kernel_rfl) hf with ⟨hc, _⟩ | ⟨a', len, cap', zs, hc, _, hl, hm, hlen, hx, hcell, hw⟩
  · have hv : v = .slice none 0 0 := by rw [e] at hc ⊢; simpa [Value.cells] using hc
    rw [e] at hv
    simp only [Value.slice.injEq] at hv
    omega
  · have hv : v = .slice (some a') len cap' := by rw [e] at hc ⊢; simpa [Value.cells] using hc
    rw [e] at hv
    simp only [Value.slice.injEq] at hv
    simp only [if_true] at hlen
    obtain ⟨rfl, -⟩ := Prod.mk.inj hx
    unfold DataW.weights at hS
    rw [Tryd.underlying43] at hS
    have hb : Tryd.prog.bytesOf 5 = 1 := by kernel_rfl
    simp only [List.all_cons, Bool.and_eq_true, decide_eq_true_eq, hb] at hS
    have h3 : (lits (H := H) .u8 (zs.take len)).length = len := by simp [lits]; omega
    have h4 := hS.1
    rw [h3] at h4
    have : reachBytes ≤ 140737488355328 := by decide
    omega
end
end Go.Proofs.YtaamnpbhmckpbaaDoor
