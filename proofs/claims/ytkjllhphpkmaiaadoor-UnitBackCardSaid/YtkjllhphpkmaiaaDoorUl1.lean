/- kinlaw4.UnitLong: the walk. -/
import Derived.Test.YtkjllhphpkmaiaaDoorUt1
namespace Go.Proofs.YtkjllhphpkmaiaaDoor
set_option linter.unusedVariables false
set_option linter.unusedSimpArgs false
open Go.RowKit Go.Extern.Stop Go.Stop Go.Extern

theorem rep_set (x N i : Nat) (h : i < N) : (List.replicate i x ++ List.replicate (N - i) 0).set i x = List.replicate (i + 1) x ++ List.replicate (N - (i + 1)) 0 := by
  rw [List.set_append, if_neg (by rw [List.length_replicate]; omega), List.length_replicate, Nat.sub_self]
  obtain ⟨m, hm⟩ : ∃ m, N - i = m + 1 := ⟨N - i - 1, by omega⟩
  rw [hm, show N - (i + 1) = m by omega, List.replicate_succ, List.set_cons_zero, List.replicate_succ', List.append_assoc]
  rfl
/-- bytes that may be written -/
def Wr (w : World) (g n c : Nat) (bs : List Nat) : Prop := Bys w (.slice (some ⟨g, 0, none⟩) n c) bs ∧ ∀ j, w.frozen? ⟨g, j, none⟩ = false
theorem Wr.set {w : World} {g n c i y : Nat} {bs : List Nat} (h : Wr w g n c bs) (hi : i < n) (hy : y < 256) : Wr (w.setCell ⟨g, i, none⟩ (.int .u8 (y : Int))) g n c (bs.set i y) := by
  have := h.1.setAt hi hy
  rw [Nat.zero_add] at this
  exact ⟨this, fun j => by have := h.2 j; simpa using this⟩
/-- what Next says of a unit that was made -/
theorem nx_made (k : Nat) (d : List Nat) (hk : k ≠ 0) (hd : d.length ≤ 65536) (hs : crc (hdB k d) < 4294967296) : nxU (encB k d) 0 = (none, k, d, 0, ((d.length + 8 : Nat) : Int) + 0) := by
  have h : rdU (encB k d) = (0, k, d, d.length + 8) := by
    rw [enc_form k d hk]
    have hv : v4 (crc (hdB k d) / 16777216) (crc (hdB k d) / 65536 % 256) (crc (hdB k d) / 256 % 256) (crc (hdB k d) % 256) = crc (hdB k d) := by unfold v4; omega
    have := rd_enc k d (crc (hdB k d) / 16777216) (crc (hdB k d) / 65536 % 256) (crc (hdB k d) / 256 % 256) (crc (hdB k d) % 256) hk hd
    rw [hv, if_neg (by simp)] at this
    exact this
  have hl : 0 < (encB k d).length := by rw [encB_len, if_neg hk]; omega
  unfold nxU
  rw [if_neg (by omega)]
  have e : List.drop (Int.toNat 0) (encB k d) = encB k d := rfl
  rw [e, h]
  exact if_pos rfl
theorem own_frm {w : World} {base n : Nat} {v : Value} {e : TypeId} {s : Nat} {xs : List Value} (h : w.ownsRow base e s v n xs) : ∃ a c, v = .slice a n c := by
  rcases h.2 with ⟨rfl, h0⟩ | ⟨g, cap, cur, rfl, -⟩
  · exact ⟨none, 0, by rw [h0]⟩
  · exact ⟨_, _, rfl⟩
set_option maxHeartbeats 8000000 in
set_option maxRecDepth 20000 in
theorem long_law (kind n : Int) (x : Nat) (w : World) (hg : EtIs w) (hnb : NbIs w) (hn : -9223372036854775808 ≤ n ∧ n ≤ 9223372036854775807) (hx : x < 256) :
    Calls Tryd.prog 4 #[.int .i64 kind, .int .i64 n, .int .u8 (x : Int)] w fun e w' => e = .returned (.bool true) ∧ Ext w w' := by
  obtain ⟨i0, hi, hz0, hz1, hz2⟩ := info_parts infoU8
  have HG := Lib.hid hg
  have HNB := Lib.hid hnb
  obtain ⟨t, ht⟩ : ∃ t : Int, Int.tmod n 3 = t := ⟨_, rfl⟩
  have ht3 : -2 ≤ t ∧ t ≤ 2 := by
    rcases Int.lt_or_le n 0 with h | h
    · have e : Int.tmod n 3 = -((-n) % 3) := by
        have := Int.neg_tmod (-n) 3
        rw [Int.neg_neg] at this
        rw [this, Int.tmod_eq_emod_of_nonneg (by omega)]
      omega
    · have e : Int.tmod n 3 = n % 3 := Int.tmod_eq_emod_of_nonneg h
      omega
  obtain ⟨k, hk⟩ : ∃ k : Nat, (k : Int) = if t < 0 then -t else t := ⟨(if t < 0 then -t else t).toNat, by split <;> omega⟩
  have hk2 : k ≤ 2 := by split at hk <;> omega
  obtain ⟨N, hN⟩ : ∃ N, 65535 + k = N := ⟨_, rfl⟩
  have hNi : IntKind.i64.wrap (65535 + (k : Int)) = (N : Int) := by rw [IntKind.wrap_i64]; omega
  have HK := Lib.hid hN
  have hNb : 65535 ≤ N ∧ N ≤ 65537 := by omega
  clear hg hnb hN
  by_cases hneg : t < 0
  · rw [if_pos hneg] at hk
    have m1 : IntKind.i64.wrap (-t) = (k : Int) := by rw [IntKind.wrap_i64]; omega
    clear hk
    go_enter Tryd.func4, Tryd.ntmps4
    go_wp2_with fail
    refine (first4_any _ HG.out HNB.out).mono ?_; rintro e w1 ⟨rfl, hx1⟩
    have HX1 := Lib.hid hx1
    clear hx1
    go_wp2_with (at_make; refine wpList_make_full _ rfl _ _ 22 rfl w1.heap.size 5 i0 (.int .u8 0) 1 Tryd.underlying22 hi hz0 hz1 .i64 .i64 _ _ N rfl rfl rfl rfl (by rw [hz2]; omega) (by unfold maxLen; omega) (Nat.le_refl _) ?_; intro w2 hown hgrow)
    have HW0 : Hid (Wr w2 w1.heap.size N N (List.replicate 0 x ++ List.replicate (N - 0) 0)) := by
      have h0 : w2.ownsRow w1.heap.size 5 1 (.slice (some ⟨w1.heap.size, 0, none⟩) N N) N (byC (zeroB N)) := by rw [← made_zero]; exact hown
      obtain ⟨g, c, e, hgb, hfr⟩ := own_parts h0 (by omega)
      simp only [Value.slice.injEq, Option.some.injEq, Addr.mk.injEq, and_true, true_and] at e
      obtain ⟨e1, e2⟩ := e
      refine ⟨?_, fun j => by rw [e1]; exact hfr j⟩
      have := Bys.of_owns h0 (fun z hz => by rw [List.eq_of_mem_replicate hz]; decide) (by unfold zeroB; rw [List.length_replicate]; omega)
      exact this
    have HX2 := Lib.hid (HX1.out.trans (Below.grown (Ext.refl w1) hgrow (Nat.le_refl _) (fun k hk => by cases hk)))
    have HX12 := Lib.hid HX1.out.size
    clear hown hgrow
    go_loopw [9] (fun iv wi => ∃ i : Nat, i ≤ N ∧ iv = .int .i64 (i : Int) ∧ Hid (Wr wi w1.heap.size N N (List.replicate i x ++ List.replicate (N - i) 0)) ∧ Hid (Ext w wi)) (fun iv _ => N - (intOf iv).toNat)
    case atStart => exact ⟨0, Nat.zero_le _, rfl, HW0, HX2⟩
    case round =>
      obtain ⟨i, hi9, rfl, HWi, HXi⟩ := hrel
      by_cases hlt : i < N
      · have hlen : (List.replicate i x ++ List.replicate (N - i) 0).length = N := by rw [List.length_append, List.length_replicate, List.length_replicate]; omega
        have cI := HWi.out.1.at (nget_of_lt (j := i) (by rw [hlen]; exact hlt))
        rw [Nat.zero_add] at cI
        obtain ⟨old, hold⟩ : ∃ o, (List.replicate i x ++ List.replicate (N - i) 0).getD i 0 = o := ⟨_, rfl⟩
        rw [hold] at cI
        have fI := HWi.out.2 i
        have HW9 := HWi.out.set hlt hx
        rw [rep_set x N i hlt] at HW9
        have HW9 := Lib.hid HW9
        have HX9 := Lib.hid (HXi.out.setCell (p := ⟨w1.heap.size, i, none⟩) HX12.out (.int .u8 (x : Int)))
        have x1 : (0 : Int) ≤ (i : Int) := by omega
        have x2 : (i : Int) < (N : Int) := by omega
        clear hlen hold
        go_wp2
        go_roundw
        case rel => exact ⟨i + 1, by omega, by go_num, HW9, HX9⟩
        case measure => simp [intOf]; omega
      · obtain rfl : i = N := by omega
        have HWN := HWi.out
        rw [Nat.sub_self, List.replicate_zero, List.append_nil] at HWN
        obtain ⟨D, hD⟩ : ∃ D, List.replicate i x = D := ⟨_, rfl⟩
        have hDl : D.length = i := by rw [← hD, List.length_replicate]
        have hDb : ∀ z ∈ D, z < 256 := by rw [← hD]; intro z hz; rw [List.eq_of_mem_replicate hz]; exact hx
        rw [hD] at HWN
        have HB := Lib.hid HWN.1
        have HDl := Lib.hid hDl
        have HDb := Lib.hid hDb
        clear HWi HWN hD hDl hDb HW0 HX2
        have hlt' : ¬ (i : Int) < (i : Int) := by omega
        by_cases hA1 : kind < 1
        · have hF : ukF kind D.length = some ([], 13) := by
            unfold ukF
            rw [HDl.out]
            by_cases h0 : kind < 0
            · rw [if_pos (.inl h0)]
            · rw [if_pos (.inr (.inr ⟨by omega, by omega⟩))]
          have UM := Lib.hid (make_any kind D _ _ (HNB.out.ext HXi.out) HB.out (.inr ⟨_, _, _, rfl⟩))
          rw [hF] at UM
          clear hF
          go_wp2_with fail
          refine (UM.out).mono ?_; rintro e w3 ⟨u, z, rfl, ho, hz, hx3⟩
          obtain ⟨ua, uc, rfl⟩ := own_frm ho
          obtain ⟨tz, qz, rfl⟩ := hz.ne
          have HX3 := Lib.hid (HXi.out.trans hx3)
          have HZ := Lib.hid hz
          clear ho hz hx3
          go_wp2_with fail
          refine (first4_any _ (HG.out.ext HX3.out) (HNB.out.ext HX3.out)).mono ?_; rintro e w4 ⟨rfl, hx4⟩
          have HX4 := Lib.hid (HX3.out.trans hx4)
          have HZ4 := Lib.hid (HZ.out.ext hx4)
          clear hx4
          go_wp2_with fail
          refine (fail_any 13 _).mono ?_; rintro e w5 ⟨rfl, hx5⟩
          have HX5 := Lib.hid (HX4.out.trans hx5)
          have HZ5 := Lib.hid (HZ4.out.ext hx5)
          clear hx5
          go_wp2_with fail
          refine (same_fall (some ([], 13)) _ _ _ _ (HG.out.ext HX5.out) HZ5.out (RErrIs.code (by decide))).mono ?_; rintro e w6 ⟨rfl, hx6⟩
          have HX6 := Lib.hid (HX5.out.trans hx6)
          clear hx6
          go_wp2
          go_ret
          exact ⟨rfl, HX6.out⟩
        · by_cases hA2 : 255 < kind
          · have hF : ukF kind D.length = some ([], 13) := by unfold ukF; rw [if_pos (.inr (.inl hA2))]
            have UM := Lib.hid (make_any kind D _ _ (HNB.out.ext HXi.out) HB.out (.inr ⟨_, _, _, rfl⟩))
            rw [hF] at UM
            clear hF
            go_wp2_with fail
            refine (UM.out).mono ?_; rintro e w3 ⟨u, z, rfl, ho, hz, hx3⟩
            obtain ⟨ua, uc, rfl⟩ := own_frm ho
            obtain ⟨tz, qz, rfl⟩ := hz.ne
            have HX3 := Lib.hid (HXi.out.trans hx3)
            have HZ := Lib.hid hz
            clear ho hz hx3
            go_wp2_with fail
            refine (first4_any _ (HG.out.ext HX3.out) (HNB.out.ext HX3.out)).mono ?_; rintro e w4 ⟨rfl, hx4⟩
            have HX4 := Lib.hid (HX3.out.trans hx4)
            have HZ4 := Lib.hid (HZ.out.ext hx4)
            clear hx4
            go_wp2_with fail
            refine (fail_any 13 _).mono ?_; rintro e w5 ⟨rfl, hx5⟩
            have HX5 := Lib.hid (HX4.out.trans hx5)
            have HZ5 := Lib.hid (HZ4.out.ext hx5)
            clear hx5
            go_wp2_with fail
            refine (same_fall (some ([], 13)) _ _ _ _ (HG.out.ext HX5.out) HZ5.out (RErrIs.code (by decide))).mono ?_; rintro e w6 ⟨rfl, hx6⟩
            have HX6 := Lib.hid (HX5.out.trans hx6)
            clear hx6
            go_wp2
            go_ret
            exact ⟨rfl, HX6.out⟩
          · obtain ⟨K, rfl⟩ : ∃ K : Nat, kind = (K : Int) := ⟨kind.toNat, by omega⟩
            have hK0 : K ≠ 0 := by omega
            by_cases hk3 : k = 2
            · subst hk3
              have hF : ukF (K : Int) D.length = some ([], 5) := by unfold ukF; rw [HDl.out, if_neg (by omega), if_pos (by have := HK.out; omega)]
              have hV : ukV (K : Int) D = [] := by unfold ukV; rw [hF]
              have UM := Lib.hid (make_any (K : Int) D _ _ (HNB.out.ext HXi.out) HB.out (.inr ⟨_, _, _, rfl⟩))
              rw [hF, hV] at UM
              have hkk : (((2 : Nat) : Int) == 2) = true := rfl
              clear hF hV
              go_wp2_with fail
              refine (UM.out).mono ?_; rintro e w3 ⟨u, z, rfl, ho, hz, hx3⟩
              obtain ⟨ua, uc, rfl⟩ := own_frm ho
              obtain ⟨tz, qz, rfl⟩ := hz.ne
              have HX3 := Lib.hid (HXi.out.trans hx3)
              have HZ := Lib.hid hz
              clear ho hz hx3
              go_wp2_with fail
              refine (first4_any _ (HG.out.ext HX3.out) (HNB.out.ext HX3.out)).mono ?_; rintro e w4 ⟨rfl, hx4⟩
              have HX4 := Lib.hid (HX3.out.trans hx4)
              have HZ4 := Lib.hid (HZ.out.ext hx4)
              clear hx4
              go_wp2_with fail
              refine (fail_any 5 _).mono ?_; rintro e w5 ⟨rfl, hx5⟩
              have HX5 := Lib.hid (HX4.out.trans hx5)
              have HZ5 := Lib.hid (HZ4.out.ext hx5)
              clear hx5
              go_wp2_with fail
              refine (same_fall (some ([], 5)) _ _ _ _ (HG.out.ext HX5.out) HZ5.out (RErrIs.code (by decide))).mono ?_; rintro e w6 ⟨rfl, hx6⟩
              have HX6 := Lib.hid (HX5.out.trans hx6)
              clear hx6
              go_wp2
              go_ret
              exact ⟨rfl, HX6.out⟩
            · have hi6 : i ≤ 65536 := by have := HK.out; omega
              have hkk : ((k : Int) == 2) = false := by rw [beq_eq_false_iff_ne]; omega
              have hF : ukF (K : Int) D.length = none := by unfold ukF; rw [HDl.out, if_neg (by omega), if_neg (by omega)]
              have hV : ukV (K : Int) D = encB K D := by unfold ukV; rw [hF]; rfl
              have hEL : (encB K D).length = i + 8 := by rw [encB_len, if_neg hK0, HDl.out]
              have hEB := encB_lt (kind := K) (data := D) (by omega) HDb.out (by rw [HDl.out]; omega)
              have hNX := nx_made K D hK0 (by rw [HDl.out]; omega) (crc_lt (hdB_lt (by omega) HDb.out (by rw [HDl.out]; omega)))
              rw [HDl.out] at hNX
              have UM := Lib.hid (make_any (K : Int) D _ _ (HNB.out.ext HXi.out) HB.out (.inr ⟨_, _, _, rfl⟩))
              rw [hF, hV] at UM
              obtain ⟨B, hBB⟩ : ∃ B, encB K D = B := ⟨_, rfl⟩
              rw [hBB] at UM hEL hEB hNX
              obtain ⟨M, hM⟩ : ∃ M, i + 8 = M := ⟨_, rfl⟩
              rw [hM] at hEL hNX
              rw [Int.add_zero] at hNX
              have hMi : (i : Int) + 8 = (M : Int) := by omega
              have SZ := Lib.hid (fun w => size_any (i : Int) w (by omega))
              rw [hMi] at SZ
              have HNX := Lib.hid hNX
              have HEL := Lib.hid hEL
              have HEB := Lib.hid hEB
              have hMb : M ≤ 70000 := by omega
              clear hF hV hBB hEL hEB hNX hMi hM
              go_wp2_with fail
              refine (UM.out).mono ?_; rintro e w3 ⟨u, z, rfl, ho, hz, hx3⟩
              obtain rfl : z = .nilIface := hz
              rw [HEL.out] at ho
              obtain ⟨ua, uc, rfl⟩ := own_frm ho
              have HX3 := Lib.hid (HXi.out.trans hx3)
              have HY3 := Lib.hid (Bys.of_owns ho HEB.out (by rw [HEL.out]; omega))
              have HB3 := Lib.hid (HB.out.ext hx3)
              clear ho hx3
              go_wp2_with fail
              refine (next_any B 0 _ _ (HNB.out.ext HX3.out) HY3.out).mono ?_
              rw [HNX.out]
              rintro e w4 ⟨u4, z4, rfl, ho4, he4, hx4⟩
              obtain rfl : z4 = .nilIface := he4
              obtain ⟨a4, c4, rfl⟩ := own_frm ho4
              have hy4 := Bys.of_owns ho4 HDb.out (by rw [HDl.out]; omega)
              have E4 : Ext w4 (w4.alloc (.cells #[.int .i64 (K : Int), .slice a4 D.length c4, .int .i64 0, .int .i64 (M : Int)] 44)) := (Ext.refl w4).alloc _
              have HX4 := Lib.hid ((HX3.out.trans hx4).trans E4)
              have HB4 := Lib.hid ((HB3.out.ext hx4).ext E4)
              have HU4 := Lib.hid (UBox.new w4 (K : Int) (.slice a4 D.length c4) 0 (M : Int) 44)
              have HY4 := Lib.hid (hy4.ext E4)
              clear ho4 hx4 hy4 E4
              go_wp2_with fail
              refine (first4_any _ (HG.out.ext HX4.out) (HNB.out.ext HX4.out)).mono ?_; rintro e w5 ⟨rfl, hx5⟩
              have HX5 := Lib.hid (HX4.out.trans hx5)
              have HU5 := Lib.hid (HU4.out.ext hx5)
              have HB5 := Lib.hid (HB4.out.ext hx5)
              have HY5 := Lib.hid (HY4.out.ext hx5)
              obtain ⟨⟨q0, q1, q2, q3⟩, -⟩ := HU5.out
              clear hx5
              go_wp2_with fail
              refine (SZ.out _).mono ?_; rintro e w6 ⟨rfl, rfl⟩
              go_wp2_with fail
              refine (bytes_same D _ _ _ HY5.out HB5.out).mono ?_; rintro e w7 ⟨rfl, rfl⟩
              go_wp2
              go_ret
              exact ⟨rfl, HX5.out⟩
  · rw [if_neg hneg] at hk
    subst hk
    go_enter Tryd.func4, Tryd.ntmps4
    go_wp2_with fail
    refine (first4_any _ HG.out HNB.out).mono ?_; rintro e w1 ⟨rfl, hx1⟩
    have HX1 := Lib.hid hx1
    clear hx1
    go_wp2_with (at_make; refine wpList_make_full _ rfl _ _ 22 rfl w1.heap.size 5 i0 (.int .u8 0) 1 Tryd.underlying22 hi hz0 hz1 .i64 .i64 _ _ N rfl rfl rfl rfl (by rw [hz2]; omega) (by unfold maxLen; omega) (Nat.le_refl _) ?_; intro w2 hown hgrow)
    have HW0 : Hid (Wr w2 w1.heap.size N N (List.replicate 0 x ++ List.replicate (N - 0) 0)) := by
      have h0 : w2.ownsRow w1.heap.size 5 1 (.slice (some ⟨w1.heap.size, 0, none⟩) N N) N (byC (zeroB N)) := by rw [← made_zero]; exact hown
      obtain ⟨g, c, e, hgb, hfr⟩ := own_parts h0 (by omega)
      simp only [Value.slice.injEq, Option.some.injEq, Addr.mk.injEq, and_true, true_and] at e
      obtain ⟨e1, e2⟩ := e
      refine ⟨?_, fun j => by rw [e1]; exact hfr j⟩
      have := Bys.of_owns h0 (fun z hz => by rw [List.eq_of_mem_replicate hz]; decide) (by unfold zeroB; rw [List.length_replicate]; omega)
      exact this
    have HX2 := Lib.hid (HX1.out.trans (Below.grown (Ext.refl w1) hgrow (Nat.le_refl _) (fun k hk => by cases hk)))
    have HX12 := Lib.hid HX1.out.size
    clear hown hgrow
    go_loopw [9] (fun iv wi => ∃ i : Nat, i ≤ N ∧ iv = .int .i64 (i : Int) ∧ Hid (Wr wi w1.heap.size N N (List.replicate i x ++ List.replicate (N - i) 0)) ∧ Hid (Ext w wi)) (fun iv _ => N - (intOf iv).toNat)
    case atStart => exact ⟨0, Nat.zero_le _, rfl, HW0, HX2⟩
    case round =>
      obtain ⟨i, hi9, rfl, HWi, HXi⟩ := hrel
      by_cases hlt : i < N
      · have hlen : (List.replicate i x ++ List.replicate (N - i) 0).length = N := by rw [List.length_append, List.length_replicate, List.length_replicate]; omega
        have cI := HWi.out.1.at (nget_of_lt (j := i) (by rw [hlen]; exact hlt))
        rw [Nat.zero_add] at cI
        obtain ⟨old, hold⟩ : ∃ o, (List.replicate i x ++ List.replicate (N - i) 0).getD i 0 = o := ⟨_, rfl⟩
        rw [hold] at cI
        have fI := HWi.out.2 i
        have HW9 := HWi.out.set hlt hx
        rw [rep_set x N i hlt] at HW9
        have HW9 := Lib.hid HW9
        have HX9 := Lib.hid (HXi.out.setCell (p := ⟨w1.heap.size, i, none⟩) HX12.out (.int .u8 (x : Int)))
        have x1 : (0 : Int) ≤ (i : Int) := by omega
        have x2 : (i : Int) < (N : Int) := by omega
        clear hlen hold
        go_wp2
        go_roundw
        case rel => exact ⟨i + 1, by omega, by go_num, HW9, HX9⟩
        case measure => simp [intOf]; omega
      · obtain rfl : i = N := by omega
        have HWN := HWi.out
        rw [Nat.sub_self, List.replicate_zero, List.append_nil] at HWN
        obtain ⟨D, hD⟩ : ∃ D, List.replicate i x = D := ⟨_, rfl⟩
        have hDl : D.length = i := by rw [← hD, List.length_replicate]
        have hDb : ∀ z ∈ D, z < 256 := by rw [← hD]; intro z hz; rw [List.eq_of_mem_replicate hz]; exact hx
        rw [hD] at HWN
        have HB := Lib.hid HWN.1
        have HDl := Lib.hid hDl
        have HDb := Lib.hid hDb
        clear HWi HWN hD hDl hDb HW0 HX2
        have hlt' : ¬ (i : Int) < (i : Int) := by omega
        by_cases hA1 : kind < 1
        · have hF : ukF kind D.length = some ([], 13) := by
            unfold ukF
            rw [HDl.out]
            by_cases h0 : kind < 0
            · rw [if_pos (.inl h0)]
            · rw [if_pos (.inr (.inr ⟨by omega, by omega⟩))]
          have UM := Lib.hid (make_any kind D _ _ (HNB.out.ext HXi.out) HB.out (.inr ⟨_, _, _, rfl⟩))
          rw [hF] at UM
          clear hF
          go_wp2_with fail
          refine (UM.out).mono ?_; rintro e w3 ⟨u, z, rfl, ho, hz, hx3⟩
          obtain ⟨ua, uc, rfl⟩ := own_frm ho
          obtain ⟨tz, qz, rfl⟩ := hz.ne
          have HX3 := Lib.hid (HXi.out.trans hx3)
          have HZ := Lib.hid hz
          clear ho hz hx3
          go_wp2_with fail
          refine (first4_any _ (HG.out.ext HX3.out) (HNB.out.ext HX3.out)).mono ?_; rintro e w4 ⟨rfl, hx4⟩
          have HX4 := Lib.hid (HX3.out.trans hx4)
          have HZ4 := Lib.hid (HZ.out.ext hx4)
          clear hx4
          go_wp2_with fail
          refine (fail_any 13 _).mono ?_; rintro e w5 ⟨rfl, hx5⟩
          have HX5 := Lib.hid (HX4.out.trans hx5)
          have HZ5 := Lib.hid (HZ4.out.ext hx5)
          clear hx5
          go_wp2_with fail
          refine (same_fall (some ([], 13)) _ _ _ _ (HG.out.ext HX5.out) HZ5.out (RErrIs.code (by decide))).mono ?_; rintro e w6 ⟨rfl, hx6⟩
          have HX6 := Lib.hid (HX5.out.trans hx6)
          clear hx6
          go_wp2
          go_ret
          exact ⟨rfl, HX6.out⟩
        · by_cases hA2 : 255 < kind
          · have hF : ukF kind D.length = some ([], 13) := by unfold ukF; rw [if_pos (.inr (.inl hA2))]
            have UM := Lib.hid (make_any kind D _ _ (HNB.out.ext HXi.out) HB.out (.inr ⟨_, _, _, rfl⟩))
            rw [hF] at UM
            clear hF
            go_wp2_with fail
            refine (UM.out).mono ?_; rintro e w3 ⟨u, z, rfl, ho, hz, hx3⟩
            obtain ⟨ua, uc, rfl⟩ := own_frm ho
            obtain ⟨tz, qz, rfl⟩ := hz.ne
            have HX3 := Lib.hid (HXi.out.trans hx3)
            have HZ := Lib.hid hz
            clear ho hz hx3
            go_wp2_with fail
            refine (first4_any _ (HG.out.ext HX3.out) (HNB.out.ext HX3.out)).mono ?_; rintro e w4 ⟨rfl, hx4⟩
            have HX4 := Lib.hid (HX3.out.trans hx4)
            have HZ4 := Lib.hid (HZ.out.ext hx4)
            clear hx4
            go_wp2_with fail
            refine (fail_any 13 _).mono ?_; rintro e w5 ⟨rfl, hx5⟩
            have HX5 := Lib.hid (HX4.out.trans hx5)
            have HZ5 := Lib.hid (HZ4.out.ext hx5)
            clear hx5
            go_wp2_with fail
            refine (same_fall (some ([], 13)) _ _ _ _ (HG.out.ext HX5.out) HZ5.out (RErrIs.code (by decide))).mono ?_; rintro e w6 ⟨rfl, hx6⟩
            have HX6 := Lib.hid (HX5.out.trans hx6)
            clear hx6
            go_wp2
            go_ret
            exact ⟨rfl, HX6.out⟩
          · obtain ⟨K, rfl⟩ : ∃ K : Nat, kind = (K : Int) := ⟨kind.toNat, by omega⟩
            have hK0 : K ≠ 0 := by omega
            by_cases hk3 : k = 2
            · subst hk3
              have hF : ukF (K : Int) D.length = some ([], 5) := by unfold ukF; rw [HDl.out, if_neg (by omega), if_pos (by have := HK.out; omega)]
              have hV : ukV (K : Int) D = [] := by unfold ukV; rw [hF]
              have UM := Lib.hid (make_any (K : Int) D _ _ (HNB.out.ext HXi.out) HB.out (.inr ⟨_, _, _, rfl⟩))
              rw [hF, hV] at UM
              have hkk : (((2 : Nat) : Int) == 2) = true := rfl
              clear hF hV
              go_wp2_with fail
              refine (UM.out).mono ?_; rintro e w3 ⟨u, z, rfl, ho, hz, hx3⟩
              obtain ⟨ua, uc, rfl⟩ := own_frm ho
              obtain ⟨tz, qz, rfl⟩ := hz.ne
              have HX3 := Lib.hid (HXi.out.trans hx3)
              have HZ := Lib.hid hz
              clear ho hz hx3
              go_wp2_with fail
              refine (first4_any _ (HG.out.ext HX3.out) (HNB.out.ext HX3.out)).mono ?_; rintro e w4 ⟨rfl, hx4⟩
              have HX4 := Lib.hid (HX3.out.trans hx4)
              have HZ4 := Lib.hid (HZ.out.ext hx4)
              clear hx4
              go_wp2_with fail
              refine (fail_any 5 _).mono ?_; rintro e w5 ⟨rfl, hx5⟩
              have HX5 := Lib.hid (HX4.out.trans hx5)
              have HZ5 := Lib.hid (HZ4.out.ext hx5)
              clear hx5
              go_wp2_with fail
              refine (same_fall (some ([], 5)) _ _ _ _ (HG.out.ext HX5.out) HZ5.out (RErrIs.code (by decide))).mono ?_; rintro e w6 ⟨rfl, hx6⟩
              have HX6 := Lib.hid (HX5.out.trans hx6)
              clear hx6
              go_wp2
              go_ret
              exact ⟨rfl, HX6.out⟩
            · have hi6 : i ≤ 65536 := by have := HK.out; omega
              have hkk : ((k : Int) == 2) = false := by rw [beq_eq_false_iff_ne]; omega
              have hF : ukF (K : Int) D.length = none := by unfold ukF; rw [HDl.out, if_neg (by omega), if_neg (by omega)]
              have hV : ukV (K : Int) D = encB K D := by unfold ukV; rw [hF]; rfl
              have hEL : (encB K D).length = i + 8 := by rw [encB_len, if_neg hK0, HDl.out]
              have hEB := encB_lt (kind := K) (data := D) (by omega) HDb.out (by rw [HDl.out]; omega)
              have hNX := nx_made K D hK0 (by rw [HDl.out]; omega) (crc_lt (hdB_lt (by omega) HDb.out (by rw [HDl.out]; omega)))
              rw [HDl.out] at hNX
              have UM := Lib.hid (make_any (K : Int) D _ _ (HNB.out.ext HXi.out) HB.out (.inr ⟨_, _, _, rfl⟩))
              rw [hF, hV] at UM
              obtain ⟨B, hBB⟩ : ∃ B, encB K D = B := ⟨_, rfl⟩
              rw [hBB] at UM hEL hEB hNX
              obtain ⟨M, hM⟩ : ∃ M, i + 8 = M := ⟨_, rfl⟩
              rw [hM] at hEL hNX
              rw [Int.add_zero] at hNX
              have hMi : (i : Int) + 8 = (M : Int) := by omega
              have SZ := Lib.hid (fun w => size_any (i : Int) w (by omega))
              rw [hMi] at SZ
              have HNX := Lib.hid hNX
              have HEL := Lib.hid hEL
              have HEB := Lib.hid hEB
              have hMb : M ≤ 70000 := by omega
              clear hF hV hBB hEL hEB hNX hMi hM
              go_wp2_with fail
              refine (UM.out).mono ?_; rintro e w3 ⟨u, z, rfl, ho, hz, hx3⟩
              obtain rfl : z = .nilIface := hz
              rw [HEL.out] at ho
              obtain ⟨ua, uc, rfl⟩ := own_frm ho
              have HX3 := Lib.hid (HXi.out.trans hx3)
              have HY3 := Lib.hid (Bys.of_owns ho HEB.out (by rw [HEL.out]; omega))
              have HB3 := Lib.hid (HB.out.ext hx3)
              clear ho hx3
              go_wp2_with fail
              refine (next_any B 0 _ _ (HNB.out.ext HX3.out) HY3.out).mono ?_
              rw [HNX.out]
              rintro e w4 ⟨u4, z4, rfl, ho4, he4, hx4⟩
              obtain rfl : z4 = .nilIface := he4
              obtain ⟨a4, c4, rfl⟩ := own_frm ho4
              have hy4 := Bys.of_owns ho4 HDb.out (by rw [HDl.out]; omega)
              have E4 : Ext w4 (w4.alloc (.cells #[.int .i64 (K : Int), .slice a4 D.length c4, .int .i64 0, .int .i64 (M : Int)] 44)) := (Ext.refl w4).alloc _
              have HX4 := Lib.hid ((HX3.out.trans hx4).trans E4)
              have HB4 := Lib.hid ((HB3.out.ext hx4).ext E4)
              have HU4 := Lib.hid (UBox.new w4 (K : Int) (.slice a4 D.length c4) 0 (M : Int) 44)
              have HY4 := Lib.hid (hy4.ext E4)
              clear ho4 hx4 hy4 E4
              go_wp2_with fail
              refine (first4_any _ (HG.out.ext HX4.out) (HNB.out.ext HX4.out)).mono ?_; rintro e w5 ⟨rfl, hx5⟩
              have HX5 := Lib.hid (HX4.out.trans hx5)
              have HU5 := Lib.hid (HU4.out.ext hx5)
              have HB5 := Lib.hid (HB4.out.ext hx5)
              have HY5 := Lib.hid (HY4.out.ext hx5)
              obtain ⟨⟨q0, q1, q2, q3⟩, -⟩ := HU5.out
              clear hx5
              go_wp2_with fail
              refine (SZ.out _).mono ?_; rintro e w6 ⟨rfl, rfl⟩
              go_wp2_with fail
              refine (bytes_same D _ _ _ HY5.out HB5.out).mono ?_; rintro e w7 ⟨rfl, rfl⟩
              go_wp2
              go_ret
              exact ⟨rfl, HX5.out⟩
end Go.Proofs.YtkjllhphpkmaiaaDoor
