/- Contracts of this seat: Lg4, Lg5. -/
import Derived.Test.YtmphochnmdmioaaDoorZf
import Derived.Test.YtmphochnmdmioaaDoorZe
import Derived.Test.YtmphochnmdmioaaDoorZd
/- kinref4.Number as a row of the call's own; log.Pack, kinref26.data, Pack: contracts over this seat's translation. -/
namespace Go.Proofs.YtmphochnmdmioaaDoor
set_option linter.unusedVariables false
set_option linter.unusedSimpArgs false
open Go.RowKit Go.Extern.Stop Go.Stop Go.Extern

theorem own_put1 {w : World} {base g cap n k : Nat} {e : TypeId} {xs : List Value} (h : w.ownsRow base e 1 (.slice (some ⟨g, 0, none⟩) n cap) n xs) (v : Value) : (w.setCell ⟨g, k, none⟩ v).ownsRow base e 1 (.slice (some ⟨g, 0, none⟩) n cap) n (xs.set k v) := by
  obtain ⟨hl, h | ⟨g', cap', cur, e', hb, hg, h1, h2, h3, h4⟩⟩ := h
  · cases h.1
  · simp only [Value.slice.injEq, Option.some.injEq, Addr.mk.injEq, and_true, true_and] at e'
    obtain ⟨rfl, rfl⟩ := e'
    refine ⟨by rw [List.length_set]; exact hl, .inr ⟨g, cap, cur.setIfInBounds k v, rfl, hb, heap_setCell_same w g k cur e v hg, h1, h2, by simpa using h3, ?_⟩⟩
    rw [Array.toList_setIfInBounds, List.take_set, h4]
theorem own_free {w : World} {base g cap n : Nat} {e : TypeId} {s : Nat} {xs : List Value} (h : w.ownsRow base e s (.slice (some ⟨g, 0, none⟩) n cap) n xs) (j : Nat) : w.frozen? ⟨g, j, none⟩ = false := by
  obtain ⟨hl, h | ⟨g', cap', cur, e', hb, hg, h1, h2, h3, h4⟩⟩ := h
  · cases h.1
  · simp only [Value.slice.injEq, Option.some.injEq, Addr.mk.injEq, and_true, true_and] at e'
    obtain ⟨rfl, rfl⟩ := e'
    simp [World.frozen?, hg]
theorem byC_set (bs : List Nat) (i y : Nat) : (byC bs).set i (.int .u8 (y : Int)) = byC (bs.set i y) := by
  unfold byC
  rw [List.map_set]
set_option maxHeartbeats 4000000 in
set_option maxRecDepth 20000 in
theorem number_own (v n : Nat) (w : World) (hv : v ≤ 4294967296) (hn : 0 < n ∧ n ≤ 8) : Calls Tryd.prog 51 #[.int .i64 (v : Int), .int .i64 (n : Int)] w fun e w' => e = .returned (.slice (some ⟨w.heap.size, 0, none⟩) n n) ∧ w'.ownsRow w.heap.size 5 1 (.slice (some ⟨w.heap.size, 0, none⟩) n n) n (byC (dg v n)) ∧ Ext w w' := by
  obtain ⟨i0, hi, hz0, hz1, hz2⟩ := info_parts infoU8
  have m1 : IntKind.i64.wrap ((n : Int) - 1) = (n : Int) - 1 := by rw [IntKind.wrap_i64]; omega
  go_enter Tryd.func51, Tryd.ntmps51
  go_wp2_with (at_make; refine wpList_make_full _ rfl _ _ 25 rfl w.heap.size 5 i0 (.int .u8 0) 1 Tryd.underlying25 hi hz0 hz1 .i64 .i64 _ _ n rfl rfl rfl rfl (by rw [hz2]; omega) (by unfold maxLen; omega) (Nat.le_refl _) ?_; intro w2 hown hgrow)
  have HW0 : Hid (w2.ownsRow w.heap.size 5 1 (.slice (some ⟨w.heap.size, 0, none⟩) n n) n (byC (List.replicate n 0 ++ []))) := by
    have h0 : w2.ownsRow w.heap.size 5 1 (.slice (some ⟨w.heap.size, 0, none⟩) n n) n (byC (zeroB n)) := by rw [← made_zero]; exact hown
    show World.ownsRow _ _ _ _ _ _ _
    rw [List.append_nil]
    exact h0
  have HX2 := Lib.hid (Below.grown (Ext.refl w) hgrow (Nat.le_refl _) (fun k hk => by cases hk))
  clear hown hgrow
  go_loopw [0, 6] (fun vv iv wi => ∃ (r vm : Nat) (T : List Nat), r ≤ n ∧ vm ≤ 4294967296 ∧ vv = .int .i64 (vm : Int) ∧ iv = .int .i64 ((r : Int) - 1) ∧ Hid (dg vm r ++ T = dg v n) ∧ Hid (wi.ownsRow w.heap.size 5 1 (.slice (some ⟨w.heap.size, 0, none⟩) n n) n (byC (List.replicate r 0 ++ T))) ∧ Hid (Ext w wi)) (fun _ iv _ => (intOf iv + 1).toNat)
  case atStart => exact ⟨n, v, [], Nat.le_refl _, hv, rfl, rfl, by show _ = _; rw [List.append_nil], HW0, HX2⟩
  case round =>
    obtain ⟨r, vm, T, hr, hvm, rfl, rfl, HD, HWi, HXi⟩ := hrel
    cases r with
    | succ r =>
      have hlen : (byC (List.replicate (r + 1) 0 ++ T)).length = n := by have := HWi.out.1; omega
      obtain ⟨old, hold⟩ : ∃ o, (byC (List.replicate (r + 1) 0 ++ T))[r]? = some o := ⟨_, List.getElem?_eq_getElem (by rw [hlen]; omega)⟩
      have cI := ucell HWi.out hold
      have fI := own_free HWi.out r
      have HW9 := own_put1 HWi.out (k := r) (.int .u8 ((vm % 256 : Nat) : Int))
      rw [byC_set, rep_set2] at HW9
      have HD9 : Hid (dg (vm / 256) r ++ (vm % 256 :: T) = dg v n) := by
        show _ = _
        rw [← HD.out]
        show _ = (dg (vm / 256) r ++ [vm % 256]) ++ T
        rw [List.append_assoc]
        rfl
      obtain ⟨y, hy⟩ : ∃ y, vm % 256 = y := ⟨_, rfl⟩
      obtain ⟨q, hq⟩ : ∃ q, vm / 256 = q := ⟨_, rfl⟩
      rw [hy] at HW9 HD9
      rw [hq] at HD9
      have HW9 := Lib.hid HW9
      have HX9 := Lib.hid (HXi.out.setCell (p := ⟨w.heap.size, r, none⟩) (Nat.le_refl _) (.int .u8 (y : Int)))
      have k1 : IntKind.u8.wrap (vm : Int) = (y : Int) := by rw [IntKind.wrap_u8]; omega
      have k2 : (vm : Int) / 256 = (q : Int) := by omega
      have k4 : IntKind.i64.wrap (q : Int) = (q : Int) := by rw [IntKind.wrap_i64]; omega
      have e1 : ((r + 1 : Nat) : Int) - 1 = (r : Int) := by omega
      have k3 : IntKind.i64.wrap ((r : Int) - 1) = (r : Int) - 1 := by rw [IntKind.wrap_i64]; omega
      have x1 : (0 : Int) ≤ (r : Int) := by omega
      have x2 : (r : Int) < (n : Int) := by omega
      have x3 : ((0 : Int) ≤ (r : Int)) = True := eq_true x1
      rw [e1]
      clear hlen hold hy hq
      go_wp2
      go_roundw
      case rel => exact ⟨r, q, y :: T, by omega, by omega, rfl, rfl, HD9, HW9, HX9⟩
      case measure => (first | (simp [intOf]; done) | (simp [intOf]; omega))
    | zero =>
      have HDT : Hid (T = dg v n) := HD.out
      have HW9 := HWi.out
      rw [List.replicate_zero, List.nil_append, HDT.out] at HW9
      have HW9 := Lib.hid HW9
      have e1 : (((0 : Nat) : Int) - 1) = -1 := rfl
      rw [e1]
      go_wp2
      go_ret
      exact ⟨rfl, HW9.out, HXi.out⟩
theorem lkind_yes (k : Int) (w : World) (h : kndR k) : Calls Tryd.prog 27 #[.int .i64 k] w fun e w' => e = .returned (.bool true) ∧ w = w' := by
  obtain ⟨h1, h2⟩ := h
  go_enter Tryd.func27, Tryd.ntmps27
  go_wp2
  go_ret
  exact ⟨rfl, rfl⟩
theorem rkind_yes (k : Int) (w : World) (h : kndR k) : Calls Tryd.prog 30 #[.int .i64 k] w fun e w' => e = .returned (.bool true) ∧ w = w' := by
  obtain ⟨h1, h2⟩ := h
  go_enter Tryd.func30, Tryd.ntmps30
  go_wp2
  go_ret
  exact ⟨rfl, rfl⟩
set_option maxHeartbeats 4000000 in
set_option maxRecDepth 20000 in
/-- a record packed -/
theorem lpack_any (r : Rc) (w : World) (hn : NbIs w) : Calls Tryd.prog 10 #[rcA r] w (MPost w (pkR r) (pkE r)) := by
  obtain ⟨k, s, n, l, c⟩ := r
  have HE0 := Lib.hid ((Ext.refl w).alloc (.cells #[.int .i64 k, .int .i64 s, .int .i64 n, .int .i64 l, .int .i64 c] 24))
  by_cases hk : kndR k
  · have HK := Lib.hid hk
    have HM := Lib.hid (fun w => lmay_any ⟨k, s, n, l, c⟩ w)
    have HR0 := Lib.hid (RcAt.new w ⟨k, s, n, l, c⟩ 24)
    by_cases hm : MayR ⟨k, s, n, l, c⟩
    · have HF : Hid (pkE ⟨k, s, n, l, c⟩ = none) := pkE_none.2 hm
      obtain ⟨hu1, hu2⟩ := uk_pk hm
      have UF := Lib.hid (fun w => fields_any ⟨k, s, n, l, c⟩ w (okF_may hm))
      have HDL := Lib.hid (dat_lt hm)
      have HD9 : Hid ((datR ⟨k, s, n, l, c⟩).length ≤ 9) := by show _ ≤ _; rw [dat_len]; exact lenR_le _
      rw [decide_eq_true hm] at HM
      have HNB := Lib.hid hn
      obtain ⟨D, hD⟩ : ∃ D, datR ⟨k, s, n, l, c⟩ = D := ⟨_, rfl⟩
      rw [hD] at hu1 hu2 UF HDL HD9
      have HU1 : Hid (ukF k D.length = none) := hu1
      have HU2 : Hid (ukV k D = pkR ⟨k, s, n, l, c⟩) := hu2
      clear hm hk hn hu1 hu2 hD
      go_enter Tryd.func10, Tryd.ntmps10
      go_wp2_with (first | (go_at_call 27; refine (lkind_yes k _ HK.out).mono ?_; rintro e w9 ⟨rfl, rfl⟩) | (go_at_call 15; refine (HM.out _).mono ?_; rintro e w1 ⟨rfl, hx1⟩; have HX1 := Lib.hid (HE0.out.trans hx1); have HR1 := Lib.hid (HR0.out.ext hx1); clear hx1))
      obtain ⟨q0, q1, q2, q3, q4⟩ := HR1.out
      have UQ := Lib.hid (UF.out w1.drew)
      go_wp2_with fail
      go_region_law (first
        | (go_simp; go_at_call 29; (with_reducible refine UQ.out.mono ?_); rintro e w2 ⟨u2, rfl, h1, h2⟩; obtain ⟨a2, c2, rfl⟩ := uform h1; have HX2 := Lib.hid (HX1.out.drew.trans h2); have HB2 := Lib.hid (Bys.of_owns h1 HDL.out (by have := HD9.out; omega)); have HP2 := Lib.hid (Plain.of_owns h1); obtain ⟨r0, r1, r2, r3, r4⟩ := HR1.out.ext ((Ext.refl w1).drew.trans h2); have UM := Lib.hid (make_any k D _ w2 (HNB.out.ext HX2.out) HB2.out HP2.out); clear h1 h2)
        | (go_simp; go_at_call 28; (with_reducible refine UM.out.mono ?_); rintro e w3 ⟨u3, x3, rfl, h1, h2, h3⟩; have HO3 := Lib.hid h1; have HE3 := Lib.hid h2; have HX3 := Lib.hid (HX2.out.trans h3); clear h1 h2 h3))
      all_goals go_wp2
      all_goals go_ret2
      all_goals exact ⟨_, _, rfl, by rw [← HU2.out]; exact owns_base HO3.out HX2.out.size, by rw [HF.out]; have h := HE3.out; rw [HU1.out] at h; exact h, HX3.out⟩
    · have HF : Hid (pkE ⟨k, s, n, l, c⟩ = some ([], 3)) := by show _ = _; unfold pkE; rw [if_neg (Decidable.not_not.2 hk), if_pos hm]
      have HV : Hid (pkR ⟨k, s, n, l, c⟩ = []) := by show _ = _; unfold pkR; rw [if_neg hm]
      rw [decide_eq_false hm] at HM
      clear hm hk
      go_enter Tryd.func10, Tryd.ntmps10
      go_wp2_with (first | (go_at_call 27; refine (lkind_yes k _ HK.out).mono ?_; rintro e w9 ⟨rfl, rfl⟩) | (go_at_call 15; refine (HM.out _).mono ?_; rintro e w1 ⟨rfl, hx1⟩; have HX1 := Lib.hid (HE0.out.trans hx1); clear hx1))
      go_ret2
      exact ⟨_, _, rfl, by rw [HV.out]; exact World.ownsRow_nil _ _ _ _, by rw [HF.out]; exact ErrIs.code (by decide), HX1.out⟩
  · have HF : Hid (pkE ⟨k, s, n, l, c⟩ = some ([], 13)) := by show _ = _; unfold pkE; rw [if_pos hk]
    have HV : Hid (pkR ⟨k, s, n, l, c⟩ = []) := by show _ = _; unfold pkR; rw [if_neg (fun h => hk (may_knd h))]
    unfold kndR at hk
    by_cases h1 : k < 48
    · have h1' : ¬ 48 ≤ k := by omega
      go_enter Tryd.func10, Tryd.ntmps10
      go_wp2
      go_ret2
      exact ⟨_, _, rfl, by rw [HV.out]; exact World.ownsRow_nil _ _ _ _, by rw [HF.out]; exact ErrIs.code (by decide), HE0.out⟩
    · have h1' : 48 ≤ k := by omega
      have h2 : ¬ k ≤ 51 := by omega
      go_enter Tryd.func10, Tryd.ntmps10
      go_wp2
      go_ret2
      exact ⟨_, _, rfl, by rw [HV.out]; exact World.ownsRow_nil _ _ _ _, by rw [HF.out]; exact ErrIs.code (by decide), HE0.out⟩
end Go.Proofs.YtmphochnmdmioaaDoor

/- kinref26.data, Pack: contracts over this seat's translation. -/
namespace Go.Proofs.YtmphochnmdmioaaDoor
set_option linter.unusedVariables false
set_option linter.unusedSimpArgs false
open Go.RowKit Go.Extern.Stop Go.Stop Go.Extern

def RdaPost (w : World) (bs : List Nat) (e : Ending) (w' : World) : Prop := ∃ u, e = .returned u ∧ Bys w' u bs ∧ Plain u ∧ Ext w w'
set_option maxHeartbeats 4000000 in
set_option maxRecDepth 20000 in
theorem rdata48 (s n l c : Nat) (w : World) (hs : s ≤ 4294967295) (hl : l ≤ 4294967295) (hn : n ≤ 255) (hc : c ≤ 255) : Calls Tryd.prog 32 #[.agg #[.int .i64 48, .int .i64 (s : Int), .int .i64 (n : Int), .int .i64 (l : Int), .int .i64 (c : Int)]] w (RdaPost w (be4 s ++ [n])) := by
  have HR0 := Lib.hid (RcAt.new w ⟨48, s, n, l, c⟩ 38)
  have HE0 := Lib.hid ((Ext.refl w).alloc (.cells #[.int .i64 48, .int .i64 (s : Int), .int .i64 (n : Int), .int .i64 (l : Int), .int .i64 (c : Int)] 38))
  have m1 : IntKind.u8.wrap (n : Int) = (n : Int) := by rw [IntKind.wrap_u8]; omega
  have m2 : IntKind.u8.wrap (c : Int) = (c : Int) := by rw [IntKind.wrap_u8]; omega
  have US := Lib.hid (fun w => number_own s 4 w (by omega) (by decide))
  have UL := Lib.hid (fun w => number_own l 4 w (by omega) (by decide))
  rw [dg4 (by omega)] at US UL
  have HSB : Hid (∀ x ∈ be4 s, x < 256) := be4_lt (by omega)
  have HLB : Hid (∀ x ∈ be4 l, x < 256) := be4_lt (by omega)
  go_enter Tryd.func32, Tryd.ntmps32
  go_wp2_with fail
  revert HR0 HE0
  generalize World.alloc w _ = w0
  intro HR0 HE0
  refine (US.out _).mono ?_; rintro e w1 ⟨rfl, hO1, hX1⟩
  obtain ⟨q0, q1, q2, q3, q4⟩ := HR0.out.ext hX1
  have HO1 := Lib.hid hO1
  have HX1 := Lib.hid (HE0.out.trans hX1)
  have HR1 := Lib.hid (HR0.out.ext hX1)
  clear hO1 hX1 HR0
  go_wp2_with fail
  refine (UL.out _).mono ?_; rintro e w2 ⟨rfl, hO2, hX2⟩
  obtain ⟨r0, r1, r2, r3, r4⟩ := HR1.out.ext hX2
  have HOS := Lib.hid (ownsRow_ext HO1.out hX2)
  have HOL := Lib.hid hO2
  have HX2 := Lib.hid (HX1.out.trans hX2)
  have hsL := hX2.size
  have hsS := Nat.le_trans (show w0.heap.size ≤ w1.heap.size from HO1.out.lt _ rfl |> fun h => Nat.le_of_lt h.2) hX2.size
  clear hO2 hX2 HO1 HR1 q0 q1 q2 q3 q4
  have HYS := Lib.hid (Bys.of_owns HOS.out HSB.out (by simp [be4]))
  have HYL := Lib.hid (Bys.of_owns HOL.out HLB.out (by simp [be4]))
  have HDB : Hid (∀ x ∈ be4 s ++ [n], x < 256) := fun x hx => (List.mem_append.1 hx).elim (HSB.out x) (fun h => by rw [List.mem_singleton.1 h]; omega)
  go_wp2_with (at_builtin; refine app_new rfl _ _ 25 rfl Tryd.underlying25 _ 4 (be4 s) [n] rfl HOS.out (by show Value.slice (some ⟨_, 0, none⟩) 1 1 = _; simp) (by simp) hsS (by simp) ?_; intro g4 cap4 w4 h1 h2; have HO4 := Lib.hid h1; have HE4 := Lib.hid (own_grow HOS.out h2 HX2.out HE0.out.size); clear h1 h2)
  go_ret
  exact ⟨_, rfl, Bys.of_owns HO4.out HDB.out (by simp [be4]), Plain.of_owns HO4.out, HE4.out⟩
set_option maxHeartbeats 4000000 in
set_option maxRecDepth 20000 in
theorem rdata51 (s n l c : Nat) (w : World) (hs : s ≤ 4294967295) (hl : l ≤ 4294967295) (hn : n ≤ 255) (hc : c ≤ 255) : Calls Tryd.prog 32 #[.agg #[.int .i64 51, .int .i64 (s : Int), .int .i64 (n : Int), .int .i64 (l : Int), .int .i64 (c : Int)]] w (RdaPost w (be4 l ++ be4 s)) := by
  have HR0 := Lib.hid (RcAt.new w ⟨51, s, n, l, c⟩ 38)
  have HE0 := Lib.hid ((Ext.refl w).alloc (.cells #[.int .i64 51, .int .i64 (s : Int), .int .i64 (n : Int), .int .i64 (l : Int), .int .i64 (c : Int)] 38))
  have m1 : IntKind.u8.wrap (n : Int) = (n : Int) := by rw [IntKind.wrap_u8]; omega
  have m2 : IntKind.u8.wrap (c : Int) = (c : Int) := by rw [IntKind.wrap_u8]; omega
  have US := Lib.hid (fun w => number_own s 4 w (by omega) (by decide))
  have UL := Lib.hid (fun w => number_own l 4 w (by omega) (by decide))
  rw [dg4 (by omega)] at US UL
  have HSB : Hid (∀ x ∈ be4 s, x < 256) := be4_lt (by omega)
  have HLB : Hid (∀ x ∈ be4 l, x < 256) := be4_lt (by omega)
  go_enter Tryd.func32, Tryd.ntmps32
  go_wp2_with fail
  revert HR0 HE0
  generalize World.alloc w _ = w0
  intro HR0 HE0
  refine (US.out _).mono ?_; rintro e w1 ⟨rfl, hO1, hX1⟩
  obtain ⟨q0, q1, q2, q3, q4⟩ := HR0.out.ext hX1
  have HO1 := Lib.hid hO1
  have HX1 := Lib.hid (HE0.out.trans hX1)
  have HR1 := Lib.hid (HR0.out.ext hX1)
  clear hO1 hX1 HR0
  go_wp2_with fail
  refine (UL.out _).mono ?_; rintro e w2 ⟨rfl, hO2, hX2⟩
  obtain ⟨r0, r1, r2, r3, r4⟩ := HR1.out.ext hX2
  have HOS := Lib.hid (ownsRow_ext HO1.out hX2)
  have HOL := Lib.hid hO2
  have HX2 := Lib.hid (HX1.out.trans hX2)
  have hsL := hX2.size
  have hsS := Nat.le_trans (show w0.heap.size ≤ w1.heap.size from HO1.out.lt _ rfl |> fun h => Nat.le_of_lt h.2) hX2.size
  clear hO2 hX2 HO1 HR1 q0 q1 q2 q3 q4
  have HYS := Lib.hid (Bys.of_owns HOS.out HSB.out (by simp [be4]))
  have HYL := Lib.hid (Bys.of_owns HOL.out HLB.out (by simp [be4]))
  have HDB : Hid (∀ x ∈ be4 l ++ be4 s, x < 256) := fun x hx => (List.mem_append.1 hx).elim (HLB.out x) (HSB.out x)
  have HPS := Lib.hid (Plain.of_owns HOS.out)
  go_wp2_with (at_builtin; refine app_bys rfl _ _ 25 rfl Tryd.underlying25 _ 4 (be4 l) (be4 s) _ rfl HOL.out rfl HYS.out HPS.out hsL (by decide) (by simp [be4]) ?_; intro g4 cap4 w4 h1 h2; have HO4 := Lib.hid h1; have HE4 := Lib.hid (own_grow HOL.out h2 HX2.out HX1.out.size); clear h1 h2)
  go_ret
  exact ⟨_, rfl, Bys.of_owns HO4.out HDB.out (by simp [be4]), Plain.of_owns HO4.out, HE4.out⟩
set_option maxHeartbeats 4000000 in
set_option maxRecDepth 20000 in
theorem rdata50 (s n l c : Nat) (w : World) (hs : s ≤ 4294967295) (hl : l ≤ 4294967295) (hn : n ≤ 255) (hc : c ≤ 255) : Calls Tryd.prog 32 #[.agg #[.int .i64 50, .int .i64 (s : Int), .int .i64 (n : Int), .int .i64 (l : Int), .int .i64 (c : Int)]] w (RdaPost w ([c])) := by
  have HR0 := Lib.hid (RcAt.new w ⟨50, s, n, l, c⟩ 38)
  have HE0 := Lib.hid ((Ext.refl w).alloc (.cells #[.int .i64 50, .int .i64 (s : Int), .int .i64 (n : Int), .int .i64 (l : Int), .int .i64 (c : Int)] 38))
  have m1 : IntKind.u8.wrap (n : Int) = (n : Int) := by rw [IntKind.wrap_u8]; omega
  have m2 : IntKind.u8.wrap (c : Int) = (c : Int) := by rw [IntKind.wrap_u8]; omega
  have US := Lib.hid (fun w => number_own s 4 w (by omega) (by decide))
  have UL := Lib.hid (fun w => number_own l 4 w (by omega) (by decide))
  rw [dg4 (by omega)] at US UL
  have HSB : Hid (∀ x ∈ be4 s, x < 256) := be4_lt (by omega)
  have HLB : Hid (∀ x ∈ be4 l, x < 256) := be4_lt (by omega)
  go_enter Tryd.func32, Tryd.ntmps32
  go_wp2_with fail
  revert HR0 HE0
  generalize World.alloc w _ = w0
  intro HR0 HE0
  refine (US.out _).mono ?_; rintro e w1 ⟨rfl, hO1, hX1⟩
  obtain ⟨q0, q1, q2, q3, q4⟩ := HR0.out.ext hX1
  have HO1 := Lib.hid hO1
  have HX1 := Lib.hid (HE0.out.trans hX1)
  have HR1 := Lib.hid (HR0.out.ext hX1)
  clear hO1 hX1 HR0
  go_wp2_with fail
  refine (UL.out _).mono ?_; rintro e w2 ⟨rfl, hO2, hX2⟩
  obtain ⟨r0, r1, r2, r3, r4⟩ := HR1.out.ext hX2
  have HOS := Lib.hid (ownsRow_ext HO1.out hX2)
  have HOL := Lib.hid hO2
  have HX2 := Lib.hid (HX1.out.trans hX2)
  have hsL := hX2.size
  have hsS := Nat.le_trans (show w0.heap.size ≤ w1.heap.size from HO1.out.lt _ rfl |> fun h => Nat.le_of_lt h.2) hX2.size
  clear hO2 hX2 HO1 HR1 q0 q1 q2 q3 q4
  have HYS := Lib.hid (Bys.of_owns HOS.out HSB.out (by simp [be4]))
  have HYL := Lib.hid (Bys.of_owns HOL.out HLB.out (by simp [be4]))
  have HO4 := Lib.hid (own_one w2 w2.heap.size rfl (c : Int))
  have HE4 := Lib.hid (HX2.out.alloc (.cells #[.int .u8 (c : Int)] 5))
  have HDB : Hid (∀ x ∈ [c], x < 256) := fun x hx => by rw [List.mem_singleton.1 hx]; omega
  go_wp2
  go_ret
  exact ⟨_, rfl, Bys.of_owns (bs := [c]) HO4.out HDB.out (by simp), Plain.of_owns HO4.out, HE4.out⟩
set_option maxHeartbeats 4000000 in
set_option maxRecDepth 20000 in
theorem rdata49 (s n l c : Nat) (w : World) (hs : s ≤ 4294967295) (hl : l ≤ 4294967295) (hn : n ≤ 255) (hc : c ≤ 255) : Calls Tryd.prog 32 #[.agg #[.int .i64 49, .int .i64 (s : Int), .int .i64 (n : Int), .int .i64 (l : Int), .int .i64 (c : Int)]] w (RdaPost w (n :: (be4 l ++ be4 s))) := by
  have HR0 := Lib.hid (RcAt.new w ⟨49, s, n, l, c⟩ 38)
  have HE0 := Lib.hid ((Ext.refl w).alloc (.cells #[.int .i64 49, .int .i64 (s : Int), .int .i64 (n : Int), .int .i64 (l : Int), .int .i64 (c : Int)] 38))
  have m1 : IntKind.u8.wrap (n : Int) = (n : Int) := by rw [IntKind.wrap_u8]; omega
  have m2 : IntKind.u8.wrap (c : Int) = (c : Int) := by rw [IntKind.wrap_u8]; omega
  have US := Lib.hid (fun w => number_own s 4 w (by omega) (by decide))
  have UL := Lib.hid (fun w => number_own l 4 w (by omega) (by decide))
  rw [dg4 (by omega)] at US UL
  have HSB : Hid (∀ x ∈ be4 s, x < 256) := be4_lt (by omega)
  have HLB : Hid (∀ x ∈ be4 l, x < 256) := be4_lt (by omega)
  go_enter Tryd.func32, Tryd.ntmps32
  go_wp2_with fail
  revert HR0 HE0
  generalize World.alloc w _ = w0
  intro HR0 HE0
  refine (US.out _).mono ?_; rintro e w1 ⟨rfl, hO1, hX1⟩
  obtain ⟨q0, q1, q2, q3, q4⟩ := HR0.out.ext hX1
  have HO1 := Lib.hid hO1
  have HX1 := Lib.hid (HE0.out.trans hX1)
  have HR1 := Lib.hid (HR0.out.ext hX1)
  clear hO1 hX1 HR0
  go_wp2_with fail
  refine (UL.out _).mono ?_; rintro e w2 ⟨rfl, hO2, hX2⟩
  obtain ⟨r0, r1, r2, r3, r4⟩ := HR1.out.ext hX2
  have HOS := Lib.hid (ownsRow_ext HO1.out hX2)
  have HOL := Lib.hid hO2
  have HX2 := Lib.hid (HX1.out.trans hX2)
  have hsL := hX2.size
  have hsS := Nat.le_trans (show w0.heap.size ≤ w1.heap.size from HO1.out.lt _ rfl |> fun h => Nat.le_of_lt h.2) hX2.size
  clear hO2 hX2 HO1 HR1 q0 q1 q2 q3 q4
  have HYS := Lib.hid (Bys.of_owns HOS.out HSB.out (by simp [be4]))
  have HYL := Lib.hid (Bys.of_owns HOL.out HLB.out (by simp [be4]))
  have HO3 := Lib.hid (own_one w2 w2.heap.size rfl (n : Int))
  have E3 := (Ext.refl w2).alloc (.cells #[.int .u8 (n : Int)] 5)
  have HX3 := Lib.hid (HX2.out.trans E3)
  have HL3 := Lib.hid (HYL.out.ext E3)
  have HS3 := Lib.hid (HYS.out.ext E3)
  have hs3 := E3.size
  have HPL := Lib.hid (Plain.of_owns HOL.out)
  have HPS := Lib.hid (Plain.of_owns HOS.out)
  have hw2 : w.heap.size ≤ w2.heap.size := HX2.out.size
  have HDB : Hid (∀ x ∈ n :: (be4 l ++ be4 s), x < 256) := fun x hx => by
    rcases List.mem_cons.1 hx with rfl | hx
    · omega
    · exact (List.mem_append.1 hx).elim (HLB.out x) (HSB.out x)
  have HE3 := Lib.hid E3
  clear E3
  go_wp2_with (first
    | (at_builtin; refine app_bys rfl _ _ 25 rfl Tryd.underlying25 _ 1 [n] (be4 l) _ rfl HO3.out rfl HL3.out HPL.out hs3 (by decide) (by simp [be4]) ?_; intro g4 cap4 w4 h1 h2; have HO4 := Lib.hid h1; have HE4 := Lib.hid (own_grow HO3.out h2 HX3.out hw2); have HS4 := Lib.hid (HYS.out.ext (own_grow HO3.out h2 HE3.out (Nat.le_refl _))); have hs4 := Nat.le_trans hs3 h2.size; clear h1 h2)
    | (at_builtin; refine app_bys rfl _ _ 25 rfl Tryd.underlying25 _ 5 ([n] ++ be4 l) (be4 s) _ rfl HO4.out rfl HS4.out HPS.out hs4 (by decide) (by simp [be4]) ?_; intro g5 cap5 w5 h1 h2; have HO5 := Lib.hid h1; have HE5 := Lib.hid (own_grow HO4.out h2 HE4.out hw2); clear h1 h2))
  go_ret
  exact ⟨_, rfl, Bys.of_owns (bs := n :: (be4 l ++ be4 s)) HO5.out HDB.out (by simp [be4]), Plain.of_owns HO5.out, HE5.out⟩
end Go.Proofs.YtmphochnmdmioaaDoor
