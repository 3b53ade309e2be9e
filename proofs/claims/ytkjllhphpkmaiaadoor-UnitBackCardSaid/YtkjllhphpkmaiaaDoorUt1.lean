/- kinlaw4.UnitTurned: the walk. -/
import Derived.Test.YtkjllhphpkmaiaaDoorU4f
import Derived.Test.YtkjllhphpkmaiaaDoorUtM
namespace Go.Proofs.YtkjllhphpkmaiaaDoor
set_option linter.unusedVariables false
set_option linter.unusedSimpArgs false
open Go.RowKit Go.Extern.Stop Go.Stop Go.Extern

theorem xor_u8 {a b : Nat} (ha : a < 256) (hb : b < 256) : bits .xor .u8 (a : Int) (b : Int) = ((a ^^^ b : Nat) : Int) := by
  have h := Nat.xor_lt_two_pow (n := 8) ha hb
  have e : (BitVec.ofInt 8 (a : Int) ^^^ BitVec.ofInt 8 (b : Int)).toNat = a ^^^ b := by
    rw [ofInt8_nat, ofInt8_nat, BitVec.toNat_xor, BitVec.toNat_ofNat, BitVec.toNat_ofNat, Nat.mod_eq_of_lt ha, Nat.mod_eq_of_lt hb]
  show IntKind.u8.wrap (((BitVec.ofInt 8 (a : Int) ^^^ BitVec.ofInt 8 (b : Int)).toNat : Nat) : Int) = _
  rw [e, IntKind.wrap_u8]
  omega
theorem xor_ne {a b : Nat} (hb : b ≠ 0) : a ^^^ b ≠ a := fun h => by
  have := congrArg (a ^^^ ·) h
  simp only [← Nat.xor_assoc, Nat.xor_self, Nat.zero_xor] at this
  exact hb this
theorem Bys.setAt {w : World} {g off n cap i y : Nat} {bs : List Nat} (h : Bys w (.slice (some ⟨g, off, none⟩) n cap) bs) (hi : i < n) (hy : y < 256) : Bys (w.setCell ⟨g, off + i, none⟩ (.int .u8 (y : Int))) (.slice (some ⟨g, off, none⟩) n cap) (bs.set i y) := by
  have hl := h.len
  have hc := h.caps
  refine ⟨⟨some ⟨g, off, none⟩, cap, by rw [List.length_set, ← hl], by rw [List.length_set, ← hl]; exact hc.1, hc.2, fun _ => ⟨_, _, rfl⟩, fun g' off' ha j u hu => ?_⟩, fun x hx => ?_, by rw [List.length_set]; exact h.2.2⟩
  · simp only [Option.some.injEq, Addr.mk.injEq, and_true] at ha
    obtain ⟨rfl, rfl⟩ := ha
    rw [List.getElem?_map, List.getElem?_set] at hu
    by_cases e : i = j
    · subst e
      rw [if_pos rfl, if_pos (by omega)] at hu
      cases hu
      exact World.cell?_setCell_same _ _ _ (h.at (nget_of_lt (by omega)))
    · rw [if_neg e] at hu
      obtain ⟨x, hx, rfl⟩ := Option.map_eq_some_iff.1 hu
      rw [cell_off_ne _ (by omega)]
      exact h.at hx
  · rcases List.mem_or_eq_of_mem_set hx with hx | rfl
    · exact h.2.1 x hx
    · exact hy
theorem own_parts {w : World} {base n : Nat} {v : Value} {xs : List Value} (h : w.ownsRow base 5 1 v n xs) (hn : 0 < n) : ∃ g cap, v = .slice (some ⟨g, 0, none⟩) n cap ∧ base ≤ g ∧ ∀ j, w.frozen? ⟨g, j, none⟩ = false := by
  rcases h.2 with ⟨-, h0⟩ | ⟨g, cap, cur, rfl, hb, hg, -⟩
  · omega
  · exact ⟨g, cap, rfl, hb, fun j => by simp [World.frozen?, hg]⟩
set_option maxHeartbeats 8000000 in
set_option maxRecDepth 20000 in
theorem turned_law (kind at' : Int) (x : Nat) (bs : List Nat) (v : Value) (w : World) (hg : EtIs w) (hnb : NbIs w) (rb : Row w v bs.length (bs.map fun x : Nat => Value.int .u8 (x : Int))) (hb : ∀ x ∈ bs, x < 256) (hp : Plain v) (ha : -9223372036854775808 ≤ at' ∧ at' ≤ 9223372036854775807) (hx : x < 256) :
    Calls Tryd.prog 8 #[.int .i64 kind, v, .int .i64 at', .int .u8 (x : Int)] w fun e w' => e = .returned (.bool true) ∧ Ext w w' := by
  have HG := Lib.hid hg
  have HNB := Lib.hid hnb
  obtain ⟨a, cap, rfl⟩ := rb.form
  obtain ⟨n, hn⟩ : ∃ n, bs.length = n := ⟨_, rfl⟩
  have HN := Lib.hid hn
  rw [hn] at rb hp ⊢
  by_cases hl : 20000 < n
  · have hl' : (20000 : Int) < (n : Int) := by omega
    clear hg hnb rb hn hp
    go_enter Tryd.func8, Tryd.ntmps8
    go_wp2_with fail
    refine (first4_any _ HG.out HNB.out).mono ?_; rintro e w1 ⟨rfl, hx1⟩
    have HX1 := Lib.hid hx1
    clear hx1
    go_wp2_with fail
    refine (first4_any _ (HG.out.ext HX1.out) (HNB.out.ext HX1.out)).mono ?_; rintro e w2 ⟨rfl, hx2⟩
    have HX2 := Lib.hid hx2
    clear hx2
    go_wp2
    go_ret
    exact ⟨rfl, HX1.out.trans HX2.out⟩
  · have hl' : ¬ (20000 : Int) < (n : Int) := by omega
    have HB : Hid (Bys w (.slice a n cap) bs) := ⟨by rw [hn]; exact rb, hb, by rw [hn]; omega⟩
    have HP := Lib.hid hp
    have HBB := Lib.hid hb
    clear hg hnb rb hn hp hb
    by_cases h1 : kind < 1
    · go_enter Tryd.func8, Tryd.ntmps8
      go_wp2_with fail
      refine (first4_any _ HG.out HNB.out).mono ?_; rintro e w1 ⟨rfl, hx1⟩
      have HX1 := Lib.hid hx1
      clear hx1
      go_wp2_with fail
      refine (first4_any _ (HG.out.ext HX1.out) (HNB.out.ext HX1.out)).mono ?_; rintro e w2 ⟨rfl, hx2⟩
      have HX2 := Lib.hid hx2
      clear hx2
      go_wp2
      go_ret
      exact ⟨rfl, HX1.out.trans HX2.out⟩
    · by_cases h2 : 255 < kind
      · go_enter Tryd.func8, Tryd.ntmps8
        go_wp2_with fail
        refine (first4_any _ HG.out HNB.out).mono ?_; rintro e w1 ⟨rfl, hx1⟩
        have HX1 := Lib.hid hx1
        clear hx1
        go_wp2_with fail
        refine (first4_any _ (HG.out.ext HX1.out) (HNB.out.ext HX1.out)).mono ?_; rintro e w2 ⟨rfl, hx2⟩
        have HX2 := Lib.hid hx2
        clear hx2
        go_wp2
        go_ret
        exact ⟨rfl, HX1.out.trans HX2.out⟩
      · by_cases h3 : x = 0
        · subst h3
          have h3' : (((0 : Nat) : Int) == 0) = true := rfl
          go_enter Tryd.func8, Tryd.ntmps8
          go_wp2_with fail
          refine (first4_any _ HG.out HNB.out).mono ?_; rintro e w1 ⟨rfl, hx1⟩
          have HX1 := Lib.hid hx1
          clear hx1
          go_wp2_with fail
          refine (first4_any _ (HG.out.ext HX1.out) (HNB.out.ext HX1.out)).mono ?_; rintro e w2 ⟨rfl, hx2⟩
          have HX2 := Lib.hid hx2
          clear hx2
          go_wp2
          go_ret
          exact ⟨rfl, HX1.out.trans HX2.out⟩
        · have h3' : ((x : Int) == 0) = false := by rw [beq_eq_false_iff_ne]; omega
          obtain ⟨k, rfl⟩ : ∃ k : Nat, kind = (k : Int) := ⟨kind.toNat, by omega⟩
          have hk0 : k ≠ 0 := by omega
          have hF : ukF (k : Int) bs.length = none := by unfold ukF; rw [HN.out, if_neg (by omega), if_neg (by omega)]
          have hV : ukV (k : Int) bs = encB k bs := by unfold ukV; rw [hF]; rfl
          have hEL : (encB k bs).length = n + 8 := by rw [encB_len, if_neg hk0, HN.out]
          have hEB := encB_lt (kind := k) (data := bs) (by omega) HBB.out (by rw [HN.out]; omega)
          have SZ := Lib.hid (fun w => size_any (n : Int) w (by omega))
          rw [← hV] at hEL hEB
          have HV := Lib.hid hV
          obtain ⟨B, hBB⟩ : ∃ B, ukV (k : Int) bs = B := ⟨_, rfl⟩
          rw [hBB] at HV hEL hEB
          have UM : Hid (∀ v w, NbIs w → Bys w v bs → Plain v → Calls Tryd.prog 12 #[.int .i64 (k : Int), v] w (MPost w B none)) := by
            intro v w h1 h2 h3
            have := make_any (k : Int) bs v w h1 h2 h3
            rw [hBB, hF] at this
            exact this
          have HEL := Lib.hid hEL
          have HEB := Lib.hid hEB
          obtain ⟨M, hM⟩ : ∃ M, n + 8 = M := ⟨_, rfl⟩
          rw [hM] at HEL
          have hMi : (n : Int) + 8 = (M : Int) := by omega
          rw [hMi] at SZ
          have hM0 : ((M : Int) == 0) = false := by rw [beq_eq_false_iff_ne]; omega
          have hM1 : ¬ (M : Int) = 0 := by omega
          have hMb : M ≤ 20008 ∧ 8 ≤ M := by omega
          have HHM := Lib.hid hM
          clear hV hBB hF hEL hEB hMi hM
          obtain ⟨P, hP⟩ : ∃ P : Nat, (P : Int) = if at' < 0 then -(at' + 1) else at' := ⟨(if at' < 0 then -(at' + 1) else at').toNat, by split <;> omega⟩
          obtain ⟨A, hA⟩ : ∃ A, P % M = A := ⟨_, rfl⟩
          have hAM : A < M := by rw [← hA]; exact Nat.mod_lt _ (by omega)
          have hrem : Int.tmod (P : Int) (M : Int) = (A : Int) := by rw [← hA]; rfl
          have hP6 : (P : Int) ≤ 9223372036854775807 := by rw [hP]; split <;> omega
          clear hA
          by_cases hneg : at' < 0
          · rw [if_pos hneg] at hP
            have m1 : IntKind.i64.wrap (at' + 1) = at' + 1 := by rw [IntKind.wrap_i64]; omega
            have m2 : IntKind.i64.wrap (-(at' + 1)) = (P : Int) := by rw [IntKind.wrap_i64]; omega
            clear hP
            go_enter Tryd.func8, Tryd.ntmps8
            go_wp2_with fail
            refine (first4_any _ HG.out HNB.out).mono ?_; rintro e w1 ⟨rfl, hx1⟩
            have HX1 := Lib.hid hx1
            clear hx1
            go_wp2_with fail
            refine (UM.out _ _ (HNB.out.ext HX1.out) (HB.out.ext HX1.out) HP.out).mono ?_; rintro e w2 ⟨u, z, rfl, hown, hz, hx2⟩
            obtain rfl : z = .nilIface := hz
            rw [HEL.out] at hown
            obtain ⟨g, c2, rfl, hgb, hfr⟩ := own_parts hown (by omega)
            have HX2 := Lib.hid (HX1.out.trans hx2)
            have HY := Lib.hid (Bys.of_owns hown HEB.out (by rw [HEL.out]; omega))
            have HFR := Lib.hid hfr
            have hgw : w.heap.size ≤ g := Nat.le_trans HX1.out.size hgb
            clear hown hx2 hfr
            go_wp2_with fail
            refine (SZ.out _).mono ?_; rintro e w3 ⟨rfl, rfl⟩
            by_cases hA13 : 1 ≤ A ∧ A ≤ 3
            · obtain ⟨hA1, hA3⟩ := hA13
              go_wp2_with fail
              refine (first4_any _ (HG.out.ext HX2.out) (HNB.out.ext HX2.out)).mono ?_; rintro e w9 ⟨rfl, hx9⟩
              have HX9 := Lib.hid (HX2.out.trans hx9)
              clear hx9
              go_wp2
              go_ret
              exact ⟨rfl, HX9.out⟩
            · obtain ⟨h, hh⟩ : ∃ h, B.getD A 0 = h := ⟨_, rfl⟩
              have cA := HY.out.at (nget_of_lt (bs := B) (j := A) (by rw [HEL.out]; exact hAM))
              have lA := HY.out.lt A
              rw [hh] at cA lA
              rw [Nat.zero_add] at cA
              have kx := xor_u8 lA hx
              have hy := Nat.xor_lt_two_pow (n := 8) lA hx
              have hyn := xor_ne (a := h) h3
              obtain ⟨y, hy'⟩ : ∃ y, h ^^^ x = y := ⟨_, rfl⟩
              rw [hy'] at kx hy hyn
              have frA := HFR.out A
              have hset := HY.out.setAt (i := A) (y := y) hAM hy
              rw [Nat.zero_add] at hset
              obtain ⟨y0, hy0⟩ : ∃ y0, (B.set A y).getD 0 0 = y0 := ⟨_, rfl⟩
              have c0 := hset.at (nget_of_lt (bs := B.set A y) (j := 0) (by rw [List.length_set, HEL.out]; omega))
              rw [hy0] at c0
              have HSET := Lib.hid hset
              have HXS := Lib.hid (HX2.out.setCell (p := ⟨g, A, none⟩) hgw (.int .u8 (y : Int)))
              have HH := Lib.hid hh
              have HY0 := Lib.hid hy0
              have x1 : (0 : Int) ≤ (A : Int) := by omega
              have x2 : (A : Int) < (M : Int) := by omega
              have x3 : (0 : Int) < (M : Int) := by omega
              clear hh hset hy' hy0
              by_cases hz : y0 = 0
              · subst hz
                have hcond : A < 1 ∨ 4 ≤ A := by omega
                rcases hcond with hA1 | hA4
                · go_wp2_with fail
                  refine (first4_any _ (HG.out.ext HXS.out) (HNB.out.ext HXS.out)).mono ?_; rintro e w9 ⟨rfl, hx9⟩
                  have HX9 := Lib.hid (HXS.out.trans hx9)
                  clear hx9
                  go_wp2
                  go_ret
                  exact ⟨rfl, HX9.out⟩
                · have hA4' : ¬ (A : Int) ≤ 3 := by omega
                  go_wp2_with fail
                  refine (first4_any _ (HG.out.ext HXS.out) (HNB.out.ext HXS.out)).mono ?_; rintro e w9 ⟨rfl, hx9⟩
                  have HX9 := Lib.hid (HXS.out.trans hx9)
                  clear hx9
                  go_wp2
                  go_ret
                  exact ⟨rfl, HX9.out⟩
              · have hz' : ((y0 : Int) == 0) = false := by rw [beq_eq_false_iff_ne]; omega
                have hcond : A < 1 ∨ 4 ≤ A := by omega
                have hRD : rdU (B.set A y) = (4, 0, [], 0) := by
                  have e : B = encB k bs := HV.out.symm.symm
                  have hh := HH.out
                  have hy0 := HY0.out
                  rw [e] at hh hy0
                  rw [e]
                  refine rd_turned k bs A y hk0 (by omega) (by rw [HN.out]; omega) HBB.out (by rw [HN.out, HHM.out]; exact hAM) (by omega) hy ?_ ?_
                  · rw [hh]; exact hyn
                  · rw [hy0]; exact hz
                have HNX := Lib.hid (nx_turned _ hRD (by rw [List.length_set, HEL.out]; omega))
                clear hRD
                have hA4' : ((1 : Int) ≤ (A : Int) && decide ((A : Int) ≤ 3)) = false := by
                  rcases hcond with h | h
                  · have : ¬ (1 : Int) ≤ (A : Int) := by omega
                    simp [this]
                  · have : ¬ (A : Int) ≤ 3 := by omega
                    simp [this]
                rcases hcond with hA1 | hA4
                · go_wp2_with fail
                  refine (next_any _ 0 _ _ (HNB.out.ext HXS.out) HSET.out).mono ?_
                  rw [HNX.out]
                  rintro e w4 ⟨u4, z4, rfl, ho4, he4, hx4⟩
                  obtain ⟨a4, m4, c4, rfl⟩ := own_slc ho4
                  obtain ⟨t4, q4, rfl⟩ := he4.ne
                  have HX4 := Lib.hid ((HXS.out.trans hx4).alloc (.cells #[.int .i64 0, .slice a4 m4 c4, .int .i64 0, .int .i64 0] 44))
                  have HE4 := Lib.hid (he4.ext ((Ext.refl w4).alloc (.cells #[.int .i64 0, .slice a4 m4 c4, .int .i64 0, .int .i64 0] 44)))
                  clear ho4 he4 hx4
                  go_wp2_with fail
                  refine (first4_any _ (HG.out.ext HX4.out) (HNB.out.ext HX4.out)).mono ?_; rintro e w9 ⟨rfl, hx9⟩
                  have HX9 := Lib.hid (HX4.out.trans hx9)
                  have HE9 := Lib.hid (HE4.out.ext hx9)
                  clear hx9
                  go_wp2_with fail
                  refine (wrap_any unS 0 4 _ (by decide)).mono ?_; rintro e wC ⟨v2, rfl, hoC, hxC⟩
                  obtain ⟨va, vm, vc, rfl⟩ := own_slc hoC
                  have HC := Lib.hid (Row.of_owns hoC)
                  have HXC := Lib.hid (HX9.out.trans hxC)
                  have HEC := Lib.hid (HE9.out.ext hxC)
                  clear hoC hxC
                  go_wp2_with fail
                  refine (same_fall (some ([(unS, 0)], 4)) _ _ _ _ (HG.out.ext HXC.out) HEC.out ⟨rfl, by decide, HC.out⟩).mono ?_; rintro e wD ⟨rfl, hxD⟩
                  have HXD := Lib.hid (HXC.out.trans hxD)
                  clear hxD
                  go_wp2
                  go_ret
                  exact ⟨rfl, HXD.out⟩
                · have hA4' : ¬ (A : Int) ≤ 3 := by omega
                  go_wp2_with fail
                  refine (next_any _ 0 _ _ (HNB.out.ext HXS.out) HSET.out).mono ?_
                  rw [HNX.out]
                  rintro e w4 ⟨u4, z4, rfl, ho4, he4, hx4⟩
                  obtain ⟨a4, m4, c4, rfl⟩ := own_slc ho4
                  obtain ⟨t4, q4, rfl⟩ := he4.ne
                  have HX4 := Lib.hid ((HXS.out.trans hx4).alloc (.cells #[.int .i64 0, .slice a4 m4 c4, .int .i64 0, .int .i64 0] 44))
                  have HE4 := Lib.hid (he4.ext ((Ext.refl w4).alloc (.cells #[.int .i64 0, .slice a4 m4 c4, .int .i64 0, .int .i64 0] 44)))
                  clear ho4 he4 hx4
                  go_wp2_with fail
                  refine (first4_any _ (HG.out.ext HX4.out) (HNB.out.ext HX4.out)).mono ?_; rintro e w9 ⟨rfl, hx9⟩
                  have HX9 := Lib.hid (HX4.out.trans hx9)
                  have HE9 := Lib.hid (HE4.out.ext hx9)
                  clear hx9
                  go_wp2_with fail
                  refine (wrap_any unS 0 4 _ (by decide)).mono ?_; rintro e wC ⟨v2, rfl, hoC, hxC⟩
                  obtain ⟨va, vm, vc, rfl⟩ := own_slc hoC
                  have HC := Lib.hid (Row.of_owns hoC)
                  have HXC := Lib.hid (HX9.out.trans hxC)
                  have HEC := Lib.hid (HE9.out.ext hxC)
                  clear hoC hxC
                  go_wp2_with fail
                  refine (same_fall (some ([(unS, 0)], 4)) _ _ _ _ (HG.out.ext HXC.out) HEC.out ⟨rfl, by decide, HC.out⟩).mono ?_; rintro e wD ⟨rfl, hxD⟩
                  have HXD := Lib.hid (HXC.out.trans hxD)
                  clear hxD
                  go_wp2
                  go_ret
                  exact ⟨rfl, HXD.out⟩
          · rw [if_neg hneg] at hP
            subst hP
            go_enter Tryd.func8, Tryd.ntmps8
            go_wp2_with fail
            refine (first4_any _ HG.out HNB.out).mono ?_; rintro e w1 ⟨rfl, hx1⟩
            have HX1 := Lib.hid hx1
            clear hx1
            go_wp2_with fail
            refine (UM.out _ _ (HNB.out.ext HX1.out) (HB.out.ext HX1.out) HP.out).mono ?_; rintro e w2 ⟨u, z, rfl, hown, hz, hx2⟩
            obtain rfl : z = .nilIface := hz
            rw [HEL.out] at hown
            obtain ⟨g, c2, rfl, hgb, hfr⟩ := own_parts hown (by omega)
            have HX2 := Lib.hid (HX1.out.trans hx2)
            have HY := Lib.hid (Bys.of_owns hown HEB.out (by rw [HEL.out]; omega))
            have HFR := Lib.hid hfr
            have hgw : w.heap.size ≤ g := Nat.le_trans HX1.out.size hgb
            clear hown hx2 hfr
            go_wp2_with fail
            refine (SZ.out _).mono ?_; rintro e w3 ⟨rfl, rfl⟩
            by_cases hA13 : 1 ≤ A ∧ A ≤ 3
            · obtain ⟨hA1, hA3⟩ := hA13
              go_wp2_with fail
              refine (first4_any _ (HG.out.ext HX2.out) (HNB.out.ext HX2.out)).mono ?_; rintro e w9 ⟨rfl, hx9⟩
              have HX9 := Lib.hid (HX2.out.trans hx9)
              clear hx9
              go_wp2
              go_ret
              exact ⟨rfl, HX9.out⟩
            · obtain ⟨h, hh⟩ : ∃ h, B.getD A 0 = h := ⟨_, rfl⟩
              have cA := HY.out.at (nget_of_lt (bs := B) (j := A) (by rw [HEL.out]; exact hAM))
              have lA := HY.out.lt A
              rw [hh] at cA lA
              rw [Nat.zero_add] at cA
              have kx := xor_u8 lA hx
              have hy := Nat.xor_lt_two_pow (n := 8) lA hx
              have hyn := xor_ne (a := h) h3
              obtain ⟨y, hy'⟩ : ∃ y, h ^^^ x = y := ⟨_, rfl⟩
              rw [hy'] at kx hy hyn
              have frA := HFR.out A
              have hset := HY.out.setAt (i := A) (y := y) hAM hy
              rw [Nat.zero_add] at hset
              obtain ⟨y0, hy0⟩ : ∃ y0, (B.set A y).getD 0 0 = y0 := ⟨_, rfl⟩
              have c0 := hset.at (nget_of_lt (bs := B.set A y) (j := 0) (by rw [List.length_set, HEL.out]; omega))
              rw [hy0] at c0
              have HSET := Lib.hid hset
              have HXS := Lib.hid (HX2.out.setCell (p := ⟨g, A, none⟩) hgw (.int .u8 (y : Int)))
              have HH := Lib.hid hh
              have HY0 := Lib.hid hy0
              have x1 : (0 : Int) ≤ (A : Int) := by omega
              have x2 : (A : Int) < (M : Int) := by omega
              have x3 : (0 : Int) < (M : Int) := by omega
              clear hh hset hy' hy0
              by_cases hz : y0 = 0
              · subst hz
                have hcond : A < 1 ∨ 4 ≤ A := by omega
                rcases hcond with hA1 | hA4
                · go_wp2_with fail
                  refine (first4_any _ (HG.out.ext HXS.out) (HNB.out.ext HXS.out)).mono ?_; rintro e w9 ⟨rfl, hx9⟩
                  have HX9 := Lib.hid (HXS.out.trans hx9)
                  clear hx9
                  go_wp2
                  go_ret
                  exact ⟨rfl, HX9.out⟩
                · have hA4' : ¬ (A : Int) ≤ 3 := by omega
                  go_wp2_with fail
                  refine (first4_any _ (HG.out.ext HXS.out) (HNB.out.ext HXS.out)).mono ?_; rintro e w9 ⟨rfl, hx9⟩
                  have HX9 := Lib.hid (HXS.out.trans hx9)
                  clear hx9
                  go_wp2
                  go_ret
                  exact ⟨rfl, HX9.out⟩
              · have hz' : ((y0 : Int) == 0) = false := by rw [beq_eq_false_iff_ne]; omega
                have hcond : A < 1 ∨ 4 ≤ A := by omega
                have hRD : rdU (B.set A y) = (4, 0, [], 0) := by
                  have e : B = encB k bs := HV.out.symm.symm
                  have hh := HH.out
                  have hy0 := HY0.out
                  rw [e] at hh hy0
                  rw [e]
                  refine rd_turned k bs A y hk0 (by omega) (by rw [HN.out]; omega) HBB.out (by rw [HN.out, HHM.out]; exact hAM) (by omega) hy ?_ ?_
                  · rw [hh]; exact hyn
                  · rw [hy0]; exact hz
                have HNX := Lib.hid (nx_turned _ hRD (by rw [List.length_set, HEL.out]; omega))
                clear hRD
                have hA4' : ((1 : Int) ≤ (A : Int) && decide ((A : Int) ≤ 3)) = false := by
                  rcases hcond with h | h
                  · have : ¬ (1 : Int) ≤ (A : Int) := by omega
                    simp [this]
                  · have : ¬ (A : Int) ≤ 3 := by omega
                    simp [this]
                rcases hcond with hA1 | hA4
                · go_wp2_with fail
                  refine (next_any _ 0 _ _ (HNB.out.ext HXS.out) HSET.out).mono ?_
                  rw [HNX.out]
                  rintro e w4 ⟨u4, z4, rfl, ho4, he4, hx4⟩
                  obtain ⟨a4, m4, c4, rfl⟩ := own_slc ho4
                  obtain ⟨t4, q4, rfl⟩ := he4.ne
                  have HX4 := Lib.hid ((HXS.out.trans hx4).alloc (.cells #[.int .i64 0, .slice a4 m4 c4, .int .i64 0, .int .i64 0] 44))
                  have HE4 := Lib.hid (he4.ext ((Ext.refl w4).alloc (.cells #[.int .i64 0, .slice a4 m4 c4, .int .i64 0, .int .i64 0] 44)))
                  clear ho4 he4 hx4
                  go_wp2_with fail
                  refine (first4_any _ (HG.out.ext HX4.out) (HNB.out.ext HX4.out)).mono ?_; rintro e w9 ⟨rfl, hx9⟩
                  have HX9 := Lib.hid (HX4.out.trans hx9)
                  have HE9 := Lib.hid (HE4.out.ext hx9)
                  clear hx9
                  go_wp2_with fail
                  refine (wrap_any unS 0 4 _ (by decide)).mono ?_; rintro e wC ⟨v2, rfl, hoC, hxC⟩
                  obtain ⟨va, vm, vc, rfl⟩ := own_slc hoC
                  have HC := Lib.hid (Row.of_owns hoC)
                  have HXC := Lib.hid (HX9.out.trans hxC)
                  have HEC := Lib.hid (HE9.out.ext hxC)
                  clear hoC hxC
                  go_wp2_with fail
                  refine (same_fall (some ([(unS, 0)], 4)) _ _ _ _ (HG.out.ext HXC.out) HEC.out ⟨rfl, by decide, HC.out⟩).mono ?_; rintro e wD ⟨rfl, hxD⟩
                  have HXD := Lib.hid (HXC.out.trans hxD)
                  clear hxD
                  go_wp2
                  go_ret
                  exact ⟨rfl, HXD.out⟩
                · have hA4' : ¬ (A : Int) ≤ 3 := by omega
                  go_wp2_with fail
                  refine (next_any _ 0 _ _ (HNB.out.ext HXS.out) HSET.out).mono ?_
                  rw [HNX.out]
                  rintro e w4 ⟨u4, z4, rfl, ho4, he4, hx4⟩
                  obtain ⟨a4, m4, c4, rfl⟩ := own_slc ho4
                  obtain ⟨t4, q4, rfl⟩ := he4.ne
                  have HX4 := Lib.hid ((HXS.out.trans hx4).alloc (.cells #[.int .i64 0, .slice a4 m4 c4, .int .i64 0, .int .i64 0] 44))
                  have HE4 := Lib.hid (he4.ext ((Ext.refl w4).alloc (.cells #[.int .i64 0, .slice a4 m4 c4, .int .i64 0, .int .i64 0] 44)))
                  clear ho4 he4 hx4
                  go_wp2_with fail
                  refine (first4_any _ (HG.out.ext HX4.out) (HNB.out.ext HX4.out)).mono ?_; rintro e w9 ⟨rfl, hx9⟩
                  have HX9 := Lib.hid (HX4.out.trans hx9)
                  have HE9 := Lib.hid (HE4.out.ext hx9)
                  clear hx9
                  go_wp2_with fail
                  refine (wrap_any unS 0 4 _ (by decide)).mono ?_; rintro e wC ⟨v2, rfl, hoC, hxC⟩
                  obtain ⟨va, vm, vc, rfl⟩ := own_slc hoC
                  have HC := Lib.hid (Row.of_owns hoC)
                  have HXC := Lib.hid (HX9.out.trans hxC)
                  have HEC := Lib.hid (HE9.out.ext hxC)
                  clear hoC hxC
                  go_wp2_with fail
                  refine (same_fall (some ([(unS, 0)], 4)) _ _ _ _ (HG.out.ext HXC.out) HEC.out ⟨rfl, by decide, HC.out⟩).mono ?_; rintro e wD ⟨rfl, hxD⟩
                  have HXD := Lib.hid (HXC.out.trans hxD)
                  clear hxD
                  go_wp2
                  go_ret
                  exact ⟨rfl, HXD.out⟩
end Go.Proofs.YtkjllhphpkmaiaaDoor
