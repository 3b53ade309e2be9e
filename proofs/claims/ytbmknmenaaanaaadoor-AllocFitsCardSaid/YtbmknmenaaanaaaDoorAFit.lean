/- kinlaw19.AllocFits: the walk. -/
import Derived.Test.YtbmknmenaaanaaaDoorABnds
import Derived.Test.YtbmknmenaaanaaaDoorFillsOwn
import Derived.Test.YtbmknmenaaanaaaDoorWOwn
import Derived.BigRegion
namespace Go.Proofs.YtbmknmenaaanaaaDoor
set_option linter.unusedVariables false
set_option linter.unusedSimpArgs false
open Go.RowKit Go.Extern.Stop Go.Stop Go.Extern

theorem rowL_congr' {N : Nat} {f g : Nat → Int} (h : ∀ j, j < N → f j = g j) : rowL N f = rowL N g := by
  unfold rowL
  apply List.map_congr_left
  intro j hj
  exact h j (List.mem_range.1 hj)
theorem row_at {w : World} {g off n cap : Nat} {zs : List Int} (h : Row w (.slice (some ⟨g, off, none⟩) n cap) n (zs.map (Value.int .i64))) {j : Nat} {x : Int} (hj : zs[j]? = some x) : w.cell? ⟨g, off + j, none⟩ = some (.int .i64 x) := by
  obtain ⟨a, cap', h0, _, _, _, h4⟩ := h
  simp only [Value.slice.injEq] at h0
  exact h4 g off h0.1.symm j _ (by simp [hj])
theorem row_had {w : World} {a : Option Addr} {n cap : Nat} {cs : List Value} (h : Row w (.slice a n cap) n cs) : 0 < n → ∃ g off, a = some ⟨g, off, none⟩ := fun h0 => by
  obtain ⟨a', cap', e, _, _, h3, _⟩ := h
  simp only [Value.slice.injEq] at e
  obtain ⟨rfl, _, rfl⟩ := e
  exact h3 h0

set_option maxHeartbeats 2000000 in
set_option maxRecDepth 20000 in
theorem afit_long (c : Cfg) (v u : Value) (n : Nat) (w : World) (hg : EtIs w) (hv : ∃ a cap, v = .slice a n cap) (hl : 5000 < n) :
    Calls Tryd.prog 10 #[.agg #[.int .i64 c.qmin, .int .i64 c.qmax, .int .i64 c.reach, .int .i64 c.cut, .int .i64 c.gop, .int .i64 c.rate, .int .i64 c.room, .int .i64 c.fill], v, u] w fun e w' => e = .returned (.bool true) ∧ Ext w w' := by
  have E1 : Ext w (w.alloc (.cells #[.int .i64 c.qmin, .int .i64 c.qmax, .int .i64 c.reach, .int .i64 c.cut, .int .i64 c.gop, .int .i64 c.rate, .int .i64 c.room, .int .i64 c.fill] 44)) := (Ext.refl w).alloc _
  obtain ⟨a, cap, rfl⟩ := hv
  go_enter Tryd.func10, Tryd.ntmps10
  go_wp2_with fail
  refine (first19 _ (hg.ext E1)).mono ?_; rintro e w1 ⟨rfl, hx1⟩
  go_wp2_with fail
  refine (first19 _ (hg.ext (E1.trans hx1))).mono ?_; rintro e w2 ⟨rfl, hx2⟩
  go_wp2
  go_ret
  exact ⟨rfl, E1.trans (hx1.trans hx2)⟩

set_option maxHeartbeats 2000000 in
set_option maxRecDepth 20000 in
theorem afit_some (c : Cfg) (zs gs : List Int) (a : Option Addr) (u0 : Value) (n cap : Nat) (w : World) (hg : EtIs w) (ha : Ints w (.slice a n cap) zs) (hl : ¬ 5000 < n) (pk : List (ByteArray × Int) × Int)
    (f1 : Hid (∀ W, Ints W (.slice a n cap) zs → Calls Tryd.prog 28 #[.agg #[.int .i64 c.qmin, .int .i64 c.qmax, .int .i64 c.reach, .int .i64 c.cut, .int .i64 c.gop, .int .i64 c.rate, .int .i64 c.room, .int .i64 c.fill], .slice a n cap] W (AnsPost W (some pk) gs))) :
    Calls Tryd.prog 10 #[.agg #[.int .i64 c.qmin, .int .i64 c.qmax, .int .i64 c.reach, .int .i64 c.cut, .int .i64 c.gop, .int .i64 c.rate, .int .i64 c.room, .int .i64 c.fill], .slice a n cap, u0] w fun e w' => e = .returned (.bool true) ∧ Ext w w' := by
  have E1 : Ext w (w.alloc (.cells #[.int .i64 c.qmin, .int .i64 c.qmax, .int .i64 c.reach, .int .i64 c.cut, .int .i64 c.gop, .int .i64 c.rate, .int .i64 c.room, .int .i64 c.fill] 44)) := (Ext.refl w).alloc _
  go_enter Tryd.func10, Tryd.ntmps10
  go_wp2_with fail
  refine (first19 _ (hg.ext E1)).mono ?_; rintro e w1 ⟨rfl, hx1⟩
  obtain ⟨c0, c1, c2, c3, c4, c5, c6, c7⟩ := (CfgAt.mk' w c).ext hx1
  have E2 := E1.trans hx1
  clear E1 hx1
  go_wp2_with fail
  refine (f1.out _ (ha.ext E2)).mono ?_; rintro e w2 ⟨u, x, rfl, hx2, rfl, hi⟩
  obtain ⟨tx, vx, hne⟩ := hi.ne_nil
  subst hne
  have E3 := E2.trans hx2
  clear hx2 hi E2 c0 c1 c2 c3 c4 c5 c6 c7
  go_wp2_with fail
  refine (first19 _ (hg.ext E3)).mono ?_; rintro e w3 ⟨rfl, hx3⟩
  go_wp2
  go_ret
  exact ⟨rfl, E3.trans hx3⟩

set_option maxHeartbeats 2000000 in
set_option maxRecDepth 20000 in
theorem afit_none (c : Cfg) (zs gs ps sz fs qs : List Int) (al : Nat → Int) (a b : Option Addr) (n m cap cap' : Nat) (w : World) (hg : EtIs w) (ha : Ints w (.slice a n cap) zs) (hb : Row w (.slice b m cap') m (ps.map (Value.int .i64))) (hm : m = ps.length) (hn0 : 1 ≤ n) (hl : n ≤ 16) (lg : gs.length = n) (ls : sz.length = n) (lf : fs.length = n)
    (f1 : Hid (∀ W, Ints W (.slice a n cap) zs → Calls Tryd.prog 28 #[.agg #[.int .i64 c.qmin, .int .i64 c.qmax, .int .i64 c.reach, .int .i64 c.cut, .int .i64 c.gop, .int .i64 c.rate, .int .i64 c.room, .int .i64 c.fill], .slice a n cap] W (AnsPost W none gs)))
    (f2 : Hid (∀ W v, Ints W v sz → Calls Tryd.prog 30 #[.agg #[.int .i64 c.qmin, .int .i64 c.qmax, .int .i64 c.reach, .int .i64 c.cut, .int .i64 c.gop, .int .i64 c.rate, .int .i64 c.room, .int .i64 c.fill], v] W fun e w' => ∃ u, e = .returned (.tuple #[u, .nilIface]) ∧ Ext W w' ∧ w'.ownsRow (W.heap.size + 1) 3 1 u n (fs.map (Value.int .i64))))
    (f3 : Hid (∀ W v, Ints W v (rowL n al) → Calls Tryd.prog 31 #[.agg #[.int .i64 c.qmin, .int .i64 c.qmax, .int .i64 c.reach, .int .i64 c.cut, .int .i64 c.gop, .int .i64 c.rate, .int .i64 c.room, .int .i64 c.fill], v] W (AnsPost W none qs)))
    (wq : Hid (∀ W v, Ints W v qs → Calls Tryd.prog 25 #[v, .int .i64 0, .int .i64 c.room] W fun e w' => e = .returned (.bool true) ∧ Ext W w'))
    (HB : Hid (∀ (k : Nat) (x p : Int), ps[k]? = some p → -9223372036854775808 ≤ p ∧ p ≤ 9223372036854775807))
    (HS1 : Hid (∀ (k : Nat) (x p : Int), gs[k]? = some x → ps[k]? = some p → sz[k]? = some (if 0 ≤ p then 8 + p % (x - 7) else x)))
    (HS2 : Hid (∀ (k : Nat) (x : Int), gs[k]? = some x → ps[k]? = none → sz[k]? = some x)) (HG : Hid (within 8 16384 gs))
    (HAL : Hid (∀ (k : Nat) (s p : Int), sz[k]? = some s → fs[k]? = some p → al k = s + p ∧ (0 ≤ s ∧ s ≤ 16384) ∧ (0 ≤ p ∧ p ≤ 16384))) :
    Calls Tryd.prog 10 #[.agg #[.int .i64 c.qmin, .int .i64 c.qmax, .int .i64 c.reach, .int .i64 c.cut, .int .i64 c.gop, .int .i64 c.rate, .int .i64 c.room, .int .i64 c.fill], .slice a n cap, .slice b m cap'] w fun e w' => e = .returned (.bool true) ∧ Ext w w' := by
  obtain ⟨i0, hi, hz0, hz1, hz2⟩ := info_parts infoInt
  have b1 : ((n : Int) != (n : Int)) = false := by simp
  have BG := Lib.hid (row_had hb)
  have HM := Lib.hid hm
  clear hm
  have E1 : Ext w (w.alloc (.cells #[.int .i64 c.qmin, .int .i64 c.qmax, .int .i64 c.reach, .int .i64 c.cut, .int .i64 c.gop, .int .i64 c.rate, .int .i64 c.room, .int .i64 c.fill] 44)) := (Ext.refl w).alloc _
  go_enter Tryd.func10, Tryd.ntmps10
  go_wp2_with fail
  refine (first19 _ (hg.ext E1)).mono ?_; rintro e w1 ⟨rfl, hx1⟩
  obtain ⟨c0, c1, c2, c3, c4, c5, c6, c7⟩ := (CfgAt.mk' w c).ext hx1
  have E2 := E1.trans hx1
  clear E1 hx1
  go_wp2_with fail
  refine (f1.out _ (ha.ext E2)).mono ?_; rintro e w2 ⟨u, x, rfl, hx2, hig, rfl⟩
  have E3 := E2.trans hx2
  have j0 := hx2.cell c0
  have j1 := hx2.cell c1
  have j2 := hx2.cell c2
  have j3 := hx2.cell c3
  have j4 := hx2.cell c4
  have j5 := hx2.cell c5
  have j6 := hx2.cell c6
  have j7 := hx2.cell c7
  obtain ⟨ga, gcap, rfl⟩ := hig.form
  rw [lg] at hig ⊢
  have GG := Lib.hid (Ints.had' hig)
  have LG := Lib.hid lg
  have LS := Lib.hid ls
  have LF := Lib.hid lf
  have hbw := hb.ext E3
  have hc0 := j0
  clear hx2 E2 lg ls lf c0 c1 c2 c3 c4 c5 c6 c7
  go_wp2
  go_loopw [9, 10] (fun sv iv wr => ∃ k : Nat, k ≤ n ∧ iv = .int .i64 k ∧ wr.ownsRow w2.heap.size 3 1 sv k ((sz.take k).map (Value.int .i64)) ∧ Ext w2 wr) (fun _ iv _ => n - (intOf iv).toNat)
  case atStart => exact ⟨0, Nat.zero_le _, rfl, ⟨rfl, Or.inl ⟨rfl, rfl⟩⟩, Ext.refl _⟩
  case round =>
    obtain ⟨k, hk, rfl, hown, hE⟩ := hrel
    have hsz := hE.size
    by_cases hlt : k < n
    · obtain ⟨x, hx⟩ : ∃ x, gs[k]? = some x := ⟨_, List.getElem?_eq_getElem (by rw [LG.out]; exact hlt)⟩
      obtain ⟨x0, x1⟩ := HG.out.at hx
      obtain ⟨g', off', rfl⟩ := GG.out (by omega)
      have cx := hE.cell (hig.at hx)
      by_cases hkm : k < m
      · obtain ⟨p, hp⟩ : ∃ p, ps[k]? = some p := ⟨_, List.getElem?_eq_getElem (by rw [← HM.out]; exact hkm)⟩
        have bp := HB.out k 0 p hp
        obtain ⟨g, off, rfl⟩ := BG.out (by omega)
        have cp := hE.cell (row_at hbw hp)
        have hv := HS1.out k x p hx hp
        by_cases hp0 : 0 ≤ p
        · rw [if_pos hp0] at hv
          obtain ⟨R, hR, r0, r1, hRR⟩ : ∃ R, Int.tmod p (x - 7) = R ∧ 0 ≤ R ∧ R < x - 7 ∧ Hid (R = p % (x - 7)) :=
            ⟨_, rfl, Int.tmod_nonneg _ hp0, by rw [Int.tmod_eq_emod_of_nonneg hp0]; exact Int.emod_lt_of_pos _ (by omega), by show _ = _; rw [Int.tmod_eq_emod_of_nonneg hp0]⟩
          rw [← hRR.out] at hv
          have HV := Lib.hid hv
          have hR2 : p % (x - 7) = R := hRR.out.symm
          have dz : (x - 7 == 0) = false := by simp; omega
          have dz2 : x - 7 ≠ 0 := by omega
          have wx : IntKind.i64.wrap (x - 7) = x - 7 := by rw [IntKind.wrap_i64]; omega
          have wr1 : IntKind.i64.wrap R = R := by rw [IntKind.wrap_i64]; omega
          have w8 : IntKind.i64.wrap (8 + R) = 8 + R := by rw [IntKind.wrap_i64]; omega
          clear hv hp hx
          go_wp2
          go_quiet (fail)
          go_wp2_with (at_builtin; refine push_int rfl _ _ 22 rfl Tryd.underlying22 _ k _ _ rfl (own_ext hown ((Ext.refl _).drewN _)) rfl (by simpa using hsz) (by omega) ?_; intro v' w3 h1 h2)
          have h3 : w3.ownsRow w2.heap.size 3 1 v' (k + 1) ((sz.take (k + 1)).map (Value.int .i64)) := by rw [take_of_get HV.out, List.map_append]; exact h1
          have hE4 : Ext w2 w3 := (hE.drewN _).of_below h2 (Nat.le_refl _)
          clear hown h1 h2 hE
          go_wp2
          go_roundw
          case rel => exact ⟨k + 1, by omega, by go_num, h3, hE4⟩
          case measure => simp [intOf]; omega
        · rw [if_neg hp0] at hv
          have HV := Lib.hid hv
          clear hv hp hx
          go_wp2_with (at_builtin; refine push_int rfl _ _ 22 rfl Tryd.underlying22 _ k _ _ rfl hown rfl hsz (by omega) ?_; intro v' w3 h1 h2)
          have h3 : w3.ownsRow w2.heap.size 3 1 v' (k + 1) ((sz.take (k + 1)).map (Value.int .i64)) := by rw [take_of_get HV.out, List.map_append]; exact h1
          have hE4 : Ext w2 w3 := hE.of_below h2 (Nat.le_refl _)
          clear hown h1 h2 hE
          go_wp2
          go_roundw
          case rel => exact ⟨k + 1, by omega, by go_num, h3, hE4⟩
          case measure => simp [intOf]; omega
      · have hv := HS2.out k x hx (List.getElem?_eq_none (by rw [← HM.out]; omega))
        have HV := Lib.hid hv
        clear hv hx
        go_wp2_with (at_builtin; refine push_int rfl _ _ 22 rfl Tryd.underlying22 _ k _ _ rfl hown rfl hsz (by omega) ?_; intro v' w3 h1 h2)
        have h3 : w3.ownsRow w2.heap.size 3 1 v' (k + 1) ((sz.take (k + 1)).map (Value.int .i64)) := by rw [take_of_get HV.out, List.map_append]; exact h1
        have hE4 : Ext w2 w3 := hE.of_below h2 (Nat.le_refl _)
        clear hown h1 h2 hE
        go_wp2
        go_roundw
        case rel => exact ⟨k + 1, by omega, by go_num, h3, hE4⟩
        case measure => simp [intOf]; omega
    · have hkn : n = k := by omega
      subst hkn
      rw [List.take_of_length_le (by rw [LS.out]; exact Nat.le_refl _)] at hown
      have hsm := Ints.of_owns hown (by rw [LS.out]; omega)
      obtain ⟨S, hS⟩ : ∃ S : Nat → Int, S = fun j => sz.getD j 0 := ⟨_, rfl⟩
      have hL : sz = rowL n S := by rw [hS, ← LS.out, rowL_getD]
      rw [hL] at hown
      obtain ⟨gz, cz, rfl, hgz, hgzl, hc1, hc2⟩ := own_form hown hn0
      have E5 := E3.trans hE
      have k0 := hE.cell j0
      have k1 := hE.cell j1
      have k2 := hE.cell j2
      have k3 := hE.cell j3
      have k4 := hE.cell j4
      have k5 := hE.cell j5
      have k6 := hE.cell j6
      have k7 := hE.cell j7
      have HS0 : Hid (∀ k s, sz[k]? = some s → S k = s) := fun k s h => by rw [hS]; simp [h]
      clear hbw hig hE E3 hb hS j0 j1 j2 j3 j4 j5 j6 j7
      go_wp2_with fail
      refine (f2.out _ _ hsm).mono ?_; rintro e w5 ⟨u5, rfl, hx5, hof⟩
      have hown5 := own_ext hown hx5
      have hif := Ints.of_owns hof (by rw [LF.out]; omega)
      have hgf : ∃ gf cf, u5 = .slice (some ⟨gf, 0, none⟩) n cf ∧ wr.heap.size + 1 ≤ gf := by
        rcases hof.2 with ⟨_, h0⟩ | ⟨g, cap, cur, h1, h2, _⟩
        · omega
        · exact ⟨g, cap, h1, h2⟩
      obtain ⟨gf, cf, rfl, hgf⟩ := hgf
      have E6 := E5.trans hx5
      have j0 := hx5.cell k0
      have j1 := hx5.cell k1
      have j2 := hx5.cell k2
      have j3 := hx5.cell k3
      have j4 := hx5.cell k4
      have j5 := hx5.cell k5
      have j6 := hx5.cell k6
      have j7 := hx5.cell k7
      have hgw : w.heap.size < gz := by
        have h1 : w.heap.size < w2.heap.size := Ext.lt hc0
        omega
      have KF : Hid (∀ k p, fs[k]? = some p → w5.cell? ⟨gf, k, none⟩ = some (.int .i64 p)) := fun k p h => by
        have := hif.at h
        simpa using this
      have hne : gf ≠ gz := by omega
      have HC : Hid (CfgAt w5 w.heap.size c) := ⟨j0, j1, j2, j3, j4, j5, j6, j7⟩
      clear hown hsm hx5 hof hif E5 k0 k1 k2 k3 k4 k5 k6 k7 j0 j1 j2 j3 j4 j5 j6 j7
      go_wp2
      go_loopw [14] (fun iv wq => ∃ k : Nat, k ≤ n ∧ iv = .int .i64 k ∧ wq.ownsRow w2.heap.size 3 1 (.slice (some ⟨gz, 0, none⟩) n cz) n ((rowL n (fun j => if j < k then al j else S j)).map (Value.int .i64)) ∧ Ext w wq ∧ Hid (∀ b, b ≠ gz → wq.heap[b]? = w5.heap[b]?)) (fun iv _ => n - (intOf iv).toNat)
      case atStart => exact ⟨0, Nat.zero_le _, rfl, by simpa using hown5, E6, fun b _ => rfl⟩
      case round =>
        clear hown5 E6
        obtain ⟨k, hk, rfl, hown, hE, HB5⟩ := hrel
        by_cases hlt : k < n
        · obtain ⟨s, hs⟩ : ∃ s, sz[k]? = some s := ⟨_, List.getElem?_eq_getElem (by rw [LS.out]; exact hlt)⟩
          obtain ⟨p, hp⟩ : ∃ p, fs[k]? = some p := ⟨_, List.getElem?_eq_getElem (by rw [LF.out]; exact hlt)⟩
          obtain ⟨ha1, bs, bp⟩ := HAL.out k s p hs hp
          obtain ⟨cs, fz⟩ := own_cell hown hlt
          rw [if_neg (Nat.lt_irrefl _), HS0.out k s hs] at cs
          have cp : wr.cell? ⟨gf, k, none⟩ = some (.int .i64 p) := (World.cell?_of_block (HB5.out gf hne)).trans (KF.out k p hp)
          have HA1 := Lib.hid ha1
          clear ha1 hs hp
          go_wp2
          go_region
          all_goals go_wp2
          all_goals go_roundw
          case rel =>
            refine ⟨k + 1, by omega, by go_num, ?_, ?_, ?_⟩
            · have h := own_ext (own_set (x := s + p) hown hlt) ((Ext.refl _).drew)
              rw [rowL_congr' (g := fun j => if j < k + 1 then al j else S j) (fun i _ => by
                by_cases hik : i = k
                · subst hik
                  rw [if_pos rfl, if_pos (by omega), HA1.out]
                · rw [if_neg hik]
                  by_cases h2 : i < k
                  · rw [if_pos h2, if_pos (by omega)]
                  · rw [if_neg h2, if_neg (by omega)])] at h
              exact h
            · exact (Below.setCell hE (by simp; omega) _).drew
            · intro b hb
              show ((wr.setCell _ _).drew).heap[b]? = _
              rw [← HB5.out b hb]
              exact Below.heap_setCell _ _ _ _ hb
          case measure => simp [intOf]; omega
        · have hkn : n = k := by omega
          subst hkn
          rw [rowL_congr' (g := al) (fun j hj => by rw [if_pos hj])] at hown
          have hia := Ints.of_row hown (by omega)
          have keep : ∀ o v, w5.cell? ⟨w.heap.size, o, none⟩ = some v → wr.cell? ⟨w.heap.size, o, none⟩ = some v := fun o v h => (World.cell?_of_block (HB5.out w.heap.size (by omega))).trans h
          obtain ⟨q0, q1, q2, q3, q4, q5, q6, q7⟩ := HC.out
          have k0 := keep _ _ q0
          have k1 := keep _ _ q1
          have k2 := keep _ _ q2
          have k3 := keep _ _ q3
          have k4 := keep _ _ q4
          have k5 := keep _ _ q5
          have k6 := keep _ _ q6
          have k7 := keep _ _ q7
          clear keep q0 q1 q2 q3 q4 q5 q6 q7 hown
          go_wp2_with fail
          refine (f3.out _ _ hia).mono ?_; rintro e w7 ⟨u7, x7, rfl, hx7, hiq, rfl⟩
          have E7 := hE.trans hx7
          have l6 := hx7.cell k6
          clear hx7 hE hia k0 k1 k2 k3 k4 k5 k6 k7
          go_wp2_with fail
          refine (first19 _ (hg.ext E7)).mono ?_; rintro e w8 ⟨rfl, hx8⟩
          have m6 := hx8.cell l6
          have hiq8 := hiq.ext hx8
          have E8 := E7.trans hx8
          clear hx8 E7 hiq l6
          go_wp2_with fail
          refine (wq.out _ _ hiq8).mono ?_; rintro e w9 ⟨rfl, hx9⟩
          go_wp2
          go_ret
          exact ⟨rfl, E8.trans hx9⟩
theorem afit_law (c : Cfg) (zs ps : List Int) (v u : Value) (w : World) (hg : EtIs w) (hr : Row w v zs.length (zs.map (Value.int .i64))) (hr' : Row w u ps.length (ps.map (Value.int .i64))) (hb : ∀ x ∈ ps, -9223372036854775808 ≤ x ∧ x ≤ 9223372036854775807) :
    Calls Tryd.prog 10 #[.agg #[.int .i64 c.qmin, .int .i64 c.qmax, .int .i64 c.reach, .int .i64 c.cut, .int .i64 c.gop, .int .i64 c.rate, .int .i64 c.room, .int .i64 c.fill], v, u] w fun e w' => e = .returned (.bool true) ∧ Ext w w' := by
  by_cases hl : 5000 < zs.length
  · exact afit_long c v u zs.length w hg hr.form hl
  · have ha : Ints w v zs := ⟨hr, by omega⟩
    obtain ⟨a, cap, rfl⟩ := ha.form
    obtain ⟨b, cap', rfl⟩ := hr'.form
    cases hq : capAns c zs with
    | some pk => exact afit_some c zs (capsOf c zs) a _ _ cap w hg ha hl pk (fun W h => by rw [← hq]; exact caps_all c zs _ W h)
    | none =>
      obtain ⟨g, s⟩ := capAns_none hq
      have G := g
      obtain ⟨_, _, _, _, _, _, _, _, _, g1, g2, g3, g4, g5⟩ := g
      obtain ⟨⟨s1, s2⟩, s3⟩ := s
      have lg : (capsOf c zs).length = zs.length := capsL_length _ _ _ _ _ _
      have hgw : ∀ x ∈ capsOf c zs, 8 ≤ x ∧ x ≤ c.room := capsL_within g1 g2 g4 g5
      obtain ⟨sz, hsz⟩ : ∃ sz, sz = fitSizes (capsOf c zs) ps := ⟨_, rfl⟩
      have ls : sz.length = zs.length := by rw [hsz, fitSizes_length, lg]
      have hszw : ∀ x ∈ sz, 8 ≤ x ∧ x ≤ c.room := by rw [hsz]; exact fitSizes_within hgw
      have hfe : fillErr c.rate c.room c.fill sz 0 = none := by rw [hsz]; exact fitSizes_fill (Int.le_refl _) (fun x hx => (hgw x hx).1) (caps_fill g1 g2 g4)
      have hS : Sizes sz := ⟨by omega, fun x hx => by have := hszw x hx; omega⟩
      have lfl : (filled c.rate c.room c.fill sz).length = zs.length := by rw [filled_length, ls]
      have hpe : playErr c.rate c.room c.fill (filled c.rate c.room c.fill sz) 0 = none := filled_play g2 g5 hfe
      have hSf : Sizes (filled c.rate c.room c.fill sz) := ⟨by omega, fun x hx => by have := filled_sizes (by omega) g2 g5 (fun x hx => by have := hszw x hx; omega) hfe x hx; omega⟩
      have hpn : ansOf c (filled c.rate c.room c.fill sz) (playErr c.rate c.room c.fill (filled c.rate c.room c.fill sz) 0) = none := by
        unfold ansOf
        rw [if_pos G, if_pos hSf, hpe]
        rfl
      refine afit_none c zs (capsOf c zs) ps sz (fillOut c.rate c.room c.fill sz) (playOut c.rate c.fill (filled c.rate c.room c.fill sz)) (fun j => (filled c.rate c.room c.fill sz).getD j 0) a b _ _ cap cap' w hg ha hr' rfl s1 s2 lg ls (by rw [fillOut_length, ls])
        (fun W h => by rw [← hq]; exact caps_all c zs _ W h) (fun W v h => ?_) (fun W v h => ?_) (fun W v h => ?_) (fun k _ p hp => hb p (List.mem_of_getElem? hp)) (fun k x p hx hp => by rw [hsz]; exact fitSizes_some hx hp) (fun k x hx hp => by rw [hsz]; exact fitSizes_none hx hp)
        (fun x hx => by have := hgw x hx; omega) (fun k s p hs hp => ?_)
      · refine (fills_own c sz v W G h hS).mono ?_
        rintro e w' ⟨u, x, he, hx, hm⟩
        rw [hfe] at hm
        obtain ⟨ho, rfl⟩ := hm
        rw [ls] at ho
        exact ⟨u, he, hx, ho⟩
      · have := play_all c (filled c.rate c.room c.fill sz) v W (by rw [← lfl, rowL_getD] at h; exact h)
        rw [hpn] at this
        exact this
      · have := within_any (playOut c.rate c.fill (filled c.rate c.room c.fill sz)) 0 c.room v W h
        rw [decide_eq_true (show within 0 c.room _ from fun x hx => by have := filled_out g2 g5 hfe x hx; omega)] at this
        exact this
      · have e1 := filled_at (rate := c.rate) (room := c.room) (f := c.fill) hs
        have e2 := fillOut_at (rate := c.rate) (room := c.room) (f := c.fill) hs
        obtain rfl := Option.some.inj (hp.symm.trans e2)
        have h1 := hszw s (List.mem_of_getElem? hs)
        have h2 := fillOut_within (by omega) g2 g5 (fun x hx => by have := hszw x hx; omega) _ (List.mem_of_getElem? hp)
        refine ⟨by simp [List.getD, e1], by omega, by omega⟩
end Go.Proofs.YtbmknmenaaanaaaDoor
