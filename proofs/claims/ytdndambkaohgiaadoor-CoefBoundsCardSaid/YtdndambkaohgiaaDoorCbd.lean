/- kinlaw14.CoefBounds: the walk. -/
import Derived.Test.YtdndambkaohgiaaDoorCff
import Derived.Test.YtdndambkaohgiaaDoorCfK
import Derived.Test.YtdndambkaohgiaaDoorAppRow
import Derived.Test.YtdndambkaohgiaaDoorOpL
import Derived.Test.YtdndambkaohgiaaDoorZb
namespace Go.Proofs.YtdndambkaohgiaaDoor
set_option linter.unusedVariables false
set_option linter.unusedSimpArgs false
open Go.RowKit Go.Extern.Stop Go.Stop Go.Extern

theorem Bls.form {w : World} {v : Value} {L : List Bool} (h : Bls w v L) : ∃ a cap, v = .slice a L.length cap := by
  obtain ⟨a, cap, e, -⟩ := h
  exact ⟨a, cap, e⟩
theorem Bls.had {w : World} {a : Option Addr} {n cap : Nat} {L : List Bool} (h : Bls w (.slice a n cap) L) (hn : 0 < L.length) : ∃ g off, a = some ⟨g, off, none⟩ ∧ ∀ q x, L[q]? = some x → w.cell? ⟨g, off + q, none⟩ = some (.bool x) := by
  obtain ⟨a', cap', e, -, h3⟩ := h
  simp only [Value.slice.injEq] at e
  obtain ⟨rfl, -, -⟩ := e
  exact h3 hn
theorem Bls.small {w : World} {v : Value} {L : List Bool} (h : Bls w v L) : L.length ≤ maxLen := by
  obtain ⟨_, _, _, h, _⟩ := h
  exact h
theorem cod_okz {σ : Type} {M : Mc σ} {ok : Nat → σ → Prop} (m : Mk M ok) {n N K : Nat} {s : Ms σ} (hn : n ≤ 64) (hK : N + 11012 ≤ K) (h : okS ok N s) : okS ok K ((codP (zsL n)).run M s).2 := by
  have := Pg.ok m (cod_dep (zsL n)) h
  rw [(zs_facts n).1] at this
  exact this.mono m (by omega)
theorem within_of_lv {ys : List Int} (h : ∀ y ∈ ys, isLv y = true) : within (-16320) 16320 ys := fun y hy => by
  have := h y hy
  unfold isLv at this
  rw [Bool.and_eq_true, decide_eq_true_iff, decide_eq_true_iff] at this
  exact this
set_option maxHeartbeats 8000000 in
set_option maxRecDepth 20000 in
theorem cbounds_law (bs : List Nat) (L : List Bool) (v u : Value) (w : World) (hg : EtIs w) (rb : Row w v bs.length (bs.map fun x : Nat => Value.int .u8 (x : Int))) (hb : ∀ x ∈ bs, x < 256) (hl : bs.length ≤ 140737488355328) (hL : Bls w u L) : Calls Tryd.prog 5 #[v, u] w fun e w' => e = .returned (.bool true) ∧ Ext w w' := by
  have hm := hL.small
  have HET := Lib.hid hg
  clear hg
  obtain ⟨i0, hi, hz0, hz1, hz2⟩ := info_parts infoInt
  have HI := Lib.hid (And.intro hi (And.intro hz0 (And.intro hz1 hz2)))
  clear hi hz0 hz1 hz2
  obtain ⟨la, lc, rfl⟩ := hL.form
  obtain ⟨ba, bc, rfl⟩ := rb.form
  obtain ⟨m, hm'⟩ : ∃ m, L.length = m := ⟨_, rfl⟩
  obtain ⟨n, hn⟩ : ∃ n, bs.length = n := ⟨_, rfl⟩
  have HNL := Lib.hid hm'
  have HOT : Hid (Bls w (.slice la m lc) L) := by show Bls _ _ _; rw [← hm']; exact hL
  rw [hm'] at hm ⊢
  rw [hn] at rb ⊢
  unfold maxLen at hm
  have HB : Hid (Bys w (.slice ba n bc) bs) := ⟨by rw [hn]; exact rb, hb, hl⟩
  have HBB := Lib.hid hb
  have UN := Lib.hid (mrnew_any bs)
  clear hL rb hm' hn hb hl
  go_enter Tryd.func5, Tryd.ntmps5
  go_wp2_with fail
  refine (first14_any _ HET.out).mono ?_; rintro e w1 ⟨rfl, hx1⟩
  have HE1 := Lib.hid hx1
  clear hx1
  go_wp2_with fail
  refine (UN.out _ _ (HB.out.ext HE1.out)).mono ?_; rintro e w3 ⟨d, F, rfl, hF, hD3, hx3⟩
  have OO := Lib.hid (NoF.obj.sep (RdF.obj d bs))
  have HU3 : Hid (Uno (Sep (Sep NoF (RdF d bs)) HoF) w w3 (((), ⟨ch0, newD bs⟩), fun _ => True)) := ((Uno.no (RdF.obj d bs) (Uno.first hD3 (HE1.out.trans hx3) (fun k hk => Nat.le_trans HE1.out.size (hF k hk)))).swap).bag OO.out (fun _ => trivial)
  clear hD3 hx3 hF HE1
  by_cases h1 : 20000 < n
  · have h1' : (20000 : Int) < (n : Int) := by omega
    go_wp2_with fail
    refine (first14_any _ (HET.out.ext HU3.out.out)).mono ?_; rintro e w6 ⟨rfl, hx6⟩
    go_wp2
    go_ret
    exact ⟨rfl, HU3.out.out.trans hx6⟩
  have h1' : ¬ (20000 : Int) < (n : Int) := by omega
  go_wp2_with fail
  go_loopw [6] (fun iv wr => ∃ (i : Nat) (s : Ms Dc), (i ≤ m ∧ i ≤ 200) ∧ iv = .int .i64 (i : Int) ∧ Hid (okS okDm (4 + 11012 * i) s) ∧ Hid (Uno (Sep (Sep NoF (RdF d bs)) HoF) w wr (((), s), fun _ => True))) (fun iv _ => m - (intOf iv).toNat)
  case atStart => exact ⟨0, _, ⟨Nat.zero_le _, Nat.zero_le _⟩, rfl, okd13 HBB.out, HU3.out⟩
  case round =>
    clear HU3
    obtain ⟨i, s, ⟨hi, hi2⟩, rfl, HJ, HU⟩ := hrel
    by_cases hlt : i < m
    · by_cases hl2 : i < 200
      · obtain ⟨o, hU⟩ : ∃ o, L[i]? = some o := ⟨_, List.getElem?_eq_getElem (by rw [HNL.out]; exact hlt)⟩
        obtain ⟨g, off, rfl, hq⟩ := HOT.out.had (by rw [HNL.out]; omega)
        have c0 := HU.out.out.cell (hq i _ hU)
        have x1 : (0 : Int) ≤ (i : Int) := by omega
        have x2 : (i : Int) < (m : Int) := by omega
        have x3 : (i : Int) < 200 := by omega
        clear hU hq
        cases o
        · obtain ⟨hi, hz0, hz1, hz2⟩ := HI.out
          go_wp2_with (at_make; refine wpList_make_full _ rfl _ _ 27 rfl wr.heap.size 3 i0 (.int .i64 0) 1 Tryd.underlying27 hi hz0 hz1 .i64 .i64 _ _ 16 rfl rfl rfl rfl (by rw [hz2]; decide) (by decide) (Nat.le_refl _) ?_; intro w5 hown hgrow)
          have hE := Below.grown (Ext.refl wr) hgrow (Nat.le_refl _) (fun k hk => by cases hk)
          obtain ⟨m1, m2⟩ := ho_made (by decide) hown
          have H5 := Lib.hid (bag_add OO.out HU.out hE m1 m2)
          clear hE m1 m2 hown hgrow HU hi hz0 hz1 hz2
          refine (rr_code NoF.obj HBB.out H5.out HJ.out (by omega) (fun W h => h.2)).mono ?_; rintro e w6 ⟨u6, x6, rfl, h6⟩
          obtain ⟨s2, hs2⟩ : ∃ z, ((codP (zsL 16)).run (mD bs) s).2 = z := ⟨_, rfl⟩
          have k2 : okS okDm (4 + 11012 * (i + 1)) ((codP (zsL 16)).run (mD bs) s).2 := cod_okz (mkD HBB.out) (by decide) (by omega) HJ.out
          rw [hs2] at h6 k2
          have HJ2 := Lib.hid k2
          clear hs2 k2 H5
          rcases cod_ans (M := mD bs) s (xs := zsL 16) (by rw [(zs_facts 16).1]; decide) (zs_facts 16).2.1 with ⟨ys, hr, hl, hv⟩ | ⟨q, hq, hr⟩
          · rw [hr] at h6
            rw [(zs_facts 16).1] at hl
            obtain rfl : x6 = .nilIface := h6.held.2.2
            have hf := h6.held.2.1.form
            rw [show (none, ys).2.length = 16 from hl] at hf
            obtain ⟨ua, uc, rfl⟩ := hf
            have H6 : Hid (Uno (Sep (Sep NoF (RdF d bs)) HoF) w w6 (((), s2), fun W => Ints W (.slice ua 16 uc) ys)) := bag_imp h6 (fun W h => h.2.1)
            have UW := Lib.hid (within_any ys (-16320) 16320 (.slice ua 16 uc) w6 H6.out.held)
            rw [decide_eq_true (within_of_lv hv)] at UW
            clear h6 hr hl hv
            go_wp2_with fail
            refine (UW.out).mono ?_; rintro e w7 ⟨rfl, hx7⟩
            have H7 : Hid (Uno (Sep (Sep NoF (RdF d bs)) HoF) w w7 (((), s2), fun _ => True)) := bag_imp (bag_ext OO.out H6.out hx7) (fun _ _ => trivial)
            clear hx7 H6 UW HJ
            go_wp2
            go_roundw
            case rel => exact ⟨i + 1, s2, ⟨by omega, by omega⟩, by go_num, HJ2.out, H7.out⟩
            case measure => simp [intOf] <;> omega
          · rw [hr] at h6
            rw [(zs_facts 16).1] at hq
            obtain ⟨xt, xv, rfl⟩ := ErrIs.ne h6.held.2.2
            have hf := h6.held.2.1.form
            rw [show (some ([(coefS, (q : Int))], (3 : Int)), ([] : List Int)).2.length = 0 from rfl] at hf
            obtain ⟨ua, uc, rfl⟩ := hf
            have H6 : Hid (Uno (Sep (Sep NoF (RdF d bs)) HoF) w w6 (((), s2), fun W => IsErr W [(coefS, (q : Int))] 3 (.iface xt xv))) := bag_imp h6 (fun W h => h.2.2.1)
            clear h6 hr HJ HJ2
            go_wp2_with fail
            go_loopw [10, 11] (fun mv kv wq => ∃ k : Nat, k ≤ 16 ∧ kv = .int .i64 (k : Int) ∧ mv = .bool (decide (q < k)) ∧ Hid (Uno (Sep (Sep NoF (RdF d bs)) HoF) w wq (((), s2), fun W => IsErr W [(coefS, (q : Int))] 3 (.iface xt xv)))) (fun _ kv _ => 16 - (intOf kv).toNat)
            case atStart => exact ⟨0, Nat.zero_le _, rfl, by rw [decide_eq_false (Nat.not_lt_zero _)], H6.out⟩
            case round =>
              clear H6
              obtain ⟨k, hk, rfl, rfl, H6⟩ := hrel
              by_cases hkn : k < 16
              · have y1 : (k : Int) < 16 := by omega
                by_cases hqk : q < k
                · have d1 : decide (q < k) = true := decide_eq_true hqk
                  rw [d1]
                  go_wp2
                  go_roundw
                  case rel => exact ⟨k + 1, by omega, by go_num, by rw [decide_eq_true (by omega : q < k + 1)], H6.out⟩
                  case measure => simp [intOf] <;> omega
                · have d1 : decide (q < k) = false := decide_eq_false hqk
                  rw [d1]
                  go_wp2_with fail
                  refine (wrap_any coefS (k : Int) 3 _ (by decide)).mono ?_; rintro e w7 ⟨u7, rfl, ho7, hx7⟩
                  have H7 := Lib.hid (bag_ext OO.out H6.out hx7)
                  have HR7 := Lib.hid (Row.of_owns ho7)
                  clear ho7 hx7 H6
                  obtain ⟨ra, rc, rfl⟩ := HR7.out.form
                  by_cases hqe : q = k
                  · have US := Lib.hid (same_err [(coefS, (q : Int))] 3 (.iface xt xv) (.slice ra 1 rc) w7 (HET.out.ext H7.out.out) H7.out.held (by rw [hqe]; exact HR7.out) (by decide) (by simp))
                    clear HR7
                    go_wp2_with fail
                    refine (US.out).mono ?_; rintro e w8 ⟨rfl, hx8⟩
                    have H8 := Lib.hid (bag_ext OO.out H7.out hx8)
                    clear hx8 H7 US
                    go_wp2
                    go_roundw
                    case rel => exact ⟨k + 1, by omega, by go_num, by rw [decide_eq_true (by omega : q < k + 1)], H8.out⟩
                    case measure => simp [intOf] <;> omega
                  · have US := Lib.hid (same_not coefS (q : Int) (k : Int) (by omega) 3 (.iface xt xv) (.slice ra 1 rc) w7 (HET.out.ext H7.out.out) H7.out.held HR7.out (by decide))
                    clear HR7
                    go_wp2_with fail
                    refine (US.out).mono ?_; rintro e w8 ⟨rfl, hx8⟩
                    have H8 := Lib.hid (bag_ext OO.out H7.out hx8)
                    clear hx8 H7 US
                    go_wp2
                    go_roundw
                    case rel => exact ⟨k + 1, by omega, by go_num, by rw [decide_eq_false (by omega : ¬ q < k + 1)], H8.out⟩
                    case measure => simp [intOf] <;> omega
              · have y1 : ¬ (k : Int) < 16 := by omega
                have d1 : decide (q < k) = true := decide_eq_true (by omega)
                rw [d1]
                go_wp2_with fail
                refine (first14_any _ (HET.out.ext H6.out.out)).mono ?_; rintro e w9 ⟨rfl, hx9⟩
                go_wp2
                go_ret
                exact ⟨rfl, H6.out.out.trans hx9⟩
        · obtain ⟨hi, hz0, hz1, hz2⟩ := HI.out
          go_wp2_with (at_make; refine wpList_make_full _ rfl _ _ 27 rfl wr.heap.size 3 i0 (.int .i64 0) 1 Tryd.underlying27 hi hz0 hz1 .i64 .i64 _ _ 64 rfl rfl rfl rfl (by rw [hz2]; decide) (by decide) (Nat.le_refl _) ?_; intro w5 hown hgrow)
          have hE := Below.grown (Ext.refl wr) hgrow (Nat.le_refl _) (fun k hk => by cases hk)
          obtain ⟨m1, m2⟩ := ho_made (by decide) hown
          have H5 := Lib.hid (bag_add OO.out HU.out hE m1 m2)
          clear hE m1 m2 hown hgrow HU hi hz0 hz1 hz2
          refine (rr_code NoF.obj HBB.out H5.out HJ.out (by omega) (fun W h => h.2)).mono ?_; rintro e w6 ⟨u6, x6, rfl, h6⟩
          obtain ⟨s2, hs2⟩ : ∃ z, ((codP (zsL 64)).run (mD bs) s).2 = z := ⟨_, rfl⟩
          have k2 : okS okDm (4 + 11012 * (i + 1)) ((codP (zsL 64)).run (mD bs) s).2 := cod_okz (mkD HBB.out) (by decide) (by omega) HJ.out
          rw [hs2] at h6 k2
          have HJ2 := Lib.hid k2
          clear hs2 k2 H5
          rcases cod_ans (M := mD bs) s (xs := zsL 64) (by rw [(zs_facts 64).1]; decide) (zs_facts 64).2.1 with ⟨ys, hr, hl, hv⟩ | ⟨q, hq, hr⟩
          · rw [hr] at h6
            rw [(zs_facts 64).1] at hl
            obtain rfl : x6 = .nilIface := h6.held.2.2
            have hf := h6.held.2.1.form
            rw [show (none, ys).2.length = 64 from hl] at hf
            obtain ⟨ua, uc, rfl⟩ := hf
            have H6 : Hid (Uno (Sep (Sep NoF (RdF d bs)) HoF) w w6 (((), s2), fun W => Ints W (.slice ua 64 uc) ys)) := bag_imp h6 (fun W h => h.2.1)
            have UW := Lib.hid (within_any ys (-16320) 16320 (.slice ua 64 uc) w6 H6.out.held)
            rw [decide_eq_true (within_of_lv hv)] at UW
            clear h6 hr hl hv
            go_wp2_with fail
            refine (UW.out).mono ?_; rintro e w7 ⟨rfl, hx7⟩
            have H7 : Hid (Uno (Sep (Sep NoF (RdF d bs)) HoF) w w7 (((), s2), fun _ => True)) := bag_imp (bag_ext OO.out H6.out hx7) (fun _ _ => trivial)
            clear hx7 H6 UW HJ
            go_wp2
            go_roundw
            case rel => exact ⟨i + 1, s2, ⟨by omega, by omega⟩, by go_num, HJ2.out, H7.out⟩
            case measure => simp [intOf] <;> omega
          · rw [hr] at h6
            rw [(zs_facts 64).1] at hq
            obtain ⟨xt, xv, rfl⟩ := ErrIs.ne h6.held.2.2
            have hf := h6.held.2.1.form
            rw [show (some ([(coefS, (q : Int))], (3 : Int)), ([] : List Int)).2.length = 0 from rfl] at hf
            obtain ⟨ua, uc, rfl⟩ := hf
            have H6 : Hid (Uno (Sep (Sep NoF (RdF d bs)) HoF) w w6 (((), s2), fun W => IsErr W [(coefS, (q : Int))] 3 (.iface xt xv))) := bag_imp h6 (fun W h => h.2.2.1)
            clear h6 hr HJ HJ2
            go_wp2_with fail
            go_loopw [10, 11] (fun mv kv wq => ∃ k : Nat, k ≤ 64 ∧ kv = .int .i64 (k : Int) ∧ mv = .bool (decide (q < k)) ∧ Hid (Uno (Sep (Sep NoF (RdF d bs)) HoF) w wq (((), s2), fun W => IsErr W [(coefS, (q : Int))] 3 (.iface xt xv)))) (fun _ kv _ => 64 - (intOf kv).toNat)
            case atStart => exact ⟨0, Nat.zero_le _, rfl, by rw [decide_eq_false (Nat.not_lt_zero _)], H6.out⟩
            case round =>
              clear H6
              obtain ⟨k, hk, rfl, rfl, H6⟩ := hrel
              by_cases hkn : k < 64
              · have y1 : (k : Int) < 64 := by omega
                by_cases hqk : q < k
                · have d1 : decide (q < k) = true := decide_eq_true hqk
                  rw [d1]
                  go_wp2
                  go_roundw
                  case rel => exact ⟨k + 1, by omega, by go_num, by rw [decide_eq_true (by omega : q < k + 1)], H6.out⟩
                  case measure => simp [intOf] <;> omega
                · have d1 : decide (q < k) = false := decide_eq_false hqk
                  rw [d1]
                  go_wp2_with fail
                  refine (wrap_any coefS (k : Int) 3 _ (by decide)).mono ?_; rintro e w7 ⟨u7, rfl, ho7, hx7⟩
                  have H7 := Lib.hid (bag_ext OO.out H6.out hx7)
                  have HR7 := Lib.hid (Row.of_owns ho7)
                  clear ho7 hx7 H6
                  obtain ⟨ra, rc, rfl⟩ := HR7.out.form
                  by_cases hqe : q = k
                  · have US := Lib.hid (same_err [(coefS, (q : Int))] 3 (.iface xt xv) (.slice ra 1 rc) w7 (HET.out.ext H7.out.out) H7.out.held (by rw [hqe]; exact HR7.out) (by decide) (by simp))
                    clear HR7
                    go_wp2_with fail
                    refine (US.out).mono ?_; rintro e w8 ⟨rfl, hx8⟩
                    have H8 := Lib.hid (bag_ext OO.out H7.out hx8)
                    clear hx8 H7 US
                    go_wp2
                    go_roundw
                    case rel => exact ⟨k + 1, by omega, by go_num, by rw [decide_eq_true (by omega : q < k + 1)], H8.out⟩
                    case measure => simp [intOf] <;> omega
                  · have US := Lib.hid (same_not coefS (q : Int) (k : Int) (by omega) 3 (.iface xt xv) (.slice ra 1 rc) w7 (HET.out.ext H7.out.out) H7.out.held HR7.out (by decide))
                    clear HR7
                    go_wp2_with fail
                    refine (US.out).mono ?_; rintro e w8 ⟨rfl, hx8⟩
                    have H8 := Lib.hid (bag_ext OO.out H7.out hx8)
                    clear hx8 H7 US
                    go_wp2
                    go_roundw
                    case rel => exact ⟨k + 1, by omega, by go_num, by rw [decide_eq_false (by omega : ¬ q < k + 1)], H8.out⟩
                    case measure => simp [intOf] <;> omega
              · have y1 : ¬ (k : Int) < 64 := by omega
                have d1 : decide (q < k) = true := decide_eq_true (by omega)
                rw [d1]
                go_wp2_with fail
                refine (first14_any _ (HET.out.ext H6.out.out)).mono ?_; rintro e w9 ⟨rfl, hx9⟩
                go_wp2
                go_ret
                exact ⟨rfl, H6.out.out.trans hx9⟩
      · have x3 : ¬ (i : Int) < 200 := by omega
        have x2 : (i : Int) < (m : Int) := by omega
        go_wp2_with fail
        refine (first14_any _ (HET.out.ext HU.out.out)).mono ?_; rintro e w6 ⟨rfl, hx6⟩
        go_wp2
        go_ret
        exact ⟨rfl, HU.out.out.trans hx6⟩
    · have x2 : ¬ (i : Int) < (m : Int) := by omega
      go_wp2_with fail
      refine (first14_any _ (HET.out.ext HU.out.out)).mono ?_; rintro e w6 ⟨rfl, hx6⟩
      go_wp2
      go_ret
      exact ⟨rfl, HU.out.out.trans hx6⟩
end Go.Proofs.YtdndambkaohgiaaDoor
