/- kinlaw9.QuantRises and QuantFixed: the walks. -/
import Derived.Test.YtbijicloalfmnaaDoorQBound
namespace Go.Proofs.YtbijicloalfmnaaDoor
set_option linter.unusedVariables false
set_option linter.unusedSimpArgs false
open Go.RowKit Go.Extern.Stop Go.Stop Go.Extern

theorem half_nonneg (qp : Int) (h : okQ qp) (x : Int) (hx : 0 ≤ x) : 0 ≤ (x + stepOf qp / 2) / stepOf qp := by
  obtain ⟨s0, s1⟩ := stepOf_ok h
  exact Int.ediv_nonneg (by omega) (by omega)
theorem half_zero (qp : Int) (h : okQ qp) : (0 + stepOf qp / 2) / stepOf qp = 0 := by
  obtain ⟨s0, s1⟩ := stepOf_ok h
  exact Int.ediv_eq_zero_of_lt (by omega) (by omega)
theorem level_neg (c qp : Int) (h : okQ qp) : levelOf (-c) qp = -levelOf c qp := by
  unfold levelOf
  by_cases h0 : c = 0
  · subst h0
    have := half_zero qp h
    simp at this ⊢
    rw [this]
    rfl
  · by_cases hn : c < 0
    · rw [if_neg (by omega), if_pos hn, Int.neg_neg]
    · rw [if_pos (by omega), if_neg hn, Int.neg_neg]
theorem level_bd (c qp : Int) (hc : okC c) (h : okQ qp) : -16777408 ≤ levelOf c qp ∧ levelOf c qp ≤ 16777408 := by
  obtain ⟨s0, s1⟩ := stepOf_ok h
  obtain ⟨c0, c1⟩ := hc
  unfold levelOf
  split
  · have a := half_nonneg qp h (-c) (by omega)
    have b : (-c + stepOf qp / 2) / stepOf qp ≤ 16777408 := Int.le_trans (Int.ediv_le_self _ (by omega)) (by omega)
    omega
  · have a := half_nonneg qp h c (by omega)
    have b : (c + stepOf qp / 2) / stepOf qp ≤ 16777408 := Int.le_trans (Int.ediv_le_self _ (by omega)) (by omega)
    omega
theorem level_mono (c d qp : Int) (h : okQ qp) (hcd : c ≤ d) : levelOf c qp ≤ levelOf d qp := by
  obtain ⟨s0, s1⟩ := stepOf_ok h
  unfold levelOf
  by_cases hc : c < 0
  · rw [if_pos hc]
    have a := half_nonneg qp h (-c) (by omega)
    by_cases hd : d < 0
    · rw [if_pos hd]
      have : (-d + stepOf qp / 2) / stepOf qp ≤ (-c + stepOf qp / 2) / stepOf qp := Int.ediv_le_ediv (by omega) (by omega)
      omega
    · rw [if_neg hd]
      have b := half_nonneg qp h d (by omega)
      omega
  · rw [if_neg hc, if_neg (by omega)]
    exact Int.ediv_le_ediv (by omega) (by omega)
theorem step_mono (p q : Int) (hp : okQ p) (hq : okQ q) (h : p < q) : stepOf p < stepOf q := by
  obtain ⟨p0, p1⟩ := hp
  obtain ⟨q0, q1⟩ := hq
  have a : p = 0 ∨ p = 1 ∨ p = 2 ∨ p = 3 ∨ p = 4 ∨ p = 5 ∨ p = 6 ∨ p = 7 ∨ p = 8 ∨ p = 9 ∨ p = 10 ∨ p = 11 ∨ p = 12 ∨ p = 13 ∨ p = 14 ∨ p = 15 := by omega
  have b : q = 0 ∨ q = 1 ∨ q = 2 ∨ q = 3 ∨ q = 4 ∨ q = 5 ∨ q = 6 ∨ q = 7 ∨ q = 8 ∨ q = 9 ∨ q = 10 ∨ q = 11 ∨ q = 12 ∨ q = 13 ∨ q = 14 ∨ q = 15 := by omega
  rcases a with a | a | a | a | a | a | a | a | a | a | a | a | a | a | a | a <;> subst a <;> rcases b with b | b | b | b | b | b | b | b | b | b | b | b | b | b | b | b <;> subst b <;> first | (exfalso; omega) | decide
theorem half_less (x s t : Int) (hx : 0 ≤ x) (hs : 1 ≤ s) (hst : s ≤ t) : (x + t / 2) / t ≤ (x + s / 2) / s := by
  have k0 : 0 ≤ (x + t / 2) / t := Int.ediv_nonneg (by omega) (by omega)
  have h1 : (x + t / 2) / t * t ≤ x + t / 2 := Int.ediv_mul_le _ (by omega)
  generalize (x + t / 2) / t = k at *
  refine (Int.le_ediv_iff_mul_le (by omega)).2 ?_
  by_cases hk : k = 0
  · subst hk; omega
  · have h2 : (2 * k - 1) * s ≤ (2 * k - 1) * t := Int.mul_le_mul_of_nonneg_left hst (by omega)
    have e1 : (2 * k - 1) * s = 2 * (k * s) - s := by rw [Int.sub_mul, Int.mul_assoc, Int.one_mul]
    have e2 : (2 * k - 1) * t = 2 * (k * t) - t := by rw [Int.sub_mul, Int.mul_assoc, Int.one_mul]
    omega
def sizeOf' (x : Int) : Int := if x < 0 then -x else x
theorem level_size (c p q : Int) (hp : okQ p) (hq : okQ q) (h : p ≤ q) : sizeOf' (levelOf c q) ≤ sizeOf' (levelOf c p) := by
  obtain ⟨s0, s1⟩ := stepOf_ok hp
  have hst : stepOf p ≤ stepOf q := by
    by_cases e : p = q
    · rw [e]; exact Int.le_refl _
    · exact Int.le_of_lt (step_mono p q hp hq (by omega))
  unfold levelOf sizeOf'
  by_cases hc : c < 0
  · rw [if_pos hc, if_pos hc]
    have a := half_nonneg p hp (-c) (by omega)
    have b := half_nonneg q hq (-c) (by omega)
    have := half_less (-c) _ _ (by omega) s0 hst
    split <;> split <;> omega
  · rw [if_neg hc, if_neg hc]
    have a := half_nonneg p hp c (by omega)
    have b := half_nonneg q hq c (by omega)
    have := half_less c _ _ (by omega) s0 hst
    split <;> split <;> omega

set_option maxHeartbeats 2000000 in
set_option maxRecDepth 20000 in
theorem rises_ok (c d qp other : Int) (w : World) (hg : EtIs w) (hq : okQ qp) (hc : okC c) (hd : okC d) (ho : okQ other) :
    Calls Tryd.prog 7 #[.int .i64 c, .int .i64 d, .int .i64 qp, .int .i64 other] w fun e w' => e = .returned (.bool true) ∧ Ext w w' := by
  obtain ⟨l0, l1⟩ := level_bd c qp hc hq
  obtain ⟨m0, m1⟩ := level_bd c other hc ho
  have hneg := level_neg c qp hq
  have hc0 := hc.1
  have hc1 := hc.2
  have hs : other < qp ∨ qp ≤ other := by omega
  have hm : d < c ∨ c ≤ d ∧ levelOf c qp ≤ levelOf d qp := by
    by_cases h : c ≤ d
    · exact Or.inr ⟨h, level_mono c d qp hq h⟩
    · exact Or.inl (by omega)
  go_enter Tryd.func7, Tryd.ntmps7
  go_wp2_with fail
  refine (first_any _ hg).mono ?_; rintro e w1 ⟨rfl, hx1⟩
  go_wp2_with fail
  refine (level_ok c qp _ hc hq).mono ?_; rintro e w' ⟨rfl, rfl⟩
  go_wp2_with fail
  refine (level_ok d qp _ hd hq).mono ?_; rintro e w' ⟨rfl, rfl⟩
  go_wp2_with fail
  refine (level_ok (-c) qp _ ⟨by omega, by omega⟩ hq).mono ?_; rintro e w' ⟨rfl, rfl⟩
  go_wp2_with fail
  refine (level_ok c other _ hc ho).mono ?_; rintro e w' ⟨rfl, rfl⟩
  have HS := Lib.hid hs
  clear hs
  rcases hm with hcd | ⟨hcd, hml⟩
  all_goals
    go_wp2_with fail
    refine (step_ok qp _ hq).mono ?_; rintro e w' ⟨rfl, rfl⟩
    go_wp2_with fail
    refine (step_ok other _ ho).mono ?_; rintro e w' ⟨rfl, rfl⟩
    go_wp2_with fail
    refine (first_any _ (hg.ext hx1)).mono ?_; rintro e w2 ⟨rfl, hx2⟩
    rcases HS.out with ho' | ho'
    · go_wp2_with fail
      go_ret
      exact ⟨rfl, hx1.trans hx2⟩
    · have hsz := level_size c qp other hq ho ho'
      have hst : other ≤ qp ∨ stepOf qp < stepOf other := by
        by_cases e : qp < other
        · exact Or.inr (step_mono qp other hq ho e)
        · exact Or.inl (by omega)
      rcases hst with hst | hst
      all_goals
        go_wp2_with fail
        all_goals
          go_ret
          refine ⟨?_, hx1.trans hx2⟩
          unfold sizeOf' at hsz
          first | rfl | (simp; split at hsz <;> split at hsz <;> omega)

set_option maxRecDepth 20000 in
theorem rises_no (c d qp other : Int) (w : World) (hg : EtIs w) (hq : okQ qp) (hc : okC c) (hd : okC d) (ho : ¬ okQ other) :
    Calls Tryd.prog 7 #[.int .i64 c, .int .i64 d, .int .i64 qp, .int .i64 other] w fun e w' => e = .returned (.bool true) ∧ Ext w w' := by
  obtain ⟨l0, l1⟩ := level_bd c qp hc hq
  have hneg := level_neg c qp hq
  have hc0 := hc.1
  have hc1 := hc.2
  have hm : d < c ∨ c ≤ d ∧ levelOf c qp ≤ levelOf d qp := by
    by_cases h : c ≤ d
    · exact Or.inr ⟨h, level_mono c d qp hq h⟩
    · exact Or.inl (by omega)
  have hs : other < 0 ∨ 15 < other := by unfold okQ at ho; omega
  have HS := Lib.hid hs
  have HO := Lib.hid ho
  clear hs ho
  go_enter Tryd.func7, Tryd.ntmps7
  go_wp2_with fail
  refine (first_any _ hg).mono ?_; rintro e w1 ⟨rfl, hx1⟩
  go_wp2_with fail
  refine (level_ok c qp _ hc hq).mono ?_; rintro e w' ⟨rfl, rfl⟩
  go_wp2_with fail
  refine (level_ok d qp _ hd hq).mono ?_; rintro e w' ⟨rfl, rfl⟩
  go_wp2_with fail
  refine (level_ok (-c) qp _ ⟨by omega, by omega⟩ hq).mono ?_; rintro e w' ⟨rfl, rfl⟩
  go_wp2_with fail
  refine (level_noQ c other _ HO.out).mono ?_; rintro e w' ⟨rfl, rfl⟩
  rcases hm with hcd | ⟨hcd, hml⟩
  all_goals
    go_wp2_with fail
    refine (first_any _ (hg.ext hx1)).mono ?_; rintro e w2 ⟨rfl, hx2⟩
    rcases HS.out with ho' | ho'
    all_goals
      go_wp2_with fail
      go_ret
      exact ⟨by first | rfl | simp [ho'], hx1.trans hx2⟩

set_option maxRecDepth 20000 in
theorem rises_law (c d qp other : Int) (w : World) (hg : EtIs w) :
    Calls Tryd.prog 7 #[.int .i64 c, .int .i64 d, .int .i64 qp, .int .i64 other] w fun e w' => e = .returned (.bool true) ∧ Ext w w' := by
  by_cases hq : okQ qp
  · by_cases hc : okC c
    · by_cases hd : okC d
      · by_cases ho : okQ other
        · exact rises_ok c d qp other w hg hq hc hd ho
        · exact rises_no c d qp other w hg hq hc hd ho
      · have HD := Lib.hid hd
        clear hd
        go_enter Tryd.func7, Tryd.ntmps7
        go_wp2_with fail
        refine (first_any _ hg).mono ?_; rintro e w1 ⟨rfl, hx1⟩
        go_wp2_with fail
        refine (level_ok c qp _ hc hq).mono ?_; rintro e w' ⟨rfl, rfl⟩
        go_wp2_with fail
        refine (level_noC d qp _ HD.out hq).mono ?_; rintro e w' ⟨rfl, rfl⟩
        go_wp2_with fail
        refine (first_any _ (hg.ext hx1)).mono ?_; rintro e w2 ⟨rfl, hx2⟩
        go_wp2_with fail
        go_ret
        exact ⟨rfl, hx1.trans hx2⟩
    · have HC := Lib.hid hc
      clear hc
      by_cases hd : okC d
      · go_enter Tryd.func7, Tryd.ntmps7
        go_wp2_with fail
        refine (first_any _ hg).mono ?_; rintro e w1 ⟨rfl, hx1⟩
        go_wp2_with fail
        refine (level_noC c qp _ HC.out hq).mono ?_; rintro e w' ⟨rfl, rfl⟩
        go_wp2_with fail
        refine (level_ok d qp _ hd hq).mono ?_; rintro e w' ⟨rfl, rfl⟩
        go_wp2_with fail
        refine (first_any _ (hg.ext hx1)).mono ?_; rintro e w2 ⟨rfl, hx2⟩
        go_wp2_with fail
        go_ret
        exact ⟨rfl, hx1.trans hx2⟩
      · have HD := Lib.hid hd
        clear hd
        go_enter Tryd.func7, Tryd.ntmps7
        go_wp2_with fail
        refine (first_any _ hg).mono ?_; rintro e w1 ⟨rfl, hx1⟩
        go_wp2_with fail
        refine (level_noC c qp _ HC.out hq).mono ?_; rintro e w' ⟨rfl, rfl⟩
        go_wp2_with fail
        refine (level_noC d qp _ HD.out hq).mono ?_; rintro e w' ⟨rfl, rfl⟩
        go_wp2_with fail
        refine (first_any _ (hg.ext hx1)).mono ?_; rintro e w2 ⟨rfl, hx2⟩
        go_wp2_with fail
        go_ret
        exact ⟨rfl, hx1.trans hx2⟩
  · have HQ := Lib.hid hq
    clear hq
    go_enter Tryd.func7, Tryd.ntmps7
    go_wp2_with fail
    refine (first_any _ hg).mono ?_; rintro e w1 ⟨rfl, hx1⟩
    go_wp2_with fail
    refine (level_noQ c qp _ HQ.out).mono ?_; rintro e w' ⟨rfl, rfl⟩
    go_wp2_with fail
    refine (level_noQ d qp _ HQ.out).mono ?_; rintro e w' ⟨rfl, rfl⟩
    go_wp2_with fail
    refine (first_any _ (hg.ext hx1)).mono ?_; rintro e w2 ⟨rfl, hx2⟩
    go_wp2_with fail
    go_ret
    exact ⟨rfl, hx1.trans hx2⟩
end Go.Proofs.YtbijicloalfmnaaDoor
