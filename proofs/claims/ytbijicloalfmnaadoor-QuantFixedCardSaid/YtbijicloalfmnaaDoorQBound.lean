/- kinlaw9.QuantBound: the walk. -/
import Derived.Test.YtbijicloalfmnaaDoorQuant
namespace Go.Proofs.YtbijicloalfmnaaDoor
set_option linter.unusedVariables false
set_option linter.unusedSimpArgs false
open Go.RowKit Go.Extern.Stop Go.Stop Go.Extern

theorem near (c qp : Int) (h : okQ qp) : levelOf c qp * stepOf qp - c ≤ stepOf qp / 2 ∧ c - levelOf c qp * stepOf qp ≤ stepOf qp / 2 := by
  obtain ⟨s0, s1⟩ := stepOf_ok h
  have e : ∀ x : Int, 0 ≤ x → (x + stepOf qp / 2) / stepOf qp * stepOf qp - x ≤ stepOf qp / 2 ∧ x - (x + stepOf qp / 2) / stepOf qp * stepOf qp ≤ stepOf qp / 2 := fun x hx => by
    have h1 := Int.mul_ediv_add_emod (x + stepOf qp / 2) (stepOf qp)
    have h2 := Int.emod_nonneg (x + stepOf qp / 2) (show stepOf qp ≠ 0 by omega)
    have h3 := Int.emod_lt_of_pos (x + stepOf qp / 2) (show 0 < stepOf qp by omega)
    rw [Int.mul_comm] at h1
    omega
  unfold levelOf
  split
  · have := e (-c) (by omega)
    rw [Int.neg_mul]
    omega
  · exact e c (by omega)

theorem exact0 (c : Int) : levelOf c 0 * stepOf 0 = c := by
  have : stepOf 0 = 1 := rfl
  unfold levelOf
  rw [this]
  split <;> simp

set_option maxRecDepth 20000 in
theorem bound_law (c qp : Int) (w : World) (hg : EtIs w) :
    Calls Tryd.prog 5 #[.int .i64 c, .int .i64 qp] w fun e w' => e = .returned (.bool true) ∧ Ext w w' := by
  by_cases hq : okQ qp
  · obtain ⟨s0, s1⟩ := stepOf_ok hq
    by_cases hc : okC c
    · by_cases hl : okL (levelOf c qp)
      · have hn := near c qp hq
        obtain ⟨n1, n2⟩ := hn
        have c0 := hc.1
        have c1 := hc.2
        have q0 := hq.1
        have q1 := hq.2
        go_enter Tryd.func5, Tryd.ntmps5
        go_wp2_with fail
        refine (first_any _ hg).mono ?_; rintro e w1 ⟨rfl, hx1⟩
        go_wp2_with fail
        refine (level_ok c qp _ hc hq).mono ?_; rintro e w' ⟨rfl, rfl⟩
        go_wp2_with fail
        refine (bound_ok qp _ hq).mono ?_; rintro e w' ⟨rfl, rfl⟩
        go_wp2_with fail
        refine (value_ok (levelOf c qp) qp _ hl hq).mono ?_; rintro e w' ⟨rfl, rfl⟩
        go_wp2_with fail
        refine (first_any _ (hg.ext hx1)).mono ?_; rintro e w2 ⟨rfl, hx2⟩
        go_wp2_with fail
        · go_ret
          have hz : qp = 0 := by have : qp ≤ 0 := by assumption
                                 omega
          refine ⟨?_, hx1.trans hx2⟩
          subst hz
          have e0 := exact0 c
          simp [e0]
        · go_ret
          exact ⟨rfl, hx1.trans hx2⟩
      · have hl' : levelOf c qp < -16320 ∨ 16320 < levelOf c qp := by unfold okL at hl; omega
        go_enter Tryd.func5, Tryd.ntmps5
        go_wp2_with fail
        refine (first_any _ hg).mono ?_; rintro e w1 ⟨rfl, hx1⟩
        go_wp2_with fail
        refine (level_ok c qp _ hc hq).mono ?_; rintro e w' ⟨rfl, rfl⟩
        go_wp2_with fail
        refine (bound_ok qp _ hq).mono ?_; rintro e w' ⟨rfl, rfl⟩
        go_wp2_with fail
        refine (value_noL (levelOf c qp) qp _ hl hq).mono ?_; rintro e w' ⟨rfl, rfl⟩
        clear hl
        go_wp2_with fail
        refine (first_any _ (hg.ext hx1)).mono ?_; rintro e w2 ⟨rfl, hx2⟩
        rcases hl' with hl' | hl'
        all_goals
          go_wp2_with fail
          go_ret
          exact ⟨by first | rfl | simp [hl'], hx1.trans hx2⟩
    · go_enter Tryd.func5, Tryd.ntmps5
      have HC := Lib.hid hc
      clear hc
      go_wp2_with fail
      refine (first_any _ hg).mono ?_; rintro e w1 ⟨rfl, hx1⟩
      go_wp2_with fail
      refine (level_noC c qp _ HC.out hq).mono ?_; rintro e w' ⟨rfl, rfl⟩
      go_wp2_with fail
      refine (bound_ok qp _ hq).mono ?_; rintro e w' ⟨rfl, rfl⟩
      go_wp2_with fail
      refine (first_any _ (hg.ext hx1)).mono ?_; rintro e w2 ⟨rfl, hx2⟩
      go_wp2_with fail
      go_ret
      exact ⟨rfl, hx1.trans hx2⟩
  · have HQ := Lib.hid hq
    clear hq
    go_enter Tryd.func5, Tryd.ntmps5
    go_wp2_with fail
    refine (first_any _ hg).mono ?_; rintro e w1 ⟨rfl, hx1⟩
    go_wp2_with fail
    refine (level_noQ c qp _ HQ.out).mono ?_; rintro e w' ⟨rfl, rfl⟩
    go_wp2_with fail
    refine (bound_no qp _ HQ.out).mono ?_; rintro e w' ⟨rfl, rfl⟩
    go_wp2_with fail
    refine (first_any _ (hg.ext hx1)).mono ?_; rintro e w2 ⟨rfl, hx2⟩
    go_wp2_with fail
    go_ret
    exact ⟨rfl, hx1.trans hx2⟩
end Go.Proofs.YtbijicloalfmnaaDoor
