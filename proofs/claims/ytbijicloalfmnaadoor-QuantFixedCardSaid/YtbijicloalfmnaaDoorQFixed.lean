/- kinlaw9.QuantFixed: the walk. -/
import Derived.Test.YtbijicloalfmnaaDoorQBound
namespace Go.Proofs.YtbijicloalfmnaaDoor
set_option linter.unusedVariables false
set_option linter.unusedSimpArgs false
open Go.RowKit Go.Extern.Stop Go.Stop Go.Extern

theorem fixed_at (l qp : Int) (h : okQ qp) : levelOf (l * stepOf qp) qp = l := by
  obtain ⟨s0, s1⟩ := stepOf_ok h
  have e : ∀ x : Int, 0 ≤ x → (x * stepOf qp + stepOf qp / 2) / stepOf qp = x := fun x hx => by
    rw [Int.add_comm, Int.add_mul_ediv_right _ _ (by omega), Int.ediv_eq_zero_of_lt (by omega) (by omega), Int.zero_add]
  unfold levelOf
  by_cases hl : l < 0
  · have : l * stepOf qp < 0 := Int.mul_neg_of_neg_of_pos hl (by omega)
    rw [if_pos this, ← Int.neg_mul, e (-l) (by omega), Int.neg_neg]
  · have : 0 ≤ l * stepOf qp := Int.mul_nonneg (by omega) (by omega)
    rw [if_neg (by omega), e l (by omega)]
theorem value_bd (l qp : Int) (hl : okL l) (h : okQ qp) : -6266880 ≤ l * stepOf qp ∧ l * stepOf qp ≤ 6266880 := by
  obtain ⟨s0, s1⟩ := stepOf_ok h
  obtain ⟨c0, c1⟩ := hl
  have a := Int.mul_le_mul_of_nonneg_right c1 (show 0 ≤ stepOf qp by omega)
  have b := Int.mul_le_mul_of_nonneg_right c0 (show 0 ≤ stepOf qp by omega)
  omega

set_option maxHeartbeats 1000000 in
set_option maxRecDepth 20000 in
theorem fixed_law (l m qp : Int) (w : World) (hg : EtIs w) :
    Calls Tryd.prog 8 #[.int .i64 l, .int .i64 m, .int .i64 qp] w fun e w' => e = .returned (.bool true) ∧ Ext w w' := by
  by_cases hq : okQ qp
  · by_cases hl : okL l
    · obtain ⟨v0, v1⟩ := value_bd l qp hl hq
      by_cases hm : okL m
      · have hf := fixed_at l qp hq
        obtain ⟨s0, s1⟩ := stepOf_ok hq
        have hord : m ≤ l ∧ m * stepOf qp ≤ l * stepOf qp ∨ l < m ∧ l * stepOf qp < m * stepOf qp := by
          by_cases h : l < m
          · exact Or.inr ⟨h, Int.mul_lt_mul_of_pos_right h (by omega)⟩
          · exact Or.inl ⟨by omega, Int.mul_le_mul_of_nonneg_right (by omega) (by omega)⟩
        go_enter Tryd.func8, Tryd.ntmps8
        go_wp2_with fail
        refine (first_any _ hg).mono ?_; rintro e w1 ⟨rfl, hx1⟩
        go_wp2_with fail
        refine (value_ok l qp _ hl hq).mono ?_; rintro e w' ⟨rfl, rfl⟩
        go_wp2_with fail
        refine (value_ok m qp _ hm hq).mono ?_; rintro e w' ⟨rfl, rfl⟩
        go_wp2_with fail
        refine (level_ok (l * stepOf qp) qp _ ⟨by omega, by omega⟩ hq).mono ?_; rintro e w' ⟨rfl, rfl⟩
        go_wp2_with fail
        refine (first_any _ (hg.ext hx1)).mono ?_; rintro e w2 ⟨rfl, hx2⟩
        rcases hord with ⟨h1, h2⟩ | ⟨h1, h2⟩
        all_goals
          go_wp2_with fail
          go_ret
          exact ⟨by first | rfl | (simp; omega), hx1.trans hx2⟩
      · have HM := Lib.hid hm
        clear hm
        go_enter Tryd.func8, Tryd.ntmps8
        go_wp2_with fail
        refine (first_any _ hg).mono ?_; rintro e w1 ⟨rfl, hx1⟩
        go_wp2_with fail
        refine (value_ok l qp _ hl hq).mono ?_; rintro e w' ⟨rfl, rfl⟩
        go_wp2_with fail
        refine (value_noL m qp _ HM.out hq).mono ?_; rintro e w' ⟨rfl, rfl⟩
        go_wp2_with fail
        refine (first_any _ (hg.ext hx1)).mono ?_; rintro e w2 ⟨rfl, hx2⟩
        go_wp2_with fail
        go_ret
        exact ⟨by first | rfl | simp, hx1.trans hx2⟩
    · have HL := Lib.hid hl
      clear hl
      by_cases hm : okL m
      · obtain ⟨v0, v1⟩ := value_bd m qp hm hq
        go_enter Tryd.func8, Tryd.ntmps8
        go_wp2_with fail
        refine (first_any _ hg).mono ?_; rintro e w1 ⟨rfl, hx1⟩
        go_wp2_with fail
        refine (value_noL l qp _ HL.out hq).mono ?_; rintro e w' ⟨rfl, rfl⟩
        go_wp2_with fail
        refine (value_ok m qp _ hm hq).mono ?_; rintro e w' ⟨rfl, rfl⟩
        go_wp2_with fail
        refine (first_any _ (hg.ext hx1)).mono ?_; rintro e w2 ⟨rfl, hx2⟩
        go_wp2_with fail
        go_ret
        exact ⟨by first | rfl | simp, hx1.trans hx2⟩
      · have HM := Lib.hid hm
        clear hm
        go_enter Tryd.func8, Tryd.ntmps8
        go_wp2_with fail
        refine (first_any _ hg).mono ?_; rintro e w1 ⟨rfl, hx1⟩
        go_wp2_with fail
        refine (value_noL l qp _ HL.out hq).mono ?_; rintro e w' ⟨rfl, rfl⟩
        go_wp2_with fail
        refine (value_noL m qp _ HM.out hq).mono ?_; rintro e w' ⟨rfl, rfl⟩
        go_wp2_with fail
        refine (first_any _ (hg.ext hx1)).mono ?_; rintro e w2 ⟨rfl, hx2⟩
        go_wp2_with fail
        go_ret
        exact ⟨by first | rfl | simp, hx1.trans hx2⟩
  · have HQ := Lib.hid hq
    clear hq
    go_enter Tryd.func8, Tryd.ntmps8
    go_wp2_with fail
    refine (first_any _ hg).mono ?_; rintro e w1 ⟨rfl, hx1⟩
    go_wp2_with fail
    refine (value_noQ l qp _ HQ.out).mono ?_; rintro e w' ⟨rfl, rfl⟩
    go_wp2_with fail
    refine (value_noQ m qp _ HQ.out).mono ?_; rintro e w' ⟨rfl, rfl⟩
    go_wp2_with fail
    refine (first_any _ (hg.ext hx1)).mono ?_; rintro e w2 ⟨rfl, hx2⟩
    go_wp2_with fail
    go_ret
    exact ⟨by first | rfl | simp, hx1.trans hx2⟩
end Go.Proofs.YtbijicloalfmnaaDoor
