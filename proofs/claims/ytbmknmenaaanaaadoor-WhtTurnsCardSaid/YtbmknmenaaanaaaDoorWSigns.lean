/- kinlaw8.WhtSigns: the walk. -/
import Derived.Test.YtbmknmenaaanaaaDoorW8
namespace Go.Proofs.YtbmknmenaaanaaaDoor
set_option linter.unusedVariables false
set_option linter.unusedSimpArgs false
open Go.RowKit Go.Extern.Stop Go.Stop Go.Extern

def OutS (u x : Int) : Prop := u < 0 ∨ ¬ u < 0 ∧ 7 < u ∨ (¬ u < 0 ∧ ¬ 7 < u) ∧ x < 0 ∨ (¬ u < 0 ∧ ¬ 7 < u) ∧ ¬ x < 0 ∧ 7 < x
set_option maxRecDepth 20000 in
theorem sign_out (u x : Int) (h : OutS u x) (w : World) : Calls Tryd.prog 23 #[.int .i64 u, .int .i64 x] w fun e w' => e = .returned (.int .i64 0) ∧ w' = w := by
  rcases h with h1 | ⟨h1, h2⟩ | ⟨⟨h1, h2⟩, h3⟩ | ⟨⟨h1, h2⟩, h3, h4⟩
  all_goals
    go_enter Tryd.func23, Tryd.ntmps23
    go_wp2
    go_ret
    exact ⟨rfl, rfl⟩
set_option maxRecDepth 20000 in
theorem rsign_out (u x : Int) (h : OutS u x) (w : World) : Calls Tryd.prog 24 #[.int .i64 u, .int .i64 x] w fun e w' => e = .returned (.int .i64 0) ∧ w' = w := by
  rcases h with h1 | ⟨h1, h2⟩ | ⟨⟨h1, h2⟩, h3⟩ | ⟨⟨h1, h2⟩, h3, h4⟩
  all_goals
    go_enter Tryd.func24, Tryd.ntmps24
    go_wp2
    go_ret
    exact ⟨rfl, rfl⟩
/-- the sign by the bits up to k -/
def sgP (u x : Nat) : Nat → Int
  | 0 => 1
  | k + 1 => if Nat.testBit u k ∧ Nat.testBit x k then -sgP u x k else sgP u x k
theorem sgP_end : ∀ u < 8, ∀ x < 8, sgP u x 3 = sgn u x := by decide +kernel
theorem sgP_one (u x k : Nat) : sgP u x k = 1 ∨ sgP u x k = -1 := by
  induction k with
  | zero => exact Or.inl rfl
  | succ k ih =>
    unfold sgP
    split <;> omega
theorem bit_tab : ∀ u < 8, ∀ k < 3, (bits .and .i64 ((u : Nat) / 2 ^ k : Int) 1 == 1) = Nat.testBit u k := by decide +kernel
set_option maxRecDepth 20000 in
theorem rsign_in (u x : Nat) (hu : u < 8) (hx : x < 8) (w : World) : Calls Tryd.prog 24 #[.int .i64 u, .int .i64 x] w fun e w' => e = .returned (.int .i64 (sgn u x)) ∧ w' = w := by
  go_enter Tryd.func24, Tryd.ntmps24
  go_wp2
  go_loop [5, 6] (fun sv kv => ∃ (k : Nat) (s : Int), k ≤ 3 ∧ kv = .int .i64 k ∧ sv = .int .i64 s ∧ (s = 1 ∨ s = -1) ∧ Hid (s = sgP u x k)) (fun _ kv => 3 - (intOf kv).toNat)
  case atStart => exact ⟨0, 1, by decide, rfl, rfl, Or.inl rfl, rfl⟩
  case round =>
    obtain ⟨k, s, hk, rfl, rfl, hs, HS⟩ := hrel
    by_cases hlt : k < 3
    · have t1 := bit_tab u hu k hlt
      have t2 := bit_tab x hx k hlt
      cases hu' : Nat.testBit u k <;> cases hx' : Nat.testBit x k
      all_goals
        rw [hu'] at t1
        rw [hx'] at t2
        go_wp2
        go_round
        case measure => simp [intOf]; omega
      case rel => exact ⟨k + 1, s, by omega, by go_num, rfl, hs, by show _ = _; rw [sgP, if_neg (by simp [hu'])]; exact HS.out⟩
      case rel => exact ⟨k + 1, s, by omega, by go_num, rfl, hs, by show _ = _; rw [sgP, if_neg (by simp [hu'])]; exact HS.out⟩
      case rel => exact ⟨k + 1, s, by omega, by go_num, rfl, hs, by show _ = _; rw [sgP, if_neg (by simp [hx'])]; exact HS.out⟩
      case rel => exact ⟨k + 1, -s, by omega, by go_num, rfl, by omega, by show _ = _; rw [sgP, if_pos ⟨hu', hx'⟩, HS.out]⟩
    · go_wp2
      go_ret
      have : k = 3 := by omega
      subst this
      refine ⟨?_, rfl⟩
      rw [← sgP_end u hu x hx, ← HS.out]
      rfl
theorem sgn_comm : ∀ u < 8, ∀ x < 8, sgn x u = sgn u x := by decide +kernel
set_option maxHeartbeats 1000000 in
set_option maxRecDepth 20000 in
theorem signs_walk (u x s : Int) (w : World) (hg : EtIs w) (f1 : Hid (∀ W, Calls Tryd.prog 23 #[.int .i64 u, .int .i64 x] W fun e w' => e = .returned (.int .i64 s) ∧ w' = W)) (f2 : Hid (∀ W, Calls Tryd.prog 23 #[.int .i64 x, .int .i64 u] W fun e w' => e = .returned (.int .i64 s) ∧ w' = W))
    (f3 : Hid (∀ W, Calls Tryd.prog 24 #[.int .i64 u, .int .i64 x] W fun e w' => e = .returned (.int .i64 s) ∧ w' = W)) :
    Calls Tryd.prog 4 #[.int .i64 u, .int .i64 x] w fun e w' => e = .returned (.bool true) ∧ Ext w w' := by
  go_enter Tryd.func4, Tryd.ntmps4
  go_wp2_with fail
  refine (first8 _ hg).mono ?_; rintro e w1 ⟨rfl, hx1⟩
  go_wp2_with fail
  refine (first8 _ (hg.ext hx1)).mono ?_; rintro e w2 ⟨rfl, hx2⟩
  go_wp2_with fail
  refine (f1.out _).mono ?_; rintro e w3 ⟨rfl, rfl⟩
  go_wp2_with fail
  refine (f3.out _).mono ?_; rintro e w4 ⟨rfl, rfl⟩
  go_wp2_with fail
  refine (f2.out _).mono ?_; rintro e w5 ⟨rfl, rfl⟩
  go_wp2_with fail
  refine (f3.out _).mono ?_; rintro e w6 ⟨rfl, rfl⟩
  go_wp2
  go_ret
  exact ⟨rfl, hx1.trans hx2⟩
theorem signs_law (u x : Int) (w : World) (hg : EtIs w) :
    Calls Tryd.prog 4 #[.int .i64 u, .int .i64 x] w fun e w' => e = .returned (.bool true) ∧ Ext w w' := by
  by_cases h : OutS u x
  · exact signs_walk u x 0 w hg (fun W => sign_out u x h W) (fun W => sign_out x u (by unfold OutS at h ⊢; omega) W) (fun W => rsign_out u x h W)
  · obtain ⟨a, rfl⟩ : ∃ a : Nat, u = a := ⟨u.toNat, by unfold OutS at h; omega⟩
    obtain ⟨b, rfl⟩ : ∃ b : Nat, x = b := ⟨x.toNat, by unfold OutS at h; omega⟩
    have h1 : a < 8 := by unfold OutS at h; omega
    have h2 : b < 8 := by unfold OutS at h; omega
    exact signs_walk a b (sgn a b) w hg (fun W => sign_in a b h1 h2 W) (fun W => by have := sign_in b a h2 h1 W; rw [sgn_comm a h1 b h2] at this; exact this) (fun W => rsign_in a b h1 h2 W)
end Go.Proofs.YtbmknmenaaanaaaDoor
