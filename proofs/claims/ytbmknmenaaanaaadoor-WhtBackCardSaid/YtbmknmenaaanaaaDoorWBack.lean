/- kinlaw8.WhtBack: the walk. -/
import Derived.Test.YtbmknmenaaanaaaDoorW8Math
namespace Go.Proofs.YtbmknmenaaanaaaDoor
set_option linter.unusedVariables false
set_option linter.unusedSimpArgs false
open Go.RowKit Go.Extern.Stop Go.Stop Go.Extern

set_option maxHeartbeats 1000000 in
set_option maxRecDepth 20000 in
theorem back_long (v : Value) (n : Nat) (w : World) (hg : EtIs w) (hv : ∃ a cap, v = .slice a n cap) (hl : 5000 < n) :
    Calls Tryd.prog 5 #[v] w fun e w' => e = .returned (.bool true) ∧ Ext w w' := by
  obtain ⟨a, cap, rfl⟩ := hv
  go_enter Tryd.func5, Tryd.ntmps5
  go_wp2_with fail
  refine (first8 _ hg).mono ?_; rintro e w1 ⟨rfl, hx1⟩
  go_wp2_with fail
  refine (first8 _ (hg.ext hx1)).mono ?_; rintro e w2 ⟨rfl, hx2⟩
  go_wp2
  go_ret
  exact ⟨rfl, hx1.trans hx2⟩
set_option maxHeartbeats 1000000 in
set_option maxRecDepth 20000 in
theorem back_some (zs : List Int) (n : Nat) (a : Option Addr) (cap : Nat) (w : World) (hg : EtIs w) (ha : Ints w (.slice a n cap) zs) (hl : ¬ 5000 < n) (k : Int) (out : List Int)
    (f1 : Hid (∀ W, Ints W (.slice a n cap) zs → Calls Tryd.prog 17 #[.slice a n cap] W (WPost W (some k) out))) :
    Calls Tryd.prog 5 #[.slice a n cap] w fun e w' => e = .returned (.bool true) ∧ Ext w w' := by
  go_enter Tryd.func5, Tryd.ntmps5
  go_wp2_with fail
  refine (first8 _ hg).mono ?_; rintro e w1 ⟨rfl, hx1⟩
  go_wp2_with fail
  refine (f1.out _ (ha.ext hx1)).mono ?_; rintro e w2 ⟨u, x, rfl, hx2, rfl, rfl⟩
  have E2 := hx1.trans hx2
  go_wp2_with fail
  refine (first8 _ (hg.ext E2)).mono ?_; rintro e w3 ⟨rfl, hx3⟩
  go_wp2
  go_ret
  exact ⟨rfl, E2.trans hx3⟩
set_option maxHeartbeats 1000000 in
set_option maxRecDepth 20000 in
theorem back_none (zs : List Int) (n : Nat) (a : Option Addr) (cap : Nat) (w : World) (hg : EtIs w) (ha : Ints w (.slice a n cap) zs) (hl : ¬ 5000 < n) (out : List Int) (ho : out.length ≤ 1000000) (hz : zs.length ≤ 1000000)
    (f1 : Hid (∀ W, Ints W (.slice a n cap) zs → Calls Tryd.prog 17 #[.slice a n cap] W (WPost W none out)))
    (f2 : Hid (∀ W v, Ints W v out → Calls Tryd.prog 19 #[v] W (WPost W none zs))) :
    Calls Tryd.prog 5 #[.slice a n cap] w fun e w' => e = .returned (.bool true) ∧ Ext w w' := by
  go_enter Tryd.func5, Tryd.ntmps5
  go_wp2_with fail
  refine (first8 _ hg).mono ?_; rintro e w1 ⟨rfl, hx1⟩
  go_wp2_with fail
  refine (f1.out _ (ha.ext hx1)).mono ?_; rintro e w2 ⟨u, x, rfl, hx2, hu, rfl⟩
  have E2 := hx1.trans hx2
  have hu2 := Ints.of_owns hu (by omega)
  clear hu
  go_wp2_with fail
  refine (f2.out _ _ hu2).mono ?_; rintro e w3 ⟨u3, x3, rfl, hx3, hu3, rfl⟩
  have E3 := E2.trans hx3
  have hu3 := Ints.of_owns hu3 (by omega)
  go_wp2_with fail
  refine (first8 _ (hg.ext E3)).mono ?_; rintro e w4 ⟨rfl, hx4⟩
  have E4 := E3.trans hx4
  go_wp2_with fail
  refine (ints_same _ zs _ _ _ (hu3.ext hx4) (ha.ext E4)).mono ?_; rintro e w5 ⟨rfl, hx5⟩
  rw [decide_eq_true rfl]
  go_wp2
  go_ret
  exact ⟨rfl, E4.trans hx5⟩
theorem back_law (zs : List Int) (v : Value) (w : World) (hg : EtIs w) (hr : Row w v zs.length (zs.map (Value.int .i64))) (hlen : zs.length ≤ 9223372036854775807) :
    Calls Tryd.prog 5 #[v] w fun e w' => e = .returned (.bool true) ∧ Ext w w' := by
  by_cases hl : 5000 < zs.length
  · exact back_long v zs.length w hg hr.form hl
  · have ha : Ints w v zs := ⟨hr, by omega⟩
    obtain ⟨a, cap, rfl⟩ := ha.form
    cases hq : blkAns zs 65536 with
    | some k => exact back_some zs _ a cap w hg ha hl k (fwdL zs) (fun W h => by rw [← hq]; exact forward_all zs _ W h)
    | none =>
      obtain ⟨m1, m2⟩ := back_math hq
      exact back_none zs _ a cap w hg ha hl (fwdL zs) (by unfold fwdL; rw [rowL_length]; omega) (by omega) (fun W h => by rw [← hq]; exact forward_all zs _ W h)
        (fun W v h => by have := inverse_all (fwdL zs) v W h; rw [m1, m2] at this; exact this)
end Go.Proofs.YtbmknmenaaanaaaDoor
