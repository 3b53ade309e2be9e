/- Contracts of this seat: Pa2, Pa3, Pa4, Pa5, Pa6. -/
import Derived.Test.YtcekpngkfldgkaaGreatDoorXTk
import Derived.Test.YtcekpngkfldgkaaGreatDoorXZb
import Derived.Deep.RegionLaw
namespace Go.Proofs.YtcekpngkfldgkaaGreatDoor
set_option linter.unusedVariables false
set_option linter.unusedSimpArgs false
open Go.RowKit Go.Extern.Stop Go.Stop Go.Extern
section
variable {w w' : World} {b : Nat} {v : Value} {h : Int} {r l d : Nat}
end
def newE : Ec := ⟨[], -1, 0, 0, 4294967295⟩
def chance (p : Int) : Bool := decide (1 ≤ p) && decide (p < 2048)
def codE (s : Ec) (p : Int) (up : Bool) : Ec := if chance p then parE s (s.wid / 2048 * p.toNat) up else s
set_option maxRecDepth 20000 in
theorem ischance_any (p : Int) (w : World) : Calls Tryz.prog 208 #[.int .i64 p] w fun e w' => e = .returned (.bool (chance p)) ∧ w = w' := by
 by_cases h1 : 1 ≤ p
 · by_cases h2 : p < 2048
   · have HC : Hid (chance p = true) := by show _ = _; unfold chance; rw [decide_eq_true h1, decide_eq_true h2]; rfl
     have t2 : decide (p < 2048) = true := decide_eq_true h2
     go_enter Tryz.func208, Tryz.ntmps208
     go_wp2
     go_ret
     exact ⟨by rw [HC.out]; rfl, rfl⟩
   · have HC : Hid (chance p = false) := by show _ = _; unfold chance; rw [decide_eq_true h1, decide_eq_false h2]; rfl
     have t2 : decide (p < 2048) = false := decide_eq_false h2
     go_enter Tryz.func208, Tryz.ntmps208
     go_wp2
     go_ret
     exact ⟨by rw [HC.out]; rfl, rfl⟩
 · have HC : Hid (chance p = false) := by show _ = _; unfold chance; rw [decide_eq_false h1]; rfl
   go_enter Tryz.func208, Tryz.ntmps208
   go_wp2
   go_ret
   exact ⟨by rw [HC.out]; rfl, rfl⟩
end Go.Proofs.YtcekpngkfldgkaaGreatDoor