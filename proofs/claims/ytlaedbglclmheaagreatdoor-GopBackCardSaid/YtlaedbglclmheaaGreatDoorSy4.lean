/- kinref.Coded of two coded frames alike. -/
import Derived.Test.YtlaedbglclmheaaGreatDoorZf
namespace Go.Proofs.YtlaedbglclmheaaGreatDoor
set_option linter.unusedVariables false
set_option linter.unusedSimpArgs false
open Go.RowKit Go.Extern.Stop Go.Stop Go.Extern

set_option maxHeartbeats 2000000 in
set_option maxRecDepth 20000 in
theorem coded_same (k : Int) (bs : List Nat) (u v : Value) (w : World) (h : Bys w u bs) (hv : Bys w v bs) : Calls Tryz.prog 60 #[.agg #[.int .i64 k, u], .agg #[.int .i64 k, v]] w fun e w' => e = .returned (.bool true) ∧ Ext w w' := by
  obtain ⟨a, cap, rfl⟩ := h.form
  obtain ⟨b, cbp, rfl⟩ := hv.form
  obtain ⟨n, hn⟩ : ∃ n, bs.length = n := ⟨_, rfl⟩
  have hE := ((Ext.refl w).alloc (.cells #[.int .i64 k, .slice a bs.length cap] 61)).alloc (.cells #[.int .i64 k, .slice b bs.length cbp] 61)
  have US := Lib.hid (bytes_same bs _ _ _ (h.ext hE) (hv.ext hE))
  have HE := Lib.hid hE
  rw [hn] at US HE ⊢
  have kk : (k == k) = true := beq_self_eq_true k
  clear h hv hn hE
  go_enter Tryz.func60, Tryz.ntmps60
  go_wp2_with fail
  refine (US.out).mono ?_; rintro e w1 ⟨rfl, rfl⟩
  go_wp2
  go_ret
  exact ⟨rfl, HE.out⟩
end Go.Proofs.YtlaedbglclmheaaGreatDoor
