/- kinlaw21.DecodeLeans: the walk. -/
import Derived.Test.YtcekpngkfldgkaaGreatDoorLDeTa
import Derived.Test.YtcekpngkfldgkaaGreatDoorLDeTb
namespace Go.Proofs.YtcekpngkfldgkaaGreatDoor
set_option linter.unusedVariables false
set_option linter.unusedSimpArgs false
open Go.RowKit Go.Extern.Stop Go.Stop Go.Extern

theorem leans_walk (L : List Cd) (PW PH : Int) (ps : List Int) (AT W H : Int) (u v : Value) (w : World) (hg : EtIs w) (hA : -9223372036854775808 ≤ AT ∧ AT ≤ 9223372036854775807) (hL : Cds w v L) (hip : Row w u ps.length (ps.map (Value.int .i64))) :
    Calls Tryz.prog 6 #[v, .agg #[.int .i64 PW, .int .i64 PH, u], .int .i64 AT, .int .i64 W, .int .i64 H] w fun e w' => e = .returned (.bool true) ∧ Ext w w' := by
  obtain ⟨pa, pc, rfl⟩ := hip.form
  have hL' := hL
  obtain ⟨la, lc, rfl, -⟩ := hL'
  by_cases hn : AT < 0
  · exact leans_neg L PW PH ps AT W H _ pa _ _ _ pc w hn hg hA hL hip
  · exact leans_pos L PW PH ps AT W H _ pa _ _ _ pc w (Lib.hid hn) hg hA hL hip
end Go.Proofs.YtcekpngkfldgkaaGreatDoor
