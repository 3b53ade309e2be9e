/- What the walks of this seat need of the contracts below them. -/
import Derived.Test.YtcekpngkfldgkaaGreatDoorVHd
import Derived.Test.YtcekpngkfldgkaaGreatDoorVGk
import Derived.Test.YtcekpngkfldgkaaGreatDoorVZb
import Derived.Test.YtcekpngkfldgkaaGreatDoorVZo
namespace Go.Proofs.YtcekpngkfldgkaaGreatDoor
set_option linter.unusedVariables false
set_option linter.unusedSimpArgs false
open Go.RowKit Go.Extern.Stop Go.Stop Go.Extern

theorem umb : True := by
  have a1 := @dframes_any
  have a2 := @dframe_any
  have a3 := @few21_any
  have a4 := @first21_any
  have a5 := @may_any
  have a6 := @of_err
  have a7 := @frame_same
  have a8 := @frames_same
  have a9 := @within_any
  have b1 := @same_fall
  have b2 := @fail_any
  have b3 := @dfr_good
  have b4 := @dfr_code
  have b5 := @dfr_path
  have b6 := @fewC_out
  have b7 := @pixB_out
  have b8 := @open_frame
  have b9 := @open_coded
  have c1 := @et_of_laid
  have c2 := @post_law
  have c3 := @own
  have c4 := @laidWorld_met
  have c5 := @Cds.had
  have c6 := @Cds.nil
  have c7 := @Fms.nil
  have c8 := @Fms.had
  have c9 := @Fms.at
  have d1 := @bounds_i64
  have d2 := @laidOut'
  have d3 := @Bys.nil
  have d4 := @of_nil
  have d5 := @Fms.ext
  have d6 := @Cds.ext
  have d7 := @BoxIs.kp
  have d8 := @Row.nil
  have d9 := @own_extl
  have e1 := @Ints.caps
  have e2 := @push_fl
  have e3 := @ok_any
  have e4 := @ErrIs.code
  have e5 := @RErrIs.code
  have e6 := @mn2
  have f1 := @Cds.caps
  have f2 := @CapOk.of
  have f3 := @Fms.form
  have f4 := @Fms.len
  have f5 := @Cds.form
  have f6 := @Cds.len
  have f7 := @Cds.at
  have f8 := @FrIn.ext
  have f9 := @lean_zero
  have g1 := @bys_of_trod
  have g2 := @sqRun_ok
  have g3 := @sqRun_bad
  have g4 := @ask_out
  have g5 := @clip_any
  trivial
end Go.Proofs.YtcekpngkfldgkaaGreatDoor

