/- decode.Build. -/
import Derived.Test.YtcekpngkfldgkaaGreatDoorXDeX
import Derived.Test.YtcekpngkfldgkaaGreatDoorXHc
namespace Go.Proofs.YtcekpngkfldgkaaGreatDoor
set_option linter.unusedVariables false
set_option linter.unusedSimpArgs false
open Go.RowKit Go.Extern.Stop Go.Stop Go.Extern
theorem sqs_args {w0 w : World} {q : Sq} {L s0 s1 s2 s3 : Value} (h : SqIs w0 q L s0 s1 s2 s3) (k : Ext w0 w) : HoF w (fun i => i < w0.heap.size) (fun W => SqIs W q L s0 s1 s2 s3) :=
 ⟨fun _ hi => Nat.lt_of_lt_of_le hi k.size, fun w' a => ⟨(HoF.args h.1 k).2 w' a, (HoF.args h.2.1 k).2 w' a, (HoF.args h.2.2.1 k).2 w' a, (HoF.args h.2.2.2.1 k).2 w' a, (HoF.args h.2.2.2.2 k).2 w' a⟩⟩
def bdW (ck : Fall) (W H : Int) (l : List Int) : Fall × Fr := match ck with
 | none => (none, (W, H, l))
 | some e => (some e, (0, 0, []))
noncomputable def bdV (W H : Int) (zs : List Int) (PW PH : Int) (ps : List Int) (x y qp : Int) (q : Sq) : Fall × Fr := bdW (ckD W H zs PW PH ps x y qp q) W H (bld W H zs ps x y qp q)
end Go.Proofs.YtcekpngkfldgkaaGreatDoor