/- Contracts of this seat: Md5, Md6, Mdb. -/
import Derived.Test.YtcekpngkfldgkaaGreatDoorXTk
import Derived.Test.YtcekpngkfldgkaaGreatDoorXZi
import Derived.Test.YtcekpngkfldgkaaGreatDoorXZb
namespace Go.Proofs.YtcekpngkfldgkaaGreatDoor
set_option linter.unusedVariables false
set_option linter.unusedSimpArgs false
open Go.RowKit Go.Extern.Stop Go.Stop Go.Extern
theorem RdF.obj (a : Nat) (bs : List Nat) : Obj (RdF a bs) := ⟨fun h => h.lt, fun h => h.same⟩
def TlF (w : World) (F : Nat → Prop) (p : Value × List Int) : Prop := w.ownsRow 0 3 1 p.1 p.2.length (p.2.map (Value.int .i64)) ∧ ∀ k, F k ↔ p.1.ownBlock = some k
theorem TlF.obj : Obj TlF := ⟨fun h k hk => (h.1.lt k ((h.2 k).1 hk)).2, fun h k => ⟨own_block h.1 (fun g hg => k g ((h.2 g).2 hg)), h.2⟩⟩
theorem TlF.form {w : World} {F : Nat → Prop} {v : Value} {L : List Int} (h : TlF w F (v, L)) : ∃ a c, v = .slice a L.length c := by
 rcases h.1.2 with ⟨e, h0⟩ | ⟨g, cap, cur, e, -⟩
 · have e : v = .slice none 0 0 := e
   have h0 : L.length = 0 := h0
   exact ⟨none, 0, by rw [e, h0]⟩
 · exact ⟨_, _, e⟩
def f13 : Ms Ec := (bitM mE ⟨ch0, newE⟩ 0 false).2
def g13 : Ms Ec := (bitM mE f13 0 true).2
def h13 : Ms Ec := (kindM mE g13 7).2
theorem okd13 {bs : List Nat} (hb : ∀ x ∈ bs, x < 256) : okS okDm 4 ⟨ch0, newD bs⟩ := ⟨ch0_ok, (newD_ok hb).1, by rw [(newD_ok hb).2.1]; decide⟩
section
variable {X n : Nat}
end
section
variable {bs : List Nat} {n : Nat} (hb : ∀ x ∈ bs, x < 256)
include hb
end
end Go.Proofs.YtcekpngkfldgkaaGreatDoor