/- Lists written out, and a configuration's cells. -/
import Derived.Test.YtckhilnjkckabaaDoorVbvRun
import Derived.Test.YtckhilnjkckabaaDoorVbvPlay
namespace Go.Proofs.YtckhilnjkckabaaDoor
set_option linter.unusedVariables false
set_option linter.unusedSimpArgs false
open Go.RowKit Go.Extern.Stop Go.Stop Go.Extern

theorem ints_lit {w : World} {B n : Nat} (zs : List Int) (cs : Array Value) (h : cs = (zs.map (Value.int .i64)).toArray) (hl : zs.length ≤ 1000) (hB : w.heap.size = B) (hn : zs.length = n) : Ints (w.alloc (.cells cs 3)) (.slice (some ⟨B, 0, none⟩) n n) zs := by
  subst h
  subst hB
  subst hn
  have := World.ownsRow_lit (e := 3) (base := 0) (size := 1) w (zs.map (Value.int .i64)).toArray zs.length (Nat.zero_le _) (by unfold maxLen; omega) (by simp)
  exact Ints.of_owns (by simpa using this) (by omega)

/-- a configuration's cells -/
def CfgAt (w : World) (b : Nat) (c : Cfg) : Prop :=
  w.cell? ⟨b, 0, none⟩ = some (.int .i64 c.qmin) ∧ w.cell? ⟨b, 1, none⟩ = some (.int .i64 c.qmax) ∧ w.cell? ⟨b, 2, none⟩ = some (.int .i64 c.reach) ∧ w.cell? ⟨b, 3, none⟩ = some (.int .i64 c.cut) ∧
  w.cell? ⟨b, 4, none⟩ = some (.int .i64 c.gop) ∧ w.cell? ⟨b, 5, none⟩ = some (.int .i64 c.rate) ∧ w.cell? ⟨b, 6, none⟩ = some (.int .i64 c.room) ∧ w.cell? ⟨b, 7, none⟩ = some (.int .i64 c.fill)
theorem CfgAt.ext {w w' : World} {b : Nat} {c : Cfg} (h : CfgAt w b c) (k : Ext w w') : CfgAt w' b c := by
  obtain ⟨h0, h1, h2, h3, h4, h5, h6, h7⟩ := h
  exact ⟨k.cell h0, k.cell h1, k.cell h2, k.cell h3, k.cell h4, k.cell h5, k.cell h6, k.cell h7⟩
theorem CfgAt.mk' (w : World) (c : Cfg) : CfgAt (w.alloc (.cells #[.int .i64 c.qmin, .int .i64 c.qmax, .int .i64 c.reach, .int .i64 c.cut, .int .i64 c.gop, .int .i64 c.rate, .int .i64 c.room, .int .i64 c.fill] 23)) w.heap.size c := by
  refine ⟨?_, ?_, ?_, ?_, ?_, ?_, ?_, ?_⟩ <;> simp
end Go.Proofs.YtckhilnjkckabaaDoor
