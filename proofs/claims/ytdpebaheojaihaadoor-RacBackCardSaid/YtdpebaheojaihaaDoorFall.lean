/- What a call answers beside its value: nothing, or a code behind a path; the program's error and the document's, held against one another. -/
import Derived.Test.YtdpebaheojaihaaDoorSame
import Derived.Test.YtdpebaheojaihaaDoorInts
namespace Go.Proofs.YtdpebaheojaihaaDoor
set_option linter.unusedVariables false
set_option linter.unusedSimpArgs false
open Go.RowKit Go.Extern.Stop Go.Stop Go.Extern

/-- none, or a path and a code -/
abbrev Fall := Option (List (ByteArray × Int) × Int)
def Fall.okay : Fall → Prop
  | none => True
  | some (p, c) => c ≠ 0 ∧ p.length ≤ 1000000
def ErrIs (w : World) (f : Fall) (x : Value) : Prop := match f with
  | none => x = .nilIface
  | some (p, c) => IsErr w p c x ∧ c ≠ 0 ∧ p.length ≤ 1000000
def RErrIs (w : World) (f : Fall) (c : Int) (v : Value) : Prop := match f with
  | none => c = 0 ∧ v = .slice none 0 0
  | some (p, k) => c = k ∧ k ≠ 0 ∧ Row w v p.length (stepCells p)
theorem ErrIs.ext {w w' : World} {f : Fall} {x : Value} (h : ErrIs w f x) (k : Ext w w') : ErrIs w' f x := by
  cases f with
  | none => exact h
  | some a => exact ⟨h.1.ext k, h.2⟩
theorem RErrIs.ext {w w' : World} {f : Fall} {c : Int} {x : Value} (h : RErrIs w f c x) (k : Ext w w') : RErrIs w' f c x := by
  cases f with
  | none => exact h
  | some a => exact ⟨h.1, h.2.1, h.2.2.ext k⟩
theorem ErrIs.code {w : World} {c : Int} (h : c ≠ 0) : ErrIs w (some ([], c)) (.iface 35 (.int .i64 c)) := ⟨rfl, h, by simp⟩
theorem RErrIs.code {w : World} {c : Int} (h : c ≠ 0) : RErrIs w (some ([], c)) c (.slice none 0 0) := ⟨rfl, h, Row.nil w⟩
theorem RErrIs.zero {w : World} : RErrIs w none 0 (.slice none 0 0) := ⟨rfl, rfl⟩
theorem ErrIs.ne {w : World} {a : List (ByteArray × Int) × Int} {x : Value} (h : ErrIs w (some a) x) : ∃ t v, x = .iface t v := h.1.ne_nil

/-- kinsame.Err of two that tell the same -/
theorem same_fall (f : Fall) (x v : Value) (c : Int) (w : World) (hg : EtIs w) (h : ErrIs w f x) (k : RErrIs w f c v) :
    Calls Tryd.prog 14 #[x, .agg #[.int .i64 c, v]] w fun e w' => e = .returned (.bool true) ∧ Ext w w' := by
  cases f with
  | none =>
    obtain rfl := h
    obtain ⟨rfl, rfl⟩ := k
    exact same_nil w hg
  | some a =>
    obtain ⟨p, c'⟩ := a
    obtain ⟨h1, h2, h3⟩ := h
    obtain ⟨rfl, -, k3⟩ := k
    exact same_err p c x v w hg h1 k3 h2 h3

/-- an int and an error; the document's -/
def IPost (w : World) (n : Int) (f : Fall) (e : Ending) (w' : World) : Prop := ∃ x, e = .returned (.tuple #[.int .i64 n, x]) ∧ Ext w w' ∧ ErrIs w' f x
def RIPost (w : World) (n : Int) (f : Fall) (e : Ending) (w' : World) : Prop := ∃ c a m k, e = .returned (.tuple #[.int .i64 n, .agg #[.int .i64 c, .slice a m k]]) ∧ Ext w w' ∧ RErrIs w' f c (.slice a m k)
/-- an error alone -/
def EPost (w : World) (f : Fall) (e : Ending) (w' : World) : Prop := ∃ x, e = .returned x ∧ Ext w w' ∧ ErrIs w' f x
def REPost (w : World) (f : Fall) (e : Ending) (w' : World) : Prop := ∃ c a m k, e = .returned (.agg #[.int .i64 c, .slice a m k]) ∧ Ext w w' ∧ RErrIs w' f c (.slice a m k)
/-- ints and an error -/
def ZPost (w : World) (zs : List Int) (f : Fall) (e : Ending) (w' : World) : Prop := ∃ u x, e = .returned (.tuple #[u, x]) ∧ Ext w w' ∧ Ints w' u zs ∧ ErrIs w' f x
def RZPost (w : World) (zs : List Int) (f : Fall) (e : Ending) (w' : World) : Prop := ∃ u c a m k, e = .returned (.tuple #[u, .agg #[.int .i64 c, .slice a m k]]) ∧ Ext w w' ∧ Ints w' u zs ∧ RErrIs w' f c (.slice a m k)
/-- a variable that holds the document's error -/
theorem evar (w : World) (c : Int) (a : Option Addr) (m k : Nat) {W : World} (h : Ext (w.alloc (.cells #[.int .i64 c, .slice a m k] 38)) W) :
    W.cell? ⟨w.heap.size, 0, none⟩ = some (.int .i64 c) ∧ W.cell? ⟨w.heap.size, 1, none⟩ = some (.slice a m k) := ⟨h.cell (by simp), h.cell (by simp)⟩
end Go.Proofs.YtdpebaheojaihaaDoor
