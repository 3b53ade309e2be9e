/- vbv.May, vbv.Check, vbv.check: contracts over this seat's translation. -/
import Derived.Test.YtbmknmenaaanaaaDoorFail
namespace Go.Proofs.YtbmknmenaaanaaaDoor
set_option linter.unusedVariables false
set_option linter.unusedSimpArgs false
open Go.RowKit Go.Extern.Stop Go.Stop Go.Extern

/-- a configuration -/
structure Cfg where
  qmin : Int
  qmax : Int
  reach : Int
  cut : Int
  gop : Int
  rate : Int
  room : Int
  fill : Int

def Good (c : Cfg) : Prop := 0 ≤ c.qmin ∧ c.qmin ≤ c.qmax ∧ c.qmax ≤ 15 ∧ 0 ≤ c.reach ∧ c.reach ≤ 7 ∧ 0 ≤ c.cut ∧ c.cut ≤ 16320 ∧ 1 ≤ c.gop ∧ c.gop ≤ 16 ∧ 8 ≤ c.rate ∧ c.rate ≤ c.room ∧ c.room ≤ 16384 ∧ 8 ≤ c.fill ∧ c.fill ≤ c.room

theorem not_good {c : Cfg} (h : ¬ Good c) : (c.qmin < 0) ∨ (0 ≤ c.qmin ∧ c.qmax < c.qmin) ∨ (0 ≤ c.qmin ∧ c.qmin ≤ c.qmax ∧ 15 < c.qmax) ∨ (0 ≤ c.qmin ∧ c.qmin ≤ c.qmax ∧ c.qmax ≤ 15 ∧ c.reach < 0) ∨ (0 ≤ c.qmin ∧ c.qmin ≤ c.qmax ∧ c.qmax ≤ 15 ∧ 0 ≤ c.reach ∧ 7 < c.reach) ∨ (0 ≤ c.qmin ∧ c.qmin ≤ c.qmax ∧ c.qmax ≤ 15 ∧ 0 ≤ c.reach ∧ c.reach ≤ 7 ∧ c.cut < 0) ∨ (0 ≤ c.qmin ∧ c.qmin ≤ c.qmax ∧ c.qmax ≤ 15 ∧ 0 ≤ c.reach ∧ c.reach ≤ 7 ∧ 0 ≤ c.cut ∧ 16320 < c.cut) ∨ (0 ≤ c.qmin ∧ c.qmin ≤ c.qmax ∧ c.qmax ≤ 15 ∧ 0 ≤ c.reach ∧ c.reach ≤ 7 ∧ 0 ≤ c.cut ∧ c.cut ≤ 16320 ∧ c.gop < 1) ∨ (0 ≤ c.qmin ∧ c.qmin ≤ c.qmax ∧ c.qmax ≤ 15 ∧ 0 ≤ c.reach ∧ c.reach ≤ 7 ∧ 0 ≤ c.cut ∧ c.cut ≤ 16320 ∧ 1 ≤ c.gop ∧ 16 < c.gop) ∨ (0 ≤ c.qmin ∧ c.qmin ≤ c.qmax ∧ c.qmax ≤ 15 ∧ 0 ≤ c.reach ∧ c.reach ≤ 7 ∧ 0 ≤ c.cut ∧ c.cut ≤ 16320 ∧ 1 ≤ c.gop ∧ c.gop ≤ 16 ∧ c.rate < 8) ∨ (0 ≤ c.qmin ∧ c.qmin ≤ c.qmax ∧ c.qmax ≤ 15 ∧ 0 ≤ c.reach ∧ c.reach ≤ 7 ∧ 0 ≤ c.cut ∧ c.cut ≤ 16320 ∧ 1 ≤ c.gop ∧ c.gop ≤ 16 ∧ 8 ≤ c.rate ∧ c.room < c.rate) ∨ (0 ≤ c.qmin ∧ c.qmin ≤ c.qmax ∧ c.qmax ≤ 15 ∧ 0 ≤ c.reach ∧ c.reach ≤ 7 ∧ 0 ≤ c.cut ∧ c.cut ≤ 16320 ∧ 1 ≤ c.gop ∧ c.gop ≤ 16 ∧ 8 ≤ c.rate ∧ c.rate ≤ c.room ∧ 16384 < c.room) ∨ (0 ≤ c.qmin ∧ c.qmin ≤ c.qmax ∧ c.qmax ≤ 15 ∧ 0 ≤ c.reach ∧ c.reach ≤ 7 ∧ 0 ≤ c.cut ∧ c.cut ≤ 16320 ∧ 1 ≤ c.gop ∧ c.gop ≤ 16 ∧ 8 ≤ c.rate ∧ c.rate ≤ c.room ∧ c.room ≤ 16384 ∧ c.fill < 8) ∨ (0 ≤ c.qmin ∧ c.qmin ≤ c.qmax ∧ c.qmax ≤ 15 ∧ 0 ≤ c.reach ∧ c.reach ≤ 7 ∧ 0 ≤ c.cut ∧ c.cut ≤ 16320 ∧ 1 ≤ c.gop ∧ c.gop ≤ 16 ∧ 8 ≤ c.rate ∧ c.rate ≤ c.room ∧ c.room ≤ 16384 ∧ 8 ≤ c.fill ∧ c.room < c.fill) := by
  by_cases a0 : 0 ≤ c.qmin
  rotate_left
  · exact (Or.inl (by omega))
  by_cases a1 : c.qmin ≤ c.qmax
  rotate_left
  · exact (Or.inr (Or.inl ⟨a0, by omega⟩))
  by_cases a2 : c.qmax ≤ 15
  rotate_left
  · exact (Or.inr (Or.inr (Or.inl ⟨a0, a1, by omega⟩)))
  by_cases a3 : 0 ≤ c.reach
  rotate_left
  · exact (Or.inr (Or.inr (Or.inr (Or.inl ⟨a0, a1, a2, by omega⟩))))
  by_cases a4 : c.reach ≤ 7
  rotate_left
  · exact (Or.inr (Or.inr (Or.inr (Or.inr (Or.inl ⟨a0, a1, a2, a3, by omega⟩)))))
  by_cases a5 : 0 ≤ c.cut
  rotate_left
  · exact (Or.inr (Or.inr (Or.inr (Or.inr (Or.inr (Or.inl ⟨a0, a1, a2, a3, a4, by omega⟩))))))
  by_cases a6 : c.cut ≤ 16320
  rotate_left
  · exact (Or.inr (Or.inr (Or.inr (Or.inr (Or.inr (Or.inr (Or.inl ⟨a0, a1, a2, a3, a4, a5, by omega⟩)))))))
  by_cases a7 : 1 ≤ c.gop
  rotate_left
  · exact (Or.inr (Or.inr (Or.inr (Or.inr (Or.inr (Or.inr (Or.inr (Or.inl ⟨a0, a1, a2, a3, a4, a5, a6, by omega⟩))))))))
  by_cases a8 : c.gop ≤ 16
  rotate_left
  · exact (Or.inr (Or.inr (Or.inr (Or.inr (Or.inr (Or.inr (Or.inr (Or.inr (Or.inl ⟨a0, a1, a2, a3, a4, a5, a6, a7, by omega⟩)))))))))
  by_cases a9 : 8 ≤ c.rate
  rotate_left
  · exact (Or.inr (Or.inr (Or.inr (Or.inr (Or.inr (Or.inr (Or.inr (Or.inr (Or.inr (Or.inl ⟨a0, a1, a2, a3, a4, a5, a6, a7, a8, by omega⟩))))))))))
  by_cases a10 : c.rate ≤ c.room
  rotate_left
  · exact (Or.inr (Or.inr (Or.inr (Or.inr (Or.inr (Or.inr (Or.inr (Or.inr (Or.inr (Or.inr (Or.inl ⟨a0, a1, a2, a3, a4, a5, a6, a7, a8, a9, by omega⟩)))))))))))
  by_cases a11 : c.room ≤ 16384
  rotate_left
  · exact (Or.inr (Or.inr (Or.inr (Or.inr (Or.inr (Or.inr (Or.inr (Or.inr (Or.inr (Or.inr (Or.inr (Or.inl ⟨a0, a1, a2, a3, a4, a5, a6, a7, a8, a9, a10, by omega⟩))))))))))))
  by_cases a12 : 8 ≤ c.fill
  rotate_left
  · exact (Or.inr (Or.inr (Or.inr (Or.inr (Or.inr (Or.inr (Or.inr (Or.inr (Or.inr (Or.inr (Or.inr (Or.inr (Or.inl ⟨a0, a1, a2, a3, a4, a5, a6, a7, a8, a9, a10, a11, by omega⟩)))))))))))))
  by_cases a13 : c.fill ≤ c.room
  rotate_left
  · exact (Or.inr (Or.inr (Or.inr (Or.inr (Or.inr (Or.inr (Or.inr (Or.inr (Or.inr (Or.inr (Or.inr (Or.inr (Or.inr ⟨a0, a1, a2, a3, a4, a5, a6, a7, a8, a9, a10, a11, a12, by omega⟩)))))))))))))
  exact absurd ⟨a0, a1, a2, a3, a4, a5, a6, a7, a8, a9, a10, a11, a12, a13⟩ h

set_option maxRecDepth 20000 in
set_option maxHeartbeats 1000000 in
theorem may_yes (c : Cfg) (w : World) (h : Good c) :
    Calls Tryd.prog 55 #[.agg #[.int .i64 c.qmin, .int .i64 c.qmax, .int .i64 c.reach, .int .i64 c.cut, .int .i64 c.gop, .int .i64 c.rate, .int .i64 c.room, .int .i64 c.fill]] w fun e w' => e = .returned (.bool true) ∧ Ext w w' := by
  obtain ⟨h1, h2, h3, h4, h5, h6, h7, h8, h9, h10, h11, h12, h13, h14⟩ := h
  have E1 : Ext w (w.alloc (.cells #[.int .i64 c.qmin, .int .i64 c.qmax, .int .i64 c.reach, .int .i64 c.cut, .int .i64 c.gop, .int .i64 c.rate, .int .i64 c.room, .int .i64 c.fill] 44)) := (Ext.refl w).alloc _
  go_enter Tryd.func55, Tryd.ntmps55
  go_wp2
  go_ret
  exact ⟨rfl, E1⟩
end Go.Proofs.YtbmknmenaaanaaaDoor
