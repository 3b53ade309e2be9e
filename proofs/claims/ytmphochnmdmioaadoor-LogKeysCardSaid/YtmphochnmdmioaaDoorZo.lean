/- Contracts of this seat: Vbv, VbvNo, VbvCheck, RefMay, RefMayNo, LgY, LgZ, OpCf. -/
import Derived.Test.YtmphochnmdmioaaDoorZb
import Derived.Test.YtmphochnmdmioaaDoorZn
import Derived.Test.YtmphochnmdmioaaDoorZc
/- vbv.May, vbv.Check, vbv.check: contracts over this seat's translation. -/
namespace Go.Proofs.YtmphochnmdmioaaDoor
set_option linter.unusedVariables false
set_option linter.unusedSimpArgs false
open Go.RowKit Go.Extern.Stop Go.Stop Go.Extern

/-- a configuration -/
structure Cfg where
  qmin : Int
  qmax : Int
  reach : Int
  cut : Int
  gop : Int
  rate : Int
  room : Int
  fill : Int

def Good (c : Cfg) : Prop := 0 ≤ c.qmin ∧ c.qmin ≤ c.qmax ∧ c.qmax ≤ 15 ∧ 0 ≤ c.reach ∧ c.reach ≤ 7 ∧ 0 ≤ c.cut ∧ c.cut ≤ 16320 ∧ 1 ≤ c.gop ∧ c.gop ≤ 16 ∧ 8 ≤ c.rate ∧ c.rate ≤ c.room ∧ c.room ≤ 16384 ∧ 8 ≤ c.fill ∧ c.fill ≤ c.room

theorem not_good {c : Cfg} (h : ¬ Good c) : (c.qmin < 0) ∨ (0 ≤ c.qmin ∧ c.qmax < c.qmin) ∨ (0 ≤ c.qmin ∧ c.qmin ≤ c.qmax ∧ 15 < c.qmax) ∨ (0 ≤ c.qmin ∧ c.qmin ≤ c.qmax ∧ c.qmax ≤ 15 ∧ c.reach < 0) ∨ (0 ≤ c.qmin ∧ c.qmin ≤ c.qmax ∧ c.qmax ≤ 15 ∧ 0 ≤ c.reach ∧ 7 < c.reach) ∨ (0 ≤ c.qmin ∧ c.qmin ≤ c.qmax ∧ c.qmax ≤ 15 ∧ 0 ≤ c.reach ∧ c.reach ≤ 7 ∧ c.cut < 0) ∨ (0 ≤ c.qmin ∧ c.qmin ≤ c.qmax ∧ c.qmax ≤ 15 ∧ 0 ≤ c.reach ∧ c.reach ≤ 7 ∧ 0 ≤ c.cut ∧ 16320 < c.cut) ∨ (0 ≤ c.qmin ∧ c.qmin ≤ c.qmax ∧ c.qmax ≤ 15 ∧ 0 ≤ c.reach ∧ c.reach ≤ 7 ∧ 0 ≤ c.cut ∧ c.cut ≤ 16320 ∧ c.gop < 1) ∨ (0 ≤ c.qmin ∧ c.qmin ≤ c.qmax ∧ c.qmax ≤ 15 ∧ 0 ≤ c.reach ∧ c.reach ≤ 7 ∧ 0 ≤ c.cut ∧ c.cut ≤ 16320 ∧ 1 ≤ c.gop ∧ 16 < c.gop) ∨ (0 ≤ c.qmin ∧ c.qmin ≤ c.qmax ∧ c.qmax ≤ 15 ∧ 0 ≤ c.reach ∧ c.reach ≤ 7 ∧ 0 ≤ c.cut ∧ c.cut ≤ 16320 ∧ 1 ≤ c.gop ∧ c.gop ≤ 16 ∧ c.rate < 8) ∨ (0 ≤ c.qmin ∧ c.qmin ≤ c.qmax ∧ c.qmax ≤ 15 ∧ 0 ≤ c.reach ∧ c.reach ≤ 7 ∧ 0 ≤ c.cut ∧ c.cut ≤ 16320 ∧ 1 ≤ c.gop ∧ c.gop ≤ 16 ∧ 8 ≤ c.rate ∧ c.room < c.rate) ∨ (0 ≤ c.qmin ∧ c.qmin ≤ c.qmax ∧ c.qmax ≤ 15 ∧ 0 ≤ c.reach ∧ c.reach ≤ 7 ∧ 0 ≤ c.cut ∧ c.cut ≤ 16320 ∧ 1 ≤ c.gop ∧ c.gop ≤ 16 ∧ 8 ≤ c.rate ∧ c.rate ≤ c.room ∧ 16384 < c.room) ∨ (0 ≤ c.qmin ∧ c.qmin ≤ c.qmax ∧ c.qmax ≤ 15 ∧ 0 ≤ c.reach ∧ c.reach ≤ 7 ∧ 0 ≤ c.cut ∧ c.cut ≤ 16320 ∧ 1 ≤ c.gop ∧ c.gop ≤ 16 ∧ 8 ≤ c.rate ∧ c.rate ≤ c.room ∧ c.room ≤ 16384 ∧ c.fill < 8) ∨ (0 ≤ c.qmin ∧ c.qmin ≤ c.qmax ∧ c.qmax ≤ 15 ∧ 0 ≤ c.reach ∧ c.reach ≤ 7 ∧ 0 ≤ c.cut ∧ c.cut ≤ 16320 ∧ 1 ≤ c.gop ∧ c.gop ≤ 16 ∧ 8 ≤ c.rate ∧ c.rate ≤ c.room ∧ c.room ≤ 16384 ∧ 8 ≤ c.fill ∧ c.room < c.fill) := by
  by_cases a0 : 0 ≤ c.qmin
  rotate_left
  · exact (Or.inl (by omega))
  by_cases a1 : c.qmin ≤ c.qmax
  rotate_left
  · exact (Or.inr (Or.inl ⟨a0, by omega⟩))
  by_cases a2 : c.qmax ≤ 15
  rotate_left
  · exact (Or.inr (Or.inr (Or.inl ⟨a0, a1, by omega⟩)))
  by_cases a3 : 0 ≤ c.reach
  rotate_left
  · exact (Or.inr (Or.inr (Or.inr (Or.inl ⟨a0, a1, a2, by omega⟩))))
  by_cases a4 : c.reach ≤ 7
  rotate_left
  · exact (Or.inr (Or.inr (Or.inr (Or.inr (Or.inl ⟨a0, a1, a2, a3, by omega⟩)))))
  by_cases a5 : 0 ≤ c.cut
  rotate_left
  · exact (Or.inr (Or.inr (Or.inr (Or.inr (Or.inr (Or.inl ⟨a0, a1, a2, a3, a4, by omega⟩))))))
  by_cases a6 : c.cut ≤ 16320
  rotate_left
  · exact (Or.inr (Or.inr (Or.inr (Or.inr (Or.inr (Or.inr (Or.inl ⟨a0, a1, a2, a3, a4, a5, by omega⟩)))))))
  by_cases a7 : 1 ≤ c.gop
  rotate_left
  · exact (Or.inr (Or.inr (Or.inr (Or.inr (Or.inr (Or.inr (Or.inr (Or.inl ⟨a0, a1, a2, a3, a4, a5, a6, by omega⟩))))))))
  by_cases a8 : c.gop ≤ 16
  rotate_left
  · exact (Or.inr (Or.inr (Or.inr (Or.inr (Or.inr (Or.inr (Or.inr (Or.inr (Or.inl ⟨a0, a1, a2, a3, a4, a5, a6, a7, by omega⟩)))))))))
  by_cases a9 : 8 ≤ c.rate
  rotate_left
  · exact (Or.inr (Or.inr (Or.inr (Or.inr (Or.inr (Or.inr (Or.inr (Or.inr (Or.inr (Or.inl ⟨a0, a1, a2, a3, a4, a5, a6, a7, a8, by omega⟩))))))))))
  by_cases a10 : c.rate ≤ c.room
  rotate_left
  · exact (Or.inr (Or.inr (Or.inr (Or.inr (Or.inr (Or.inr (Or.inr (Or.inr (Or.inr (Or.inr (Or.inl ⟨a0, a1, a2, a3, a4, a5, a6, a7, a8, a9, by omega⟩)))))))))))
  by_cases a11 : c.room ≤ 16384
  rotate_left
  · exact (Or.inr (Or.inr (Or.inr (Or.inr (Or.inr (Or.inr (Or.inr (Or.inr (Or.inr (Or.inr (Or.inr (Or.inl ⟨a0, a1, a2, a3, a4, a5, a6, a7, a8, a9, a10, by omega⟩))))))))))))
  by_cases a12 : 8 ≤ c.fill
  rotate_left
  · exact (Or.inr (Or.inr (Or.inr (Or.inr (Or.inr (Or.inr (Or.inr (Or.inr (Or.inr (Or.inr (Or.inr (Or.inr (Or.inl ⟨a0, a1, a2, a3, a4, a5, a6, a7, a8, a9, a10, a11, by omega⟩)))))))))))))
  by_cases a13 : c.fill ≤ c.room
  rotate_left
  · exact (Or.inr (Or.inr (Or.inr (Or.inr (Or.inr (Or.inr (Or.inr (Or.inr (Or.inr (Or.inr (Or.inr (Or.inr (Or.inr ⟨a0, a1, a2, a3, a4, a5, a6, a7, a8, a9, a10, a11, a12, by omega⟩)))))))))))))
  exact absurd ⟨a0, a1, a2, a3, a4, a5, a6, a7, a8, a9, a10, a11, a12, a13⟩ h

set_option maxRecDepth 20000 in
set_option maxHeartbeats 1000000 in
theorem may_yes (c : Cfg) (w : World) (h : Good c) :
    Calls Tryd.prog 54 #[.agg #[.int .i64 c.qmin, .int .i64 c.qmax, .int .i64 c.reach, .int .i64 c.cut, .int .i64 c.gop, .int .i64 c.rate, .int .i64 c.room, .int .i64 c.fill]] w fun e w' => e = .returned (.bool true) ∧ Ext w w' := by
  obtain ⟨h1, h2, h3, h4, h5, h6, h7, h8, h9, h10, h11, h12, h13, h14⟩ := h
  have E1 : Ext w (w.alloc (.cells #[.int .i64 c.qmin, .int .i64 c.qmax, .int .i64 c.reach, .int .i64 c.cut, .int .i64 c.gop, .int .i64 c.rate, .int .i64 c.room, .int .i64 c.fill] 58)) := (Ext.refl w).alloc _
  go_enter Tryd.func54, Tryd.ntmps54
  go_wp2
  go_ret
  exact ⟨rfl, E1⟩
end Go.Proofs.YtmphochnmdmioaaDoor

/- vbv.May of a configuration that may not be: its contract over this seat's translation. -/
namespace Go.Proofs.YtmphochnmdmioaaDoor
set_option linter.unusedVariables false
set_option linter.unusedSimpArgs false
open Go.RowKit Go.Extern.Stop Go.Stop Go.Extern

set_option maxRecDepth 20000 in
set_option maxHeartbeats 8000000 in
theorem may_no (c : Cfg) (w : World) (h : ¬ Good c) :
    Calls Tryd.prog 54 #[.agg #[.int .i64 c.qmin, .int .i64 c.qmax, .int .i64 c.reach, .int .i64 c.cut, .int .i64 c.gop, .int .i64 c.rate, .int .i64 c.room, .int .i64 c.fill]] w fun e w' => e = .returned (.bool false) ∧ Ext w w' := by
  have E1 : Ext w (w.alloc (.cells #[.int .i64 c.qmin, .int .i64 c.qmax, .int .i64 c.reach, .int .i64 c.cut, .int .i64 c.gop, .int .i64 c.rate, .int .i64 c.room, .int .i64 c.fill] 58)) := (Ext.refl w).alloc _
  rcases not_good h with h0 | ⟨h0, h1⟩ | ⟨h0, h1, h2⟩ | ⟨h0, h1, h2, h3⟩ | ⟨h0, h1, h2, h3, h4⟩ | ⟨h0, h1, h2, h3, h4, h5⟩ | ⟨h0, h1, h2, h3, h4, h5, h6⟩ | ⟨h0, h1, h2, h3, h4, h5, h6, h7⟩ | ⟨h0, h1, h2, h3, h4, h5, h6, h7, h8⟩ | ⟨h0, h1, h2, h3, h4, h5, h6, h7, h8, h9⟩ | ⟨h0, h1, h2, h3, h4, h5, h6, h7, h8, h9, h10⟩ | ⟨h0, h1, h2, h3, h4, h5, h6, h7, h8, h9, h10, h11⟩ | ⟨h0, h1, h2, h3, h4, h5, h6, h7, h8, h9, h10, h11, h12⟩ | ⟨h0, h1, h2, h3, h4, h5, h6, h7, h8, h9, h10, h11, h12, h13⟩
  all_goals
    clear h
    go_enter Tryd.func54, Tryd.ntmps54
    go_wp2
    go_ret
    exact ⟨by first | rfl | (simp; omega), E1⟩

end Go.Proofs.YtmphochnmdmioaaDoor

/- vbv.Check and vbv.check: contracts over this seat's translation. -/
namespace Go.Proofs.YtmphochnmdmioaaDoor
set_option linter.unusedVariables false
set_option linter.unusedSimpArgs false
open Go.RowKit Go.Extern.Stop Go.Stop Go.Extern

theorem Check_yes (c : Cfg) (w : World) (h : Good c) :
    Calls Tryd.prog 42 #[.agg #[.int .i64 c.qmin, .int .i64 c.qmax, .int .i64 c.reach, .int .i64 c.cut, .int .i64 c.gop, .int .i64 c.rate, .int .i64 c.room, .int .i64 c.fill]] w fun e w' => e = .returned .nilIface ∧ Ext w w' := by
  have E1 : Ext w (w.alloc (.cells #[.int .i64 c.qmin, .int .i64 c.qmax, .int .i64 c.reach, .int .i64 c.cut, .int .i64 c.gop, .int .i64 c.rate, .int .i64 c.room, .int .i64 c.fill] 58)) := (Ext.refl w).alloc _
  have H := Lib.hid h
  clear h
  go_enter Tryd.func42, Tryd.ntmps42
  go_wp2_with (go_at_call 54; refine (may_yes c _ H.out).mono ?_; rintro e w' ⟨rfl, hx⟩)
  go_ret
  exact ⟨rfl, E1.trans hx⟩
theorem Check_no (c : Cfg) (w : World) (h : ¬ Good c) :
    Calls Tryd.prog 42 #[.agg #[.int .i64 c.qmin, .int .i64 c.qmax, .int .i64 c.reach, .int .i64 c.cut, .int .i64 c.gop, .int .i64 c.rate, .int .i64 c.room, .int .i64 c.fill]] w fun e w' => e = .returned (.iface 22 (.int .i64 11)) ∧ Ext w w' := by
  have E1 : Ext w (w.alloc (.cells #[.int .i64 c.qmin, .int .i64 c.qmax, .int .i64 c.reach, .int .i64 c.cut, .int .i64 c.gop, .int .i64 c.rate, .int .i64 c.room, .int .i64 c.fill] 58)) := (Ext.refl w).alloc _
  have H := Lib.hid h
  clear h
  go_enter Tryd.func42, Tryd.ntmps42
  go_wp2_with (go_at_call 54; refine (may_no c _ H.out).mono ?_; rintro e w' ⟨rfl, hx⟩)
  go_ret
  exact ⟨rfl, E1.trans hx⟩

/-- sizes that may be -/
def Sizes (zs : List Int) : Prop := zs.length ≤ 4096 ∧ within 0 1073741824 zs

end Go.Proofs.YtmphochnmdmioaaDoor

/- kinref18.May: its contract over this seat's translation. -/
namespace Go.Proofs.YtmphochnmdmioaaDoor
set_option linter.unusedVariables false
set_option linter.unusedSimpArgs false
open Go.RowKit Go.Extern.Stop Go.Stop Go.Extern

set_option maxRecDepth 20000 in
set_option maxHeartbeats 1000000 in
theorem rmay_yes (c : Cfg) (w : World) (h : Good c) :
    Calls Tryd.prog 45 #[.agg #[.int .i64 c.qmin, .int .i64 c.qmax, .int .i64 c.reach, .int .i64 c.cut, .int .i64 c.gop, .int .i64 c.rate, .int .i64 c.room, .int .i64 c.fill]] w fun e w' => e = .returned (.bool true) ∧ Ext w w' := by
  obtain ⟨h1, h2, h3, h4, h5, h6, h7, h8, h9, h10, h11, h12, h13, h14⟩ := h
  have E1 : Ext w (w.alloc (.cells #[.int .i64 c.qmin, .int .i64 c.qmax, .int .i64 c.reach, .int .i64 c.cut, .int .i64 c.gop, .int .i64 c.rate, .int .i64 c.room, .int .i64 c.fill] 58)) := (Ext.refl w).alloc _
  go_enter Tryd.func45, Tryd.ntmps45
  go_wp2
  go_ret
  exact ⟨rfl, E1⟩
end Go.Proofs.YtmphochnmdmioaaDoor

/- kinref18.May of a configuration that may not be: its contract over this seat's translation. -/
namespace Go.Proofs.YtmphochnmdmioaaDoor
set_option linter.unusedVariables false
set_option linter.unusedSimpArgs false
open Go.RowKit Go.Extern.Stop Go.Stop Go.Extern

set_option maxRecDepth 20000 in
set_option maxHeartbeats 8000000 in
theorem rmay_no (c : Cfg) (w : World) (h : ¬ Good c) :
    Calls Tryd.prog 45 #[.agg #[.int .i64 c.qmin, .int .i64 c.qmax, .int .i64 c.reach, .int .i64 c.cut, .int .i64 c.gop, .int .i64 c.rate, .int .i64 c.room, .int .i64 c.fill]] w fun e w' => e = .returned (.bool false) ∧ Ext w w' := by
  have E1 : Ext w (w.alloc (.cells #[.int .i64 c.qmin, .int .i64 c.qmax, .int .i64 c.reach, .int .i64 c.cut, .int .i64 c.gop, .int .i64 c.rate, .int .i64 c.room, .int .i64 c.fill] 58)) := (Ext.refl w).alloc _
  rcases not_good h with h0 | ⟨h0, h1⟩ | ⟨h0, h1, h2⟩ | ⟨h0, h1, h2, h3⟩ | ⟨h0, h1, h2, h3, h4⟩ | ⟨h0, h1, h2, h3, h4, h5⟩ | ⟨h0, h1, h2, h3, h4, h5, h6⟩ | ⟨h0, h1, h2, h3, h4, h5, h6, h7⟩ | ⟨h0, h1, h2, h3, h4, h5, h6, h7, h8⟩ | ⟨h0, h1, h2, h3, h4, h5, h6, h7, h8, h9⟩ | ⟨h0, h1, h2, h3, h4, h5, h6, h7, h8, h9, h10⟩ | ⟨h0, h1, h2, h3, h4, h5, h6, h7, h8, h9, h10, h11⟩ | ⟨h0, h1, h2, h3, h4, h5, h6, h7, h8, h9, h10, h11, h12⟩ | ⟨h0, h1, h2, h3, h4, h5, h6, h7, h8, h9, h10, h11, h12, h13⟩
  all_goals
    clear h
    go_enter Tryd.func45, Tryd.ntmps45
    go_wp2
    go_ret
    exact ⟨by first | rfl | (simp; omega), E1⟩

end Go.Proofs.YtmphochnmdmioaaDoor

/- log.Key, kinref26.Key: the sum by which a job knows its configuration and its source. -/
namespace Go.Proofs.YtmphochnmdmioaaDoor
set_option linter.unusedVariables false
set_option linter.unusedSimpArgs false
open Go.RowKit Go.Extern.Stop Go.Stop Go.Extern

/-- a config's bytes -/
def kyB (q p r u g ra ro fi : Nat) : List Nat := (([q, p, r, g, u / 256, u % 256] ++ be4 ra) ++ be4 ro) ++ be4 fi
theorem be4_ltk {s : Nat} (h : s ≤ 16384) : ∀ x ∈ be4 s, x < 256 := by
  intro x hx
  simp [be4] at hx
  omega
theorem be4_lenk (s : Nat) : (be4 s).length = 4 := rfl
theorem kyB_len (q p r u g ra ro fi : Nat) : (kyB q p r u g ra ro fi).length = 18 := rfl
theorem kyB_lt {q p r u g ra ro fi : Nat} (h : Good ⟨q, p, r, u, g, ra, ro, fi⟩) : ∀ x ∈ kyB q p r u g ra ro fi, x < 256 := by
  obtain ⟨h0, h1, h2, h3, h4, h5, h6, h7, h8, h9, h10, h11, h12, h13⟩ := h
  simp only at h0 h1 h2 h3 h4 h5 h6 h7 h8 h9 h10 h11 h12 h13
  intro x hx
  unfold kyB at hx
  rcases List.mem_append.1 hx with hx | hx
  · rcases List.mem_append.1 hx with hx | hx
    · rcases List.mem_append.1 hx with hx | hx
      · simp at hx
        omega
      · exact be4_ltk (by omega) x hx
    · exact be4_ltk (by omega) x hx
  · exact be4_ltk (by omega) x hx
set_option maxHeartbeats 8000000 in
set_option maxRecDepth 20000 in
theorem key_yes (q p r u g ra ro fi : Nat) (bs : List Nat) (v : Value) (w : World) (hg : Good ⟨q, p, r, u, g, ra, ro, fi⟩) (hn : NbIs w) (hb : Bys w v bs) (hp : Plain v) (hl : bs.length ≤ 20000) :
    Calls Tryd.prog 23 #[.agg #[.int .i64 (q : Int), .int .i64 (p : Int), .int .i64 (r : Int), .int .i64 (u : Int), .int .i64 (g : Int), .int .i64 (ra : Int), .int .i64 (ro : Int), .int .i64 (fi : Int)], v] w
      fun e w' => e = .returned (.tuple #[.int .i64 (crc (kyB q p r u g ra ro fi ++ bs) : Int), .nilIface]) ∧ Ext w w' := by
  obtain ⟨va, vc, rfl⟩ := hb.form
  obtain ⟨n, hnn⟩ : ∃ n, bs.length = n := ⟨_, rfl⟩
  rw [hnn] at hb hp hl ⊢
  have HNN := Lib.hid hnn
  have HG := Lib.hid hg
  have HLT := Lib.hid (kyB_lt hg)
  obtain ⟨h0, h1, h2, h3, h4, h5, h6, h7, h8, h9, h10, h11, h12, h13⟩ := hg
  simp only at h0 h1 h2 h3 h4 h5 h6 h7 h8 h9 h10 h11 h12 h13
  obtain ⟨t1, e1⟩ : ∃ t, u / 256 = t := ⟨_, rfl⟩
  obtain ⟨t2, e2⟩ : ∃ t, u % 256 = t := ⟨_, rfl⟩
  have HK : Hid (kyB q p r u g ra ro fi = (([q, p, r, g, t1, t2] ++ be4 ra) ++ be4 ro) ++ be4 fi) := by show _ = _; unfold kyB; rw [e1, e2]
  have a1 : IntKind.u8.wrap (q : Int) = (q : Int) := by rw [IntKind.wrap_u8]; omega
  have a2 : IntKind.u8.wrap (p : Int) = (p : Int) := by rw [IntKind.wrap_u8]; omega
  have a3 : IntKind.u8.wrap (r : Int) = (r : Int) := by rw [IntKind.wrap_u8]; omega
  have a4 : IntKind.u8.wrap (g : Int) = (g : Int) := by rw [IntKind.wrap_u8]; omega
  have a5 : (u : Int) / 256 = (t1 : Int) := by omega
  have a6 : IntKind.i64.wrap (t1 : Int) = (t1 : Int) := by rw [IntKind.wrap_i64]; omega
  have a7 : IntKind.u8.wrap (t1 : Int) = (t1 : Int) := by rw [IntKind.wrap_u8]; omega
  have a8 : IntKind.u8.wrap (u : Int) = (t2 : Int) := by rw [IntKind.wrap_u8]; omega
  have hra : ra ≤ 4294967295 := by omega
  have hro : ro ≤ 4294967295 := by omega
  have hfi : fi ≤ 4294967295 := by omega
  have HE := Lib.hid ((Ext.refl w).alloc (.cells #[.int .i64 (q : Int), .int .i64 (p : Int), .int .i64 (r : Int), .int .i64 (u : Int), .int .i64 (g : Int), .int .i64 (ra : Int), .int .i64 (ro : Int), .int .i64 (fi : Int)] 58))
  have HC := Lib.hid (BoxIs.new w #[.int .i64 (q : Int), .int .i64 (p : Int), .int .i64 (r : Int), .int .i64 (u : Int), .int .i64 (g : Int), .int .i64 (ra : Int), .int .i64 (ro : Int), .int .i64 (fi : Int)] 58)
  have HN := Lib.hid hn
  have HB := Lib.hid hb
  have HP := Lib.hid hp
  clear hnn e1 e2 h0 h1 h2 h3 h4 h5 h6 h7 h8 h9 h10 h11 h12 h13 hn hb hp
  go_enter Tryd.func23, Tryd.ntmps23
  go_wp2_with fail
  refine (Check_yes ⟨q, p, r, u, g, ra, ro, fi⟩ _ HG.out).mono ?_; rintro e w1 ⟨rfl, hx1⟩
  have HE1 := Lib.hid (HE.out.trans hx1)
  have c0 := (HC.out.ext hx1).cell (i := 0) rfl
  have c1 := (HC.out.ext hx1).cell (i := 1) rfl
  have c2 := (HC.out.ext hx1).cell (i := 2) rfl
  have c3 := (HC.out.ext hx1).cell (i := 3) rfl
  have c4 := (HC.out.ext hx1).cell (i := 4) rfl
  have HC1 := (HC.out.ext hx1).ext ((Ext.refl w1).alloc (.cells #[.int .u8 (q : Int), .int .u8 (p : Int), .int .u8 (r : Int), .int .u8 (g : Int), .int .u8 (t1 : Int), .int .u8 (t2 : Int)] 5))
  have c5 := HC1.cell (i := 5) rfl
  have c6 := HC1.cell (i := 6) rfl
  have c7 := HC1.cell (i := 7) rfl
  clear hx1 HE HC HC1
  go_wp2_with fail
  have HO0 : Hid (((w1.alloc (.cells #[.int .u8 (q : Int), .int .u8 (p : Int), .int .u8 (r : Int), .int .u8 (g : Int), .int .u8 (t1 : Int), .int .u8 (t2 : Int)] 5)).alloc (.cells #[.int .i64 (ra : Int), .int .i64 (ro : Int), .int .i64 (fi : Int)] 3)).ownsRow w1.heap.size 5 1 (.slice (some ⟨w1.heap.size, 0, none⟩) 6 6) 6 (byC [q, p, r, g, t1, t2])) := (show World.ownsRow _ _ _ _ _ _ _ from ⟨rfl, .inr ⟨w1.heap.size, 6, _, rfl, Nat.le_refl _, heap_alloc_new w1 _, by decide, by decide, by simp, by simp [byC]⟩⟩ : World.ownsRow _ _ _ _ _ _ _).alloc _
  have HI0 : Hid (((w1.alloc (.cells #[.int .u8 (q : Int), .int .u8 (p : Int), .int .u8 (r : Int), .int .u8 (g : Int), .int .u8 (t1 : Int), .int .u8 (t2 : Int)] 5)).alloc (.cells #[.int .i64 (ra : Int), .int .i64 (ro : Int), .int .i64 (fi : Int)] 3)).ownsRow w1.heap.size 3 1 (.slice (some ⟨w1.heap.size + 1, 0, none⟩) 3 3) 3 [.int .i64 (ra : Int), .int .i64 (ro : Int), .int .i64 (fi : Int)]) := ⟨rfl, .inr ⟨w1.heap.size + 1, 3, _, rfl, Nat.le_succ _, BoxIs.newAt _ (w1.heap.size + 1) (by simp) _ _, by decide, by decide, by simp, by simp⟩⟩
  have HE2 : Hid (Ext w1 ((w1.alloc (.cells #[.int .u8 (q : Int), .int .u8 (p : Int), .int .u8 (r : Int), .int .u8 (g : Int), .int .u8 (t1 : Int), .int .u8 (t2 : Int)] 5)).alloc (.cells #[.int .i64 (ra : Int), .int .i64 (ro : Int), .int .i64 (fi : Int)] 3))) := ((Ext.refl w1).alloc _).alloc _
  clear c0 c1 c2 c3 c4 c5 c6 c7
  revert HO0 HI0 HE2
  generalize World.alloc (World.alloc w1 _) _ = w2
  intro HO0 HI0 HE2
  have hB2 := HE2.out.size
  generalize w1.heap.size + 1 = b1 at *
  have r0 := (Row.of_owns HI0.out).at (j := 0) rfl
  refine wp_loop_rounds 4 ?_
  rw [rounds_succ]
  go_wp2_with fail
  refine (four_any _ 6 _ ra w1.heap.size _ HO0.out hB2 (by decide) hra).mono ?_; rintro e w3 ⟨g3, k3, rfl, z1, z2⟩
  have HI1 := Lib.hid (own_otherL HI0.out HO0.out (by decide) z2)
  have HE3 := Lib.hid (own_grow HO0.out z2 HE2.out (Nat.le_refl _))
  have HO1 := Lib.hid z1
  have hB3 := HE3.out.size
  have r1 := (Row.of_owns HI1.out).at (j := 1) rfl
  clear z1 z2 r0 HO0 HI0 HE2 hB2
  go_wp2_with fail
  rw [rounds_succ]
  go_wp2_with fail
  refine (four_any _ 10 _ ro w1.heap.size _ HO1.out hB3 (by decide) hro).mono ?_; rintro e w4 ⟨g4, k4, rfl, z1, z2⟩
  have HI2 := Lib.hid (own_otherL HI1.out HO1.out (by decide) z2)
  have HE4 := Lib.hid (own_grow HO1.out z2 HE3.out (Nat.le_refl _))
  have HO2 := Lib.hid z1
  have hB4 := HE4.out.size
  have r2 := (Row.of_owns HI2.out).at (j := 2) rfl
  clear z1 z2 r1 HO1 HI1 HE3 hB3
  go_wp2_with fail
  rw [rounds_succ]
  go_wp2_with fail
  refine (four_any _ 14 _ fi w1.heap.size _ HO2.out hB4 (by decide) hfi).mono ?_; rintro e w5 ⟨g5, k5, rfl, z1, z2⟩
  have HI3 := Lib.hid (own_otherL HI2.out HO2.out (by decide) z2)
  have HE5 := Lib.hid (own_grow HO2.out z2 HE4.out (Nat.le_refl _))
  have HO3 := Lib.hid z1
  have hB5 := HE5.out.size
  clear z1 z2 r2 HO2 HI2 HE4 hB4
  have HO6 : Hid (w5.ownsRow w1.heap.size 5 1 (.slice (some ⟨g5, 0, none⟩) 18 k5) 18 (byC (kyB q p r u g ra ro fi))) := by show World.ownsRow _ _ _ _ _ _ _; rw [HK.out]; exact HO3.out
  have HB5 := Lib.hid (HB.out.ext (HE1.out.trans HE5.out))
  have HRR : Hid (Row w5 (.slice va n vc) n (byC bs)) := by have := HB5.out.1; rw [HNN.out] at this; exact this
  have HN5 := Lib.hid (HN.out.ext (HE1.out.trans HE5.out))
  have HLL : Hid (∀ x ∈ kyB q p r u g ra ro fi ++ bs, x < 256) := fun x hx => by
    rcases List.mem_append.1 hx with hx | hx
    · exact HLT.out x hx
    · exact HB.out.2.1 x hx
  have HCL := crc_lt HLL.out
  clear HO3 HI3 HK
  go_wp2_with fail
  rw [rounds_succ]
  go_wp2_with (at_builtin; refine app_any (base := w1.heap.size) (W := w5) rfl _ _ 25 rfl Tryd.underlying25 (.slice (some ⟨g5, 0, none⟩) 18 k5) 18 (kyB q p r u g ra ro fi) bs (.slice va n vc) (by rfl) HO6.out (by rfl) HB5.out HP.out hB5 (by rw [HNN.out]; omega) ?_; intro v6 w6 z1 z2; have HZ1 := Lib.hid z1; have HZ2 := Lib.hid z2; clear z1 z2)
  have HY6 := Lib.hid (Bys.of_owns HZ1.out HLL.out (by rw [List.length_append, kyB_len, HNN.out]; omega))
  have HE6 := Lib.hid (own_grow HO6.out HZ2.out HE5.out (Nat.le_refl _))
  have HN6 := Lib.hid (HN.out.ext (HE1.out.trans HE6.out))
  have HX6 := Lib.hid (HE1.out.trans HE6.out)
  obtain ⟨c, hc⟩ : ∃ c, crc (kyB q p r u g ra ro fi ++ bs) = c := ⟨_, rfl⟩
  have US := Lib.hid (sum_any _ _ _ HN6.out HY6.out)
  rw [hc] at US HCL
  have HCR := Lib.hid hc
  have m9 : IntKind.i64.wrap (c : Int) = (c : Int) := by rw [IntKind.wrap_i64]; omega
  clear HZ1 HZ2 HY6 HE6 HN6 HN5 HO6 HRR HB5 hc hB5 HE5
  refine US.out.mono ?_; rintro e w7 ⟨rfl, rfl⟩
  go_wp2
  go_ret2
  exact ⟨by rw [HCR.out]; rfl, HX6.out⟩
theorem key_no (c : Cfg) (v : Value) (w : World) (hg : ¬ Good c) :
    Calls Tryd.prog 23 #[.agg #[.int .i64 c.qmin, .int .i64 c.qmax, .int .i64 c.reach, .int .i64 c.cut, .int .i64 c.gop, .int .i64 c.rate, .int .i64 c.room, .int .i64 c.fill], v] w
      fun e w' => e = .returned (.tuple #[.int .i64 0, .iface 22 (.int .i64 11)]) ∧ Ext w w' := by
  have HG := Lib.hid hg
  have HE := Lib.hid ((Ext.refl w).alloc (.cells #[.int .i64 c.qmin, .int .i64 c.qmax, .int .i64 c.reach, .int .i64 c.cut, .int .i64 c.gop, .int .i64 c.rate, .int .i64 c.room, .int .i64 c.fill] 58))
  clear hg
  go_enter Tryd.func23, Tryd.ntmps23
  go_wp2_with fail
  refine (Check_no c _ HG.out).mono ?_; rintro e w1 ⟨rfl, hx1⟩
  have HE1 := Lib.hid (HE.out.trans hx1)
  clear hx1
  go_wp2
  go_ret2
  exact ⟨rfl, HE1.out⟩
set_option maxHeartbeats 8000000 in
set_option maxRecDepth 20000 in
theorem rcfg_any (q p r u g ra ro fi : Nat) (w : World) (hg : Good ⟨q, p, r, u, g, ra, ro, fi⟩) :
    Calls Tryd.prog 47 #[.agg #[.int .i64 (q : Int), .int .i64 (p : Int), .int .i64 (r : Int), .int .i64 (u : Int), .int .i64 (g : Int), .int .i64 (ra : Int), .int .i64 (ro : Int), .int .i64 (fi : Int)]] w
      fun e w' => ∃ v B, e = .returned v ∧ w'.ownsRow B 5 1 v 18 (byC (kyB q p r u g ra ro fi)) ∧ w.heap.size ≤ B ∧ B ≤ w'.heap.size ∧ Ext w w' := by
  obtain ⟨h0, h1, h2, h3, h4, h5, h6, h7, h8, h9, h10, h11, h12, h13⟩ := hg
  simp only at h0 h1 h2 h3 h4 h5 h6 h7 h8 h9 h10 h11 h12 h13
  have HK : Hid (kyB q p r u g ra ro fi = ((([q, p, r, g] ++ dg u 2) ++ dg ra 4) ++ dg ro 4) ++ dg fi 4) := by
    show _ = _
    rw [dg4 (by omega), dg4 (by omega), dg4 (by omega)]
    have : dg u 2 = [u / 256, u % 256] := by
      show ([] ++ [u / 256 % 256]) ++ [u % 256] = _
      rw [Nat.mod_eq_of_lt (show u / 256 < 256 by omega)]
      rfl
    rw [this]
    rfl
  have a1 : IntKind.u8.wrap (q : Int) = (q : Int) := by rw [IntKind.wrap_u8]; omega
  have a2 : IntKind.u8.wrap (p : Int) = (p : Int) := by rw [IntKind.wrap_u8]; omega
  have a3 : IntKind.u8.wrap (r : Int) = (r : Int) := by rw [IntKind.wrap_u8]; omega
  have a4 : IntKind.u8.wrap (g : Int) = (g : Int) := by rw [IntKind.wrap_u8]; omega
  have hu : u ≤ 4294967296 := by omega
  have hra : ra ≤ 4294967296 := by omega
  have hro : ro ≤ 4294967296 := by omega
  have hfi : fi ≤ 4294967296 := by omega
  have HC := Lib.hid (BoxIs.new w #[.int .i64 (q : Int), .int .i64 (p : Int), .int .i64 (r : Int), .int .i64 (u : Int), .int .i64 (g : Int), .int .i64 (ra : Int), .int .i64 (ro : Int), .int .i64 (fi : Int)] 58)
  have HE := Lib.hid ((Ext.refl w).alloc (.cells #[.int .i64 (q : Int), .int .i64 (p : Int), .int .i64 (r : Int), .int .i64 (u : Int), .int .i64 (g : Int), .int .i64 (ra : Int), .int .i64 (ro : Int), .int .i64 (fi : Int)] 58))
  clear h0 h1 h2 h3 h4 h5 h6 h7 h8 h9 h10 h11 h12 h13
  go_enter Tryd.func47, Tryd.ntmps47
  go_wp2_with fail
  have HO0 : Hid (((w.alloc (.cells #[.int .i64 (q : Int), .int .i64 (p : Int), .int .i64 (r : Int), .int .i64 (u : Int), .int .i64 (g : Int), .int .i64 (ra : Int), .int .i64 (ro : Int), .int .i64 (fi : Int)] 58)).alloc (.cells #[.int .u8 (q : Int), .int .u8 (p : Int), .int .u8 (r : Int), .int .u8 (g : Int)] 5)).ownsRow (w.heap.size + 1) 5 1 (.slice (some ⟨w.heap.size + 1, 0, none⟩) 4 4) 4 (byC [q, p, r, g])) := ⟨rfl, .inr ⟨w.heap.size + 1, 4, _, rfl, Nat.le_refl _, BoxIs.newAt _ (w.heap.size + 1) (by simp) _ _, by decide, by decide, by simp, by simp [byC]⟩⟩
  have HE0 : Hid (Ext (w.alloc (.cells #[.int .i64 (q : Int), .int .i64 (p : Int), .int .i64 (r : Int), .int .i64 (u : Int), .int .i64 (g : Int), .int .i64 (ra : Int), .int .i64 (ro : Int), .int .i64 (fi : Int)] 58)) ((w.alloc (.cells #[.int .i64 (q : Int), .int .i64 (p : Int), .int .i64 (r : Int), .int .i64 (u : Int), .int .i64 (g : Int), .int .i64 (ra : Int), .int .i64 (ro : Int), .int .i64 (fi : Int)] 58)).alloc (.cells #[.int .u8 (q : Int), .int .u8 (p : Int), .int .u8 (r : Int), .int .u8 (g : Int)] 5))) := (Ext.refl _).alloc _
  have hB : (w.alloc (.cells #[.int .i64 (q : Int), .int .i64 (p : Int), .int .i64 (r : Int), .int .i64 (u : Int), .int .i64 (g : Int), .int .i64 (ra : Int), .int .i64 (ro : Int), .int .i64 (fi : Int)] 58)).heap.size = w.heap.size + 1 := by simp
  revert HO0 HE0 HC HE hB
  generalize World.alloc (World.alloc w _) _ = w1
  generalize World.alloc w _ = w0
  intro HC HE HO0 HE0 hB
  obtain ⟨B, hBB⟩ : ∃ B, w.heap.size + 1 = B := ⟨_, rfl⟩
  have HWB := Lib.hid (show w.heap.size ≤ B by omega)
  rw [hBB] at hB HO0 ⊢
  clear hBB
  have hb1 : B ≤ w1.heap.size := hB ▸ HE0.out.size
  refine (number_own u 2 _ hu (by decide)).mono ?_; rintro e w2 ⟨rfl, zo, zx⟩
  have HO0b := Lib.hid (ownsRow_ext HO0.out zx)
  have HY2 := Lib.hid (Bys.of_owns zo (dg_lt u 2) (by rw [dg_len]; decide))
  have HP2 := Lib.hid (Plain.of_owns zo)
  have HE0b := Lib.hid (HE0.out.trans zx)
  have hb2 := Nat.le_trans hb1 zx.size
  clear zo zx HO0 HE0 hb1
  go_wp2_with (at_builtin; refine app_any (base := B) rfl _ _ 25 rfl Tryd.underlying25 _ 4 [q, p, r, g] (dg u 2) _ (by rfl) HO0b.out (by rfl) HY2.out HP2.out hb2 (by rw [dg_len]; decide) ?_; intro v3 w3 z1 z2; have HO1 : Hid (w3.ownsRow B 5 1 v3 6 (byC ([q, p, r, g] ++ dg u 2))) := (by rw [dg_len] at z1; exact z1); have HE1 := Lib.hid (own_grow HO0b.out z2 HE0b.out (Nat.le_of_eq hB)); have hb3 := Nat.le_trans hb2 z2.size; have cc3 := (HC.out.ext HE1.out).cell (i := 5) rfl; clear z1 z2 HO0b HY2 HP2 HE0b hb2)
  clear cc3
  refine (number_own ra 4 _ hra (by decide)).mono ?_; rintro e w4 ⟨rfl, zo, zx⟩
  have HO1b := Lib.hid (ownsRow_ext HO1.out zx)
  have HY4 := Lib.hid (Bys.of_owns zo (dg_lt ra 4) (by rw [dg_len]; decide))
  have HP4 := Lib.hid (Plain.of_owns zo)
  have HE1b := Lib.hid (HE1.out.trans zx)
  have hb4 := Nat.le_trans hb3 zx.size
  clear zo zx HO1 HE1 hb3
  go_wp2_with (at_builtin; refine app_any (base := B) rfl _ _ 25 rfl Tryd.underlying25 _ 6 ([q, p, r, g] ++ dg u 2) (dg ra 4) _ (by rfl) HO1b.out (by rfl) HY4.out HP4.out hb4 (by rw [dg_len]; decide) ?_; intro v5 w5 z1 z2; have HO2 : Hid (w5.ownsRow B 5 1 v5 10 (byC (([q, p, r, g] ++ dg u 2) ++ dg ra 4))) := (by rw [dg_len] at z1; exact z1); have HE2 := Lib.hid (own_grow HO1b.out z2 HE1b.out (Nat.le_of_eq hB)); have hb5 := Nat.le_trans hb4 z2.size; have cc5 := (HC.out.ext HE2.out).cell (i := 6) rfl; clear z1 z2 HO1b HY4 HP4 HE1b hb4)
  clear cc5
  refine (number_own ro 4 _ hro (by decide)).mono ?_; rintro e w6 ⟨rfl, zo, zx⟩
  have HO2b := Lib.hid (ownsRow_ext HO2.out zx)
  have HY6 := Lib.hid (Bys.of_owns zo (dg_lt ro 4) (by rw [dg_len]; decide))
  have HP6 := Lib.hid (Plain.of_owns zo)
  have HE2b := Lib.hid (HE2.out.trans zx)
  have hb6 := Nat.le_trans hb5 zx.size
  clear zo zx HO2 HE2 hb5
  go_wp2_with (at_builtin; refine app_any (base := B) rfl _ _ 25 rfl Tryd.underlying25 _ 10 (([q, p, r, g] ++ dg u 2) ++ dg ra 4) (dg ro 4) _ (by rfl) HO2b.out (by rfl) HY6.out HP6.out hb6 (by rw [dg_len]; decide) ?_; intro v7 w7 z1 z2; have HO3 : Hid (w7.ownsRow B 5 1 v7 14 (byC ((([q, p, r, g] ++ dg u 2) ++ dg ra 4) ++ dg ro 4))) := (by rw [dg_len] at z1; exact z1); have HE3 := Lib.hid (own_grow HO2b.out z2 HE2b.out (Nat.le_of_eq hB)); have hb7 := Nat.le_trans hb6 z2.size; have cc7 := (HC.out.ext HE3.out).cell (i := 7) rfl; clear z1 z2 HO2b HY6 HP6 HE2b hb6)
  clear cc7
  refine (number_own fi 4 _ hfi (by decide)).mono ?_; rintro e w8 ⟨rfl, zo, zx⟩
  have HO3b := Lib.hid (ownsRow_ext HO3.out zx)
  have HY8 := Lib.hid (Bys.of_owns zo (dg_lt fi 4) (by rw [dg_len]; decide))
  have HP8 := Lib.hid (Plain.of_owns zo)
  have HE3b := Lib.hid (HE3.out.trans zx)
  have hb8 := Nat.le_trans hb7 zx.size
  clear zo zx HO3 HE3 hb7
  go_wp2_with (at_builtin; refine app_any (base := B) rfl _ _ 25 rfl Tryd.underlying25 _ 14 ((([q, p, r, g] ++ dg u 2) ++ dg ra 4) ++ dg ro 4) (dg fi 4) _ (by rfl) HO3b.out (by rfl) HY8.out HP8.out hb8 (by rw [dg_len]; decide) ?_; intro v9 w9 z1 z2; have HO4 : Hid (w9.ownsRow B 5 1 v9 18 (byC (((([q, p, r, g] ++ dg u 2) ++ dg ra 4) ++ dg ro 4) ++ dg fi 4))) := (by rw [dg_len] at z1; exact z1); have HE4 := Lib.hid (own_grow HO3b.out z2 HE3b.out (Nat.le_of_eq hB)); have hb9 := Nat.le_trans hb8 z2.size; clear z1 z2 HO3b HY8 HP8 HE3b hb8)
  go_ret
  refine ⟨_, B, rfl, ?_, HWB.out, hb9, HE.out.trans HE4.out⟩
  rw [HK.out]
  exact HO4.out
set_option maxHeartbeats 8000000 in
set_option maxRecDepth 20000 in
theorem rkey_yes (q p r u g ra ro fi : Nat) (bs : List Nat) (v : Value) (w : World) (hg : Good ⟨q, p, r, u, g, ra, ro, fi⟩) (hb : Bys w v bs) (hp : Plain v) (hl : bs.length ≤ 20000) :
    Calls Tryd.prog 24 #[.agg #[.int .i64 (q : Int), .int .i64 (p : Int), .int .i64 (r : Int), .int .i64 (u : Int), .int .i64 (g : Int), .int .i64 (ra : Int), .int .i64 (ro : Int), .int .i64 (fi : Int)], v] w
      fun e w' => e = .returned (.tuple #[.int .i64 (crc (kyB q p r u g ra ro fi ++ bs) : Int), .agg #[.int .i64 0, .slice none 0 0]]) ∧ Ext w w' := by
  obtain ⟨va, vc, rfl⟩ := hb.form
  obtain ⟨n, hnn⟩ : ∃ n, bs.length = n := ⟨_, rfl⟩
  rw [hnn] at hb hp hl ⊢
  have HNN := Lib.hid hnn
  have HG := Lib.hid hg
  have HLT := Lib.hid (kyB_lt hg)
  have HE := Lib.hid (((Ext.refl w).alloc (.cells #[.int .i64 (q : Int), .int .i64 (p : Int), .int .i64 (r : Int), .int .i64 (u : Int), .int .i64 (g : Int), .int .i64 (ra : Int), .int .i64 (ro : Int), .int .i64 (fi : Int)] 58)).alloc (.cells #[.int .i64 0, .slice none 0 0] 35))
  have HC := Lib.hid ((BoxIs.new w #[.int .i64 (q : Int), .int .i64 (p : Int), .int .i64 (r : Int), .int .i64 (u : Int), .int .i64 (g : Int), .int .i64 (ra : Int), .int .i64 (ro : Int), .int .i64 (fi : Int)] 58).ext ((Ext.refl _).alloc (.cells #[.int .i64 0, .slice none 0 0] 35)))
  have HR := Lib.hid (BoxIs.newAt (w.alloc (.cells #[.int .i64 (q : Int), .int .i64 (p : Int), .int .i64 (r : Int), .int .i64 (u : Int), .int .i64 (g : Int), .int .i64 (ra : Int), .int .i64 (ro : Int), .int .i64 (fi : Int)] 58)) (w.heap.size + 1) (by simp) #[.int .i64 0, .slice none 0 0] 35)
  have HB := Lib.hid hb
  have HP := Lib.hid hp
  clear hnn hb hp hg
  go_enter Tryd.func24, Tryd.ntmps24
  go_wp2_with fail
  refine (rmay_yes ⟨q, p, r, u, g, ra, ro, fi⟩ _ HG.out).mono ?_; rintro e w1 ⟨rfl, hx1⟩
  have HE1 := Lib.hid (HE.out.trans hx1)
  have HC1 := HC.out.ext hx1
  have c0 := HC1.cell (i := 0) rfl
  have c1 := HC1.cell (i := 1) rfl
  have c2 := HC1.cell (i := 2) rfl
  have c3 := HC1.cell (i := 3) rfl
  have c4 := HC1.cell (i := 4) rfl
  have c5 := HC1.cell (i := 5) rfl
  have c6 := HC1.cell (i := 6) rfl
  have c7 := HC1.cell (i := 7) rfl
  have HR1 := Lib.hid (HR.out.ext hx1)
  clear hx1 HC1 HE HC HR
  go_wp2_with fail
  refine (rcfg_any q p r u g ra ro fi _ HG.out).mono ?_; rintro e w2 ⟨v2, B, rfl, z1, z2, z3, z4⟩
  have HO2 := Lib.hid z1
  have HWB := Lib.hid z2
  have hB2 := z3
  have HX2 := Lib.hid z4
  have HB2 := Lib.hid (HB.out.ext (HE1.out.trans z4))
  have HLL : Hid (∀ x ∈ kyB q p r u g ra ro fi ++ bs, x < 256) := fun x hx => by
    rcases List.mem_append.1 hx with hx | hx
    · exact HLT.out x hx
    · exact HB.out.2.1 x hx
  have HCL := crc_lt HLL.out
  obtain ⟨va2, vc2, rfl⟩ := uform z1
  clear z1 z2 z3 z4 c0 c1 c2 c3 c4 c5 c6 c7
  go_wp2_with (at_builtin; refine app_any (base := B) rfl _ _ 25 rfl Tryd.underlying25 _ 18 (kyB q p r u g ra ro fi) bs _ (by rfl) HO2.out (by rfl) HB2.out HP.out hB2 (by rw [HNN.out]; omega) ?_; intro v6 w6 z1 z2; have HZ1 := Lib.hid z1; have HZ2 := Lib.hid z2; clear z1 z2)
  have HY6 := Lib.hid (Bys.of_owns HZ1.out HLL.out (by rw [List.length_append, kyB_len, HNN.out]; omega))
  have HE6 := Lib.hid (own_grow HO2.out HZ2.out HX2.out HWB.out)
  have HX6 := Lib.hid (HE1.out.trans HE6.out)
  have HR6 := Lib.hid (HR1.out.ext HE6.out)
  obtain ⟨c, hc⟩ : ∃ c, crc (kyB q p r u g ra ro fi ++ bs) = c := ⟨_, rfl⟩
  have US := Lib.hid (rsum_any _ _ _ HY6.out)
  rw [hc] at US HCL
  have HCR := Lib.hid hc
  have m9 : IntKind.i64.wrap (c : Int) = (c : Int) := by rw [IntKind.wrap_i64]; omega
  obtain ⟨⟨r5, r6⟩, s5, s6⟩ := HR6.out.two
  clear HZ1 HZ2 HY6 HE6 HO2 HX2 hc hB2 HB2
  refine US.out.mono ?_; rintro e w7 ⟨rfl, rfl⟩
  go_wp2
  have HG1 := Lib.hid (HR6.out.set2 (.int .i64 0) (.slice none 0 0))
  have HG2 := Lib.hid ((HX6.out.setCell (p := ⟨w.heap.size + 1, 0, none⟩) (Nat.le_succ _) (.int .i64 0)).setCell (p := ⟨w.heap.size + 1, 1, none⟩) (Nat.le_succ _) (.slice none 0 0))
  obtain ⟨⟨y5, y6⟩, -⟩ := HG1.out.two
  exact bodyPost_ret (v := .tuple #[.int .i64 (c : Int), .agg #[.int .i64 0, .slice none 0 0]]) (by simp [results, Tryd.results24, go_sem, y5, y6]) rfl ⟨by rw [HCR.out], HG2.out⟩
set_option maxHeartbeats 8000000 in
set_option maxRecDepth 20000 in
theorem rkey_no (c : Cfg) (v : Value) (w : World) (hg : ¬ Good c) :
    Calls Tryd.prog 24 #[.agg #[.int .i64 c.qmin, .int .i64 c.qmax, .int .i64 c.reach, .int .i64 c.cut, .int .i64 c.gop, .int .i64 c.rate, .int .i64 c.room, .int .i64 c.fill], v] w
      fun e w' => e = .returned (.tuple #[.int .i64 0, .agg #[.int .i64 11, .slice none 0 0]]) ∧ Ext w w' := by
  have HG := Lib.hid hg
  have HE := Lib.hid (((Ext.refl w).alloc (.cells #[.int .i64 c.qmin, .int .i64 c.qmax, .int .i64 c.reach, .int .i64 c.cut, .int .i64 c.gop, .int .i64 c.rate, .int .i64 c.room, .int .i64 c.fill] 58)).alloc (.cells #[.int .i64 0, .slice none 0 0] 35))
  have HR := Lib.hid (BoxIs.newAt (w.alloc (.cells #[.int .i64 c.qmin, .int .i64 c.qmax, .int .i64 c.reach, .int .i64 c.cut, .int .i64 c.gop, .int .i64 c.rate, .int .i64 c.room, .int .i64 c.fill] 58)) (w.heap.size + 1) (by simp) #[.int .i64 0, .slice none 0 0] 35)
  clear hg
  go_enter Tryd.func24, Tryd.ntmps24
  go_wp2_with fail
  refine (rmay_no c _ HG.out).mono ?_; rintro e w1 ⟨rfl, hx1⟩
  have HE1 := Lib.hid (HE.out.trans hx1)
  have HR1 := Lib.hid (HR.out.ext hx1)
  clear hx1 HE HR
  go_wp2_with fail
  refine (fail_any _ _).mono ?_; rintro e w2 ⟨rfl, hx2⟩
  have HX6 := Lib.hid (HE1.out.trans hx2)
  have HR6 := Lib.hid (HR1.out.ext hx2)
  obtain ⟨⟨r5, r6⟩, s5, s6⟩ := HR6.out.two
  clear hx2
  go_wp2
  have HG1 := Lib.hid (HR6.out.set2 (.int .i64 11) (.slice none 0 0))
  have HG2 := Lib.hid ((HX6.out.setCell (p := ⟨w.heap.size + 1, 0, none⟩) (Nat.le_succ _) (.int .i64 11)).setCell (p := ⟨w.heap.size + 1, 1, none⟩) (Nat.le_succ _) (.slice none 0 0))
  obtain ⟨⟨y5, y6⟩, -⟩ := HG1.out.two
  exact bodyPost_ret (v := .tuple #[.int .i64 0, .agg #[.int .i64 11, .slice none 0 0]]) (by simp [results, Tryd.results24, go_sem, y5, y6]) rfl ⟨rfl, HG2.out⟩
instance goodDec (c : Cfg) : Decidable (Good c) := by unfold Good; exact inferInstance
/-- what both keys say of a configuration and a source -/
def kyN (c : Cfg) (bs : List Nat) : Int := if Good c then (crc (kyB c.qmin.toNat c.qmax.toNat c.reach.toNat c.cut.toNat c.gop.toNat c.rate.toNat c.room.toNat c.fill.toNat ++ bs) : Int) else 0
def kyE (c : Cfg) : Fall := if Good c then none else some ([], 11)
theorem good_nat {c : Cfg} (h : Good c) : c = ⟨(c.qmin.toNat : Int), c.qmax.toNat, c.reach.toNat, c.cut.toNat, c.gop.toNat, c.rate.toNat, c.room.toNat, c.fill.toNat⟩ := by
  obtain ⟨a, b, d, e, f, g, i, j⟩ := c
  obtain ⟨h0, h1, h2, h3, h4, h5, h6, h7, h8, h9, h10, h11, h12, h13⟩ := h
  simp only at h0 h1 h2 h3 h4 h5 h6 h7 h8 h9 h10 h11 h12 h13 ⊢
  congr 1 <;> omega
theorem key_any (c : Cfg) (bs : List Nat) (v : Value) (w : World) (hn : NbIs w) (hb : Bys w v bs) (hp : Plain v) (hl : bs.length ≤ 20000) :
    Calls Tryd.prog 23 #[.agg #[.int .i64 c.qmin, .int .i64 c.qmax, .int .i64 c.reach, .int .i64 c.cut, .int .i64 c.gop, .int .i64 c.rate, .int .i64 c.room, .int .i64 c.fill], v] w
      fun e w' => ∃ z, e = .returned (.tuple #[.int .i64 (kyN c bs), z]) ∧ ErrIs w' (kyE c) z ∧ Ext w w' := by
  unfold kyN kyE
  by_cases hg : Good c
  · rw [if_pos hg, if_pos hg]
    have e := good_nat hg
    obtain ⟨q, p, r, u, g, ra, ro, fi⟩ := c
    simp only [Cfg.mk.injEq] at e ⊢
    obtain ⟨e0, e1, e2, e3, e4, e5, e6, e7⟩ := e
    have hg' : Good ⟨(q.toNat : Int), p.toNat, r.toNat, u.toNat, g.toNat, ra.toNat, ro.toNat, fi.toNat⟩ := by rw [← e0, ← e1, ← e2, ← e3, ← e4, ← e5, ← e6, ← e7]; exact hg
    have := key_yes q.toNat p.toNat r.toNat u.toNat g.toNat ra.toNat ro.toNat fi.toNat bs v w hg' hn hb hp hl
    rw [← e0, ← e1, ← e2, ← e3, ← e4, ← e5, ← e6, ← e7] at this
    exact this.mono fun e w' ⟨h1, h2⟩ => ⟨_, h1, rfl, h2⟩
  · rw [if_neg hg, if_neg hg]
    exact (key_no c v w hg).mono fun e w' ⟨h1, h2⟩ => ⟨_, h1, ErrIs.code (by decide), h2⟩
theorem rkey_any (c : Cfg) (bs : List Nat) (v : Value) (w : World) (hb : Bys w v bs) (hp : Plain v) (hl : bs.length ≤ 20000) :
    Calls Tryd.prog 24 #[.agg #[.int .i64 c.qmin, .int .i64 c.qmax, .int .i64 c.reach, .int .i64 c.cut, .int .i64 c.gop, .int .i64 c.rate, .int .i64 c.room, .int .i64 c.fill], v] w
      fun e w' => ∃ d y, e = .returned (.tuple #[.int .i64 (kyN c bs), .agg #[.int .i64 d, y]]) ∧ RErrIs w' (kyE c) d y ∧ Ext w w' := by
  unfold kyN kyE
  by_cases hg : Good c
  · rw [if_pos hg, if_pos hg]
    have e := good_nat hg
    obtain ⟨q, p, r, u, g, ra, ro, fi⟩ := c
    simp only [Cfg.mk.injEq] at e ⊢
    obtain ⟨e0, e1, e2, e3, e4, e5, e6, e7⟩ := e
    have hg' : Good ⟨(q.toNat : Int), p.toNat, r.toNat, u.toNat, g.toNat, ra.toNat, ro.toNat, fi.toNat⟩ := by rw [← e0, ← e1, ← e2, ← e3, ← e4, ← e5, ← e6, ← e7]; exact hg
    have := rkey_yes q.toNat p.toNat r.toNat u.toNat g.toNat ra.toNat ro.toNat fi.toNat bs v w hg' hb hp hl
    rw [← e0, ← e1, ← e2, ← e3, ← e4, ← e5, ← e6, ← e7] at this
    exact this.mono fun e w' ⟨h1, h2⟩ => ⟨_, _, h1, RErrIs.zero, h2⟩
  · rw [if_neg hg, if_neg hg]
    exact (rkey_no c v w hg).mono fun e w' ⟨h1, h2⟩ => ⟨_, _, h1, RErrIs.code (by decide), h2⟩
end Go.Proofs.YtmphochnmdmioaaDoor

/- kinlaw26.LogKeys: the walk. -/
namespace Go.Proofs.YtmphochnmdmioaaDoor
set_option linter.unusedVariables false
set_option linter.unusedSimpArgs false
open Go.RowKit Go.Extern.Stop Go.Stop Go.Extern

set_option maxHeartbeats 8000000 in
set_option maxRecDepth 20000 in
theorem logkeys_law (c : Cfg) (bs : List Nat) (v : Value) (w : World) (hg : EtIs w) (hnb : NbIs w) (rb : Row w v bs.length (bs.map fun x : Nat => Value.int .u8 (x : Int))) (hb : ∀ x ∈ bs, x < 256) (hp : Plain v) :
    Calls Tryd.prog 5 #[.agg #[.int .i64 c.qmin, .int .i64 c.qmax, .int .i64 c.reach, .int .i64 c.cut, .int .i64 c.gop, .int .i64 c.rate, .int .i64 c.room, .int .i64 c.fill], v] w fun e w' => e = .returned (.bool true) ∧ Ext w w' := by
  obtain ⟨a, cap, rfl⟩ := rb.form
  obtain ⟨n, hn⟩ : ∃ n, bs.length = n := ⟨_, rfl⟩
  have HN := Lib.hid hn
  have UK := Lib.hid (fun v W h1 h2 h3 h4 => key_any c bs v W h1 h2 h3 h4)
  have UR := Lib.hid (fun v W h1 h2 h3 => rkey_any c bs v W h1 h2 h3)
  obtain ⟨N, hNN⟩ : ∃ N, kyN c bs = N := ⟨_, rfl⟩
  rw [hNN] at UK UR
  obtain ⟨q, p, r, u, g, ra, ro, fi⟩ := c
  simp only at UK UR ⊢
  rw [hn] at rb hp ⊢
  have X0 : Ext w (w.alloc (.cells #[.int .i64 q, .int .i64 p, .int .i64 r, .int .i64 u, .int .i64 g, .int .i64 ra, .int .i64 ro, .int .i64 fi] 58)) := (Ext.refl w).alloc _
  have HX0 := Lib.hid X0
  have HG := Lib.hid (hg.ext X0)
  have HNB := Lib.hid (hnb.ext X0)
  have HC0 := Lib.hid (BoxIs.new w #[.int .i64 q, .int .i64 p, .int .i64 r, .int .i64 u, .int .i64 g, .int .i64 ra, .int .i64 ro, .int .i64 fi] 58)
  have HB : n ≤ 20000 → Bys (w.alloc (.cells #[.int .i64 q, .int .i64 p, .int .i64 r, .int .i64 u, .int .i64 g, .int .i64 ra, .int .i64 ro, .int .i64 fi] 58)) (.slice a n cap) bs := fun h => Bys.ext (w := w) ⟨by rw [hn]; exact rb, hb, by rw [hn]; omega⟩ X0
  have HP := Lib.hid hp
  have HLB := Lib.hid hb
  clear hg hnb rb hn hb hp X0 hNN
  go_enter Tryd.func5, Tryd.ntmps5
  go_wp2_with fail
  revert HX0 HG HNB HC0 HB
  generalize World.alloc w _ = w0
  intro HX0 HG HNB HC0 HB
  refine (first26_any _ HG.out HNB.out).mono ?_; rintro e w1 ⟨rfl, hx1⟩
  have HX1 := Lib.hid hx1
  clear hx1
  by_cases hl : 20000 < n
  · have hl' : (20000 : Int) < (n : Int) := by omega
    go_wp2_with fail
    refine (first26_any _ (HG.out.ext HX1.out) (HNB.out.ext HX1.out)).mono ?_; rintro e w2 ⟨rfl, hx2⟩
    have HX2 := Lib.hid (HX0.out.trans (HX1.out.trans hx2))
    clear hx2
    go_wp2
    go_ret
    exact ⟨rfl, HX2.out⟩
  · have hl' : ¬ (20000 : Int) < (n : Int) := by omega
    have hl2 : bs.length ≤ 20000 := by rw [HN.out]; omega
    have HB := Lib.hid (HB (by omega))
    go_wp2_with fail
    refine (cpb_any bs _ _ (HB.out.ext HX1.out)).mono ?_; rintro e w2 ⟨u2, rfl, ho2, hx2⟩
    have HX2 := Lib.hid (HX1.out.trans hx2)
    have HY2 := Lib.hid (Bys.of_owns ho2 HLB.out (by omega))
    have HP2 := Lib.hid (Plain.of_owns ho2)
    have HC2 := HC0.out.ext HX2.out
    have c0 := HC2.cell (i := 0) rfl
    have c1 := HC2.cell (i := 1) rfl
    have c2 := HC2.cell (i := 2) rfl
    have c3 := HC2.cell (i := 3) rfl
    have c4 := HC2.cell (i := 4) rfl
    have c5 := HC2.cell (i := 5) rfl
    have c6 := HC2.cell (i := 6) rfl
    have c7 := HC2.cell (i := 7) rfl
    clear ho2 hx2 HC2
    go_wp2_with fail
    refine (UK.out _ _ (HNB.out.ext HX2.out) HY2.out HP2.out hl2).mono ?_; rintro e w3 ⟨z3, rfl, hz3, hx3⟩
    have HX3 := Lib.hid (HX2.out.trans hx3)
    have HZ3 := Lib.hid hz3
    have HY3 := Lib.hid (HY2.out.ext hx3)
    have HC3 := HC0.out.ext HX3.out
    clear c0 c1 c2 c3 c4 c5 c6 c7
    have c0 := HC3.cell (i := 0) rfl
    have c1 := HC3.cell (i := 1) rfl
    have c2 := HC3.cell (i := 2) rfl
    have c3 := HC3.cell (i := 3) rfl
    have c4 := HC3.cell (i := 4) rfl
    have c5 := HC3.cell (i := 5) rfl
    have c6 := HC3.cell (i := 6) rfl
    have c7 := HC3.cell (i := 7) rfl
    clear hx3 hz3 HC3 HX2 HY2
    go_wp2_with fail
    refine (UR.out _ _ (HB.out.ext HX3.out) HP.out hl2).mono ?_; rintro e w4 ⟨d4, y4, rfl, hr4, hx4⟩
    have HX4 := Lib.hid (HX3.out.trans hx4)
    have HZ4 := Lib.hid (ErrIs.ext HZ3.out hx4)
    obtain ⟨ya, yn, yc, rfl⟩ := hr4.frm
    have HR4 := Lib.hid (RErrIs.ext hr4 ((Ext.refl w4).alloc (.cells #[.int .i64 d4, .slice ya yn yc] 35)))
    have HY4 := Lib.hid ((HY3.out.ext hx4).ext ((Ext.refl w4).alloc (.cells #[.int .i64 d4, .slice ya yn yc] 35)))
    have HZ5 := Lib.hid (ErrIs.ext HZ4.out ((Ext.refl w4).alloc (.cells #[.int .i64 d4, .slice ya yn yc] 35)))
    have HX5 := Lib.hid (HX4.out.alloc (.cells #[.int .i64 d4, .slice ya yn yc] 35))
    have HQ5 := Lib.hid (BoxIs.new w4 #[.int .i64 d4, .slice ya yn yc] 35)
    clear hx4 hr4 c0 c1 c2 c3 c4 c5 c6 c7 HZ4 HX4 HZ3 HX3 HY3
    generalize hF : kyE _ = F at HR4 HZ5
    clear hF
    go_wp2_with fail
    revert HR4 HY4 HZ5 HX5 HQ5
    generalize World.alloc w4 _ = w5
    generalize w4.heap.size = B
    intro HY4 HX5 HQ5 HR4 HZ5
    have HB5 := Lib.hid (HB.out.ext HX5.out)
    have UF := Lib.hid (first26_any w5 (HG.out.ext HX5.out) (HNB.out.ext HX5.out))
    have hbb : (N == N) = true := by simp
    refine UF.out.mono ?_; rintro e w6 ⟨rfl, hx6⟩
    have HX6 := Lib.hid (HX5.out.trans hx6)
    obtain ⟨⟨f0, f1⟩, -⟩ := (HQ5.out.ext hx6).two
    have HZ6 := Lib.hid (ErrIs.ext HZ5.out hx6)
    have HR6 := Lib.hid (RErrIs.ext HR4.out hx6)
    have HY6 := Lib.hid (HY4.out.ext hx6)
    have HB6 := Lib.hid (HB5.out.ext hx6)
    clear hx6
    go_wp2_with fail
    refine (same_fall F _ _ _ _ (HG.out.ext HX6.out) HZ6.out HR6.out).mono ?_; rintro e w7 ⟨rfl, hx7⟩
    have HX7 := Lib.hid (HX6.out.trans hx7)
    have HY7 := Lib.hid (HY6.out.ext hx7)
    have HB7 := Lib.hid (HB6.out.ext hx7)
    clear hx7
    go_wp2_with fail
    refine (bytes_same bs _ _ _ HY7.out HB7.out).mono ?_; rintro e w8 ⟨rfl, rfl⟩
    have HX9 := Lib.hid (HX0.out.trans HX7.out)
    go_wp2
    go_ret
    exact ⟨rfl, HX9.out⟩
end Go.Proofs.YtmphochnmdmioaaDoor

/- A configuration opened (over the openers of layer 13 on). -/
namespace Go.Proofs.YtmphochnmdmioaaDoor
set_option linter.unusedVariables false
set_option linter.unusedSimpArgs false
open Go.ChangeShapes Go.WideShapes Go.ChangeAt Go.RowKit Go.Joins Go.Deep
section
variable {H : Type} {enc : TypeId × Value → H} {w : World}
set_option maxRecDepth 100000 in
theorem open_cfg {r : Reach} {b0 : Nat} {sp : Nat → Bool} {v : Value} {d : DataW H} {p : List MemPlace}
    (hv : Value.okWide Tryd.prog w r b0 58 v) (h : DataW.Trod enc Tryd.prog w 0 sp true 58 v d p) :
    ∃ c : Cfg, v = .agg #[.int .i64 c.qmin, .int .i64 c.qmax, .int .i64 c.reach, .int .i64 c.cut, .int .i64 c.gop, .int .i64 c.rate, .int .i64 c.room, .int .i64 c.fill] ∧
      ((-9223372036854775808 ≤ c.rate ∧ c.rate ≤ 9223372036854775807) ∧ (-9223372036854775808 ≤ c.room ∧ c.room ≤ 9223372036854775807) ∧ (-9223372036854775808 ≤ c.fill ∧ c.fill ≤ 9223372036854775807)) := by
  obtain ⟨zs, rfl, hn, hb⟩ := open_int_struct Tryd.underlying58 (by kernel_rfl) (by kernel_rfl) (by kernel_rfl) hv h
  have hn' : zs.length = 8 := hn
  match zs, hn', hb with
  | [a, b, c, d, e, f, g, i], _, hb => exact ⟨⟨a, b, c, d, e, f, g, i⟩, rfl, hb f (by simp), hb g (by simp), hb i (by simp)⟩
end
end Go.Proofs.YtmphochnmdmioaaDoor
