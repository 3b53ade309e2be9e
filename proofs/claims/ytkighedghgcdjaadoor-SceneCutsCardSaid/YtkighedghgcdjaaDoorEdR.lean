/- kinref.Frame of two that are the same, kinref6.Lies, kinref10.sample: contracts over this seat's translation. -/
import Derived.Test.YtkighedghgcdjaaDoorIn2
namespace Go.Proofs.YtkighedghgcdjaaDoor
set_option linter.unusedVariables false
set_option linter.unusedSimpArgs false
open Go.RowKit Go.Extern.Stop Go.Stop Go.Extern

set_option maxRecDepth 20000 in
set_option maxHeartbeats 1000000 in
theorem frame_same (W H : Int) (zs : List Int) (a b : Option Addr) (n m ca cb : Nat) (w : World) (ha : Ints w (.slice a n ca) zs) (hb : Ints w (.slice b m cb) zs) :
    Calls Tryd.prog 19 #[.agg #[.int .i64 W, .int .i64 H, .slice a n ca], .agg #[.int .i64 W, .int .i64 H, .slice b m cb]] w fun e w' => e = .returned (.bool true) ∧ Ext w w' := by
  go_enter Tryd.func19, Tryd.ntmps19
  go_wp2_with fail
  refine (ints_same zs zs _ _ _ (ha.ext (by repeat (first | exact Ext.refl _ | assumption | refine Ext.alloc ?_ _ | refine Ext.drew ?_ | refine Ext.drewN ?_ _ | refine Ext.setCell ?_ (by first | exact Nat.le_refl _ | (simp; done) | omega) _ | refine Ext.trans ?_ (by assumption)))) (hb.ext (by repeat (first | exact Ext.refl _ | assumption | refine Ext.alloc ?_ _ | refine Ext.drew ?_ | refine Ext.drewN ?_ _ | refine Ext.setCell ?_ (by first | exact Nat.le_refl _ | (simp; done) | omega) _ | refine Ext.trans ?_ (by assumption))))).mono ?_; rintro e w1 ⟨rfl, hx1⟩
  rw [decide_eq_true rfl]
  go_wp2
  go_ret
  exact ⟨rfl, (by repeat (first | exact Ext.refl _ | assumption | refine Ext.alloc ?_ _ | refine Ext.drew ?_ | refine Ext.drewN ?_ _ | refine Ext.setCell ?_ (by first | exact Nat.le_refl _ | (simp; done) | omega) _ | refine Ext.trans ?_ (by assumption)))⟩
/-- does a square lie in a frame -/
def liesB (W H x y n : Int) : Bool := decide (0 ≤ x) && decide (0 ≤ y) && decide (x ≤ W - n) && decide (y ≤ H - n)
set_option maxRecDepth 20000 in
set_option maxHeartbeats 1000000 in
theorem lies_any (W H x y n : Int) (v : Value) (a : Option Addr) (m cap : Nat) (w : World) (hv : v = .slice a m cap) (hW : 0 ≤ W ∧ W ≤ 100) (hH : 0 ≤ H ∧ H ≤ 100) (hn : 0 ≤ n ∧ n ≤ 100) :
    Calls Tryd.prog 68 #[.agg #[.int .i64 W, .int .i64 H, v], .int .i64 x, .int .i64 y, .int .i64 n] w fun e w' => e = .returned (.bool (liesB W H x y n)) ∧ Ext w w' := by
  subst hv
  have E1 : Ext w (w.alloc (.cells #[.int .i64 W, .int .i64 H, .slice a m cap] 24)) := (Ext.refl w).alloc _
  have e1 : IntKind.i64.wrap (W - n) = W - n := by rw [IntKind.wrap_i64]; omega
  have e2 : IntKind.i64.wrap (H - n) = H - n := by rw [IntKind.wrap_i64]; omega
  by_cases h1 : 0 ≤ x
  · by_cases h2 : 0 ≤ y
    · by_cases h3 : x ≤ W - n
      · by_cases h4 : y ≤ H - n
        · have HR : Hid (liesB W H x y n = true) := by show _ = _; unfold liesB; simp [h1, h2, h3, h4]
          go_enter Tryd.func68, Tryd.ntmps68
          go_wp2
          go_ret
          exact ⟨by rw [HR.out]; rfl, E1⟩
        · have HR : Hid (liesB W H x y n = false) := by show _ = _; unfold liesB; simp [h1, h2, h3, h4]
          go_enter Tryd.func68, Tryd.ntmps68
          go_wp2
          go_ret
          exact ⟨by rw [HR.out]; rfl, E1⟩
      · have HR : Hid (liesB W H x y n = false) := by show _ = _; unfold liesB; simp [h1, h2, h3]
        go_enter Tryd.func68, Tryd.ntmps68
        go_wp2
        go_ret
        exact ⟨by rw [HR.out]; rfl, E1⟩
    · have HR : Hid (liesB W H x y n = false) := by show _ = _; unfold liesB; simp [h1, h2]
      go_enter Tryd.func68, Tryd.ntmps68
      go_wp2
      go_ret
      exact ⟨by rw [HR.out]; rfl, E1⟩
  · have HR : Hid (liesB W H x y n = false) := by show _ = _; unfold liesB; simp [h1]
    go_enter Tryd.func68, Tryd.ntmps68
    go_wp2
    go_ret
    exact ⟨by rw [HR.out]; rfl, E1⟩
/-- the document's sample of a place -/
def placeF (W : Int) (zs : List Int) (x y : Int) : Int := if x < 0 ∨ y < 0 then 128 else zs.getD (y * W + x).toNat 0
set_option maxRecDepth 20000 in
set_option maxHeartbeats 1000000 in
theorem sample_any (W H x y : Int) (zs : List Int) (a : Option Addr) (n cap : Nat) (w : World) (h : Ints w (.slice a n cap) zs) (hb : 0 ≤ x → 0 ≤ y → 0 ≤ y * W ∧ y * W ≤ 100000 ∧ y * W + x < n) (hx : x ≤ 100000) :
    Calls Tryd.prog 72 #[.agg #[.int .i64 W, .int .i64 H, .slice a n cap], .int .i64 x, .int .i64 y] w fun e w' => e = .returned (.int .i64 (placeF W zs x y)) ∧ Ext w w' := by
  have E1 : Ext w (w.alloc (.cells #[.int .i64 W, .int .i64 H, .slice a n cap] 24)) := (Ext.refl w).alloc _
  have HN := Lib.hid h.len
  by_cases h1 : x < 0
  · have HR : Hid (placeF W zs x y = 128) := by show _ = _; unfold placeF; rw [if_pos (Or.inl h1)]
    clear hb
    go_enter Tryd.func72, Tryd.ntmps72
    go_wp2
    go_ret
    exact ⟨by rw [HR.out]; rfl, E1⟩
  · by_cases h2 : y < 0
    · have HR : Hid (placeF W zs x y = 128) := by show _ = _; unfold placeF; rw [if_pos (Or.inr h2)]
      clear hb
      go_enter Tryd.func72, Tryd.ntmps72
      go_wp2
      go_ret
      exact ⟨by rw [HR.out]; rfl, E1⟩
    · obtain ⟨b1, b2, b3⟩ := hb (by omega) (by omega)
      obtain ⟨k, hk⟩ : ∃ k : Nat, y * W + x = (k : Int) := ⟨(y * W + x).toNat, by omega⟩
      have hkn : k < n := by omega
      obtain ⟨g, off, rfl⟩ := h.had (by omega)
      have c1 := E1.cell (h.at (get_of_lt (by rw [← HN.out]; exact hkn)))
      have HR : Hid (placeF W zs x y = zs.getD k 0) := by show _ = _; unfold placeF; rw [if_neg (by omega), hk]; rfl
      revert c1 HR
      generalize zs.getD k 0 = z
      intro c1 HR
      have e1 : IntKind.i64.wrap (y * W) = y * W := by rw [IntKind.wrap_i64]; omega
      have e2 : IntKind.i64.wrap (y * W + x) = (k : Int) := by rw [IntKind.wrap_i64]; omega
      have k1 : (0 : Int) ≤ (k : Int) ∧ (k : Int) < (n : Int) := by omega
      clear hb hk
      go_enter Tryd.func72, Tryd.ntmps72
      go_wp2
      go_ret
      exact ⟨by rw [HR.out]; rfl, E1⟩
end Go.Proofs.YtkighedghgcdjaaDoor
