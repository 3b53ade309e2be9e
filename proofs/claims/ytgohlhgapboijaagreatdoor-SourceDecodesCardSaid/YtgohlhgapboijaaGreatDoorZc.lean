/- Contracts of this seat: In, In2, EdR, CpF, Rep, Mat, Cop, RMay, PlA. -/
import Derived.Test.YtgohlhgapboijaaGreatDoorZb
import Derived.Deep.RegionWith
import Derived.Laws.CopyOwn
import Derived.WalkSpells
import Derived.Deep.RegionLaw
import Derived.Deep.RegionHeld3
import Derived.Deep.OwnRows
import Derived.Maps.AppendAt
/- intra.isSide, check, predict, Predict: contracts over this seat's translation. -/
namespace Go.Proofs.YtgohlhgapboijaaGreatDoor
set_option linter.unusedVariables false
set_option linter.unusedSimpArgs false
open Go.RowKit Go.Extern.Stop Go.Stop Go.Extern

def kind : Fall := some ([], 13)
def sdB (n : Int) : Bool := decide (n = 4) || decide (n = 8)
theorem sdB_nat {n : Nat} (h : sdB n = true) : n = 4 ∨ n = 8 := by unfold sdB at h; simp at h; omega
/-- what forbids to predict from these neighbours -/
def chkAns (ts ls : List Int) (c : Int) : Fall := if sdB ts.length = true ∧ ls.length = ts.length then (if ts.any nosmpB = true ∨ ls.any nosmpB = true ∨ nosmpB c = true then range else none) else fit
theorem nosmp_false {x : Int} (h : nosmpB x = false) : 0 ≤ x ∧ x ≤ 255 := by unfold nosmpB at h; simp at h; omega
theorem chkAns_none {ts ls : List Int} {c : Int} (h : chkAns ts ls c = none) : (ts.length = 4 ∨ ts.length = 8) ∧ ls.length = ts.length ∧ (∀ j, 0 ≤ ts.getD j 0 ∧ ts.getD j 0 ≤ 255) ∧ (∀ j, 0 ≤ ls.getD j 0 ∧ ls.getD j 0 ≤ 255) ∧ 0 ≤ c ∧ c ≤ 255 := by
  unfold chkAns at h
  split at h
  · rename_i h1
    split at h
    · cases h
    · rename_i h2
      have k1 : ts.any nosmpB = false := by cases hx : ts.any nosmpB with | false => rfl | true => exact absurd (Or.inl hx) h2
      have k2 : ls.any nosmpB = false := by cases hx : ls.any nosmpB with | false => rfl | true => exact absurd (Or.inr (Or.inl hx)) h2
      have k3 : nosmpB c = false := by cases hx : nosmpB c with | false => rfl | true => exact absurd (Or.inr (Or.inr hx)) h2
      exact ⟨sdB_nat h1.1, h1.2, fun j => nosmp_false (any_false k1 j 0 rfl), fun j => nosmp_false (any_false k2 j 0 rfl), nosmp_false k3⟩
  · cases h
/-- all neighbours together -/
def nbF (t l : Nat → Int) : Nat → Int
  | 0 => 0
  | j + 1 => nbF t l j + (t j + l j)
def meanOf (ts ls : List Int) : Int := (ts.length + nbF (fun i => ts.getD i 0) (fun i => ls.getD i 0) ts.length) / (2 * ts.length)
/-- a square from its neighbours, by each mode -/
def prdF (mode : Int) (ts ls : List Int) (c : Int) (k : Nat) : Int :=
  if mode = 0 then meanOf ts ls else if mode = 1 then ts.getD (k % ts.length) 0 else if mode = 2 then ls.getD (k / ts.length) 0 else clipI (ls.getD (k / ts.length) 0 + ts.getD (k % ts.length) 0 - c)
def prdL (mode : Int) (ts ls : List Int) (c : Int) : List Int := rowL (ts.length * ts.length) (prdF mode ts ls c)
theorem nbF_bound {t l : Nat → Int} (h : ∀ j, 0 ≤ t j ∧ t j ≤ 255) (k : ∀ j, 0 ≤ l j ∧ l j ≤ 255) (n : Nat) : 0 ≤ nbF t l n ∧ nbF t l n ≤ 510 * n := by
  induction n with
  | zero => simp [nbF]
  | succ n ih => have := h n; have := k n; unfold nbF; push_cast; omega
theorem rowL_succi (k : Nat) (f : Nat → Int) : rowL (k + 1) f = rowL k f ++ [f k] := by
  unfold rowL
  rw [List.range_succ, List.map_append]
  rfl
end Go.Proofs.YtgohlhgapboijaaGreatDoor

/- intra.Predict; kinlaw10.first: contracts over this seat's translation. -/
namespace Go.Proofs.YtgohlhgapboijaaGreatDoor
set_option linter.unusedVariables false
set_option linter.unusedSimpArgs false
open Go.RowKit Go.Extern.Stop Go.Stop Go.Extern

def prdAns (m : Int) (ts ls : List Int) (c : Int) : Fall := if m < 0 ∨ 4 ≤ m then kind else chkAns ts ls c
def prdV (m : Int) (ts ls : List Int) (c : Int) : List Int := match prdAns m ts ls c with
  | none => prdL m ts ls c
  | some _ => []
theorem prdAns_none {m : Int} {ts ls : List Int} {c : Int} (h : prdAns m ts ls c = none) : (0 ≤ m ∧ m ≤ 3) ∧ chkAns ts ls c = none := by
  unfold prdAns at h
  split at h
  · cases h
  · exact ⟨by omega, h⟩
theorem Ints.liti (w : World) (zs : List Int) (h : zs.length ≤ 1000000) : Ints (w.alloc (.cells (zs.map (Value.int .i64)).toArray 3)) (.slice (some ⟨w.heap.size, 0, none⟩) zs.length zs.length) zs := by
  have := World.ownsRow_lit (e := 3) (base := w.heap.size) (size := 1) w (zs.map (Value.int .i64)).toArray zs.length (Nat.le_refl _) (by unfold maxLen; omega) (by simp)
  simp only [List.toList_toArray] at this
  exact Ints.of_owns this (by omega)
theorem lits2i (w : World) (xs ys : List Int) (h : xs.length ≤ 1000000) (k : ys.length ≤ 1000000) :
    Ints ((w.alloc (.cells (xs.map (Value.int .i64)).toArray 3)).alloc (.cells (ys.map (Value.int .i64)).toArray 3)) (.slice (some ⟨w.heap.size, 0, none⟩) xs.length xs.length) xs ∧
    Ints ((w.alloc (.cells (xs.map (Value.int .i64)).toArray 3)).alloc (.cells (ys.map (Value.int .i64)).toArray 3)) (.slice (some ⟨w.heap.size + 1, 0, none⟩) ys.length ys.length) ys := by
  refine ⟨(Ints.liti w xs h).ext ((Ext.refl _).alloc _), ?_⟩
  have := Ints.liti (w.alloc (.cells (xs.map (Value.int .i64)).toArray 3)) ys k
  simpa using this
theorem prd_first : prdAns 0 [0, 0, 0, 0] [8, 8, 8, 8] 0 = none ∧ prdV 0 [0, 0, 0, 0] [8, 8, 8, 8] 0 = [4, 4, 4, 4, 4, 4, 4, 4, 4, 4, 4, 4, 4, 4, 4, 4] ∧
    prdAns 3 [10, 20, 30, 40] [0, 0, 0, 250] 9 = none ∧ prdV 3 [10, 20, 30, 40] [0, 0, 0, 250] 9 = [1, 11, 21, 31, 1, 11, 21, 31, 1, 11, 21, 31, 251, 255, 255, 255] ∧ prdAns 4 [] [] 0 = kind := by decide +kernel
end Go.Proofs.YtgohlhgapboijaaGreatDoor

/- kinref.Frame of two that are the same, kinref6.Lies, kinref10.sample: contracts over this seat's translation. -/
namespace Go.Proofs.YtgohlhgapboijaaGreatDoor
set_option linter.unusedVariables false
set_option linter.unusedSimpArgs false
open Go.RowKit Go.Extern.Stop Go.Stop Go.Extern

set_option maxRecDepth 20000 in
set_option maxHeartbeats 1000000 in
theorem frame_same (W H : Int) (zs : List Int) (a b : Option Addr) (n m ca cb : Nat) (w : World) (ha : Ints w (.slice a n ca) zs) (hb : Ints w (.slice b m cb) zs) :
    Calls Tryz.prog 32 #[.agg #[.int .i64 W, .int .i64 H, .slice a n ca], .agg #[.int .i64 W, .int .i64 H, .slice b m cb]] w fun e w' => e = .returned (.bool true) ∧ Ext w w' := by
  go_enter Tryz.func32, Tryz.ntmps32
  go_wp2_with fail
  refine (ints_same zs zs _ _ _ (ha.ext (by repeat (first | exact Ext.refl _ | assumption | refine Ext.alloc ?_ _ | refine Ext.drew ?_ | refine Ext.drewN ?_ _ | refine Ext.setCell ?_ (by first | exact Nat.le_refl _ | (simp; done) | omega) _ | refine Ext.trans ?_ (by assumption)))) (hb.ext (by repeat (first | exact Ext.refl _ | assumption | refine Ext.alloc ?_ _ | refine Ext.drew ?_ | refine Ext.drewN ?_ _ | refine Ext.setCell ?_ (by first | exact Nat.le_refl _ | (simp; done) | omega) _ | refine Ext.trans ?_ (by assumption))))).mono ?_; rintro e w1 ⟨rfl, hx1⟩
  rw [decide_eq_true rfl]
  go_wp2
  go_ret
  exact ⟨rfl, (by repeat (first | exact Ext.refl _ | assumption | refine Ext.alloc ?_ _ | refine Ext.drew ?_ | refine Ext.drewN ?_ _ | refine Ext.setCell ?_ (by first | exact Nat.le_refl _ | (simp; done) | omega) _ | refine Ext.trans ?_ (by assumption)))⟩
/-- does a square lie in a frame -/
def liesB (W H x y n : Int) : Bool := decide (0 ≤ x) && decide (0 ≤ y) && decide (x ≤ W - n) && decide (y ≤ H - n)
/-- the document's sample of a place -/
def placeF (W : Int) (zs : List Int) (x y : Int) : Int := if x < 0 ∨ y < 0 then 128 else zs.getD (y * W + x).toNat 0
end Go.Proofs.YtgohlhgapboijaaGreatDoor

/- kinref.CopyFrame: its contract over this seat's translation. -/
namespace Go.Proofs.YtgohlhgapboijaaGreatDoor
set_option linter.unusedVariables false
set_option linter.unusedSimpArgs false
open Go.RowKit Go.Extern.Stop Go.Stop Go.Extern

theorem fr_cells {w : World} {B : Nat} (W H : Int) (v : Value) (h0 : w.cell? ⟨B, 0, none⟩ = some (.int .i64 0)) (h1 : w.cell? ⟨B, 1, none⟩ = some (.int .i64 0)) (h2 : w.cell? ⟨B, 2, none⟩ = some (.slice none 0 0)) :
    (((w.setCell ⟨B, 0, none⟩ (.int .i64 W)).setCell ⟨B, 1, none⟩ (.int .i64 H)).setCell ⟨B, 2, none⟩ v).cell? ⟨B, 0, none⟩ = some (.int .i64 W) ∧
    (((w.setCell ⟨B, 0, none⟩ (.int .i64 W)).setCell ⟨B, 1, none⟩ (.int .i64 H)).setCell ⟨B, 2, none⟩ v).cell? ⟨B, 1, none⟩ = some (.int .i64 H) ∧
    (((w.setCell ⟨B, 0, none⟩ (.int .i64 W)).setCell ⟨B, 1, none⟩ (.int .i64 H)).setCell ⟨B, 2, none⟩ v).cell? ⟨B, 2, none⟩ = some v := by
  have a0 := World.cell?_setCell_same _ _ (.int .i64 W) h0
  have a1 := (World.cell?_setCell_other w ⟨B, 0, none⟩ ⟨B, 1, none⟩ (.int .i64 W) (by simp)).trans h1
  have a2 := (World.cell?_setCell_other w ⟨B, 0, none⟩ ⟨B, 2, none⟩ (.int .i64 W) (by simp)).trans h2
  have b0 := (World.cell?_setCell_other _ ⟨B, 1, none⟩ ⟨B, 0, none⟩ (.int .i64 H) (by simp)).trans a0
  have b1 := World.cell?_setCell_same _ _ (.int .i64 H) a1
  have b2 := (World.cell?_setCell_other _ ⟨B, 1, none⟩ ⟨B, 2, none⟩ (.int .i64 H) (by simp)).trans a2
  have c0 := (World.cell?_setCell_other _ ⟨B, 2, none⟩ ⟨B, 0, none⟩ v (by simp)).trans b0
  have c1 := (World.cell?_setCell_other _ ⟨B, 2, none⟩ ⟨B, 1, none⟩ v (by simp)).trans b1
  have c2 := World.cell?_setCell_same _ _ v b2
  exact ⟨c0, c1, c2⟩
set_option maxRecDepth 20000 in
theorem copy_own (zs : List Int) (v : Value) (w : World) (ha : Ints w v zs) (hl : zs.length ≤ 1000000) :
    Calls Tryz.prog 47 #[v] w fun e w' => ∃ u, e = .returned u ∧ w'.ownsRow w.heap.size 3 1 u zs.length (zs.map (Value.int .i64)) ∧ Ext w w' := by
  obtain ⟨i0, hi, hz0, hz1, hz2⟩ := info_parts infoInt
  obtain ⟨n, hn⟩ : ∃ n, n = zs.length := ⟨_, rfl⟩
  have E1 : Ext w (w.alloc (.cells #[] 3)) := (Ext.refl w).alloc _
  have hown : (w.alloc (.cells #[] 3)).ownsRow w.heap.size 3 1 (.slice (some ⟨w.heap.size, 0, none⟩) 0 0) 0 [] := World.ownsRow_made w #[] 0 (Nat.le_refl _) (Nat.zero_le _) rfl
  have fin : ∀ (v' : Value) (w' : World), w'.ownsRow w.heap.size 3 1 v' (0 + n) ([] ++ zs.map (Value.int .i64)) → (w.alloc (.cells #[] 3)).grownBy w' (some w.heap.size) → w'.ownsRow w.heap.size 3 1 v' n (zs.map (Value.int .i64)) ∧ Ext w w' := fun v' w' h1 h2 =>
    ⟨by simpa using h1, Below.grown E1 h2 (by simp) (fun k hk => by cases hk; exact Nat.le_refl _)⟩
  have FIN := Lib.hid fin
  clear fin
  by_cases hz : n = 0
  · obtain ⟨a, cap, rfl⟩ := ha.form
    obtain rfl : zs = [] := List.eq_nil_of_length_eq_zero (by omega)
    subst hz
    clear ha hn
    cases a with
    | none =>
      go_enter Tryz.func47, Tryz.ntmps47
      go_wp2
      go_ret
      exact ⟨_, rfl, hown, E1⟩
    | some a =>
      go_enter Tryz.func47, Tryz.ntmps47
      go_wp2_with (at_builtin; refine wpList_append_own _ rfl _ _ 46 rfl w.heap.size 3 i0 (.int .i64 0) 1 8 Tryz.underlying46 hi hz0 hz1 hz2 rfl (by decide) _ 0 [] rfl hown a 0 cap [] rfl rfl (by simp) (by simp) (by decide) (by decide) (by simp) ?_; intro v' w' h1 h2 _)
      go_ret
      exact ⟨_, rfl, FIN.out _ _ h1 h2⟩
  · obtain ⟨g, off, cap, rfl, c1, c2⟩ := ha.addr (by omega)
    rw [← hn] at ha hl c1 ⊢
    have hnews := news_of_ints (ha.ext E1)
    have HN := Lib.hid hn
    have HW := Lib.hid hnews
    clear hn hnews
    go_enter Tryz.func47, Tryz.ntmps47
    go_wp2_with (at_builtin; refine wpList_append_own _ rfl _ _ 46 rfl w.heap.size 3 i0 (.int .i64 0) 1 8 Tryz.underlying46 hi hz0 hz1 hz2 rfl (by decide) _ 0 [] rfl hown ⟨g, off, none⟩ n cap (zs.map (Value.int .i64)) rfl (by simp [HN.out]) HW.out (ints_one zs) (by unfold maxLen; omega) (by omega) (by simp) ?_; intro v' w' h1 h2 _)
    go_ret
    exact ⟨_, rfl, FIN.out _ _ h1 h2⟩
/-- a frame's three cells, nought, that may be written -/
def FrAt (w : World) (B : Nat) : Prop := (w.cell? ⟨B, 0, none⟩ = some (.int .i64 0) ∧ w.cell? ⟨B, 1, none⟩ = some (.int .i64 0) ∧ w.cell? ⟨B, 2, none⟩ = some (.slice none 0 0)) ∧ w.frozen? ⟨B, 0, none⟩ = false ∧ w.frozen? ⟨B, 1, none⟩ = false ∧ w.frozen? ⟨B, 2, none⟩ = false
theorem FrAt.new (w : World) : FrAt (w.alloc (.cells #[.int .i64 0, .int .i64 0, .slice none 0 0] 48)) w.heap.size := by
  refine ⟨⟨by simp, by simp, by simp⟩, by simp, by simp, by simp⟩
theorem FrAt.ext {w w' : World} {B : Nat} (h : FrAt w B) (k : Ext w w') : FrAt w' B := by
  obtain ⟨⟨h0, h1, h2⟩, f0, f1, f2⟩ := h
  have hB := Ext.lt h0
  exact ⟨⟨k.cell h0, k.cell h1, k.cell h2⟩, (k.frozen (Ext.lt h0)).trans f0, (Below.frozen k (Ext.lt h1)).trans f1, (Below.frozen k (Ext.lt h2)).trans f2⟩
set_option maxRecDepth 20000 in
set_option maxHeartbeats 2000000 in
theorem copy_frame (W H : Int) (zs : List Int) (a : Option Addr) (n cap : Nat) (w : World) (h : Ints w (.slice a n cap) zs) (hl : zs.length ≤ 1000000) :
    Calls Tryz.prog 17 #[.agg #[.int .i64 W, .int .i64 H, .slice a n cap]] w fun e w' => ∃ u, e = .returned (.agg #[.int .i64 W, .int .i64 H, u]) ∧ Ints w' u zs ∧ Ext w w' := by
  have C1 := Lib.hid (fun v W k => copy_own zs v W k hl)
  have A1 : Ext w (w.alloc (.cells #[.int .i64 W, .int .i64 H, .slice a n cap] 48)) := (Ext.refl w).alloc _
  have R1 := FrAt.new (w.alloc (.cells #[.int .i64 W, .int .i64 H, .slice a n cap] 48))
  rw [show (w.alloc (.cells #[.int .i64 W, .int .i64 H, .slice a n cap] 48)).heap.size = w.heap.size + 1 by simp] at R1
  have p0 : ((w.alloc (.cells #[.int .i64 W, .int .i64 H, .slice a n cap] 48)).alloc (.cells #[.int .i64 0, .int .i64 0, .slice none 0 0] 48)).cell? ⟨w.heap.size, 0, none⟩ = some (.int .i64 W) := ((Ext.refl _).alloc _).cell (by simp)
  have p1 : ((w.alloc (.cells #[.int .i64 W, .int .i64 H, .slice a n cap] 48)).alloc (.cells #[.int .i64 0, .int .i64 0, .slice none 0 0] 48)).cell? ⟨w.heap.size, 1, none⟩ = some (.int .i64 H) := ((Ext.refl _).alloc _).cell (by simp)
  have p2 : ((w.alloc (.cells #[.int .i64 W, .int .i64 H, .slice a n cap] 48)).alloc (.cells #[.int .i64 0, .int .i64 0, .slice none 0 0] 48)).cell? ⟨w.heap.size, 2, none⟩ = some (.slice a n cap) := ((Ext.refl _).alloc _).cell (by simp)
  have E1 : Ext w ((w.alloc (.cells #[.int .i64 W, .int .i64 H, .slice a n cap] 48)).alloc (.cells #[.int .i64 0, .int .i64 0, .slice none 0 0] 48)) := A1.alloc _
  clear A1
  go_enter Tryz.func17, Tryz.ntmps17
  go_wp2_with fail
  revert R1 p0 p1 p2 E1
  generalize (w.alloc (.cells #[.int .i64 W, .int .i64 H, .slice a n cap] 48)).alloc (.cells #[.int .i64 0, .int .i64 0, .slice none 0 0] 48) = wA
  intro R1 p0 p1 p2 E1
  have RW := Lib.hid R1
  clear R1
  go_region_with ((go_at_call 47; refine (C1.out _ _ (h.ext (by repeat (first | exact Ext.refl _ | assumption | refine Ext.alloc ?_ _ | refine Ext.drew ?_ | refine Ext.drewN ?_ _ | refine Ext.setCell ?_ (by first | exact Nat.le_refl _ | (simp; done) | omega) _ | refine Ext.trans ?_ (by assumption))))).mono ?_; rintro e w9 ⟨u9, rfl, hz9, hx9⟩; have s0 := hx9.cell (show wA.drew.cell? _ = _ from p0); have s1 := hx9.cell (show wA.drew.cell? _ = _ from p1); have s2 := hx9.cell (show wA.drew.cell? _ = _ from p2); have RB := FrAt.ext (show FrAt wA.drew _ from RW.out) hx9; obtain ⟨⟨b0, b1, b2⟩, f0, f1, f2⟩ := RB; obtain ⟨a9, c9, rfl⟩ := (Ints.of_owns hz9 (by omega)).form))
  all_goals
    have hsz : w.heap.size + 1 < wA.drew.heap.size := Ext.lt RW.out.1.1
    have ho := ownsRow_setCell_below (ownsRow_setCell_below (ownsRow_setCell_below hz9 (a := ⟨w.heap.size + 1, 0, none⟩) hsz (.int .i64 W)) (a := ⟨w.heap.size + 1, 1, none⟩) hsz (.int .i64 H)) (a := ⟨w.heap.size + 1, 2, none⟩) hsz (.slice a9 zs.length c9)
    have E9 : Ext w w9 := (by repeat (first | exact Ext.refl _ | assumption | refine Ext.alloc ?_ _ | refine Ext.drew ?_ | refine Ext.drewN ?_ _ | refine Ext.setCell ?_ (by first | exact Nat.le_refl _ | (simp; done) | omega) _ | refine Ext.trans ?_ (by assumption)))
    go_wp2
    obtain ⟨g0, g1, g2⟩ := fr_cells W H (.slice a9 zs.length c9) b0 b1 b2
    exact bodyPost_ret (v := .agg #[.int .i64 W, .int .i64 H, .slice a9 zs.length c9]) (by simp [results, Tryz.results17, go_sem, g0, g1, g2]) rfl ⟨_, rfl, Ints.of_owns ho (by omega), ((E9.setCell (by simp) _).setCell (by simp) _).setCell (by simp) _⟩
end Go.Proofs.YtgohlhgapboijaaGreatDoor

/- slices.Repeat of one int, at the lengths that are asked for: its contract over this seat's translation. -/
namespace Go.Proofs.YtgohlhgapboijaaGreatDoor
set_option linter.unusedVariables false
set_option linter.unusedSimpArgs false
open Go.RowKit Go.Extern.Stop Go.Stop Go.Extern

theorem zeros_rowr (n : Nat) (x : Int) : (madeCells (Value.int .i64 0).cells (n * 1)).toList = (rowL n fun j => if j < 0 then x else 0).map (Value.int .i64) := by
  apply List.ext_getElem?
  intro j
  by_cases hj : j < n <;> simp [madeCells, rowL, Value.cells, hj, Nat.mod_one]
theorem own_heap {w : World} {base g N : Nat} {xs : List Value} (h : w.ownsRow base 3 1 (.slice (some ⟨g, 0, none⟩) N N) N xs) : w.heap[g]? = some (.cells xs.toArray 3 (0, 0)) := by
  obtain ⟨hl, h | ⟨g', cap, cur, e, -, hg, -, -, hs, ht⟩⟩ := h
  · cases h.1
  · simp only [Value.slice.injEq, Option.some.injEq, Addr.mk.injEq, and_true, true_and] at e
    obtain ⟨rfl, rfl⟩ := e
    rw [hg]
    have : cur.toList = xs := by rw [← ht, List.take_of_length_le (by simp [hs])]
    rw [← this]
theorem heap_own {w : World} {base g N : Nat} {xs : List Value} (hb : base ≤ g) (hl : xs.length = N) (hN : N ≤ maxLen) (h : w.heap[g]? = some (.cells xs.toArray 3 (0, 0))) : w.ownsRow base 3 1 (.slice (some ⟨g, 0, none⟩) N N) N xs :=
  ⟨by omega, Or.inr ⟨g, N, xs.toArray, rfl, hb, h, Nat.le_refl _, hN, by simp [hl], by rw [List.take_of_length_le (by simp [hl])]⟩⟩
theorem splice_rep {N n k : Nat} {x : Int} (h : n + k ≤ N) : splice ((rowL N fun j => if j < n then x else 0).map (Value.int .i64)) n ((rowL k fun _ => x).map (Value.int .i64)) = (rowL N fun j => if j < n + k then x else 0).map (Value.int .i64) := by
  unfold splice
  apply List.ext_getElem?
  intro j
  by_cases h1 : j < n
  · rw [List.getElem?_append_left (by simp [rowL_length]; omega)]
    rw [List.getElem?_take, if_pos h1, List.getElem?_map, List.getElem?_map, rowL_get (by omega), rowL_get (by omega), if_pos h1, if_pos (by omega)]
  · rw [List.getElem?_append_right (by simp [rowL_length]; omega)]
    have e1 : (List.take n (List.map (Value.int .i64) (rowL N fun j => if j < n then x else 0))).length = n := by simp [rowL_length]; omega
    rw [e1]
    by_cases h2 : j < n + k
    · rw [List.getElem?_append_left (by simp [rowL_length]; omega), List.getElem?_map, List.getElem?_map, rowL_get (by omega), rowL_get (by omega), if_pos h2]
    · rw [List.getElem?_append_right (by simp [rowL_length]; omega), List.getElem?_drop]
      have e2 : n + (List.map (Value.int .i64) (rowL k fun _ => x)).length + (j - n - (List.map (Value.int .i64) (rowL k fun _ => x)).length) = j := by simp [rowL_length]; omega
      rw [e2, List.getElem?_map, List.getElem?_map]
      by_cases h3 : j < N
      · rw [rowL_get h3, rowL_get h3, if_neg h1, if_neg h2]
      · rw [List.getElem?_eq_none (by rw [rowL_length]; omega), List.getElem?_eq_none (by rw [rowL_length]; omega)]
theorem rep_read {w : World} {G N n k : Nat} {x : Int} (h : w.heap[G]? = some (.cells ((rowL N fun j => if j < n then x else 0).map (Value.int .i64)).toArray 3 (0, 0))) (hk : k ≤ n) (hn : n ≤ N) : ∀ j u, ((rowL k fun _ => x).map (Value.int .i64))[j]? = some u → w.cell? ((⟨G, 0, none⟩ : Addr).add j) = some u := fun j u hu => by
  have hadd : (⟨G, 0, none⟩ : Addr).add j = ⟨G, 0 + j, none⟩ := by unfold Addr.add; split <;> simp_all
  rw [List.getElem?_map] at hu
  obtain ⟨y, hy, rfl⟩ := Option.map_eq_some_iff.1 hu
  have hj : j < k := by
    have := (List.getElem?_eq_some_iff.1 hy).1
    rwa [rowL_length] at this
  rw [rowL_get hj] at hy
  cases hy
  rw [hadd]
  have e : ((rowL N fun j => if j < n then x else 0).map (Value.int .i64))[0 + j]? = some (.int .i64 x) := by
    rw [Nat.zero_add, List.getElem?_map, rowL_get (by omega), if_pos (by omega)]; rfl
  unfold World.cell?
  simp only [h]
  simpa using e
theorem ones_int (k : Nat) (x : Int) : ∀ u ∈ (rowL k fun _ => x).map (Value.int .i64), u.oneCell' = true := fun u hu => by
  obtain ⟨y, _, rfl⟩ := List.mem_map.1 hu
  rfl
theorem rowL_one (x : Int) : (rowL 1 fun _ => x).map (Value.int .i64) = [Value.int .i64 x] := by simp [rowL, List.range_succ]
theorem rep_made {w w3 : World} {N G g0 off0 cap0 : Nat} {x : Int} (ha : Ints w (.slice (some ⟨g0, off0, none⟩) 1 cap0) [x]) (h : w3.ownsRow w.heap.size 3 1 (.slice (some ⟨w.heap.size, 0, none⟩) N N) N (madeCells (Value.int .i64 0).cells (N * 1)).toList) (hg : w.grownBy w3 none) (hG : G = w.heap.size) :
    Hid (Ext w w3 ∧ w3.heap[G]? = some (.cells ((rowL N fun j => if j < 0 then x else 0).map (Value.int .i64)).toArray 3 (0, 0)) ∧ ∀ j u, ([Value.int .i64 x])[j]? = some u → w3.cell? ((⟨g0, off0, none⟩ : Addr).add j) = some u) := by
  have hE3 : Ext w w3 := Below.grown (Ext.refl w) hg (Nat.le_refl _) (fun k hk => by cases hk)
  rw [zeros_rowr N x] at h
  subst hG
  exact ⟨hE3, own_heap h, news_of_ints (ha.ext hE3)⟩
theorem infoSz : (Tryz.prog.info? 3).map (·.size) = some 1 := by kernel_rfl
end Go.Proofs.YtgohlhgapboijaaGreatDoor

/- Slices of int slices: what they read as; rows of the call's own, several at once. -/
namespace Go.Proofs.YtgohlhgapboijaaGreatDoor
set_option linter.unusedVariables false
set_option linter.unusedSimpArgs false
open Go.RowKit Go.Extern.Stop Go.Stop Go.Extern

/-- a slice value that reads as these rows -/
def Mat (w : World) (v : Value) (L : List (List Int)) : Prop := ∃ (a : Option Addr) (cap : Nat), v = .slice a L.length cap ∧ L.length ≤ cap ∧ cap ≤ maxLen ∧
  (0 < L.length → ∃ g off, a = some ⟨g, off, none⟩ ∧ ∀ q row, L[q]? = some row → ∃ ra rn rc, w.cell? ⟨g, off + q, none⟩ = some (.slice ra rn rc) ∧ Row w (.slice ra rn rc) row.length (row.map (Value.int .i64)))
theorem Mat.ext {w w' : World} {v : Value} {L : List (List Int)} (h : Mat w v L) (k : Ext w w') : Mat w' v L := by
  obtain ⟨a, cap, h0, h1, h2, h3⟩ := h
  refine ⟨a, cap, h0, h1, h2, fun hl => ?_⟩
  obtain ⟨g, off, e, h4⟩ := h3 hl
  refine ⟨g, off, e, fun q row hq => ?_⟩
  obtain ⟨ra, rn, rc, c1, c2⟩ := h4 q row hq
  exact ⟨ra, rn, rc, k.cell c1, c2.ext k⟩
theorem Mat.form {w : World} {v : Value} {L : List (List Int)} (h : Mat w v L) : ∃ a cap, v = .slice a L.length cap := by
  obtain ⟨a, cap, h0, _⟩ := h
  exact ⟨a, cap, h0⟩
theorem Mat.nil (w : World) : Mat w (.slice none 0 0) [] := ⟨none, 0, rfl, Nat.le_refl _, Nat.zero_le _, fun h => absurd h (Nat.lt_irrefl _)⟩
theorem Mat.len {w : World} {a : Option Addr} {n cap : Nat} {L : List (List Int)} (h : Mat w (.slice a n cap) L) : n = L.length := by
  obtain ⟨a', cap', e, _⟩ := h
  simp only [Value.slice.injEq] at e
  exact e.2.1
theorem Mat.had {w : World} {a : Option Addr} {n cap : Nat} {L : List (List Int)} (h : Mat w (.slice a n cap) L) (hn : 0 < n) : ∃ g off, a = some ⟨g, off, none⟩ := by
  have hl := h.len
  obtain ⟨a', cap', e, _, _, h3⟩ := h
  simp only [Value.slice.injEq] at e
  obtain ⟨rfl, -, rfl⟩ := e
  obtain ⟨g, off, e, _⟩ := h3 (by omega)
  exact ⟨g, off, e⟩
theorem Mat.row {w : World} {g off n cap : Nat} {L : List (List Int)} (h : Mat w (.slice (some ⟨g, off, none⟩) n cap) L) {q : Nat} {row : List Int} (hq : L[q]? = some row) :
    ∃ ra rc, w.cell? ⟨g, off + q, none⟩ = some (.slice ra row.length rc) ∧ Row w (.slice ra row.length rc) row.length (row.map (Value.int .i64)) := by
  have hl := h.len
  obtain ⟨a', cap', e, _, _, h3⟩ := h
  simp only [Value.slice.injEq] at e
  obtain ⟨rfl, -, rfl⟩ := e
  obtain ⟨hj, -⟩ := List.getElem?_eq_some_iff.1 hq
  obtain ⟨g', off', e, h4⟩ := h3 (by omega)
  obtain ⟨rfl, rfl⟩ : g = g' ∧ off = off' := by simpa using e
  obtain ⟨ra, rn, rc, c1, c2⟩ := h4 q row hq
  obtain ⟨a, cap, e⟩ := c2.form
  simp only [Value.slice.injEq] at e
  obtain ⟨rfl, rfl, rfl⟩ := e
  exact ⟨_, _, c1, c2⟩
theorem Mat.at {w : World} {g off n cap : Nat} {L : List (List Int)} (h : Mat w (.slice (some ⟨g, off, none⟩) n cap) L) {q : Nat} {row : List Int} (hq : L[q]? = some row) (hl : row.length ≤ 1000000) :
    ∃ ra rn rc, w.cell? ⟨g, off + q, none⟩ = some (.slice ra rn rc) ∧ Ints w (.slice ra rn rc) row := by
  obtain ⟨ra, rc, c1, c2⟩ := h.row hq
  exact ⟨ra, _, rc, c1, c2, by omega⟩

/-- an append of one int to one of several rows -/
theorem push_at {ops : Array Oper} {rest : List Oper} {o : Oper} {a : Act} {Q : Exit → Act → World → Prop} {W : World} {base : Nat} (hgd : o.guard = none) (s y : Operand) (t : TypeId)
    (ho : o.op = .call { callee := .builtin .append, args := #[s, y], argTypes := #[t, t] }) (ht : Tryz.prog.underlying t = some (.slice 3))
    (v : Value) (n : Nat) (xs : List Value) (x : Int) (hs : a.eval s = v) (hown : W.ownsRow base 3 1 v n xs) (hx : a.eval y = .slice (some ⟨W.heap.size, 0, none⟩) 1 1) (hb : base ≤ W.heap.size) (hn : n ≤ 1000000000000)
    (h : ∀ v' w', w'.ownsRow base 3 1 v' (n + 1) (xs ++ [.int .i64 x]) → W.grownBy w' v.ownBlock → (v'.ownBlock = v.ownBlock ∨ v'.ownBlock = some (W.heap.size + 1)) → wpList Tryz.prog ops Q rest (a.put o.dst v') w') :
    wpList Tryz.prog ops Q (o :: rest) a (W.alloc (.cells #[.int .i64 x] 3)) := by
  obtain ⟨i0, hi, hz0, hz1, hz2⟩ := info_parts infoInt
  refine wpList_append_own_at _ hgd s y t ho base 3 i0 (.int .i64 0) 1 8 ht hi hz0 hz1 hz2 rfl (by decide) v n xs hs (hown.alloc _) ⟨W.heap.size, 0, none⟩ 1 1 [.int .i64 x] hx rfl (cell_one_new _ _ _) (one_int _) (by unfold maxLen; omega) (by omega) (by simp; omega) ?_
  intro v' w' h1 h2 h3 h4
  refine h v' w' h1 ⟨h2.os, h2.tape, h2.output, Nat.le_trans (by simp) h2.size, fun k hk hne => ?_⟩ (by simpa using h4)
  exact (h2.block k (by simp; omega) hne).trans (Below.heap_alloc W _ k hk)
/-- likewise, at a step of a region that draws its order -/
theorem step_push_at {ops : Array Oper} {o : Oper} {a : Act} {K : Act → World → Prop} {Q : Exit → Act → World → Prop} {E : Prop} {W : World} {base : Nat} (hgd : o.guard = none) (s y : Operand) (t : TypeId)
    (ho : o.op = .call { callee := .builtin .append, args := #[s, y], argTypes := #[t, t] }) (ht : Tryz.prog.underlying t = some (.slice 3))
    (v : Value) (n : Nat) (xs : List Value) (x : Int) (hs : a.eval s = v) (hown : W.ownsRow base 3 1 v n xs) (hx : a.eval y = .slice (some ⟨W.heap.size, 0, none⟩) 1 1) (hb : base ≤ W.heap.size) (hn : n ≤ 1000000000000)
    (h : ∀ g cap w', w'.ownsRow base 3 1 (.slice (some ⟨g, 0, none⟩) (n + 1) cap) (n + 1) (xs ++ [.int .i64 x]) → W.grownBy w' v.ownBlock → (some g = v.ownBlock ∨ some g = some (W.heap.size + 1)) → K (a.put o.dst (.slice (some ⟨g, 0, none⟩) (n + 1) cap)) w') :
    if Region.wanted o (yielded ops a.tmps) = true then Oper.wp Tryz.prog o a ((W.alloc (.cells #[.int .i64 x] 3)).drew) K Q else E := by
  obtain ⟨i0, hi, hz0, hz1, hz2⟩ := info_parts infoInt
  have hown' : ((W.alloc (.cells #[.int .i64 x] 3)).drew).ownsRow base 3 1 v n xs := (hown.alloc _).drew
  refine step_append_lies _ hgd s y t ho base 3 i0 (.int .i64 0) 1 8 ht hi hz0 hz1 hz2 rfl (by decide) v n xs hs hown' ⟨W.heap.size, 0, none⟩ 1 1 [.int .i64 x] hx rfl (World.news_of_block (cs := #[.int .i64 x]) (t := 3) (fr := (0, 0)) (heap_alloc_new W _)) (one_int _) (by decide) (by unfold maxLen; omega) (by omega) (by simp; omega) (W.heap.size + 1) (by simp) ?_
  intro g cap w' h1 h2 h3 _
  refine h g cap w' h1 ⟨h2.os, h2.tape, h2.output, Nat.le_trans (by simp) h2.size, fun k hk hne => ?_⟩ (by
    rcases h3 with h3 | h3
    · exact Or.inl h3.symm
    · exact Or.inr (by rw [h3]))
  exact (h2.block k (by simp; omega) hne).trans (Below.heap_alloc W _ k hk)
theorem own_grownBy {w w' : World} {base : Nat} {e : TypeId} {size n : Nat} {v : Value} {xs : List Value} {row : Option Nat} (h : w.ownsRow base e size v n xs) (k : w.grownBy w' row) (hne : v.ownBlock = none ∨ v.ownBlock ≠ row) : w'.ownsRow base e size v n xs := by
  obtain ⟨hl, h⟩ := h
  refine ⟨hl, ?_⟩
  rcases h with h | ⟨g, cap, cur, rfl, hb, hg, h⟩
  · exact Or.inl h
  · have hlt : g < w.heap.size := (Array.getElem?_eq_some_iff.1 hg).1
    have e1 : Value.ownBlock (.slice (some ⟨g, 0, none⟩) n cap) = some g := rfl
    rw [e1] at hne
    refine Or.inr ⟨g, cap, cur, rfl, hb, (k.block g hlt ?_).trans hg, h⟩
    rcases hne with hne | hne
    · cases hne
    · exact hne
/-- m rows of the call's own, in a block of its own -/
def RowsAt (w : World) (g m base : Nat) (R : Nat → Value) (Z : Nat → List Int) : Prop :=
  w.rowIs g 46 m R ∧ g < base ∧ base ≤ w.heap.size ∧ (∀ q, q < m → w.ownsRow base 3 1 (R q) (Z q).length ((Z q).map (Value.int .i64))) ∧ ∀ q q', q < m → q' < m → q ≠ q' → (R q).ownBlock = none ∨ (R q).ownBlock ≠ (R q').ownBlock
theorem RowsAt.push {w w' : World} {g m base q : Nat} {R : Nat → Value} {Z : Nat → List Int} {v' : Value} {x : Int} (h : RowsAt w g m base R Z) (hq : q < m)
    (h1 : w'.ownsRow base 3 1 v' ((Z q).length + 1) ((Z q).map (Value.int .i64) ++ [.int .i64 x])) (h2 : w.grownBy w' (R q).ownBlock) (h3 : v'.ownBlock = (R q).ownBlock ∨ v'.ownBlock = some (w.heap.size + 1)) :
    RowsAt (w'.setCell ⟨g, q, none⟩ v') g m base (fun j => if j = q then v' else R j) (fun j => if j = q then Z q ++ [x] else Z j) := by
  obtain ⟨r1, r2, r3, r4, r5⟩ := h
  have gne : some g ≠ (R q).ownBlock := fun e => by have := ((r4 q hq).lt g e.symm).1; omega
  have hgs : g < w.heap.size := r1.lt
  refine ⟨(r1.of_block (h2.block g hgs gne)).set q v', r2, by have := h2.size; simp [World.setCell]; omega, fun j hj => ?_, fun i j hi hj hij => ?_⟩
  · by_cases hjq : j = q
    · subst hjq
      simp only [if_pos]
      rw [List.length_append, List.map_append]
      exact ownsRow_setCell_below h1 (a := ⟨g, j, none⟩) r2 _
    · simp only [if_neg hjq]
      exact ownsRow_setCell_below (own_grownBy (r4 j hj) h2 (r5 j q hj hq hjq)) (a := ⟨g, q, none⟩) r2 _
  · have lt : ∀ k, k < m → (R k).ownBlock ≠ some (w.heap.size + 1) := fun k hk e => by have := ((r4 k hk).lt _ e).2; omega
    by_cases h1 : i = q
    · subst h1
      have h2 : ¬ j = i := fun e => hij e.symm
      simp only [if_pos, if_neg h2]
      rcases h3 with h3 | h3
      · rw [h3]; exact r5 i j hi hj hij
      · rw [h3]; exact Or.inr (fun e => lt j hj e.symm)
    · by_cases h2 : j = q
      · subst h2
        simp only [if_pos, if_neg h1]
        rcases h3 with h3 | h3
        · rw [h3]; exact r5 i j hi hj hij
        · rw [h3]; exact Or.inr (lt i hi)
      · simp only [if_neg h1, if_neg h2]
        exact r5 i j hi hj hij
theorem RowsAt.mat {w : World} {g m base : Nat} {R : Nat → Value} {Z : Nat → List Int} (h : RowsAt w g m base R Z) (hm : m ≤ 1000000) (hz : ∀ q, q < m → (Z q).length ≤ 1000000) : Mat w (.slice (some ⟨g, 0, none⟩) m m) ((List.range m).map Z) := by
  obtain ⟨r1, r2, r3, r4, r5⟩ := h
  refine ⟨some ⟨g, 0, none⟩, m, by simp, by simp, by unfold maxLen; omega, fun _ => ⟨g, 0, rfl, fun q row hq => ?_⟩⟩
  rw [List.getElem?_map] at hq
  obtain ⟨j, hj, rfl⟩ := Option.map_eq_some_iff.1 hq
  obtain ⟨hlt, e⟩ := List.getElem?_eq_some_iff.1 hj
  simp at hlt e
  subst e
  have hi := Ints.of_owns (r4 q hlt) (by have := hz q hlt; omega)
  obtain ⟨a, cap, e⟩ := hi.form
  refine ⟨a, _, cap, ?_, by rw [← e]; exact hi.1⟩
  rw [← e]
  simpa using r1.cell hlt
end Go.Proofs.YtgohlhgapboijaaGreatDoor

/- slices.Repeat's row as one of the call's own; the builtin copy, that leaves all other blocks. -/
namespace Go.Proofs.YtgohlhgapboijaaGreatDoor
set_option linter.unusedVariables false
set_option linter.unusedSimpArgs false
open Go.RowKit Go.Extern.Stop Go.Stop Go.Extern

theorem own_mono {w : World} {base b n : Nat} {e : TypeId} {s : Nat} {v : Value} {xs : List Value} (h : w.ownsRow base e s v n xs) (hb : b ≤ base) : w.ownsRow b e s v n xs := by
  obtain ⟨hl, h⟩ := h
  refine ⟨hl, ?_⟩
  rcases h with h | ⟨g, cap, cur, e, hg, h⟩
  · exact Or.inl h
  · exact Or.inr ⟨g, cap, cur, e, Nat.le_trans hb hg, h⟩
/-- made by Repeat, at the lengths that are asked for -/
def RepPost (w : World) (N : Nat) (x : Int) (e : Ending) (w' : World) : Prop := ∃ g, e = .returned (.slice (some ⟨g, 0, none⟩) N N) ∧ Ext w w' ∧ w'.ownsRow w.heap.size 3 1 (.slice (some ⟨g, 0, none⟩) N N) N ((rowL N fun _ => x).map (Value.int .i64)) ∧ w.heap.size ≤ g ∧ g < w'.heap.size
theorem grownBy_setRow (w : World) (g : Nat) (cs : Array Value) : w.grownBy (w.setRow g cs) (some g) :=
  ⟨rfl, rfl, rfl, by simp [World.setRow], fun k _ hne => setRow_other w g k cs (fun e => hne (by rw [e]))⟩
theorem copy_keep {P : Program} {w : World} {ops : Array Oper} {rest : List Oper} {o : Oper} {a : Act} {Q : Exit → Act → World → Prop} (hgd : o.guard = none) (d s : Operand) (dT sT : TypeId)
    (ho : o.op = .call { callee := .builtin .copy, args := #[d, s], argTypes := #[dT, sT] }) (elem : TypeId) (hu : P.underlying dT = some (.slice elem)) (hsz : (P.info? elem).map (·.size) = some 1)
    (g off dLen dCap : Nat) (ad : Addr) (sLen sCap : Nat) (hd : a.eval d = .slice (some ⟨g, off, none⟩) dLen dCap) (hs : a.eval s = .slice (some ad) sLen sCap)
    (cur : List Value) (t : TypeId) (hg : w.heap[g]? = some (.cells cur.toArray t (0, 0))) (cs : List Value) (hn : cs.length = Nat.min sLen dLen)
    (hsrc : ∀ j v, cs[j]? = some v → w.cell? (ad.add j) = some v) (hfit : off + cs.length ≤ cur.length) (h1 : ∀ v ∈ cs, v.oneCell' = true)
    (h : ∀ w', Hid (w'.heap[g]? = some (.cells (splice cur off cs).toArray t (0, 0))) → w.grownBy w' (some g) → wpList P ops Q rest (a.put o.dst (goInt cs.length)) w') :
    wpList P ops Q (o :: rest) a w := by
  refine wpList_copy_own hgd d s dT sT ho elem hu hsz g off dLen dCap ad sLen sCap hd hs cur.toArray t hg cs hn hsrc (by simpa using hfit) h1 ?_
  exact h _ (show _ = _ by simpa [splice] using setRow_heap w g _ _ t _ hg) (grownBy_setRow _ _ _)
/-- what a copy reads, out of a list that came in -/
theorem read_row {w : World} {g off n cap k N : Nat} {zs : List Int} {f : Nat → Int} (h : Ints w (.slice (some ⟨g, off, none⟩) n cap) zs) (hk : k + N ≤ n) (hf : ∀ j, j < N → f j = zs.getD (k + j) 0) :
    ∀ j v, ((rowL N f).map (Value.int .i64))[j]? = some v → w.cell? ((⟨g, off + k, none⟩ : Addr).add j) = some v := fun j v hv => by
  have hadd : (⟨g, off + k, none⟩ : Addr).add j = ⟨g, off + (k + j), none⟩ := by unfold Addr.add; split <;> simp_all [Nat.add_assoc]
  rw [List.getElem?_map] at hv
  obtain ⟨y, hy, rfl⟩ := Option.map_eq_some_iff.1 hv
  have hj : j < N := by
    have := (List.getElem?_eq_some_iff.1 hy).1
    rwa [rowL_length] at this
  rw [rowL_get hj] at hy
  cases hy
  rw [hadd, hf j hj]
  exact h.at (get_of_lt (by rw [← h.len]; omega))
theorem ones_row (N : Nat) (f : Nat → Int) : ∀ u ∈ (rowL N f).map (Value.int .i64), u.oneCell' = true := fun u hu => by
  obtain ⟨y, _, rfl⟩ := List.mem_map.1 hu
  rfl
/-- a splice that covers all -/
theorem splice_all {α : Type} {L cs : List α} (h : cs.length = L.length) : splice L 0 cs = cs := by
  unfold splice
  simp [h]
theorem rowL_cg {N : Nat} {f g : Nat → Int} (h : ∀ j, j < N → f j = g j) : rowL N f = rowL N g := by
  unfold rowL
  exact List.map_congr_left fun j hj => h j (List.mem_range.1 hj)
theorem rowL_sn (k : Nat) (f : Nat → Int) : (rowL (k + 1) f).map (Value.int .i64) = (rowL k f).map (Value.int .i64) ++ [.int .i64 (f k)] := by
  unfold rowL
  rw [List.range_succ, List.map_append, List.map_append]
  rfl
end Go.Proofs.YtgohlhgapboijaaGreatDoor

/- kinref6.May: its contract over this seat's translation. -/
namespace Go.Proofs.YtgohlhgapboijaaGreatDoor
set_option linter.unusedVariables false
set_option linter.unusedSimpArgs false
open Go.RowKit Go.Extern.Stop Go.Stop Go.Extern

set_option maxRecDepth 20000 in
set_option maxHeartbeats 1000000 in
theorem rmay_any (W H : Int) (zs : List Int) (a : Option Addr) (n cap : Nat) (w : World) (h : Ints w (.slice a n cap) zs) :
    Calls Tryz.prog 23 #[.agg #[.int .i64 W, .int .i64 H, .slice a n cap]] w fun e w' => e = .returned (.bool (decide (may W H zs))) ∧ Ext w w' := by
  have E1 : Ext w (w.alloc (.cells #[.int .i64 W, .int .i64 H, .slice a n cap] 48)) := (Ext.refl w).alloc _
  have HN := Lib.hid h.len
  cases hs : sideB W with
  | false =>
    have HR : Hid (decide (may W H zs) = false) := by show _ = _; simp [may, hs]
    go_enter Tryz.func23, Tryz.ntmps23
    go_wp2_with (go_at_call 54; refine (rside_any _ _).mono ?_; rintro e w' ⟨rfl, rfl⟩)
    go_ret
    exact ⟨by rw [HR.out]; rfl, E1⟩
  | true =>
    cases ht : sideB H with
    | false =>
      have HR : Hid (decide (may W H zs) = false) := by show _ = _; simp [may, ht]
      go_enter Tryz.func23, Tryz.ntmps23
      go_wp2_with (go_at_call 54; refine (rside_any _ _).mono ?_; rintro e w' ⟨rfl, rfl⟩)
      go_ret
      exact ⟨by rw [HR.out]; rfl, E1⟩
    | true =>
      obtain ⟨b1, b2⟩ := side_area hs ht
      by_cases hl : (n : Int) = W * H
      · have hl2 : ((n : Int) == W * H) = true := by simpa using hl
        have HW := Lib.hid (within_any zs 0 255)
        have HR : Hid (decide (may W H zs) = decide (within 0 255 zs)) := by
          show _ = _
          rw [decide_eq_decide]
          exact ⟨fun k => k.2.2.2, fun k => ⟨hs, ht, by rw [← HN.out]; exact hl, k⟩⟩
        clear hl
        cases hd : decide (within 0 255 zs) with
        | true =>
          rw [hd] at HR HW
          clear hd
          go_enter Tryz.func23, Tryz.ntmps23
          go_wp2_with (go_at_call 54; refine (rside_any _ _).mono ?_; rintro e w' ⟨rfl, rfl⟩)
          refine (HW.out _ _ (h.ext (by repeat (first | exact Ext.refl _ | assumption | refine Ext.alloc ?_ _ | refine Ext.drew ?_ | refine Ext.drewN ?_ _ | refine Ext.setCell ?_ (by first | exact Nat.le_refl _ | (simp; done) | omega) _ | refine Ext.trans ?_ (by assumption))))).mono ?_; rintro e w2 ⟨rfl, hx2⟩
          go_wp2
          go_ret
          exact ⟨by rw [HR.out]; rfl, (by repeat (first | exact Ext.refl _ | assumption | refine Ext.alloc ?_ _ | refine Ext.drew ?_ | refine Ext.drewN ?_ _ | refine Ext.setCell ?_ (by first | exact Nat.le_refl _ | (simp; done) | omega) _ | refine Ext.trans ?_ (by assumption)))⟩
        | false =>
          rw [hd] at HR HW
          clear hd
          go_enter Tryz.func23, Tryz.ntmps23
          go_wp2_with (go_at_call 54; refine (rside_any _ _).mono ?_; rintro e w' ⟨rfl, rfl⟩)
          refine (HW.out _ _ (h.ext (by repeat (first | exact Ext.refl _ | assumption | refine Ext.alloc ?_ _ | refine Ext.drew ?_ | refine Ext.drewN ?_ _ | refine Ext.setCell ?_ (by first | exact Nat.le_refl _ | (simp; done) | omega) _ | refine Ext.trans ?_ (by assumption))))).mono ?_; rintro e w2 ⟨rfl, hx2⟩
          go_wp2
          go_ret
          exact ⟨by rw [HR.out]; rfl, (by repeat (first | exact Ext.refl _ | assumption | refine Ext.alloc ?_ _ | refine Ext.drew ?_ | refine Ext.drewN ?_ _ | refine Ext.setCell ?_ (by first | exact Nat.le_refl _ | (simp; done) | omega) _ | refine Ext.trans ?_ (by assumption)))⟩
      · have HR : Hid (decide (may W H zs) = false) := by show _ = _; rw [decide_eq_false (fun hm => hl (by rw [HN.out]; exact hm.2.2.1))]
        have hl2 : ((n : Int) == W * H) = false := by simpa using hl
        clear hl
        go_enter Tryz.func23, Tryz.ntmps23
        go_wp2_with (go_at_call 54; refine (rside_any _ _).mono ?_; rintro e w' ⟨rfl, rfl⟩)
        go_ret
        exact ⟨by rw [HR.out]; rfl, E1⟩
theorem place_in {W H x y : Int} {n : Nat} (hW : W ≤ 32) (hH : H ≤ 32) (hn : (n : Int) = W * H) (hx : x < W) (hy : y < H) : 0 ≤ x → 0 ≤ y → 0 ≤ y * W ∧ y * W ≤ 100000 ∧ y * W + x < n := fun h1 h2 => by
  have a1 : 0 ≤ y * W := Int.mul_nonneg h2 (by omega)
  have a2 : (y + 1) * W ≤ H * W := Int.mul_le_mul_of_nonneg_right (by omega) (by omega)
  have a3 : H * W ≤ 32 * 32 := Int.mul_le_mul hH hW (by omega) (by omega)
  have a4 : (y + 1) * W = y * W + W := by rw [Int.add_mul, Int.one_mul]
  have a5 : W * H = H * W := Int.mul_comm _ _
  omega
end Go.Proofs.YtgohlhgapboijaaGreatDoor

/- slices.Equal, plane.Same, at, At, New; kinref6.at, At; kinlaw6.few: contracts over this seat's translation. -/
namespace Go.Proofs.YtgohlhgapboijaaGreatDoor
set_option linter.unusedVariables false
set_option linter.unusedSimpArgs false
open Go.RowKit Go.Extern.Stop Go.Stop Go.Extern

/-- are two frames valid and the same -/
def sameB (W H : Int) (xs : List Int) (W' H' : Int) (ys : List Int) : Bool := decide (may W H xs) && (decide (W = W') && (decide (H = H') && decide (xs = ys)))
/-- the nearest place inside -/
def clampI (v n : Int) : Int := max 0 (min v (n - 1))
theorem clampI_in {v n : Int} (h : 1 ≤ n) : 0 ≤ clampI v n ∧ clampI v n < n := by unfold clampI; omega
/-- the sample at a place; beyond an edge, the one at the edge -/
def atV (W H : Int) (zs : List Int) (x y : Int) : Int := zs.getD (clampI y H * W + clampI x W).toNat 0
theorem at_place {W H : Int} {zs : List Int} (h : may W H zs) (x y : Int) : ∃ k : Nat, clampI y H * W + clampI x W = (k : Int) ∧ k < zs.length ∧ 0 ≤ clampI y H * W ∧ clampI y H * W ≤ 100000 ∧ (k : Int) ≤ 100000 ∧ 0 ≤ clampI x W ∧ clampI x W ≤ 31 := by
  have hW := sideB_true h.1
  have hH := sideB_true h.2.1
  have c1 := clampI_in (v := x) (n := W) (by omega)
  have c2 := clampI_in (v := y) (n := H) (by omega)
  obtain ⟨a1, a2, a3⟩ := place_in hW.2.1 hH.2.1 h.2.2.1 c1.2 c2.2 c1.1 c2.1
  have hml := may_len h
  exact ⟨(clampI y H * W + clampI x W).toNat, by omega, by omega, a1, a2, by omega, c1.1, by omega⟩
def atA (W H : Int) (zs : List Int) (x y : Int) : Int := if may W H zs then atV W H zs x y else 0
end Go.Proofs.YtgohlhgapboijaaGreatDoor
