/- kinref7.Whole, Zero, where Quarter and Whole refuse; kinref.Lists: contracts over this seat's translation. -/
import Derived.Test.YtkealkjijfbdoaaDoorR7q
import Derived.Test.YtkealkjijfbdoaaDoorWhl
import Derived.Test.YtkealkjijfbdoaaDoorR7b
namespace Go.Proofs.YtkealkjijfbdoaaDoor
set_option linter.unusedVariables false
set_option linter.unusedSimpArgs false
open Go.RowKit Go.Extern.Stop Go.Stop Go.Extern

theorem rquarter_no (zs : List Int) (v : Value) (w : World) (ha : Ints w v zs) (hN : zs.length ≠ 64) :
    Calls Tryd.prog 47 #[v] w (RMPost w (quarV zs) fit) := by
  have HV : Hid (quarV zs = []) := by show _ = _; unfold quarV; rw [if_neg hN]
  obtain ⟨a, cap, rfl⟩ := ha.form
  have b1 : ((zs.length : Int) != 64) = true := by simp; omega
  have RV := ResAt.new w
  clear hN ha
  go_enter Tryd.func47, Tryd.ntmps47
  go_wp2_with fail
  refine (fail_any 14 _).mono ?_; rintro e w2 ⟨rfl, hx2⟩
  obtain ⟨r0, r1, f0, f1⟩ := RV.ext hx2
  clear RV
  go_wp2
  obtain ⟨e0, e1⟩ := res_cells (c := 14) r0 r1 (.slice none 0 0)
  exact bodyPost_ret (v := .tuple #[.slice none 0 0, .agg #[.int .i64 14, .slice none 0 0]]) (by simp [results, Tryd.results47, go_sem, e0, e1]) rfl ⟨_, _, _, _, _, rfl, (by repeat (first | exact Ext.refl _ | assumption | refine Ext.alloc ?_ _ | refine Ext.drew ?_ | refine Ext.drewN ?_ _ | refine Ext.setCell ?_ (by first | exact Nat.le_refl _ | (simp; done) | omega) _ | refine Ext.trans ?_ (by assumption))), by rw [HV.out]; exact Mat.nil _, RErrIs.code (by decide)⟩
theorem rquarter_any (zs : List Int) (v : Value) (w : World) (ha : Ints w v zs) :
    Calls Tryd.prog 47 #[v] w (RMPost w (quarV zs) (quarF zs)) := by
  unfold quarF
  by_cases h : zs.length = 64
  · rw [if_pos h]; exact rquarter_ok zs v w ha h
  · rw [if_neg h]; exact rquarter_no zs v w ha h
theorem rwhole_no4 (L : List (List Int)) (v : Value) (w : World) (ha : Mat w v L) (h4 : L.length ≠ 4) :
    Calls Tryd.prog 49 #[v] w (RZPost w [] fit) := by
  obtain ⟨a, cap, rfl⟩ := ha.form
  have b1 : ((L.length : Int) != 4) = true := by simp; omega
  have RV := ResAt.new w
  clear h4 ha
  go_enter Tryd.func49, Tryd.ntmps49
  go_wp2_with fail
  refine (fail_any 14 _).mono ?_; rintro e w2 ⟨rfl, hx2⟩
  obtain ⟨r0, r1, f0, f1⟩ := RV.ext hx2
  clear RV
  go_wp2
  obtain ⟨e0, e1⟩ := res_cells (c := 14) r0 r1 (.slice none 0 0)
  exact bodyPost_ret (v := .tuple #[.slice none 0 0, .agg #[.int .i64 14, .slice none 0 0]]) (by simp [results, Tryd.results49, go_sem, e0, e1]) rfl ⟨_, _, _, _, _, rfl, (by repeat (first | exact Ext.refl _ | assumption | refine Ext.alloc ?_ _ | refine Ext.drew ?_ | refine Ext.drewN ?_ _ | refine Ext.setCell ?_ (by first | exact Nat.le_refl _ | (simp; done) | omega) _ | refine Ext.trans ?_ (by assumption))), Ints.nil _, RErrIs.code (by decide)⟩
set_option maxRecDepth 20000 in
theorem rwhole_no16 (L : List (List Int)) (v : Value) (w : World) (ha : Mat w v L) (h4 : L.length = 4) (h16 : ¬ ∀ (q : Nat) (row : List Int), L[q]? = some row → row.length = 16) :
    Calls Tryd.prog 49 #[v] w (RZPost w [] fit) := by
  obtain ⟨a, cap, rfl⟩ := ha.form
  rw [h4] at ha ⊢
  obtain ⟨g, off, rfl⟩ := ha.had (by decide)
  have H4 := Lib.hid h4
  have H16 := Lib.hid h16
  have RV := ResAt.new w
  have A1 : Ext w (w.alloc (.cells #[.int .i64 0, .slice none 0 0] 34)) := (by repeat (first | exact Ext.refl _ | assumption | refine Ext.alloc ?_ _ | refine Ext.drew ?_ | refine Ext.drewN ?_ _ | refine Ext.setCell ?_ (by first | exact Nat.le_refl _ | (simp; done) | omega) _ | refine Ext.trans ?_ (by assumption)))
  clear h4 h16
  go_enter Tryd.func49, Tryd.ntmps49
  go_wp2
  go_loop [4] (fun iv => ∃ k : Nat, k ≤ 4 ∧ iv = .int .i64 k ∧ Hid (∀ (q : Nat) (row : List Int), q < k → L[q]? = some row → row.length = 16)) (fun iv => 4 - (intOf iv).toNat)
  case atStart => exact ⟨0, by decide, rfl, fun q row hq => absurd hq (Nat.not_lt_zero _)⟩
  case round =>
    obtain ⟨k, hk, rfl, HJ⟩ := hrel
    by_cases hlt : k < 4
    · obtain ⟨row, hrow⟩ : ∃ row, L[k]? = some row := ⟨_, List.getElem?_eq_getElem (by rw [H4.out]; exact hlt)⟩
      obtain ⟨ra, rc, c1, c2⟩ := (ha.ext A1).row hrow
      obtain ⟨rn, hrn⟩ : ∃ rn, rn = row.length := ⟨_, rfl⟩
      rw [← hrn] at c1
      have HRW := Lib.hid hrow
      by_cases h : rn = 16
      · have b1 : ((rn : Int) != 16) = false := by simp; omega
        have HL : Hid (row.length = 16) := by show _ = _; omega
        clear hrow c2 hrn h
        go_wp2
        go_round
        case rel => exact ⟨k + 1, by omega, by go_num, fun q r hq hr => by
          by_cases e : q = k
          · subst e
            obtain rfl : row = r := Option.some.inj (HRW.out.symm.trans hr)
            exact HL.out
          · exact HJ.out q r (by omega) hr⟩
        case measure => simp [intOf]; omega
      · have b1 : ((rn : Int) != 16) = true := by simp; omega
        clear hrow c2 hrn h
        go_wp2_with fail
        refine (fail_any 14 _).mono ?_; rintro e w2 ⟨rfl, hx2⟩
        obtain ⟨r0, r1, f0, f1⟩ := RV.ext hx2
        clear RV
        go_wp2
        obtain ⟨e0, e1⟩ := res_cells (c := 14) r0 r1 (.slice none 0 0)
        exact bodyPost_ret (v := .tuple #[.slice none 0 0, .agg #[.int .i64 14, .slice none 0 0]]) (by simp [results, Tryd.results49, go_sem, e0, e1]) rfl ⟨_, _, _, _, _, rfl, (by repeat (first | exact Ext.refl _ | assumption | refine Ext.alloc ?_ _ | refine Ext.drew ?_ | refine Ext.drewN ?_ _ | refine Ext.setCell ?_ (by first | exact Nat.le_refl _ | (simp; done) | omega) _ | refine Ext.trans ?_ (by assumption))), Ints.nil _, RErrIs.code (by decide)⟩
    · exfalso
      obtain rfl : k = 4 := by omega
      exact H16.out (fun q row hq => HJ.out q row (by have := (List.getElem?_eq_some_iff.1 hq).1; have := H4.out; omega) hq)
set_option maxHeartbeats 4000000 in
set_option maxRecDepth 20000 in
theorem rwhole_ok (L : List (List Int)) (v : Value) (w : World) (ha : Mat w v L) (h4 : L.length = 4) (h16 : ∀ (q : Nat) (row : List Int), L[q]? = some row → row.length = 16) :
    Calls Tryd.prog 49 #[v] w (RZPost w (rowL 64 (wholeF L)) none) := by
  obtain ⟨a, cap, rfl⟩ := ha.form
  rw [h4] at ha ⊢
  obtain ⟨g, off, rfl⟩ := ha.had (by decide)
  have H4 := Lib.hid h4
  have H16 := Lib.hid h16
  have RV := ResAt.new w
  have A1 : Ext w (w.alloc (.cells #[.int .i64 0, .slice none 0 0] 34)) := (by repeat (first | exact Ext.refl _ | assumption | refine Ext.alloc ?_ _ | refine Ext.drew ?_ | refine Ext.drewN ?_ _ | refine Ext.setCell ?_ (by first | exact Nat.le_refl _ | (simp; done) | omega) _ | refine Ext.trans ?_ (by assumption)))
  have hsz : w.heap.size < (w.alloc (.cells #[.int .i64 0, .slice none 0 0] 34)).heap.size := by simp
  clear h4 h16
  go_enter Tryd.func49, Tryd.ntmps49
  go_wp2
  go_loop [4] (fun iv => ∃ k : Nat, k ≤ 4 ∧ iv = .int .i64 k) (fun iv => 4 - (intOf iv).toNat)
  case atStart => exact ⟨0, by decide, rfl⟩
  case round =>
    obtain ⟨k, hk, rfl⟩ := hrel
    by_cases hlt : k < 4
    · obtain ⟨row, hrow⟩ : ∃ row, L[k]? = some row := ⟨_, List.getElem?_eq_getElem (by rw [H4.out]; exact hlt)⟩
      obtain ⟨ra, rn, rc, c1, c2⟩ := (ha.ext A1).at hrow (by rw [H16.out k row hrow]; omega)
      obtain rfl : rn = 16 := by rw [c2.len, H16.out k row hrow]
      have HRW := Lib.hid hrow
      clear hrow c2
      go_wp2
      go_round
      case rel => exact ⟨k + 1, by omega, by go_num⟩
      case measure => simp [intOf]; omega
    · obtain rfl : k = 4 := by omega
      revert RV A1 hsz
      generalize w.alloc (.cells #[.int .i64 0, .slice none 0 0] 34) = w1
      intro RV A1 hsz
      go_wp2
      go_loopw [5, 6] (fun sv iv wr => ∃ k : Nat, k ≤ 64 ∧ iv = .int .i64 k ∧ Hid (wr.ownsRow w1.heap.size 3 1 sv k ((rowL k (wholeF L)).map (Value.int .i64))) ∧ Ext w1 wr) (fun _ iv _ => 64 - (intOf iv).toNat)
      case atStart => exact ⟨0, by decide, rfl, World.ownsRow_nil _ _ _ _, Ext.refl _⟩
      case round =>
        obtain ⟨k, hk, rfl, HO, hE⟩ := hrel
        have hB := hE.size
        by_cases hlt : k < 64
        · obtain ⟨q, hq⟩ : ∃ q, q = qOf k := ⟨_, rfl⟩
          obtain ⟨t, ht⟩ : ∃ t, t = qAt k := ⟨_, rfl⟩
          obtain ⟨hq4, ht16⟩ : q < 4 ∧ t < 16 := by have := qOf_landed k hlt; omega
          have eq : (k : Int) / 32 * 2 + (k : Int) % 8 / 4 = (q : Int) := by rw [hq]; unfold qOf; omega
          have et : (k : Int) % 32 / 8 * 4 + (k : Int) % 4 = (t : Int) := by rw [ht]; unfold qAt; omega
          obtain ⟨row, hrow⟩ : ∃ row, L[q]? = some row := ⟨_, List.getElem?_eq_getElem (by rw [H4.out]; exact hq4)⟩
          have hlr := H16.out q row hrow
          obtain ⟨ra, rn, rc, c1, c2⟩ := ((ha.ext A1).ext hE).at hrow (by rw [hlr]; omega)
          obtain rfl : rn = 16 := by rw [c2.len, hlr]
          obtain ⟨rg, roff, rfl⟩ := c2.had (by decide)
          obtain ⟨x, hx⟩ : ∃ x, x = wholeF L k := ⟨_, rfl⟩
          have c3 : wr.cell? ⟨rg, roff + t, none⟩ = some (.int .i64 x) := c2.at (by rw [get_of_lt (by omega), hx]; unfold wholeF; rw [← hq, ← ht]; simp [List.getD, hrow])
          have HS : Hid ((rowL (k + 1) (wholeF L)).map (Value.int .i64) = (rowL k (wholeF L)).map (Value.int .i64) ++ [.int .i64 x]) := by
            show _ = _
            rw [rowL_succb, List.map_append, ← hx]
            rfl
          have q0 : (0 : Int) ≤ (q : Int) := by omega
          have q1 : (q : Int) < 4 := by omega
          have t0 : (0 : Int) ≤ (t : Int) := by omega
          have t1 : (t : Int) < 16 := by omega
          clear hrow hlr hx hq ht c2
          go_wp2_with (at_builtin; refine push_int rfl _ _ 22 rfl Tryd.underlying22 _ _ _ _ rfl HO.out (by show Value.slice (some ⟨wr.heap.size, 0, none⟩) 1 1 = _; simp) hB (by omega) ?_; intro v' w7 h1 h2)
          have hE7 := hE.of_below h2 (Nat.le_refl _)
          have HO7 := Lib.hid h1
          clear h1 h2
          go_wp2
          go_roundw
          case rel => exact ⟨k + 1, by omega, by go_num, by show World.ownsRow _ _ _ _ _ _ _; rw [HS.out]; exact HO7.out, hE7⟩
          case measure => simp [intOf]; omega
        · obtain rfl : k = 64 := by omega
          obtain ⟨r0, r1, f0, f1⟩ := RV.ext hE
          have ho2 := ownsRow_setCell_below (ownsRow_setCell_below HO.out (a := ⟨w.heap.size, 0, none⟩) hsz (.int .i64 0)) (a := ⟨w.heap.size, 1, none⟩) hsz (.slice none 0 0)
          clear RV
          go_wp2
          obtain ⟨e0, e1⟩ := res_cells (c := 0) r0 r1 (.slice none 0 0)
          exact bodyPost_ret (v := .tuple #[_, .agg #[.int .i64 0, .slice none 0 0]]) (by simp [results, Tryd.results49, go_sem, e0, e1]) rfl ⟨_, _, _, _, _, rfl, (by repeat (first | exact Ext.refl _ | assumption | refine Ext.alloc ?_ _ | refine Ext.drew ?_ | refine Ext.drewN ?_ _ | refine Ext.setCell ?_ (by first | exact Nat.le_refl _ | (simp; done) | omega) _ | refine Ext.trans ?_ (by assumption))), Ints.of_row ho2 (by omega), RErrIs.zero⟩
theorem rwhole_any (L : List (List Int)) (v : Value) (w : World) (ha : Mat w v L) :
    Calls Tryd.prog 49 #[v] w (RZPost w (wholeV L) (wholeA L)) := by
  unfold wholeV wholeA
  by_cases h : wholeD L = true
  · rw [if_pos h, if_pos h]
    obtain ⟨h1, h2⟩ := wholeD_true h
    exact rwhole_ok L v w ha h1 h2
  · rw [if_neg h, if_neg h]
    by_cases h4 : L.length = 4
    · refine rwhole_no16 L v w ha h4 (fun h16 => h ?_)
      unfold wholeD
      simp only [Bool.and_eq_true, decide_eq_true_eq, List.all_eq_true]
      refine ⟨h4, fun r hr => ?_⟩
      obtain ⟨j, hj, e⟩ := List.mem_iff_getElem.1 hr
      exact h16 j r (by rw [List.getElem?_eq_getElem hj, e])
    · exact rwhole_no4 L v w ha h4
theorem rzero_any (xs : List Int) (v : Value) (w : World) (ha : Ints w v xs) :
    Calls Tryd.prog 52 #[v] w fun e w' => e = .returned (.bool (!xs.any nzB)) ∧ Ext w w' := by
  have H := Lib.hid (within_any xs 0 0 v w ha)
  have e : decide (within 0 0 xs) = !xs.any nzB := by
    cases hp : xs.any nzB with
    | true =>
      obtain ⟨x, hx, h1⟩ := List.any_eq_true.1 hp
      rw [decide_eq_false (fun h => by have := h x hx; unfold nzB at h1; simp at h1; omega)]
      rfl
    | false =>
      rw [decide_eq_true (p := within 0 0 xs) (fun x hx => ?_)]
      · rfl
      · cases h1 : nzB x with
        | true => rw [List.any_eq_true.2 ⟨x, hx, h1⟩] at hp; cases hp
        | false =>
          unfold nzB at h1
          simp at h1
          omega
  rw [e] at H
  clear e ha
  go_enter Tryd.func52, Tryd.ntmps52
  go_wp2_with fail
  refine (H.out).mono ?_; rintro e w1 ⟨rfl, hx1⟩
  go_wp2
  go_ret
  exact ⟨rfl, hx1⟩
end Go.Proofs.YtkealkjijfbdoaaDoor
