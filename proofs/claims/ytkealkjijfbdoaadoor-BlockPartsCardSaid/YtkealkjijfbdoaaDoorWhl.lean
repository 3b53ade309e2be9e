/- block.Whole: its contract over this seat's translation. -/
import Derived.Test.YtkealkjijfbdoaaDoorQrt
namespace Go.Proofs.YtkealkjijfbdoaaDoor
set_option linter.unusedVariables false
set_option linter.unusedSimpArgs false
open Go.RowKit Go.Extern.Stop Go.Stop Go.Extern

def wholeOk (L : List (List Int)) : Prop := L.length = 4 ∧ ∀ (q : Nat) (row : List Int), L[q]? = some row → row.length = 16
def wholeF (L : List (List Int)) (i : Nat) : Int := (L.getD (qOf i) []).getD (qAt i) 0
def countQ (k q : Nat) : Nat := (qIdx q k).length
theorem countQ_succ (k q : Nat) : countQ (k + 1) q = if q = qOf k then countQ k q + 1 else countQ k q := by
  unfold countQ
  rw [qIdx_succ]
  by_cases h : qOf k = q
  · rw [if_pos h, if_pos h.symm, List.length_append]; rfl
  · rw [if_neg h, if_neg (fun e => h e.symm), List.append_nil]
theorem countQ_at : ∀ i < 64, countQ i (qOf i) = qAt i := qIdx_count

theorem own_setFar {w : World} {base : Nat} {e : TypeId} {size n g cap m : Nat} {xs : List Value} (h : w.ownsRow base e size (.slice (some ⟨g, 0, none⟩) m cap) n xs) {p : Addr} {u : Value} (hp : p.block ≠ g) : (w.setCell p u).ownsRow base e size (.slice (some ⟨g, 0, none⟩) m cap) n xs := by
  obtain ⟨hl, h⟩ := h
  refine ⟨hl, ?_⟩
  rcases h with h | ⟨g', cap', cur, hv, hb, hg, h⟩
  · exact Or.inl h
  · have e : g = g' := by simp only [Value.slice.injEq, Option.some.injEq, Addr.mk.injEq] at hv; exact hv.1.1
    subst e
    exact Or.inr ⟨g, cap', cur, hv, hb, (Below.heap_setCell w p u g (fun e => hp e.symm)).trans hg, h⟩
set_option maxHeartbeats 4000000 in
set_option maxRecDepth 20000 in
theorem whole_ok (L : List (List Int)) (v : Value) (w : World) (ha : Mat w v L) (h4 : L.length = 4) (h16 : ∀ (q : Nat) (row : List Int), L[q]? = some row → row.length = 16) :
    Calls Tryd.prog 48 #[v] w (ZPost w (rowL 64 (wholeF L)) none) := by
  obtain ⟨i0, hi, hz0, hz1, hz2⟩ := info_parts infoInt
  obtain ⟨a, cap, rfl⟩ := ha.form
  rw [h4] at ha ⊢
  obtain ⟨g, off, rfl⟩ := ha.had (by decide)
  have H4 := Lib.hid h4
  have H16 := Lib.hid h16
  clear h4 h16
  go_enter Tryd.func48, Tryd.ntmps48
  go_wp2
  go_loop [16] (fun iv => ∃ k : Nat, k ≤ 4 ∧ iv = .int .i64 k) (fun iv => 4 - (intOf iv).toNat)
  case atStart => exact ⟨0, by decide, rfl⟩
  case round =>
    obtain ⟨k, hk, rfl⟩ := hrel
    by_cases hlt : k < 4
    · obtain ⟨row, hrow⟩ : ∃ row, L[k]? = some row := ⟨_, List.getElem?_eq_getElem (by rw [H4.out]; exact hlt)⟩
      obtain ⟨ra, rn, rc, c1, c2⟩ := ha.at hrow (by rw [H16.out k row hrow]; omega)
      obtain rfl : rn = 16 := by rw [c2.len, H16.out k row hrow]
      have HRW := Lib.hid hrow
      clear hrow c2
      go_wp2
      go_round
      case rel => exact ⟨k + 1, by omega, by go_num⟩
      case measure => simp [intOf]; omega
    · obtain rfl : k = 4 := by omega
      go_wp2_with (at_make; refine wpList_make_full _ rfl _ _ 22 rfl w.heap.size 3 i0 (.int .i64 0) 1 Tryd.underlying22 hi hz0 hz1 .i64 .i64 _ _ 64 rfl rfl rfl rfl (by rw [hz2]; omega) (by unfold maxLen; omega) (Nat.le_refl _) ?_; intro w2 hown hgrow)
      have hE : Ext w w2 := Below.grown (Ext.refl w) hgrow (Nat.le_refl _) (fun k hk => by cases hk)
      have hsz : w.heap.size < w2.heap.size := (hown.lt _ rfl).2
      rw [zeros_rowb] at hown
      clear hgrow hi hz0 hz1 hz2 hk hlt
      have N0 : (w2.alloc (.cells #[.int .i64 0, .int .i64 0, .int .i64 0, .int .i64 0] 92)).rowIs w2.heap.size 92 4 (fun q => .int .i64 ((countQ 0 q : Nat) : Int)) :=
        World.rowIs_alloc w2 #[.int .i64 0, .int .i64 0, .int .i64 0, .int .i64 0] _ _ (fun i hi => by
          have h4 : i < 4 := hi
          match i, h4 with
          | 0, _ => rfl
          | 1, _ => rfl
          | 2, _ => rfl
          | 3, _ => rfl)
      have hown3 := own_ext hown ((Ext.refl w2).alloc (.cells #[.int .i64 0, .int .i64 0, .int .i64 0, .int .i64 0] 92))
      have hE3 := hE.alloc (.cells #[.int .i64 0, .int .i64 0, .int .i64 0, .int .i64 0] 92)
      clear hE hown
      obtain ⟨N, hN⟩ : ∃ N, N = w2.heap.size := ⟨_, rfl⟩
      rw [← hN] at N0 hsz
      have HN := Lib.hid hN
      go_wp2_with fail
      rw [← hN]
      clear hN
      go_loopw [28] (fun iv wr => ∃ k : Nat, k ≤ 64 ∧ iv = .int .i64 k ∧ Hid (wr.ownsRow w.heap.size 3 1 (.slice (some ⟨w.heap.size, 0, none⟩) 64 64) 64 ((rowL 64 fun j => if j < k then wholeF L j else 0).map (Value.int .i64))) ∧ Hid (wr.rowIs N 92 4 (fun q => .int .i64 ((countQ k q : Nat) : Int))) ∧ Ext w wr) (fun iv _ => 64 - (intOf iv).toNat)
      case atStart => exact ⟨0, by decide, rfl, by show World.ownsRow _ _ _ _ _ _ _; simpa using hown3, N0, hE3⟩
      case round =>
        clear hown3 N0 hE3
        obtain ⟨k, hk, rfl, HO, HNX, hE⟩ := hrel
        by_cases hlt : k < 64
        · obtain ⟨q, hq⟩ : ∃ q, q = qOf k := ⟨_, rfl⟩
          obtain ⟨t, ht⟩ : ∃ t, t = qAt k := ⟨_, rfl⟩
          obtain ⟨hq4, ht16⟩ : q < 4 ∧ t < 16 := by have := qOf_landed k hlt; omega
          have HF := Lib.hid (fun W => quarterOf_any k W hlt)
          rw [← hq] at HF
          obtain ⟨row, hrow⟩ : ∃ row, L[q]? = some row := ⟨_, List.getElem?_eq_getElem (by rw [H4.out]; exact hq4)⟩
          have hlr := H16.out q row hrow
          obtain ⟨ra, rn, rc, c1, c2⟩ := (ha.ext hE).at hrow (by rw [hlr]; omega)
          obtain rfl : rn = 16 := by rw [c2.len, hlr]
          obtain ⟨rg, roff, rfl⟩ := c2.had (by decide)
          obtain ⟨x, hx⟩ : ∃ x, x = wholeF L k := ⟨_, rfl⟩
          have c3 : wr.cell? ⟨rg, roff + t, none⟩ = some (.int .i64 x) := c2.at (by rw [get_of_lt (by omega), hx]; unfold wholeF; rw [← hq, ← ht]; simp [List.getD, hrow])
          have c4 := HNX.out.cell hq4
          have f4 := HNX.out.frozen q
          rw [show countQ k q = t by rw [hq, ht]; exact countQ_at k hlt] at c4
          obtain ⟨cz, fz⟩ := own_cell HO.out hlt
          rw [if_neg (Nat.lt_irrefl _)] at cz
          have HX := Lib.hid hx
          have HQ := Lib.hid hq
          have HT := Lib.hid ht
          have n1 : N ≠ w.heap.size := by omega
          have n2 : w.heap.size ≠ N := by omega
          have cN : (wr.setCell ⟨w.heap.size, k, none⟩ (.int .i64 x)).cell? ⟨N, q, none⟩ = some (.int .i64 t) := (World.cell?_setCell_other _ _ _ _ (by simp [n1])).trans c4
          have cF : (wr.setCell ⟨w.heap.size, k, none⟩ (.int .i64 x)).frozen? ⟨N, q, none⟩ = false := by rw [World.frozen?_setCell]; exact f4
          have HO2 : Hid ((wr.setCell ⟨w.heap.size, k, none⟩ (.int .i64 x)).ownsRow w.heap.size 3 1 (.slice (some ⟨w.heap.size, 0, none⟩) 64 64) 64 ((rowL 64 fun j => if j < k + 1 then wholeF L j else 0).map (Value.int .i64))) := by
            have h := own_set (x := x) HO.out hlt
            rw [rowL_congrb (g := fun j => if j < k + 1 then wholeF L j else 0) (fun i _ => by
              by_cases hik : i = k
              · subst hik
                rw [if_pos rfl, if_pos (by omega), HX.out]
              · rw [if_neg hik]
                by_cases h2 : i < k
                · rw [if_pos h2, if_pos (by omega)]
                · rw [if_neg h2, if_neg (by omega)])] at h
            exact h
          have HN2 : Hid (((wr.setCell ⟨w.heap.size, k, none⟩ (.int .i64 x)).rowIs N 92 4 (fun q => .int .i64 ((countQ k q : Nat) : Int)))) := HNX.out.setOther n1 _
          have hE2 : Ext w (wr.setCell ⟨w.heap.size, k, none⟩ (.int .i64 x)) := Below.setCell hE (Nat.le_refl _) _
          clear hrow hlr hx hq ht HO HNX c2
          go_wp2_with fail
          refine (HF.out _).mono ?_; rintro e w3 ⟨rfl, rfl⟩
          go_wp2_with fail
          go_region
          revert HO2 HN2 hE2 cN cF
          generalize wr.setCell ⟨w.heap.size, k, none⟩ (.int .i64 x) = wx
          intro cN cF HO2 HN2 hE2
          go_wp2
          go_roundw
          case measure => simp [intOf]; omega
          case rel =>
            refine ⟨k + 1, by omega, by go_num, ?_, ?_, ?_⟩
            · show World.ownsRow _ _ _ _ _ _ _
              exact own_ext (own_setFar HO2.out (p := ⟨N, q, none⟩) n1) ((Ext.refl _).drew)
            · show World.rowIs _ _ _ _ _
              exact ((HN2.out.set q (.int .i64 ((t : Int) + 1))).congr (fun j _ => by
                rw [countQ_succ, ← HQ.out]
                by_cases e : j = q
                · subst e
                  rw [if_pos rfl, if_pos rfl, HQ.out, countQ_at k hlt, ← HT.out]
                  go_num
                · rw [if_neg e, if_neg e])).drew
            · exact (Below.setCell hE2 (Nat.le_of_lt hsz) _).drew
        · obtain rfl : k = 64 := by omega
          have ho := HO.out
          rw [rowL_congrb (g := wholeF L) (fun j hj => by rw [if_pos hj])] at ho
          go_wp2
          go_ret2
          exact ⟨_, _, rfl, hE, Ints.of_row ho (by omega), rfl⟩
def wholeD (L : List (List Int)) : Bool := decide (L.length = 4) && L.all (fun r => decide (r.length = 16))
def wholeV (L : List (List Int)) : List Int := if wholeD L = true then rowL 64 (wholeF L) else []
def wholeA (L : List (List Int)) : Fall := if wholeD L = true then none else fit
theorem wholeD_true {L : List (List Int)} (h : wholeD L = true) : L.length = 4 ∧ ∀ (q : Nat) (row : List Int), L[q]? = some row → row.length = 16 := by
  unfold wholeD at h
  simp at h
  exact ⟨h.1, fun q row hq => h.2 row (List.mem_of_getElem? hq)⟩
theorem whole_no4 (L : List (List Int)) (v : Value) (w : World) (ha : Mat w v L) (h4 : L.length ≠ 4) (L' : List Int) (hL : L' = []) :
    Calls Tryd.prog 48 #[v] w (ZPost w L' fit) := by
  subst hL
  obtain ⟨a, cap, rfl⟩ := ha.form
  have b1 : ((L.length : Int) != 4) = true := by simp; omega
  clear h4 ha
  go_enter Tryd.func48, Tryd.ntmps48
  go_wp2
  go_ret2
  exact ⟨_, _, rfl, Ext.refl w, Ints.nil _, ErrIs.code (by decide)⟩
set_option maxRecDepth 20000 in
theorem whole_no16 (L : List (List Int)) (v : Value) (w : World) (ha : Mat w v L) (h4 : L.length = 4) (h16 : ¬ ∀ (q : Nat) (row : List Int), L[q]? = some row → row.length = 16) :
    Calls Tryd.prog 48 #[v] w (ZPost w [] fit) := by
  obtain ⟨a, cap, rfl⟩ := ha.form
  rw [h4] at ha ⊢
  obtain ⟨g, off, rfl⟩ := ha.had (by decide)
  have H4 := Lib.hid h4
  have H16 := Lib.hid h16
  clear h4 h16
  go_enter Tryd.func48, Tryd.ntmps48
  go_wp2
  go_loop [16] (fun iv => ∃ k : Nat, k ≤ 4 ∧ iv = .int .i64 k ∧ Hid (∀ (q : Nat) (row : List Int), q < k → L[q]? = some row → row.length = 16)) (fun iv => 4 - (intOf iv).toNat)
  case atStart => exact ⟨0, by decide, rfl, fun q row hq => absurd hq (Nat.not_lt_zero _)⟩
  case round =>
    obtain ⟨k, hk, rfl, HJ⟩ := hrel
    by_cases hlt : k < 4
    · obtain ⟨row, hrow⟩ : ∃ row, L[k]? = some row := ⟨_, List.getElem?_eq_getElem (by rw [H4.out]; exact hlt)⟩
      obtain ⟨ra, rc, c1, c2⟩ := ha.row hrow
      obtain ⟨rn, hrn⟩ : ∃ rn, rn = row.length := ⟨_, rfl⟩
      rw [← hrn] at c1
      have HRW := Lib.hid hrow
      by_cases h : rn = 16
      · have b1 : ((rn : Int) != 16) = false := by simp; omega
        have HL : Hid (row.length = 16) := by show _ = _; omega
        clear hrow c2 hrn h
        go_wp2
        go_round
        case rel => exact ⟨k + 1, by omega, by go_num, fun q r hq hr => by
          by_cases e : q = k
          · subst e
            obtain rfl : row = r := Option.some.inj (HRW.out.symm.trans hr)
            exact HL.out
          · exact HJ.out q r (by omega) hr⟩
        case measure => simp [intOf]; omega
      · have b1 : ((rn : Int) != 16) = true := by simp; omega
        clear hrow c2 hrn h
        go_wp2
        go_ret2
        exact ⟨_, _, rfl, Ext.refl w, Ints.nil _, ErrIs.code (by decide)⟩
    · exfalso
      obtain rfl : k = 4 := by omega
      exact H16.out (fun q row hq => HJ.out q row (by have := (List.getElem?_eq_some_iff.1 hq).1; have := H4.out; omega) hq)
theorem whole_any (L : List (List Int)) (v : Value) (w : World) (ha : Mat w v L) :
    Calls Tryd.prog 48 #[v] w (ZPost w (wholeV L) (wholeA L)) := by
  unfold wholeV wholeA
  by_cases h : wholeD L = true
  · rw [if_pos h, if_pos h]
    obtain ⟨h1, h2⟩ := wholeD_true h
    exact whole_ok L v w ha h1 h2
  · rw [if_neg h, if_neg h]
    by_cases h4 : L.length = 4
    · refine whole_no16 L v w ha h4 (fun h16 => h ?_)
      unfold wholeD
      simp only [Bool.and_eq_true, decide_eq_true_eq, List.all_eq_true]
      refine ⟨h4, fun r hr => ?_⟩
      obtain ⟨j, hj, e⟩ := List.mem_iff_getElem.1 hr
      exact h16 j r (by rw [List.getElem?_eq_getElem hj, e])
    · exact whole_no4 L v w ha h4 [] rfl
end Go.Proofs.YtkealkjijfbdoaaDoor
