/- quant.Levels, quant.Values, kinref9.Levels, kinref9.Values of anything: contracts over this seat's translation. -/
import Derived.Test.YtckhilnjkckabaaDoorRQuant2
import Derived.Test.YtckhilnjkckabaaDoorWOwn
import Derived.Test.YtckhilnjkckabaaDoorPush
namespace Go.Proofs.YtckhilnjkckabaaDoor
set_option linter.unusedVariables false
set_option linter.unusedSimpArgs false
open Go.RowKit Go.Extern.Stop Go.Stop Go.Extern

theorem Ints.hadq {w : World} {a : Option Addr} {n cap : Nat} {zs : List Int} (h : Ints w (.slice a n cap) zs) : 0 < n → ∃ g off, a = some ⟨g, off, none⟩ := fun h0 => by
  obtain ⟨⟨a', cap', e, _, _, h3, _⟩, _⟩ := h
  simp only [Value.slice.injEq] at e
  obtain ⟨rfl, rfl, rfl⟩ := e
  exact h3 h0
theorem rowL_congrq {N : Nat} {f g : Nat → Int} (h : ∀ j, j < N → f j = g j) : rowL N f = rowL N g := by
  unfold rowL
  apply List.map_congr_left
  intro j hj
  exact h j (List.mem_range.1 hj)
theorem zeros_rowq (n : Nat) : (madeCells (Value.int .i64 0).cells (n * 1)).toList = (rowL n fun _ => 0).map (Value.int .i64) := by
  apply List.ext_getElem?
  intro j
  by_cases hj : j < n <;> simp [madeCells, rowL, Value.cells, hj, Nat.mod_one]
/-- what a list or an error of a code alone is answered by -/
def LPost (w : World) (ans : Option Int) (out : List Int) (e : Ending) (w' : World) : Prop :=
  ∃ u x, e = .returned (.tuple #[u, x]) ∧ Ext w w' ∧ match ans with
    | none => Ints w' u out ∧ x = .nilIface
    | some k => u = .slice none 0 0 ∧ x = .iface 32 (.int .i64 k)
def RLPost (w : World) (ans : Option Int) (out : List Int) (e : Ending) (w' : World) : Prop :=
  ∃ u k, e = .returned (.tuple #[u, .agg #[.int .i64 k, .slice none 0 0]]) ∧ Ext w w' ∧ match ans with
    | none => Ints w' u out ∧ k = 0
    | some k' => u = .slice none 0 0 ∧ k = k'

set_option maxHeartbeats 2000000 in
set_option maxRecDepth 20000 in
theorem eachLevel_any (N : Nat) (X : Nat → Int) (qp : Int) (v : Value) (w : World) (hN : N ≤ 5000) (ha : Ints w v (rowL N X)) (h : okQ qp) (ans : Option Int) (hy : Hid ((∀ i, i < N → okC (X i)) → ans = none)) (hn : Hid ((∃ i, i < N ∧ ¬ okC (X i)) → ans = some 3)) :
    Calls Tryd.prog 34 #[v, .int .i64 qp, .func (.func 32) #[] #[]] w (LPost w ans (rowL N fun i => levelOf (X i) qp)) := by
  obtain ⟨i0, hi, hz0, hz1, hz2⟩ := info_parts infoInt
  obtain ⟨a, cap, rfl⟩ := ha.form
  rw [rowL_length] at ha ⊢
  have AG := Lib.hid (Ints.hadq ha)
  have HQ := Lib.hid h
  clear h
  go_enter Tryd.func34, Tryd.ntmps34
  go_wp2_with fail
  refine (step_ok _ _ HQ.out).mono ?_; rintro e w1 ⟨rfl, rfl⟩
  go_wp2_with (at_make; refine wpList_make_full _ rfl _ _ 24 rfl w.heap.size 3 i0 (.int .i64 0) 1 Tryd.underlying24 hi hz0 hz1 .i64 .i64 _ _ N rfl rfl rfl rfl (by rw [hz2]; omega) (by unfold maxLen; omega) (Nat.le_refl _) ?_; intro w2 hown hgrow)
  have hE : Ext w w2 := Below.grown (Ext.refl w) hgrow (Nat.le_refl _) (fun k hk => by cases hk)
  rw [zeros_rowq] at hown
  clear hgrow hi hz0 hz1 hz2
  go_wp2
  go_loopw [28] (fun iv wr => ∃ k : Nat, k ≤ N ∧ iv = .int .i64 k ∧ Hid (∀ j, j < k → okC (X j)) ∧ Hid (wr.ownsRow w.heap.size 3 1 (.slice (some ⟨w.heap.size, 0, none⟩) N N) N ((rowL N fun j => if j < k then levelOf (X j) qp else 0).map (Value.int .i64))) ∧ Ext w wr) (fun iv _ => N - (intOf iv).toNat)
  case atStart => exact ⟨0, Nat.zero_le _, rfl, fun j hj => absurd hj (Nat.not_lt_zero _), by show World.ownsRow _ _ _ _ _ _ _; simpa using hown, hE⟩
  case round =>
    obtain ⟨k, hk, rfl, HP, HO, hEr⟩ := hrel
    by_cases hlt : k < N
    · obtain ⟨x, hx⟩ : ∃ x, X k = x := ⟨_, rfl⟩
      obtain ⟨g, off, rfl⟩ := AG.out (by omega)
      have cx := hEr.cell (ha.at (rowL_get hlt))
      rw [hx] at cx
      obtain ⟨cz, fz⟩ := own_cell HO.out hlt
      rw [if_neg (Nat.lt_irrefl _)] at cz
      have HX := Lib.hid hx
      clear hx
      by_cases hp : okC x
      · have hf := fun W => level_ok x qp W hp HQ.out
        obtain ⟨y, hy'⟩ : ∃ y, levelOf x qp = y := ⟨_, rfl⟩
        rw [hy'] at hf
        have HF := Lib.hid hf
        have HY : Hid (levelOf (X k) qp = y) := by show _ = _; rw [HX.out, hy']
        have HPX := Lib.hid hp
        clear hf hy' hp
        go_wp2_with fail
        refine (HF.out _).mono ?_; rintro e w3 ⟨rfl, rfl⟩
        go_wp2
        go_roundw
        case rel =>
          refine ⟨k + 1, by omega, by go_num, ?_, ?_, ?_⟩
          · intro j hj
            by_cases hjk : j = k
            · subst hjk; rw [HX.out]; exact HPX.out
            · exact HP.out j (by omega)
          · have h := own_set (x := y) HO.out hlt
            rw [rowL_congrq (g := fun j => if j < k + 1 then levelOf (X j) qp else 0) (fun i _ => by
              by_cases hik : i = k
              · subst hik
                rw [if_pos rfl, if_pos (by omega), HY.out]
              · rw [if_neg hik]
                by_cases h2 : i < k
                · rw [if_pos h2, if_pos (by omega)]
                · rw [if_neg h2, if_neg (by omega)])] at h
            exact h
          · exact Below.setCell hEr (Nat.le_refl _) _
        case measure => simp [intOf]; omega
      · have HF := Lib.hid (fun W => level_noC x qp W hp HQ.out)
        have HPX := Lib.hid hp
        clear hp
        go_wp2_with fail
        refine (HF.out _).mono ?_; rintro e w3 ⟨rfl, rfl⟩
        go_wp2
        go_ret2
        refine ⟨_, _, rfl, hEr, ?_⟩
        rw [hn.out ⟨k, hlt, by rw [HX.out]; exact HPX.out⟩]
        exact ⟨rfl, rfl⟩
    · have hkn : N = k := by omega
      subst hkn
      have ho := HO.out
      rw [rowL_congrq (g := fun j => levelOf (X j) qp) (fun j hj => by rw [if_pos hj])] at ho
      go_wp2
      go_ret2
      refine ⟨_, _, rfl, hEr, ?_⟩
      rw [hy.out HP.out]
      exact ⟨Ints.of_row ho (by omega), rfl⟩

set_option maxHeartbeats 2000000 in
set_option maxRecDepth 20000 in
theorem eachLevel_no (n : Nat) (qp : Int) (v : Value) (w : World) (h : ¬ okQ qp) (out : List Int) :
    Calls Tryd.prog 34 #[v, .int .i64 qp, .func (.func 32) #[] #[]] w (LPost w (some 3) out) := by
  have H := Lib.hid h
  clear h
  go_enter Tryd.func34, Tryd.ntmps34
  go_wp2_with fail
  refine (step_no _ _ H.out).mono ?_; rintro e w1 ⟨rfl, rfl⟩
  go_wp2
  go_ret2
  exact ⟨_, _, rfl, Ext.refl _, rfl, rfl⟩
open Classical in
noncomputable def ansLevel (zs : List Int) (qp : Int) : Option Int := if okQ qp ∧ ∀ i, i < zs.length → okC (zs.getD i 0) then none else some 3
set_option maxRecDepth 20000 in
theorem Levels_any (zs : List Int) (qp : Int) (v : Value) (w : World) (hN : zs.length ≤ 5000) (ha : Ints w v zs) :
    Calls Tryd.prog 17 #[v, .int .i64 qp] w (LPost w (ansLevel zs qp) (rowL zs.length fun i => levelOf (zs.getD i 0) qp)) := by
  have H : Hid (Calls Tryd.prog 34 #[v, .int .i64 qp, .func (.func 32) #[] #[]] w (LPost w (ansLevel zs qp) (rowL zs.length fun i => levelOf (zs.getD i 0) qp))) := by
    by_cases h : okQ qp
    · refine eachLevel_any zs.length (fun i => zs.getD i 0) qp v w hN (by rw [rowL_getD]; exact ha) h _ (fun hp => ?_) (fun hp => ?_)
      · unfold ansLevel
        rw [if_pos ⟨h, hp⟩]
      · unfold ansLevel
        obtain ⟨i, hi, hp⟩ := hp
        rw [if_neg (fun hh => hp (hh.2 i hi))]
    · have := eachLevel_no 0 qp v w h (rowL zs.length fun i => levelOf (zs.getD i 0) qp)
      unfold ansLevel
      rw [if_neg (fun hh => h hh.1)]
      exact this
  clear ha
  go_enter Tryd.func17, Tryd.ntmps17
  go_wp2_with fail
  refine H.out.mono ?_; rintro e w1 ⟨u, x, rfl, hx, hm⟩
  go_wp2
  go_ret2
  exact ⟨u, x, rfl, hx, hm⟩

set_option maxHeartbeats 2000000 in
set_option maxRecDepth 20000 in
theorem eachValue_any (N : Nat) (X : Nat → Int) (qp : Int) (v : Value) (w : World) (hN : N ≤ 5000) (ha : Ints w v (rowL N X)) (h : okQ qp) (ans : Option Int) (hy : Hid ((∀ i, i < N → okL (X i)) → ans = none)) (hn : Hid ((∃ i, i < N ∧ ¬ okL (X i)) → ans = some 3)) :
    Calls Tryd.prog 34 #[v, .int .i64 qp, .func (.func 33) #[] #[]] w (LPost w ans (rowL N fun i => (X i) * stepOf qp)) := by
  obtain ⟨i0, hi, hz0, hz1, hz2⟩ := info_parts infoInt
  obtain ⟨a, cap, rfl⟩ := ha.form
  rw [rowL_length] at ha ⊢
  have AG := Lib.hid (Ints.hadq ha)
  have HQ := Lib.hid h
  clear h
  go_enter Tryd.func34, Tryd.ntmps34
  go_wp2_with fail
  refine (step_ok _ _ HQ.out).mono ?_; rintro e w1 ⟨rfl, rfl⟩
  go_wp2_with (at_make; refine wpList_make_full _ rfl _ _ 24 rfl w.heap.size 3 i0 (.int .i64 0) 1 Tryd.underlying24 hi hz0 hz1 .i64 .i64 _ _ N rfl rfl rfl rfl (by rw [hz2]; omega) (by unfold maxLen; omega) (Nat.le_refl _) ?_; intro w2 hown hgrow)
  have hE : Ext w w2 := Below.grown (Ext.refl w) hgrow (Nat.le_refl _) (fun k hk => by cases hk)
  rw [zeros_rowq] at hown
  clear hgrow hi hz0 hz1 hz2
  go_wp2
  go_loopw [28] (fun iv wr => ∃ k : Nat, k ≤ N ∧ iv = .int .i64 k ∧ Hid (∀ j, j < k → okL (X j)) ∧ Hid (wr.ownsRow w.heap.size 3 1 (.slice (some ⟨w.heap.size, 0, none⟩) N N) N ((rowL N fun j => if j < k then (X j) * stepOf qp else 0).map (Value.int .i64))) ∧ Ext w wr) (fun iv _ => N - (intOf iv).toNat)
  case atStart => exact ⟨0, Nat.zero_le _, rfl, fun j hj => absurd hj (Nat.not_lt_zero _), by show World.ownsRow _ _ _ _ _ _ _; simpa using hown, hE⟩
  case round =>
    obtain ⟨k, hk, rfl, HP, HO, hEr⟩ := hrel
    by_cases hlt : k < N
    · obtain ⟨x, hx⟩ : ∃ x, X k = x := ⟨_, rfl⟩
      obtain ⟨g, off, rfl⟩ := AG.out (by omega)
      have cx := hEr.cell (ha.at (rowL_get hlt))
      rw [hx] at cx
      obtain ⟨cz, fz⟩ := own_cell HO.out hlt
      rw [if_neg (Nat.lt_irrefl _)] at cz
      have HX := Lib.hid hx
      clear hx
      by_cases hp : okL x
      · have hf := fun W => value_ok x qp W hp HQ.out
        obtain ⟨y, hy'⟩ : ∃ y, x * stepOf qp = y := ⟨_, rfl⟩
        rw [hy'] at hf
        have HF := Lib.hid hf
        have HY : Hid ((X k) * stepOf qp = y) := by show _ = _; rw [HX.out, hy']
        have HPX := Lib.hid hp
        clear hf hy' hp
        go_wp2_with fail
        refine (HF.out _).mono ?_; rintro e w3 ⟨rfl, rfl⟩
        go_wp2
        go_roundw
        case rel =>
          refine ⟨k + 1, by omega, by go_num, ?_, ?_, ?_⟩
          · intro j hj
            by_cases hjk : j = k
            · subst hjk; rw [HX.out]; exact HPX.out
            · exact HP.out j (by omega)
          · have h := own_set (x := y) HO.out hlt
            rw [rowL_congrq (g := fun j => if j < k + 1 then (X j) * stepOf qp else 0) (fun i _ => by
              by_cases hik : i = k
              · subst hik
                rw [if_pos rfl, if_pos (by omega), HY.out]
              · rw [if_neg hik]
                by_cases h2 : i < k
                · rw [if_pos h2, if_pos (by omega)]
                · rw [if_neg h2, if_neg (by omega)])] at h
            exact h
          · exact Below.setCell hEr (Nat.le_refl _) _
        case measure => simp [intOf]; omega
      · have HF := Lib.hid (fun W => value_noL x qp W hp HQ.out)
        have HPX := Lib.hid hp
        clear hp
        go_wp2_with fail
        refine (HF.out _).mono ?_; rintro e w3 ⟨rfl, rfl⟩
        go_wp2
        go_ret2
        refine ⟨_, _, rfl, hEr, ?_⟩
        rw [hn.out ⟨k, hlt, by rw [HX.out]; exact HPX.out⟩]
        exact ⟨rfl, rfl⟩
    · have hkn : N = k := by omega
      subst hkn
      have ho := HO.out
      rw [rowL_congrq (g := fun j => (X j) * stepOf qp) (fun j hj => by rw [if_pos hj])] at ho
      go_wp2
      go_ret2
      refine ⟨_, _, rfl, hEr, ?_⟩
      rw [hy.out HP.out]
      exact ⟨Ints.of_row ho (by omega), rfl⟩

set_option maxHeartbeats 2000000 in
set_option maxRecDepth 20000 in
theorem eachValue_no (n : Nat) (qp : Int) (v : Value) (w : World) (h : ¬ okQ qp) (out : List Int) :
    Calls Tryd.prog 34 #[v, .int .i64 qp, .func (.func 33) #[] #[]] w (LPost w (some 3) out) := by
  have H := Lib.hid h
  clear h
  go_enter Tryd.func34, Tryd.ntmps34
  go_wp2_with fail
  refine (step_no _ _ H.out).mono ?_; rintro e w1 ⟨rfl, rfl⟩
  go_wp2
  go_ret2
  exact ⟨_, _, rfl, Ext.refl _, rfl, rfl⟩
open Classical in
noncomputable def ansValue (zs : List Int) (qp : Int) : Option Int := if okQ qp ∧ ∀ i, i < zs.length → okL (zs.getD i 0) then none else some 3
set_option maxRecDepth 20000 in
theorem Values_any (zs : List Int) (qp : Int) (v : Value) (w : World) (hN : zs.length ≤ 5000) (ha : Ints w v zs) :
    Calls Tryd.prog 19 #[v, .int .i64 qp] w (LPost w (ansValue zs qp) (rowL zs.length fun i => (zs.getD i 0) * stepOf qp)) := by
  have H : Hid (Calls Tryd.prog 34 #[v, .int .i64 qp, .func (.func 33) #[] #[]] w (LPost w (ansValue zs qp) (rowL zs.length fun i => (zs.getD i 0) * stepOf qp))) := by
    by_cases h : okQ qp
    · refine eachValue_any zs.length (fun i => zs.getD i 0) qp v w hN (by rw [rowL_getD]; exact ha) h _ (fun hp => ?_) (fun hp => ?_)
      · unfold ansValue
        rw [if_pos ⟨h, hp⟩]
      · unfold ansValue
        obtain ⟨i, hi, hp⟩ := hp
        rw [if_neg (fun hh => hp (hh.2 i hi))]
    · have := eachValue_no 0 qp v w h (rowL zs.length fun i => (zs.getD i 0) * stepOf qp)
      unfold ansValue
      rw [if_neg (fun hh => h hh.1)]
      exact this
  clear ha
  go_enter Tryd.func19, Tryd.ntmps19
  go_wp2_with fail
  refine H.out.mono ?_; rintro e w1 ⟨u, x, rfl, hx, hm⟩
  go_wp2
  go_ret2
  exact ⟨u, x, rfl, hx, hm⟩
end Go.Proofs.YtckhilnjkckabaaDoor
