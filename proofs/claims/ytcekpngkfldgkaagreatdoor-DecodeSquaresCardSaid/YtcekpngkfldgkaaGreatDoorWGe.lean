/- Contracts of this seat: Quant, RQuant, RQuant2, QLists, RLevels. -/
import Derived.Test.YtcekpngkfldgkaaGreatDoorWZa
import Derived.Test.YtcekpngkfldgkaaGreatDoorWZb
import Derived.BigRegion
/- quant.Step, Bound, Level, Value: contracts over this seat's translation. -/
namespace Go.Proofs.YtcekpngkfldgkaaGreatDoor
set_option linter.unusedVariables false
set_option linter.unusedSimpArgs false
open Go.RowKit Go.Extern.Stop Go.Stop Go.Extern

def stepOf : Int → Int
  | 0 => 1 | 1 => 2 | 2 => 4 | 3 => 6 | 4 => 8 | 5 => 12 | 6 => 16 | 7 => 24 | 8 => 32 | 9 => 48 | 10 => 64 | 11 => 96 | 12 => 128 | 13 => 192 | 14 => 256 | 15 => 384
  | _ => 0
def okQ (qp : Int) : Prop := 0 ≤ qp ∧ qp ≤ 15
theorem stepOf_ok {qp : Int} (h : okQ qp) : 1 ≤ stepOf qp ∧ stepOf qp ≤ 384 := by
  obtain ⟨h0, h1⟩ := h
  have : qp = 0 ∨ qp = 1 ∨ qp = 2 ∨ qp = 3 ∨ qp = 4 ∨ qp = 5 ∨ qp = 6 ∨ qp = 7 ∨ qp = 8 ∨ qp = 9 ∨ qp = 10 ∨ qp = 11 ∨ qp = 12 ∨ qp = 13 ∨ qp = 14 ∨ qp = 15 := by omega
  rcases this with h | h | h | h | h | h | h | h | h | h | h | h | h | h | h | h <;> subst h <;> decide

theorem step_ok (qp : Int) (w : World) (h : okQ qp) :
    Calls Tryz.prog 29 #[.int .i64 qp] w fun e w' => e = .returned (.tuple #[.int .i64 (stepOf qp), .nilIface]) ∧ w = w' := by
  obtain ⟨h0, h1⟩ := h
  have : qp = 0 ∨ qp = 1 ∨ qp = 2 ∨ qp = 3 ∨ qp = 4 ∨ qp = 5 ∨ qp = 6 ∨ qp = 7 ∨ qp = 8 ∨ qp = 9 ∨ qp = 10 ∨ qp = 11 ∨ qp = 12 ∨ qp = 13 ∨ qp = 14 ∨ qp = 15 := by omega
  clear h0 h1
  go_enter Tryz.func29, Tryz.ntmps29
  rcases this with h | h | h | h | h | h | h | h | h | h | h | h | h | h | h | h <;> subst h <;> go_wp2 <;> go_ret2 <;> exact ⟨rfl, rfl⟩
theorem step_no (qp : Int) (w : World) (h : ¬ okQ qp) :
    Calls Tryz.prog 29 #[.int .i64 qp] w fun e w' => e = .returned (.tuple #[.int .i64 0, .iface 40 (.int .i64 3)]) ∧ w = w' := by
  have n0 : (qp == 0) = false := by simp; rintro rfl; exact h ⟨by omega, by omega⟩
  have n1 : (qp == 1) = false := by simp; rintro rfl; exact h ⟨by omega, by omega⟩
  have n2 : (qp == 2) = false := by simp; rintro rfl; exact h ⟨by omega, by omega⟩
  have n3 : (qp == 3) = false := by simp; rintro rfl; exact h ⟨by omega, by omega⟩
  have n4 : (qp == 4) = false := by simp; rintro rfl; exact h ⟨by omega, by omega⟩
  have n5 : (qp == 5) = false := by simp; rintro rfl; exact h ⟨by omega, by omega⟩
  have n6 : (qp == 6) = false := by simp; rintro rfl; exact h ⟨by omega, by omega⟩
  have n7 : (qp == 7) = false := by simp; rintro rfl; exact h ⟨by omega, by omega⟩
  have n8 : (qp == 8) = false := by simp; rintro rfl; exact h ⟨by omega, by omega⟩
  have n9 : (qp == 9) = false := by simp; rintro rfl; exact h ⟨by omega, by omega⟩
  have n10 : (qp == 10) = false := by simp; rintro rfl; exact h ⟨by omega, by omega⟩
  have n11 : (qp == 11) = false := by simp; rintro rfl; exact h ⟨by omega, by omega⟩
  have n12 : (qp == 12) = false := by simp; rintro rfl; exact h ⟨by omega, by omega⟩
  have n13 : (qp == 13) = false := by simp; rintro rfl; exact h ⟨by omega, by omega⟩
  have n14 : (qp == 14) = false := by simp; rintro rfl; exact h ⟨by omega, by omega⟩
  have n15 : (qp == 15) = false := by simp; rintro rfl; exact h ⟨by omega, by omega⟩
  clear h
  go_enter Tryz.func29, Tryz.ntmps29
  go_wp2
  go_ret2
  exact ⟨rfl, rfl⟩

def okL (l : Int) : Prop := -16320 ≤ l ∧ l ≤ 16320
set_option maxRecDepth 20000 in
theorem value_ok (l qp : Int) (w : World) (hl : okL l) (h : okQ qp) :
    Calls Tryz.prog 159 #[.int .i64 l, .int .i64 qp] w fun e w' => e = .returned (.tuple #[.int .i64 (l * stepOf qp), .nilIface]) ∧ w = w' := by
  obtain ⟨s0, s1⟩ := stepOf_ok h
  obtain ⟨c0, c1⟩ := hl
  have m0 : -6266880 ≤ l * stepOf qp ∧ l * stepOf qp ≤ 6266880 := by
    have a := Int.mul_le_mul_of_nonneg_right c1 (show 0 ≤ stepOf qp by omega)
    have b := Int.mul_le_mul_of_nonneg_right c0 (show 0 ≤ stepOf qp by omega)
    omega
  obtain ⟨m1, m2⟩ := m0
  go_enter Tryz.func159, Tryz.ntmps159
  go_wp2_with (go_at_call 29; refine (step_ok _ _ h).mono ?_; rintro e w' ⟨rfl, rfl⟩)
  go_ret2
  exact ⟨rfl, rfl⟩
set_option maxRecDepth 20000 in
theorem value_noL (l qp : Int) (w : World) (hl : ¬ okL l) (h : okQ qp) :
    Calls Tryz.prog 159 #[.int .i64 l, .int .i64 qp] w fun e w' => e = .returned (.tuple #[.int .i64 0, .iface 40 (.int .i64 3)]) ∧ w = w' := by
  obtain ⟨s0, s1⟩ := stepOf_ok h
  have hc' : l < -16320 ∨ 16320 < l := by unfold okL at hl; omega
  clear hl
  rcases hc' with hc | hc
  · go_enter Tryz.func159, Tryz.ntmps159
    go_wp2_with (go_at_call 29; refine (step_ok _ _ h).mono ?_; rintro e w' ⟨rfl, rfl⟩)
    go_ret2
    exact ⟨rfl, rfl⟩
  · go_enter Tryz.func159, Tryz.ntmps159
    go_wp2_with (go_at_call 29; refine (step_ok _ _ h).mono ?_; rintro e w' ⟨rfl, rfl⟩)
    go_ret2
    exact ⟨rfl, rfl⟩

end Go.Proofs.YtcekpngkfldgkaaGreatDoor

/- kinref9.Step, Bound, Level, Value: contracts over this seat's translation. -/
namespace Go.Proofs.YtcekpngkfldgkaaGreatDoor
set_option linter.unusedVariables false
set_option linter.unusedSimpArgs false
open Go.RowKit Go.Extern.Stop Go.Stop Go.Extern

end Go.Proofs.YtcekpngkfldgkaaGreatDoor

/- kinref9.Bound, Level, Value: contracts over this seat's translation. -/
namespace Go.Proofs.YtcekpngkfldgkaaGreatDoor
set_option linter.unusedVariables false
set_option linter.unusedSimpArgs false
open Go.RowKit Go.Extern.Stop Go.Stop Go.Extern

end Go.Proofs.YtcekpngkfldgkaaGreatDoor

/- quant.Levels, quant.Values, kinref9.Levels, kinref9.Values of anything: contracts over this seat's translation. -/
namespace Go.Proofs.YtcekpngkfldgkaaGreatDoor
set_option linter.unusedVariables false
set_option linter.unusedSimpArgs false
open Go.RowKit Go.Extern.Stop Go.Stop Go.Extern

theorem Ints.hadq {w : World} {a : Option Addr} {n cap : Nat} {zs : List Int} (h : Ints w (.slice a n cap) zs) : 0 < n → ∃ g off, a = some ⟨g, off, none⟩ := fun h0 => by
  obtain ⟨⟨a', cap', e, _, _, h3, _⟩, _⟩ := h
  simp only [Value.slice.injEq] at e
  obtain ⟨rfl, rfl, rfl⟩ := e
  exact h3 h0
theorem rowL_congrq {N : Nat} {f g : Nat → Int} (h : ∀ j, j < N → f j = g j) : rowL N f = rowL N g := by
  unfold rowL
  apply List.map_congr_left
  intro j hj
  exact h j (List.mem_range.1 hj)
theorem zeros_rowq (n : Nat) : (madeCells (Value.int .i64 0).cells (n * 1)).toList = (rowL n fun _ => 0).map (Value.int .i64) := by
  apply List.ext_getElem?
  intro j
  by_cases hj : j < n <;> simp [madeCells, rowL, Value.cells, hj, Nat.mod_one]
/-- what a list or an error of a code alone is answered by -/
def LPost (w : World) (ans : Option Int) (out : List Int) (e : Ending) (w' : World) : Prop :=
  ∃ u x, e = .returned (.tuple #[u, x]) ∧ Ext w w' ∧ match ans with
    | none => Ints w' u out ∧ x = .nilIface
    | some k => u = .slice none 0 0 ∧ x = .iface 40 (.int .i64 k)
open Classical in
set_option maxHeartbeats 2000000 in
set_option maxRecDepth 20000 in
theorem eachValue_any (N : Nat) (X : Nat → Int) (qp : Int) (v : Value) (w : World) (hN : N ≤ 5000) (ha : Ints w v (rowL N X)) (h : okQ qp) (ans : Option Int) (hy : Hid ((∀ i, i < N → okL (X i)) → ans = none)) (hn : Hid ((∃ i, i < N ∧ ¬ okL (X i)) → ans = some 3)) :
    Calls Tryz.prog 158 #[v, .int .i64 qp, .func (.func 159) #[] #[]] w (LPost w ans (rowL N fun i => (X i) * stepOf qp)) := by
  obtain ⟨i0, hi, hz0, hz1, hz2⟩ := info_parts infoInt
  obtain ⟨a, cap, rfl⟩ := ha.form
  rw [rowL_length] at ha ⊢
  have AG := Lib.hid (Ints.hadq ha)
  have HQ := Lib.hid h
  clear h
  go_enter Tryz.func158, Tryz.ntmps158
  go_wp2_with fail
  refine (step_ok _ _ HQ.out).mono ?_; rintro e w1 ⟨rfl, rfl⟩
  go_wp2_with (at_make; refine wpList_make_full _ rfl _ _ 22 rfl w.heap.size 3 i0 (.int .i64 0) 1 Tryz.underlying22 hi hz0 hz1 .i64 .i64 _ _ N rfl rfl rfl rfl (by rw [hz2]; omega) (by unfold maxLen; omega) (Nat.le_refl _) ?_; intro w2 hown hgrow)
  have hE : Ext w w2 := Below.grown (Ext.refl w) hgrow (Nat.le_refl _) (fun k hk => by cases hk)
  rw [zeros_rowq] at hown
  clear hgrow hi hz0 hz1 hz2
  go_wp2
  go_loopw [28] (fun iv wr => ∃ k : Nat, k ≤ N ∧ iv = .int .i64 k ∧ Hid (∀ j, j < k → okL (X j)) ∧ Hid (wr.ownsRow w.heap.size 3 1 (.slice (some ⟨w.heap.size, 0, none⟩) N N) N ((rowL N fun j => if j < k then (X j) * stepOf qp else 0).map (Value.int .i64))) ∧ Ext w wr) (fun iv _ => N - (intOf iv).toNat)
  case atStart => exact ⟨0, Nat.zero_le _, rfl, fun j hj => absurd hj (Nat.not_lt_zero _), by show World.ownsRow _ _ _ _ _ _ _; simpa using hown, hE⟩
  case round =>
    obtain ⟨k, hk, rfl, HP, HO, hEr⟩ := hrel
    by_cases hlt : k < N
    · obtain ⟨x, hx⟩ : ∃ x, X k = x := ⟨_, rfl⟩
      obtain ⟨g, off, rfl⟩ := AG.out (by omega)
      have cx := hEr.cell (ha.at (rowL_get hlt))
      rw [hx] at cx
      obtain ⟨cz, fz⟩ := own_cell HO.out hlt
      rw [if_neg (Nat.lt_irrefl _)] at cz
      have HX := Lib.hid hx
      clear hx
      by_cases hp : okL x
      · have hf := fun W => value_ok x qp W hp HQ.out
        obtain ⟨y, hy'⟩ : ∃ y, x * stepOf qp = y := ⟨_, rfl⟩
        rw [hy'] at hf
        have HF := Lib.hid hf
        have HY : Hid ((X k) * stepOf qp = y) := by show _ = _; rw [HX.out, hy']
        have HPX := Lib.hid hp
        clear hf hy' hp
        go_wp2_with fail
        refine (HF.out _).mono ?_; rintro e w3 ⟨rfl, rfl⟩
        go_wp2
        go_roundw
        case rel =>
          refine ⟨k + 1, by omega, by go_num, ?_, ?_, ?_⟩
          · intro j hj
            by_cases hjk : j = k
            · subst hjk; rw [HX.out]; exact HPX.out
            · exact HP.out j (by omega)
          · have h := own_set (x := y) HO.out hlt
            rw [rowL_congrq (g := fun j => if j < k + 1 then (X j) * stepOf qp else 0) (fun i _ => by
              by_cases hik : i = k
              · subst hik
                rw [if_pos rfl, if_pos (by omega), HY.out]
              · rw [if_neg hik]
                by_cases h2 : i < k
                · rw [if_pos h2, if_pos (by omega)]
                · rw [if_neg h2, if_neg (by omega)])] at h
            exact h
          · exact Below.setCell hEr (Nat.le_refl _) _
        case measure => simp [intOf]; omega
      · have HF := Lib.hid (fun W => value_noL x qp W hp HQ.out)
        have HPX := Lib.hid hp
        clear hp
        go_wp2_with fail
        refine (HF.out _).mono ?_; rintro e w3 ⟨rfl, rfl⟩
        go_wp2
        go_ret2
        refine ⟨_, _, rfl, hEr, ?_⟩
        rw [hn.out ⟨k, hlt, by rw [HX.out]; exact HPX.out⟩]
        exact ⟨rfl, rfl⟩
    · have hkn : N = k := by omega
      subst hkn
      have ho := HO.out
      rw [rowL_congrq (g := fun j => (X j) * stepOf qp) (fun j hj => by rw [if_pos hj])] at ho
      go_wp2
      go_ret2
      refine ⟨_, _, rfl, hEr, ?_⟩
      rw [hy.out HP.out]
      exact ⟨Ints.of_row ho (by omega), rfl⟩

set_option maxHeartbeats 2000000 in
set_option maxRecDepth 20000 in
theorem eachValue_no (n : Nat) (qp : Int) (v : Value) (w : World) (h : ¬ okQ qp) (out : List Int) :
    Calls Tryz.prog 158 #[v, .int .i64 qp, .func (.func 159) #[] #[]] w (LPost w (some 3) out) := by
  have H := Lib.hid h
  clear h
  go_enter Tryz.func158, Tryz.ntmps158
  go_wp2_with fail
  refine (step_no _ _ H.out).mono ?_; rintro e w1 ⟨rfl, rfl⟩
  go_wp2
  go_ret2
  exact ⟨_, _, rfl, Ext.refl _, rfl, rfl⟩
open Classical in
noncomputable def ansValue (zs : List Int) (qp : Int) : Option Int := if okQ qp ∧ ∀ i, i < zs.length → okL (zs.getD i 0) then none else some 3
set_option maxRecDepth 20000 in
theorem Values_any (zs : List Int) (qp : Int) (v : Value) (w : World) (hN : zs.length ≤ 5000) (ha : Ints w v zs) :
    Calls Tryz.prog 131 #[v, .int .i64 qp] w (LPost w (ansValue zs qp) (rowL zs.length fun i => (zs.getD i 0) * stepOf qp)) := by
  have H : Hid (Calls Tryz.prog 158 #[v, .int .i64 qp, .func (.func 159) #[] #[]] w (LPost w (ansValue zs qp) (rowL zs.length fun i => (zs.getD i 0) * stepOf qp))) := by
    by_cases h : okQ qp
    · refine eachValue_any zs.length (fun i => zs.getD i 0) qp v w hN (by rw [rowL_getD]; exact ha) h _ (fun hp => ?_) (fun hp => ?_)
      · unfold ansValue
        rw [if_pos ⟨h, hp⟩]
      · unfold ansValue
        obtain ⟨i, hi, hp⟩ := hp
        rw [if_neg (fun hh => hp (hh.2 i hi))]
    · have := eachValue_no 0 qp v w h (rowL zs.length fun i => (zs.getD i 0) * stepOf qp)
      unfold ansValue
      rw [if_neg (fun hh => h hh.1)]
      exact this
  clear ha
  go_enter Tryz.func131, Tryz.ntmps131
  go_wp2_with fail
  refine H.out.mono ?_; rintro e w1 ⟨u, x, rfl, hx, hm⟩
  go_wp2
  go_ret2
  exact ⟨u, x, rfl, hx, hm⟩
end Go.Proofs.YtcekpngkfldgkaaGreatDoor

/- kinref9.Levels and kinref9.Values: contracts over this seat's translation. -/
namespace Go.Proofs.YtcekpngkfldgkaaGreatDoor
set_option linter.unusedVariables false
set_option linter.unusedSimpArgs false
open Go.RowKit Go.Extern.Stop Go.Stop Go.Extern

end Go.Proofs.YtcekpngkfldgkaaGreatDoor

