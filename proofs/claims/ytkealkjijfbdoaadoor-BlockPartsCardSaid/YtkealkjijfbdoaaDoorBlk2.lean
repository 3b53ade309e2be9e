/- block.Sub, Add, Zero: contracts over this seat's translation. -/
import Derived.Test.YtkealkjijfbdoaaDoorBlk
namespace Go.Proofs.YtkealkjijfbdoaaDoor
set_option linter.unusedVariables false
set_option linter.unusedSimpArgs false
open Go.RowKit Go.Extern.Stop Go.Stop Go.Extern

theorem rowL_congrb {N : Nat} {f g : Nat → Int} (h : ∀ j, j < N → f j = g j) : rowL N f = rowL N g := by
  unfold rowL
  apply List.map_congr_left
  intro j hj
  exact h j (List.mem_range.1 hj)
theorem zeros_rowb (n : Nat) : (madeCells (Value.int .i64 0).cells (n * 1)).toList = (rowL n fun _ => 0).map (Value.int .i64) := by
  apply List.ext_getElem?
  intro j
  by_cases hj : j < n <;> simp [madeCells, rowL, Value.cells, hj, Nat.mod_one]
def subF (x y : Int) : Int := x - y
def addF (x y : Int) : Int := clipI (x + y)
/-- two lists, number by number -/
def twoV (f : Int → Int → Int) (xs ys : List Int) : List Int := match matAns xs ys with
  | none => rowL xs.length fun i => f (xs.getD i 0) (ys.getD i 0)
  | some _ => []
theorem subF_call (x y : Int) (w : World) (hx : -1048576 ≤ x ∧ x ≤ 1048576) (hy : -1048576 ≤ y ∧ y ≤ 1048576) : Calls Tryd.prog 74 #[.int .i64 x, .int .i64 y] w fun e w' => e = .returned (.int .i64 (subF x y)) ∧ w = w' := by
  have e1 : IntKind.i64.wrap (x - y) = x - y := by rw [IntKind.wrap_i64]; omega
  go_enter Tryd.func74, Tryd.ntmps74
  go_wp2
  go_ret
  exact ⟨rfl, rfl⟩
theorem addF_call (x y : Int) (w : World) (hx : -1048576 ≤ x ∧ x ≤ 1048576) (hy : -1048576 ≤ y ∧ y ≤ 1048576) : Calls Tryd.prog 76 #[.int .i64 x, .int .i64 y] w fun e w' => e = .returned (.int .i64 (addF x y)) ∧ w = w' := by
  have e1 : IntKind.i64.wrap (x + y) = x + y := by rw [IntKind.wrap_i64]; omega
  go_enter Tryd.func76, Tryd.ntmps76
  go_wp2_with fail
  refine (clip_any _ _).mono ?_; rintro e w1 ⟨rfl, rfl⟩
  go_wp2
  go_ret
  exact ⟨rfl, rfl⟩
set_option maxHeartbeats 2000000 in
set_option maxRecDepth 20000 in
theorem subF_comb (xs ys : List Int) (v u : Value) (w : World) (ha : Ints w v xs) (hb : Ints w u ys) (hN : xs.length ≤ 1000000) :
    Calls Tryd.prog 73 #[v, u, .func (.func 74) #[] #[]] w (ZPost w (twoV subF xs ys) (matAns xs ys)) := by
  have M := Lib.hid (matched_any xs ys v u w ha hb)
  obtain ⟨a, cap, rfl⟩ := ha.form
  obtain ⟨b, cap', rfl⟩ := hb.form
  cases hm : matAns xs ys with
  | some f =>
    have HV : Hid (twoV subF xs ys = []) := by show _ = _; unfold twoV; rw [hm]
    rw [hm] at M
    clear ha hb hm
    go_enter Tryd.func73, Tryd.ntmps73
    go_wp2_with fail
    refine (M.out).mono ?_; rintro e w1 ⟨x, rfl, hx, he⟩
    obtain ⟨t, y, rfl⟩ := he.ne
    go_wp2
    go_ret2
    exact ⟨_, _, rfl, hx, by rw [HV.out]; exact Ints.nil _, he⟩
  | none =>
    obtain ⟨i0, hi, hz0, hz1, hz2⟩ := info_parts infoInt
    obtain ⟨hl, hX, hY⟩ := matAns_none hm
    have HV : Hid (twoV subF xs ys = rowL xs.length fun i => subF (xs.getD i 0) (ys.getD i 0)) := by show _ = _; unfold twoV; rw [hm]
    rw [hm] at M
    obtain ⟨n, hn⟩ : ∃ n, n = xs.length := ⟨_, rfl⟩
    rw [← hn] at ha hN HV hl M ⊢
    rw [← hl] at hb M ⊢
    have AG := Lib.hid ha.had
    have BG := Lib.hid hb.had
    have HN := Lib.hid hn
    have HL := Lib.hid hl
    have HX := Lib.hid hX
    have HY := Lib.hid hY
    clear hm hl hX hY hn
    go_enter Tryd.func73, Tryd.ntmps73
    go_wp2_with fail
    refine (M.out).mono ?_; rintro e w1 ⟨x, rfl, hx, he⟩
    obtain rfl : x = .nilIface := he
    have ha := ha.ext hx
    have hb := hb.ext hx
    go_wp2_with (at_make; refine wpList_make_full _ rfl _ _ 22 rfl w1.heap.size 3 i0 (.int .i64 0) 1 Tryd.underlying22 hi hz0 hz1 .i64 .i64 _ _ n rfl rfl rfl rfl (by rw [hz2]; omega) (by unfold maxLen; omega) (Nat.le_refl _) ?_; intro w2 hown hgrow)
    have hE : Ext w1 w2 := Below.grown (Ext.refl w1) hgrow (Nat.le_refl _) (fun k hk => by cases hk)
    rw [zeros_rowb] at hown
    clear hgrow hi hz0 hz1 hz2
    go_wp2
    go_loopw [23] (fun iv wr => ∃ k : Nat, k ≤ n ∧ iv = .int .i64 k ∧ Hid (wr.ownsRow w1.heap.size 3 1 (.slice (some ⟨w1.heap.size, 0, none⟩) n n) n ((rowL n fun j => if j < k then subF (xs.getD j 0) (ys.getD j 0) else 0).map (Value.int .i64))) ∧ Ext w1 wr) (fun iv _ => n - (intOf iv).toNat)
    case atStart => exact ⟨0, Nat.zero_le _, rfl, by show World.ownsRow _ _ _ _ _ _ _; simpa using hown, hE⟩
    case round =>
      clear hown hE
      obtain ⟨k, hk, rfl, HO, hE⟩ := hrel
      by_cases hlt : k < n
      · obtain ⟨x, hx'⟩ : ∃ x, xs.getD k 0 = x := ⟨_, rfl⟩
        obtain ⟨y, hy'⟩ : ∃ y, ys.getD k 0 = y := ⟨_, rfl⟩
        obtain ⟨g, off, rfl⟩ := AG.out (by omega)
        obtain ⟨g', off', rfl⟩ := BG.out (by omega)
        have cx := hE.cell (ha.at (get_of_lt (by rw [← HN.out]; exact hlt)))
        have cy := hE.cell (hb.at (get_of_lt (by rw [← HL.out]; exact hlt)))
        have bx := HX.out k
        have by' := HY.out k
        obtain ⟨cz, fz⟩ := own_cell HO.out hlt
        rw [if_neg (Nat.lt_irrefl _)] at cz
        rw [hx'] at cx bx
        rw [hy'] at cy by'
        obtain ⟨z, hz⟩ : ∃ z, subF x y = z := ⟨_, rfl⟩
        have HZ : Hid (subF (xs.getD k 0) (ys.getD k 0) = z) := by show _ = _; rw [hx', hy', hz]
        have HF := Lib.hid (fun W => subF_call x y W bx by')
        rw [hz] at HF
        clear hx' hy' hz
        go_wp2_with fail
        refine (HF.out _).mono ?_; rintro e w3 ⟨rfl, rfl⟩
        go_wp2
        go_roundw
        case rel =>
          refine ⟨k + 1, by omega, by go_num, ?_, Below.setCell hE (Nat.le_refl _) _⟩
          have h := own_set (x := z) HO.out hlt
          rw [rowL_congrb (g := fun j => if j < k + 1 then subF (xs.getD j 0) (ys.getD j 0) else 0) (fun i _ => by
            by_cases hik : i = k
            · subst hik
              rw [if_pos rfl, if_pos (by omega), HZ.out]
            · rw [if_neg hik]
              by_cases h2 : i < k
              · rw [if_pos h2, if_pos (by omega)]
              · rw [if_neg h2, if_neg (by omega)])] at h
          exact h
        case measure => simp [intOf]; omega
      · obtain rfl : k = n := by omega
        have ho := HO.out
        rw [rowL_congrb (g := fun j => subF (xs.getD j 0) (ys.getD j 0)) (fun j hj => by rw [if_pos hj])] at ho
        go_wp2
        go_ret2
        exact ⟨_, _, rfl, hx.trans hE, by rw [HV.out]; exact Ints.of_row ho (by omega), rfl⟩
theorem subF_any (xs ys : List Int) (v u : Value) (w : World) (ha : Ints w v xs) (hb : Ints w u ys) (hN : xs.length ≤ 1000000) :
    Calls Tryd.prog 40 #[v, u] w (ZPost w (twoV subF xs ys) (matAns xs ys)) := by
  have H := Lib.hid (subF_comb xs ys v u w ha hb hN)
  clear ha hb
  go_enter Tryd.func40, Tryd.ntmps40
  go_wp2_with fail
  refine (H.out).mono ?_; rintro e w1 ⟨u, x, rfl, hx, hz, he⟩
  go_wp2
  go_ret2
  exact ⟨u, x, rfl, hx, hz, he⟩
set_option maxHeartbeats 2000000 in
set_option maxRecDepth 20000 in
theorem addF_comb (xs ys : List Int) (v u : Value) (w : World) (ha : Ints w v xs) (hb : Ints w u ys) (hN : xs.length ≤ 1000000) :
    Calls Tryd.prog 73 #[v, u, .func (.func 76) #[] #[]] w (ZPost w (twoV addF xs ys) (matAns xs ys)) := by
  have M := Lib.hid (matched_any xs ys v u w ha hb)
  obtain ⟨a, cap, rfl⟩ := ha.form
  obtain ⟨b, cap', rfl⟩ := hb.form
  cases hm : matAns xs ys with
  | some f =>
    have HV : Hid (twoV addF xs ys = []) := by show _ = _; unfold twoV; rw [hm]
    rw [hm] at M
    clear ha hb hm
    go_enter Tryd.func73, Tryd.ntmps73
    go_wp2_with fail
    refine (M.out).mono ?_; rintro e w1 ⟨x, rfl, hx, he⟩
    obtain ⟨t, y, rfl⟩ := he.ne
    go_wp2
    go_ret2
    exact ⟨_, _, rfl, hx, by rw [HV.out]; exact Ints.nil _, he⟩
  | none =>
    obtain ⟨i0, hi, hz0, hz1, hz2⟩ := info_parts infoInt
    obtain ⟨hl, hX, hY⟩ := matAns_none hm
    have HV : Hid (twoV addF xs ys = rowL xs.length fun i => addF (xs.getD i 0) (ys.getD i 0)) := by show _ = _; unfold twoV; rw [hm]
    rw [hm] at M
    obtain ⟨n, hn⟩ : ∃ n, n = xs.length := ⟨_, rfl⟩
    rw [← hn] at ha hN HV hl M ⊢
    rw [← hl] at hb M ⊢
    have AG := Lib.hid ha.had
    have BG := Lib.hid hb.had
    have HN := Lib.hid hn
    have HL := Lib.hid hl
    have HX := Lib.hid hX
    have HY := Lib.hid hY
    clear hm hl hX hY hn
    go_enter Tryd.func73, Tryd.ntmps73
    go_wp2_with fail
    refine (M.out).mono ?_; rintro e w1 ⟨x, rfl, hx, he⟩
    obtain rfl : x = .nilIface := he
    have ha := ha.ext hx
    have hb := hb.ext hx
    go_wp2_with (at_make; refine wpList_make_full _ rfl _ _ 22 rfl w1.heap.size 3 i0 (.int .i64 0) 1 Tryd.underlying22 hi hz0 hz1 .i64 .i64 _ _ n rfl rfl rfl rfl (by rw [hz2]; omega) (by unfold maxLen; omega) (Nat.le_refl _) ?_; intro w2 hown hgrow)
    have hE : Ext w1 w2 := Below.grown (Ext.refl w1) hgrow (Nat.le_refl _) (fun k hk => by cases hk)
    rw [zeros_rowb] at hown
    clear hgrow hi hz0 hz1 hz2
    go_wp2
    go_loopw [23] (fun iv wr => ∃ k : Nat, k ≤ n ∧ iv = .int .i64 k ∧ Hid (wr.ownsRow w1.heap.size 3 1 (.slice (some ⟨w1.heap.size, 0, none⟩) n n) n ((rowL n fun j => if j < k then addF (xs.getD j 0) (ys.getD j 0) else 0).map (Value.int .i64))) ∧ Ext w1 wr) (fun iv _ => n - (intOf iv).toNat)
    case atStart => exact ⟨0, Nat.zero_le _, rfl, by show World.ownsRow _ _ _ _ _ _ _; simpa using hown, hE⟩
    case round =>
      clear hown hE
      obtain ⟨k, hk, rfl, HO, hE⟩ := hrel
      by_cases hlt : k < n
      · obtain ⟨x, hx'⟩ : ∃ x, xs.getD k 0 = x := ⟨_, rfl⟩
        obtain ⟨y, hy'⟩ : ∃ y, ys.getD k 0 = y := ⟨_, rfl⟩
        obtain ⟨g, off, rfl⟩ := AG.out (by omega)
        obtain ⟨g', off', rfl⟩ := BG.out (by omega)
        have cx := hE.cell (ha.at (get_of_lt (by rw [← HN.out]; exact hlt)))
        have cy := hE.cell (hb.at (get_of_lt (by rw [← HL.out]; exact hlt)))
        have bx := HX.out k
        have by' := HY.out k
        obtain ⟨cz, fz⟩ := own_cell HO.out hlt
        rw [if_neg (Nat.lt_irrefl _)] at cz
        rw [hx'] at cx bx
        rw [hy'] at cy by'
        obtain ⟨z, hz⟩ : ∃ z, addF x y = z := ⟨_, rfl⟩
        have HZ : Hid (addF (xs.getD k 0) (ys.getD k 0) = z) := by show _ = _; rw [hx', hy', hz]
        have HF := Lib.hid (fun W => addF_call x y W bx by')
        rw [hz] at HF
        clear hx' hy' hz
        go_wp2_with fail
        refine (HF.out _).mono ?_; rintro e w3 ⟨rfl, rfl⟩
        go_wp2
        go_roundw
        case rel =>
          refine ⟨k + 1, by omega, by go_num, ?_, Below.setCell hE (Nat.le_refl _) _⟩
          have h := own_set (x := z) HO.out hlt
          rw [rowL_congrb (g := fun j => if j < k + 1 then addF (xs.getD j 0) (ys.getD j 0) else 0) (fun i _ => by
            by_cases hik : i = k
            · subst hik
              rw [if_pos rfl, if_pos (by omega), HZ.out]
            · rw [if_neg hik]
              by_cases h2 : i < k
              · rw [if_pos h2, if_pos (by omega)]
              · rw [if_neg h2, if_neg (by omega)])] at h
          exact h
        case measure => simp [intOf]; omega
      · obtain rfl : k = n := by omega
        have ho := HO.out
        rw [rowL_congrb (g := fun j => addF (xs.getD j 0) (ys.getD j 0)) (fun j hj => by rw [if_pos hj])] at ho
        go_wp2
        go_ret2
        exact ⟨_, _, rfl, hx.trans hE, by rw [HV.out]; exact Ints.of_row ho (by omega), rfl⟩
theorem addF_any (xs ys : List Int) (v u : Value) (w : World) (ha : Ints w v xs) (hb : Ints w u ys) (hN : xs.length ≤ 1000000) :
    Calls Tryd.prog 42 #[v, u] w (ZPost w (twoV addF xs ys) (matAns xs ys)) := by
  have H := Lib.hid (addF_comb xs ys v u w ha hb hN)
  clear ha hb
  go_enter Tryd.func42, Tryd.ntmps42
  go_wp2_with fail
  refine (H.out).mono ?_; rintro e w1 ⟨u, x, rfl, hx, hz, he⟩
  go_wp2
  go_ret2
  exact ⟨u, x, rfl, hx, hz, he⟩
theorem zero_any (xs : List Int) (v : Value) (w : World) (ha : Ints w v xs) :
    Calls Tryd.prog 51 #[v] w fun e w' => e = .returned (.bool (!xs.any nzB)) ∧ w = w' := by
  have H := Lib.hid (nzB_has xs v w ha)
  clear ha
  go_enter Tryd.func51, Tryd.ntmps51
  go_wp2_with fail
  refine (H.out).mono ?_; rintro e w1 ⟨rfl, rfl⟩
  go_wp2
  go_ret
  exact ⟨rfl, rfl⟩
end Go.Proofs.YtkealkjijfbdoaaDoor
