/- wht.side, slices.Clone of ints: their contracts over this seat's translation. -/
import Derived.Test.YtbmknmenaaanaaaDoorWTrans
import Derived.Test.YtbmknmenaaanaaaDoorCopy
import Derived.Lib.OwnBridge
import Derived.Lib.BufferMore
namespace Go.Proofs.YtbmknmenaaanaaaDoor
set_option linter.unusedVariables false
set_option linter.unusedSimpArgs false
open Go.RowKit Go.Extern.Stop Go.Stop Go.Extern

def rowL (N : Nat) (f : Nat → Int) : List Int := (List.range N).map f
theorem rowL_length (N : Nat) (f : Nat → Int) : (rowL N f).length = N := by simp [rowL]
theorem rowL_get {N : Nat} {f : Nat → Int} {j : Nat} (h : j < N) : (rowL N f)[j]? = some (f j) := by simp [rowL, h]
theorem rowL_arr (N : Nat) (f : Nat → Int) : (rowL N f).toArray = rowA N f := by
  apply Array.ext_getElem?
  intro j
  by_cases h : j < N <;> simp [rowL, rowA, h]
theorem rowL_getD (zs : List Int) : rowL zs.length (fun i => zs.getD i 0) = zs := by
  apply List.ext_getElem?
  intro j
  by_cases h : j < zs.length <;> simp [rowL, h]
theorem getD_bound {F : Int} {zs : List Int} (h : within (-F) F zs) (hF : 0 ≤ F) (i : Nat) : -F ≤ zs.getD i 0 ∧ zs.getD i 0 ≤ F := by
  by_cases hi : i < zs.length
  · have e : zs[i]? = some (zs.getD i 0) := by simp [hi]
    exact h.at e
  · have e : zs.getD i 0 = 0 := by simp [hi]
    rw [e]
    omega

set_option maxHeartbeats 1000000 in
set_option maxRecDepth 20000 in
theorem clone_ints (zs : List Int) (v : Value) (w : World) (ha : Ints w v zs) (hl : zs.length ≤ 1000000) (h1 : 1 ≤ zs.length) :
    Calls Tryd.prog 45 #[v] w fun e w' => ∃ u, e = .returned u ∧ w'.ownsRow w.heap.size 3 1 u zs.length (zs.map (Value.int .i64)) ∧ Ext w w' := by
  obtain ⟨i0, hi, hz0, hz1, hz2⟩ := info_parts infoInt
  obtain ⟨n, hn⟩ : ∃ n, n = zs.length := ⟨_, rfl⟩
  have E1 : Ext w (w.alloc (.cells #[] 3)) := (Ext.refl w).alloc _
  have hown : (w.alloc (.cells #[] 3)).ownsRow w.heap.size 3 1 (.slice (some ⟨w.heap.size, 0, none⟩) 0 0) 0 [] := World.ownsRow_made w #[] 0 (Nat.le_refl _) (Nat.zero_le _) rfl
  have fin : ∀ (v' : Value) (w' : World), w'.ownsRow w.heap.size 3 1 v' (0 + n) ([] ++ zs.map (Value.int .i64)) → (w.alloc (.cells #[] 3)).grownBy w' (some w.heap.size) → w'.ownsRow w.heap.size 3 1 v' n (zs.map (Value.int .i64)) ∧ Ext w w' := fun v' w' h1 h2 =>
    ⟨by simpa using h1, Below.grown E1 h2 (by simp) (fun k hk => by cases hk; exact Nat.le_refl _)⟩
  have FIN := Lib.hid fin
  clear fin
  obtain ⟨g, off, cap, rfl, c1, c2⟩ := ha.addr (by omega)
  rw [← hn] at ha hl c1 h1 ⊢
  have hnews := news_of_ints (ha.ext E1)
  have HN := Lib.hid hn
  have HW := Lib.hid hnews
  clear hn hnews
  have hnl := Lib.run_eql_slice_some_nil (P := Tryd.prog) w (t := 22) (e := 3) ⟨g, off, none⟩ n cap Tryd.underlying22
  go_enter Tryd.func45, Tryd.ntmps45
  go_wp2_with (at_builtin; refine wpList_append_own _ rfl _ _ 22 rfl w.heap.size 3 i0 (.int .i64 0) 1 8 Tryd.underlying22 hi hz0 hz1 hz2 rfl (by decide) _ 0 [] rfl hown ⟨g, off, none⟩ n cap (zs.map (Value.int .i64)) rfl (by simp [HN.out]) HW.out (ints_one zs) (by unfold maxLen; omega) (by omega) (by simp) ?_; intro v' w' h1 h2 _)
  go_ret
  exact ⟨_, rfl, FIN.out _ _ h1 h2⟩

theorem side_fit (n : Nat) (F : Int) (v : Value) (w : World) (hv : ∃ a cap, v = .slice a n cap) (h1 : n ≠ 16) (h2 : n ≠ 64) :
    Calls Tryd.prog 44 #[v, .int .i64 F] w fun e w' => e = .returned (.tuple #[.int .i64 0, .iface 29 (.int .i64 14)]) ∧ w' = w := by
  obtain ⟨a, cap, rfl⟩ := hv
  have b1 : ((n : Int) != 16) = true := by simp; omega
  have b2 : ((n : Int) != 64) = true := by simp; omega
  go_enter Tryd.func44, Tryd.ntmps44
  go_wp2
  go_ret2
  exact ⟨rfl, rfl⟩

set_option maxHeartbeats 1000000 in
set_option maxRecDepth 20000 in
theorem side_any (zs : List Int) (n : Nat) (F S : Int) (v : Value) (w : World) (ha : Ints w v zs) (hn : n = zs.length) (hS : n = 16 ∧ S = 4 ∨ n = 64 ∧ S = 8) (hF : 0 ≤ F) (hF' : F ≤ 16777216) (r : Value) (hr : Hid (r = if within (-F) F zs then .tuple #[.int .i64 S, .nilIface] else .tuple #[.int .i64 0, .iface 29 (.int .i64 3)])) :
    Calls Tryd.prog 44 #[v, .int .i64 F] w fun e w' => e = .returned r ∧ w' = w := by
  obtain ⟨g, off, cap, rfl, c1, c2⟩ := ha.addr (by omega)
  rw [← hn] at ha c1 ⊢
  have HN := Lib.hid hn
  unfold maxLen at c2
  clear hn
  have hB : (((n : Int) != 16) = false ∧ ((n : Int) == 16) = true ∧ S = 4 ∧ ((n : Int) != 64) = true) ∨ (((n : Int) != 16) = true ∧ ((n : Int) == 16) = false ∧ S = 8 ∧ ((n : Int) != 64) = false) := by
    rcases hS with ⟨rfl, rfl⟩ | ⟨rfl, rfl⟩
    · exact Or.inl ⟨rfl, rfl, rfl, rfl⟩
    · exact Or.inr ⟨rfl, rfl, rfl, rfl⟩
  clear hS
  rcases hB with ⟨b1, b2, rfl, b3⟩ | ⟨b1, b2, rfl, b3⟩
  all_goals
    go_enter Tryd.func44, Tryd.ntmps44
    go_wp2
    go_loop [19] (fun iv => ∃ k : Nat, k ≤ n ∧ iv = .int .i64 k ∧ Hid (∀ j x, j < k → zs[j]? = some x → -F ≤ x ∧ x ≤ F)) (fun iv => n - (intOf iv).toNat)
    case atStart => exact ⟨0, Nat.zero_le _, rfl, fun j _ hj => absurd hj (Nat.not_lt_zero _)⟩
    case round =>
      obtain ⟨k, hk, rfl, HJ⟩ := hrel
      by_cases hlt : k < n
      · obtain ⟨x, hx⟩ : ∃ x, zs[k]? = some x := ⟨_, List.getElem?_eq_getElem (by rw [← HN.out]; exact hlt)⟩
        have cx := ha.at hx
        have HX := Lib.hid hx
        clear hx
        by_cases h1 : x < -F
        · go_wp2
          go_ret2
          refine ⟨?_, rfl⟩
          have : ¬ within (-F) F zs := fun hw => by have := (hw.at HX.out).1; omega
          rw [hr.out, if_neg this]
          rfl
        · by_cases h2 : F < x
          · go_wp2
            go_ret2
            refine ⟨?_, rfl⟩
            have : ¬ within (-F) F zs := fun hw => by have := (hw.at HX.out).2; omega
            rw [hr.out, if_neg this]
            rfl
          · go_wp2
            go_round
            case rel => exact ⟨k + 1, by omega, by go_num, fun j y hj hy => by
              by_cases hjk : j = k
              · subst hjk
                have : x = y := Option.some.inj (HX.out.symm.trans hy)
                omega
              · exact HJ.out j y (by omega) hy⟩
            case measure => simp [intOf]; omega
      · go_wp2
        go_ret2
        refine ⟨?_, rfl⟩
        have : within (-F) F zs := within_of_gets fun j x hj hx => HJ.out j x (by rw [← HN.out] at hj; omega) hx
        rw [hr.out, if_pos this]
        rfl
end Go.Proofs.YtbmknmenaaanaaaDoor
