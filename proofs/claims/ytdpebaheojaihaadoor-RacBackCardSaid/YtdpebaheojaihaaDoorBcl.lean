/- Bytes copied: slices.Clone, kinref.CopyBytes; bits.NewReader: contracts over this seat's translation. -/
import Derived.Test.YtdpebaheojaihaaDoorBrd
import Derived.Test.YtdpebaheojaihaaDoorCopy
import Derived.WalkSpells
namespace Go.Proofs.YtdpebaheojaihaaDoor
set_option linter.unusedVariables false
set_option linter.unusedSimpArgs false
open Go.RowKit Go.Extern.Stop Go.Stop Go.Extern

theorem infoU8 : (Tryd.prog.info? 5).map (fun i => (i.zero, i.size, i.bytes)) = some (some (.int .u8 0), 1, 1) := by kernel_rfl
/-- bytes as cells -/
def byC (bs : List Nat) : List Value := bs.map fun x : Nat => Value.int .u8 (x : Int)
theorem byC_length (bs : List Nat) : (byC bs).length = bs.length := by simp [byC]
theorem byC_one (bs : List Nat) : ∀ u ∈ byC bs, u.oneCell' = true := fun u hu => by
  obtain ⟨x, _, rfl⟩ := List.mem_map.1 hu
  rfl
theorem news_of_bys {w : World} {g off n cap : Nat} {bs : List Nat} (h : Bys w (.slice (some ⟨g, off, none⟩) n cap) bs) : ∀ j u, (byC bs)[j]? = some u → w.cell? ((⟨g, off, none⟩ : Addr).add j) = some u := fun j u hu => by
  have hadd : (⟨g, off, none⟩ : Addr).add j = ⟨g, off + j, none⟩ := by unfold Addr.add; split <;> simp_all
  unfold byC at hu
  rw [List.getElem?_map] at hu
  obtain ⟨x, hx, rfl⟩ := Option.map_eq_some_iff.1 hu
  rw [hadd]
  exact h.at hx
theorem Bys.of_owns {w : World} {base n : Nat} {v : Value} {bs : List Nat} (h : w.ownsRow base 5 1 v n (byC bs)) (hb : ∀ x ∈ bs, x < 256) (hl : bs.length ≤ 140737488355328) : Bys w v bs := by
  have hn : n = bs.length := by have := h.1; rw [byC_length] at this; omega
  subst hn
  exact ⟨Row.of_owns h, hb, hl⟩
theorem Bys.nil (w : World) : Bys w (.slice none 0 0) [] := ⟨Row.nil w, by simp, by simp⟩
theorem Bys.caps {w : World} {a : Option Addr} {n cap : Nat} {bs : List Nat} (h : Bys w (.slice a n cap) bs) : n ≤ cap ∧ cap ≤ maxLen := by
  obtain ⟨a', cap', e, h1, h2, -, -⟩ := h.1
  simp only [Value.slice.injEq] at e
  obtain ⟨-, rfl, rfl⟩ := e
  exact ⟨h1, h2⟩
def CPost (w : World) (bs : List Nat) (e : Ending) (w' : World) : Prop := ∃ u, e = .returned u ∧ w'.ownsRow w.heap.size 5 1 u bs.length (byC bs) ∧ Ext w w'
set_option maxRecDepth 20000 in
set_option maxHeartbeats 2000000 in
theorem clb_any (bs : List Nat) (v : Value) (w : World) (ha : Bys w v bs) : Calls Tryd.prog 39 #[v] w (CPost w bs) := by
  obtain ⟨i0, hi, hz0, hz1, hz2⟩ := info_parts infoU8
  obtain ⟨n, hn⟩ : ∃ n, n = bs.length := ⟨_, rfl⟩
  have hl := ha.2.2
  have E1 : Ext w (w.alloc (.cells #[] 5)) := (Ext.refl w).alloc _
  have hown : (w.alloc (.cells #[] 5)).ownsRow w.heap.size 5 1 (.slice (some ⟨w.heap.size, 0, none⟩) 0 0) 0 [] := World.ownsRow_made w #[] 0 (Nat.le_refl _) (Nat.zero_le _) rfl
  have fin : ∀ (v' : Value) (w' : World), w'.ownsRow w.heap.size 5 1 v' (0 + n) ([] ++ byC bs) → (w.alloc (.cells #[] 5)).grownBy w' (some w.heap.size) → w'.ownsRow w.heap.size 5 1 v' n (byC bs) ∧ Ext w w' := fun v' w' h1 h2 =>
    ⟨by simpa using h1, Below.grown E1 h2 (by simp) (fun k hk => by cases hk; exact Nat.le_refl _)⟩
  have FIN := Lib.hid fin
  clear fin
  obtain ⟨a, cap, rfl⟩ := ha.form
  rw [← hn] at ha hl
  by_cases hz : n = 0
  · obtain rfl : bs = [] := List.eq_nil_of_length_eq_zero (by omega)
    subst hz
    clear ha hn
    cases a with
    | none =>
      have r1 : ∀ W, (binOp .eql 42 (.slice none 0 cap) (.slice none 0 0)).run Tryd.prog W = .ok (.bool true) W := fun W => Lib.run_eql_slice_nil W _ _ _ 0 cap 0 0 Tryd.underlying42
      go_enter Tryd.func39, Tryd.ntmps39
      go_wp2
      go_ret
      exact ⟨_, rfl, World.ownsRow_nil _ _ _ _, Ext.refl _⟩
    | some a =>
      have r1 : ∀ W, (binOp .eql 42 (.slice (some a) 0 cap) (.slice none 0 0)).run Tryd.prog W = .ok (.bool false) W := fun W => Lib.run_eql_slice_nil W _ _ _ 0 cap 0 0 Tryd.underlying42
      go_enter Tryd.func39, Tryd.ntmps39
      go_wp2_with (at_builtin; refine wpList_append_own _ rfl _ _ 42 rfl w.heap.size 5 i0 (.int .u8 0) 1 1 Tryd.underlying42 hi hz0 hz1 hz2 rfl (by decide) _ 0 [] rfl hown a 0 cap [] rfl rfl (by simp) (by simp) (by decide) (by decide) (by simp) ?_; intro v' w' h1 h2 _)
      go_ret
      obtain ⟨h3, h4⟩ := FIN.out _ _ h1 h2
      exact ⟨_, rfl, h3, h4⟩
  · obtain ⟨g, off, rfl⟩ := ha.had (by omega)
    obtain ⟨c1, c2⟩ := ha.caps
    have hnews := news_of_bys (ha.ext E1)
    have HN := Lib.hid hn
    have HW := Lib.hid hnews
    have r1 : ∀ W, (binOp .eql 42 (.slice (some ⟨g, off, none⟩) n cap) (.slice none 0 0)).run Tryd.prog W = .ok (.bool false) W := fun W => Lib.run_eql_slice_nil W _ _ _ n cap 0 0 Tryd.underlying42
    rw [← hn]
    clear hn hnews hz
    go_enter Tryd.func39, Tryd.ntmps39
    go_wp2_with (at_builtin; refine wpList_append_own _ rfl _ _ 42 rfl w.heap.size 5 i0 (.int .u8 0) 1 1 Tryd.underlying42 hi hz0 hz1 hz2 rfl (by decide) _ 0 [] rfl hown ⟨g, off, none⟩ n cap (byC bs) rfl (by rw [byC_length, HN.out, Nat.mul_one]) HW.out (byC_one bs) (by unfold maxLen; omega) (by omega) (by simp) ?_; intro v' w' h1 h2 _)
    go_ret
    obtain ⟨h3, h4⟩ := FIN.out _ _ h1 h2
    exact ⟨_, rfl, by rw [← HN.out]; exact h3, h4⟩
set_option maxRecDepth 20000 in
set_option maxHeartbeats 2000000 in
theorem cpb_any (bs : List Nat) (v : Value) (w : World) (ha : Bys w v bs) : Calls Tryd.prog 22 #[v] w (CPost w bs) := by
  obtain ⟨i0, hi, hz0, hz1, hz2⟩ := info_parts infoU8
  obtain ⟨n, hn⟩ : ∃ n, n = bs.length := ⟨_, rfl⟩
  have hl := ha.2.2
  have E1 : Ext w (w.alloc (.cells #[] 5)) := (Ext.refl w).alloc _
  have hown : (w.alloc (.cells #[] 5)).ownsRow w.heap.size 5 1 (.slice (some ⟨w.heap.size, 0, none⟩) 0 0) 0 [] := World.ownsRow_made w #[] 0 (Nat.le_refl _) (Nat.zero_le _) rfl
  have fin : ∀ (v' : Value) (w' : World), w'.ownsRow w.heap.size 5 1 v' (0 + n) ([] ++ byC bs) → (w.alloc (.cells #[] 5)).grownBy w' (some w.heap.size) → w'.ownsRow w.heap.size 5 1 v' n (byC bs) ∧ Ext w w' := fun v' w' h1 h2 =>
    ⟨by simpa using h1, Below.grown E1 h2 (by simp) (fun k hk => by cases hk; exact Nat.le_refl _)⟩
  have FIN := Lib.hid fin
  clear fin
  obtain ⟨a, cap, rfl⟩ := ha.form
  rw [← hn] at ha hl
  by_cases hz : n = 0
  · obtain rfl : bs = [] := List.eq_nil_of_length_eq_zero (by omega)
    subst hz
    clear ha hn
    cases a with
    | none =>
      go_enter Tryd.func22, Tryd.ntmps22
      go_wp2
      go_ret
      exact ⟨_, rfl, hown, E1⟩
    | some a =>
      have r1 : ∀ W, (binOp .eql 42 (.slice (some a) 0 cap) (.slice none 0 0)).run Tryd.prog W = .ok (.bool false) W := fun W => Lib.run_eql_slice_nil W _ _ _ 0 cap 0 0 Tryd.underlying42
      go_enter Tryd.func22, Tryd.ntmps22
      go_wp2_with (at_builtin; refine wpList_append_own _ rfl _ _ 42 rfl w.heap.size 5 i0 (.int .u8 0) 1 1 Tryd.underlying42 hi hz0 hz1 hz2 rfl (by decide) _ 0 [] rfl hown a 0 cap [] rfl rfl (by simp) (by simp) (by decide) (by decide) (by simp) ?_; intro v' w' h1 h2 _)
      go_ret
      obtain ⟨h3, h4⟩ := FIN.out _ _ h1 h2
      exact ⟨_, rfl, h3, h4⟩
  · obtain ⟨g, off, rfl⟩ := ha.had (by omega)
    obtain ⟨c1, c2⟩ := ha.caps
    have hnews := news_of_bys (ha.ext E1)
    have HN := Lib.hid hn
    have HW := Lib.hid hnews
    have r1 : ∀ W, (binOp .eql 42 (.slice (some ⟨g, off, none⟩) n cap) (.slice none 0 0)).run Tryd.prog W = .ok (.bool false) W := fun W => Lib.run_eql_slice_nil W _ _ _ n cap 0 0 Tryd.underlying42
    rw [← hn]
    clear hn hnews hz
    go_enter Tryd.func22, Tryd.ntmps22
    go_wp2_with (at_builtin; refine wpList_append_own _ rfl _ _ 42 rfl w.heap.size 5 i0 (.int .u8 0) 1 1 Tryd.underlying42 hi hz0 hz1 hz2 rfl (by decide) _ 0 [] rfl hown ⟨g, off, none⟩ n cap (byC bs) rfl (by rw [byC_length, HN.out, Nat.mul_one]) HW.out (byC_one bs) (by unfold maxLen; omega) (by omega) (by simp) ?_; intro v' w' h1 h2 _)
    go_ret
    obtain ⟨h3, h4⟩ := FIN.out _ _ h1 h2
    exact ⟨_, rfl, by rw [← HN.out]; exact h3, h4⟩
end Go.Proofs.YtdpebaheojaihaaDoor
