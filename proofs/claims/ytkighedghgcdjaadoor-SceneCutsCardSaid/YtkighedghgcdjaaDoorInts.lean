/- Slices of ints that are read: kinref.Ints and kinref.Within, their contracts over this seat's translation. -/
import Derived.Test.YtkighedghgcdjaaDoorFail
namespace Go.Proofs.YtkighedghgcdjaaDoor
set_option linter.unusedVariables false
set_option linter.unusedSimpArgs false
open Go.RowKit Go.Extern.Stop Go.Stop Go.Extern

/-- a slice value that reads as these ints -/
def Ints (w : World) (v : Value) (zs : List Int) : Prop := Row w v zs.length (zs.map (Value.int .i64)) ∧ zs.length ≤ 4611686018427387903
theorem Ints.ext {w w' : World} {v : Value} {zs : List Int} (h : Ints w v zs) (k : Ext w w') : Ints w' v zs := ⟨h.1.ext k, h.2⟩
theorem Ints.form {w : World} {v : Value} {zs : List Int} (h : Ints w v zs) : ∃ a cap, v = .slice a zs.length cap := h.1.form
theorem Ints.addr {w : World} {v : Value} {zs : List Int} (h : Ints w v zs) (hn : 0 < zs.length) : ∃ g off cap, v = .slice (some ⟨g, off, none⟩) zs.length cap ∧ zs.length ≤ cap ∧ cap ≤ maxLen := h.1.some hn
theorem Ints.len {w : World} {a : Option Addr} {n cap : Nat} {zs : List Int} (h : Ints w (.slice a n cap) zs) : n = zs.length := by
  obtain ⟨a', cap', e⟩ := h.form
  simp only [Value.slice.injEq] at e
  exact e.2.1
theorem Ints.had {w : World} {a : Option Addr} {n cap : Nat} {zs : List Int} (h : Ints w (.slice a n cap) zs) (hn : 0 < n) : ∃ g off, a = some ⟨g, off, none⟩ := by
  obtain ⟨⟨a', cap', e, _, _, h3, _⟩, _⟩ := h
  simp only [Value.slice.injEq] at e
  obtain ⟨rfl, rfl, rfl⟩ := e
  exact h3 hn
theorem Ints.caps {w : World} {a : Option Addr} {n cap : Nat} {zs : List Int} (h : Ints w (.slice a n cap) zs) : n ≤ cap ∧ cap ≤ maxLen := by
  obtain ⟨⟨a', cap', e, h1, h2, _⟩, _⟩ := h
  simp only [Value.slice.injEq] at e
  obtain ⟨rfl, rfl, rfl⟩ := e
  exact ⟨h1, h2⟩
theorem Ints.at {w : World} {g off n cap : Nat} {zs : List Int} (h : Ints w (.slice (some ⟨g, off, none⟩) n cap) zs) {j : Nat} {x : Int} (hj : zs[j]? = some x) : w.cell? ⟨g, off + j, none⟩ = some (.int .i64 x) := by
  obtain ⟨⟨a, cap', h0, _, _, _, h4⟩, _⟩ := h
  simp only [Value.slice.injEq] at h0
  exact h4 g off h0.1.symm j _ (by simp [hj])
theorem Ints.of_owns {w : World} {base : Nat} {v : Value} {n : Nat} {zs : List Int} (h : w.ownsRow base 3 1 v n (zs.map (Value.int .i64))) (hl : zs.length ≤ 4611686018427387903) : Ints w v zs := by
  have hn : n = zs.length := by have := h.1; simp at this; omega
  subst hn
  exact ⟨Row.of_owns h, hl⟩
theorem Ints.nil (w : World) : Ints w (.slice none 0 0) [] := ⟨Row.nil w, by simp⟩

theorem eq_of_gets {xs ys : List Int} (hl : xs.length = ys.length) (h : ∀ j, j < xs.length → xs[j]? = ys[j]?) : xs = ys := by
  apply List.ext_getElem?
  intro j
  by_cases hj : j < xs.length
  · exact h j hj
  · rw [List.getElem?_eq_none (by omega), List.getElem?_eq_none (by omega)]

set_option maxRecDepth 20000 in
set_option maxHeartbeats 1000000 in
theorem ints_same (xs ys : List Int) (va vb : Value) (w : World) (ha : Ints w va xs) (hb : Ints w vb ys) :
    Calls Tryd.prog 35 #[va, vb] w fun e w' => e = .returned (.bool (decide (xs = ys))) ∧ Ext w w' := by
  obtain ⟨n, hn⟩ : ∃ n, n = xs.length := ⟨_, rfl⟩
  obtain ⟨m, hm⟩ : ∃ m, m = ys.length := ⟨_, rfl⟩
  have hle := ha.2
  have hle' := hb.2
  by_cases hnm : n = m
  · by_cases hz : n = 0
    · obtain ⟨a, cap, rfl⟩ := ha.form
      obtain ⟨b, cap', rfl⟩ := hb.form
      obtain rfl : xs = [] := List.eq_nil_of_length_eq_zero (by omega)
      obtain rfl : ys = [] := List.eq_nil_of_length_eq_zero (by omega)
      clear ha hb hnm hz hn hm
      go_enter Tryd.func35, Tryd.ntmps35
      go_wp2
      refine wp_loop_rounds 1 ?_
      rw [rounds_succ]
      go_wp2
      go_ret
      exact ⟨rfl, Ext.refl w⟩
    · obtain ⟨g, off, cap, rfl, c1, c2⟩ := ha.addr (by omega)
      obtain ⟨g', off', cap', rfl, c1', c2'⟩ := hb.addr (by omega)
      rw [← hn] at ha hle c1 ⊢
      rw [← hm, ← hnm] at hb c1' ⊢
      rw [← hnm] at hm
      have HN := Lib.hid hn
      have HM := Lib.hid hm
      unfold maxLen at c2 c2'
      clear hn hm hnm hle' m
      go_enter Tryd.func35, Tryd.ntmps35
      go_wp2
      go_loopw [5] (fun i wr => ∃ k : Nat, k ≤ n ∧ i = .int .i64 k ∧ Ext w wr ∧ Hid (∀ j, j < k → xs[j]? = ys[j]?)) (fun i _ => n - (intOf i).toNat)
      case atStart => exact ⟨0, Nat.zero_le _, rfl, Ext.refl w, fun j hj => absurd hj (Nat.not_lt_zero _)⟩
      case round =>
        obtain ⟨k, hk, rfl, hE, HJ⟩ := hrel
        by_cases hlt : k < n
        · obtain ⟨x, hx⟩ : ∃ x, xs[k]? = some x := ⟨_, List.getElem?_eq_getElem (by rw [← HN.out]; exact hlt)⟩
          obtain ⟨y, hy⟩ : ∃ y, ys[k]? = some y := ⟨_, List.getElem?_eq_getElem (by rw [← HM.out]; exact hlt)⟩
          have cx := hE.cell (ha.at hx)
          have cy := hE.cell (hb.at hy)
          have HX := Lib.hid hx
          have HY := Lib.hid hy
          clear hx hy
          by_cases hxy : x = y
          · subst hxy
            go_wp2
            go_quiet (fail)
            go_wp2
            go_roundw
            case rel => exact ⟨k + 1, by omega, by go_num, hE.drewN _, fun j hj => by
              by_cases hjk : j = k
              · subst hjk; rw [HX.out, HY.out]
              · exact HJ.out j (by omega)⟩
            case measure => simp [intOf]; omega
          · have hne : (x != y) = true := by simpa using hxy
            have hne2 : (x == y) = false := by simpa using hxy
            go_wp2
            go_quiet (fail)
            go_wp2
            go_ret
            refine ⟨?_, hE.drewN _⟩
            have : xs ≠ ys := fun e => by
              have h1 := HX.out
              rw [e, HY.out] at h1
              exact hxy (Option.some.inj h1).symm
            simp [this]
        · go_wp2
          go_ret
          refine ⟨?_, hE⟩
          have : xs = ys := eq_of_gets (by rw [← HN.out, ← HM.out]) (fun j hj => HJ.out j (by rw [← HN.out] at hj; omega))
          simp [this]
  · obtain ⟨a, cap, rfl⟩ := ha.form
    obtain ⟨b, cap', rfl⟩ := hb.form
    have hne : ((xs.length : Int) != (ys.length : Int)) = true := by simp; omega
    have hxy : xs ≠ ys := fun e => hnm (by rw [hn, hm, e])
    have HXY := Lib.hid hxy
    clear hnm hn hm hxy ha hb
    go_enter Tryd.func35, Tryd.ntmps35
    go_wp2
    go_ret
    exact ⟨by simp [HXY.out], Ext.refl w⟩
def within (lo hi : Int) (zs : List Int) : Prop := ∀ x ∈ zs, lo ≤ x ∧ x ≤ hi
instance (lo hi : Int) (zs : List Int) : Decidable (within lo hi zs) := by unfold within; exact inferInstance
theorem within_of_gets {lo hi : Int} {zs : List Int} (h : ∀ j x, j < zs.length → zs[j]? = some x → lo ≤ x ∧ x ≤ hi) : within lo hi zs := fun x hx => by
  obtain ⟨j, hj, e⟩ := List.mem_iff_getElem.1 hx
  exact h j x hj (by rw [List.getElem?_eq_getElem hj, e])
theorem within.at {lo hi : Int} {zs : List Int} (h : within lo hi zs) {j : Nat} {x : Int} (hj : zs[j]? = some x) : lo ≤ x ∧ x ≤ hi := h x (List.mem_of_getElem? hj)

set_option maxRecDepth 20000 in
set_option maxHeartbeats 1000000 in
theorem within_any (zs : List Int) (lo hi : Int) (v : Value) (w : World) (ha : Ints w v zs) :
    Calls Tryd.prog 59 #[v, .int .i64 lo, .int .i64 hi] w fun e w' => e = .returned (.bool (decide (within lo hi zs))) ∧ Ext w w' := by
  obtain ⟨n, hn⟩ : ∃ n, n = zs.length := ⟨_, rfl⟩
  have hle := ha.2
  by_cases hz : n = 0
  · obtain ⟨a, cap, rfl⟩ := ha.form
    obtain rfl : zs = [] := List.eq_nil_of_length_eq_zero (by omega)
    clear ha hz hn
    go_enter Tryd.func59, Tryd.ntmps59
    go_wp2
    refine wp_loop_rounds 1 ?_
    rw [rounds_succ]
    go_wp2
    go_ret
    exact ⟨by simp [within], Ext.refl w⟩
  · obtain ⟨g, off, cap, rfl, c1, c2⟩ := ha.addr (by omega)
    rw [← hn] at ha hle c1 ⊢
    have HN := Lib.hid hn
    unfold maxLen at c2
    clear hn
    go_enter Tryd.func59, Tryd.ntmps59
    go_wp2
    go_loop [7] (fun i => ∃ k : Nat, k ≤ n ∧ i = .int .i64 k ∧ Hid (∀ j x, j < k → zs[j]? = some x → lo ≤ x ∧ x ≤ hi)) (fun i => n - (intOf i).toNat)
    case atStart => exact ⟨0, Nat.zero_le _, rfl, fun j _ hj => absurd hj (Nat.not_lt_zero _)⟩
    case round =>
      obtain ⟨k, hk, rfl, HJ⟩ := hrel
      by_cases hlt : k < n
      · obtain ⟨x, hx⟩ : ∃ x, zs[k]? = some x := ⟨_, List.getElem?_eq_getElem (by rw [← HN.out]; exact hlt)⟩
        have cx := ha.at hx
        have HX := Lib.hid hx
        clear hx
        by_cases h1 : x < lo
        · go_wp2
          go_ret
          refine ⟨?_, Ext.refl w⟩
          have : ¬ within lo hi zs := fun hw => by have := (hw.at HX.out).1; omega
          simp [this]
        · by_cases h2 : hi < x
          · go_wp2
            go_ret
            refine ⟨?_, Ext.refl w⟩
            have : ¬ within lo hi zs := fun hw => by have := (hw.at HX.out).2; omega
            simp [this]
          · go_wp2
            go_round
            case rel => exact ⟨k + 1, by omega, by go_num, fun j y hj hy => by
              by_cases hjk : j = k
              · subst hjk
                have : x = y := Option.some.inj (HX.out.symm.trans hy)
                omega
              · exact HJ.out j y (by omega) hy⟩
            case measure => simp [intOf]; omega
      · go_wp2
        go_ret
        refine ⟨?_, Ext.refl w⟩
        have : within lo hi zs := within_of_gets fun j x hj hx => HJ.out j x (by rw [← HN.out] at hj; omega) hx
        simp [this]
end Go.Proofs.YtkighedghgcdjaaDoor
