/- vbv.Play: its contracts over this seat's translation. -/
import Derived.Test.YtckhilnjkckabaaDoorVbvCheck
import Derived.Test.YtckhilnjkckabaaDoorBucket
import Derived.Test.YtckhilnjkckabaaDoorPush
namespace Go.Proofs.YtckhilnjkckabaaDoor
set_option linter.unusedVariables false
set_option linter.unusedSimpArgs false
open Go.RowKit Go.Extern.Stop Go.Stop Go.Extern

theorem play_noC (c : Cfg) (v : Value) (w : World) (h : ¬ Good c) :
    Calls Tryd.prog 8 #[.agg #[.int .i64 c.qmin, .int .i64 c.qmax, .int .i64 c.reach, .int .i64 c.cut, .int .i64 c.gop, .int .i64 c.rate, .int .i64 c.room, .int .i64 c.fill], v] w fun e w' => e = .returned (.tuple #[.slice none 0 0, .iface 32 (.int .i64 11)]) ∧ Ext w w' := by
  have E1 : Ext w (w.alloc (.cells #[.int .i64 c.qmin, .int .i64 c.qmax, .int .i64 c.reach, .int .i64 c.cut, .int .i64 c.gop, .int .i64 c.rate, .int .i64 c.room, .int .i64 c.fill] 23)) := (Ext.refl w).alloc _
  have H := Lib.hid h
  clear h
  go_enter Tryd.func8, Tryd.ntmps8
  go_wp2_with (go_at_call 24; refine (check_no c _ _ H.out).mono ?_; rintro e w' ⟨rfl, hx⟩)
  go_ret2
  exact ⟨rfl, E1.trans hx⟩
theorem play_noS (c : Cfg) (zs : List Int) (v : Value) (w : World) (h : Good c) (ha : Ints w v zs) (hs : ¬ Sizes zs) :
    Calls Tryd.prog 8 #[.agg #[.int .i64 c.qmin, .int .i64 c.qmax, .int .i64 c.reach, .int .i64 c.cut, .int .i64 c.gop, .int .i64 c.rate, .int .i64 c.room, .int .i64 c.fill], v] w fun e w' => e = .returned (.tuple #[.slice none 0 0, .iface 32 (.int .i64 3)]) ∧ Ext w w' := by
  have E1 : Ext w (w.alloc (.cells #[.int .i64 c.qmin, .int .i64 c.qmax, .int .i64 c.reach, .int .i64 c.cut, .int .i64 c.gop, .int .i64 c.rate, .int .i64 c.room, .int .i64 c.fill] 23)) := (Ext.refl w).alloc _
  have H := Lib.hid h
  clear h
  by_cases hl : zs.length ≤ 4096
  · have hw : ¬ within 0 1073741824 zs := fun hw => hs ⟨hl, hw⟩
    have ck := check_any c zs v
    simp only [if_neg hw] at ck
    have CK := Lib.hid ck
    clear ck hs hw
    go_enter Tryd.func8, Tryd.ntmps8
    go_wp2_with (go_at_call 24; refine (CK.out _ H.out (ha.ext E1) hl).mono ?_; rintro e w' ⟨rfl, hx⟩)
    go_ret2
    exact ⟨rfl, E1.trans hx⟩
  · clear hs
    go_enter Tryd.func8, Tryd.ntmps8
    go_wp2_with (go_at_call 24; refine (check_long c zs _ _ H.out (ha.ext E1) (by omega)).mono ?_; rintro e w' ⟨rfl, hx⟩)
    go_ret2
    exact ⟨rfl, E1.trans hx⟩

/-- what Play answers -/
def PlayPost (w : World) (c : Cfg) (zs : List Int) (e : Ending) (w' : World) : Prop :=
  ∃ u x, e = .returned (.tuple #[u, x]) ∧ Ext w w' ∧ match playErr c.rate c.room c.fill zs 0 with
    | none => Ints w' u (playOut c.rate c.fill zs) ∧ x = .nilIface
    | some (i, k) => u = .slice none 0 0 ∧ IsErr w' [(⟨#[118, 98, 118]⟩, (i : Int))] k x

set_option maxHeartbeats 1000000 in
set_option maxRecDepth 20000 in
theorem play_any (c : Cfg) (zs : List Int) (v : Value) (w : World) (h : Good c) (ha : Ints w v zs) (hs : Sizes zs) :
    Calls Tryd.prog 8 #[.agg #[.int .i64 c.qmin, .int .i64 c.qmax, .int .i64 c.reach, .int .i64 c.cut, .int .i64 c.gop, .int .i64 c.rate, .int .i64 c.room, .int .i64 c.fill], v] w (PlayPost w c zs) := by
  have E1 : Ext w (w.alloc (.cells #[.int .i64 c.qmin, .int .i64 c.qmax, .int .i64 c.reach, .int .i64 c.cut, .int .i64 c.gop, .int .i64 c.rate, .int .i64 c.room, .int .i64 c.fill] 23)) := (Ext.refl w).alloc _
  obtain ⟨hl, hw⟩ := hs
  have H := Lib.hid h
  obtain ⟨_, _, _, _, _, _, _, _, _, g1, g2, g3, g4, g5⟩ := h
  obtain ⟨i0, hi, hz0, hz1, hz2⟩ := info_parts infoInt
  obtain ⟨a, cap, rfl⟩ := ha.form
  have ck := fun W => check_any c zs (.slice a zs.length cap) W H.out
  simp only [if_pos hw] at ck
  obtain ⟨n, hn⟩ : ∃ n, n = zs.length := ⟨_, rfl⟩
  rw [← hn] at ha hl ck ⊢
  have CK := Lib.hid ck
  have had : 0 < n → ∃ g off, a = some ⟨g, off, none⟩ := fun h0 => by
    obtain ⟨g, off, cap', hag, _, _⟩ := ha.addr (by omega)
    simp only [Value.slice.injEq] at hag
    exact ⟨g, off, hag.1⟩
  have HA := Lib.hid had
  have HN := Lib.hid hn
  have HW := Lib.hid hw
  clear hn hw ck had
  go_enter Tryd.func8, Tryd.ntmps8
  go_wp2_with fail
  refine (CK.out _ (ha.ext E1) hl).mono ?_; rintro e w1 ⟨rfl, hx⟩
  have k5 := hx.cell (p := ⟨w.heap.size, 5, none⟩) (v := .int .i64 c.rate) (by simp)
  have k6 := hx.cell (p := ⟨w.heap.size, 6, none⟩) (v := .int .i64 c.room) (by simp)
  have k7 := hx.cell (p := ⟨w.heap.size, 7, none⟩) (v := .int .i64 c.fill) (by simp)
  have hE := E1.trans hx
  have hsz := hx.size
  clear E1 hx
  go_wp2_with (at_make; refine wpList_make_own _ rfl _ _ 24 rfl (w.heap.size + 1) 3 i0 (.int .i64 0) 1 Tryd.underlying24 hi hz0 hz1 .i64 .i64 _ n rfl rfl (by omega) (by rw [hz2]; omega) (by unfold maxLen; omega) (by simp at hsz; omega) ?_; intro w2 hown hgrow; have m5 := hgrow.cell k5 (by simp); have m6 := hgrow.cell k6 (by simp); have m7 := hgrow.cell k7 (by simp))
  have hE2 : Ext w w2 := Below.grown hE hgrow hE.size (fun k hk => by cases hk)
  go_loopw [7, 8, 24] (fun fv cv iv wr => ∃ (k : Nat) (ct : Int), k ≤ n ∧ iv = .int .i64 k ∧ cv = .int .i64 ct ∧ 0 ≤ ct ∧ ct ≤ 16384 ∧ Hid (ct = pc c.rate c.fill (zs.take k)) ∧ Hid (playErr c.rate c.room ct (zs.drop k) k = playErr c.rate c.room c.fill zs 0) ∧
      wr.ownsRow (w.heap.size + 1) 3 1 fv k ((playOut c.rate c.fill (zs.take k)).map (Value.int .i64)) ∧ Ext w wr ∧ wr.cell? ⟨w.heap.size, 5, none⟩ = some (.int .i64 c.rate) ∧ wr.cell? ⟨w.heap.size, 6, none⟩ = some (.int .i64 c.room)) (fun _ _ iv _ => n - (intOf iv).toNat)
  case atStart => exact ⟨0, c.fill, Nat.zero_le _, rfl, rfl, by omega, by omega, rfl, by rfl, hown, hE2, m5, m6⟩
  case round =>
    obtain ⟨k, ct, hk, rfl, rfl, ct0, ct1, HC, HF, hown, hE, m5, m6⟩ := hrel
    by_cases hlt : k < n
    · obtain ⟨s, hs⟩ : ∃ s, zs[k]? = some s := ⟨_, List.getElem?_eq_getElem (by rw [← HN.out]; exact hlt)⟩
      obtain ⟨s0, s1⟩ := HW.out.at hs
      obtain ⟨g, off, rfl⟩ := HA.out (by omega)
      have cs := hE.cell (ha.at hs)
      have HS := Lib.hid hs
      clear hs
      by_cases hov : ct < s
      · go_wp2_with fail
        refine (in_err _ _ [] 14 _ _ rfl).mono ?_; rintro e w3 ⟨u, rfl, hx, hu⟩
        go_wp2
        go_ret2
        refine ⟨_, _, rfl, hE.trans hx, ?_⟩
        have e := HF.out
        rw [drop_of_get HS.out, playErr, if_pos hov] at e
        rw [← e]
        exact ⟨rfl, hu⟩
      · by_cases hfl : c.room < ct + (c.rate - s)
        · go_wp2_with fail
          refine (in_err _ _ [] 5 _ _ rfl).mono ?_; rintro e w3 ⟨u, rfl, hx, hu⟩
          go_wp2
          go_ret2
          refine ⟨_, _, rfl, hE.trans hx, ?_⟩
          have e := HF.out
          rw [drop_of_get HS.out, playErr, if_neg (by omega), if_pos (by omega)] at e
          rw [← e]
          exact ⟨rfl, hu⟩
        · have hnx : ∀ x v' (w3 : World), x = ct + (c.rate - s) → w3.ownsRow (w.heap.size + 1) 3 1 v' (k + 1) ((playOut c.rate c.fill (zs.take k)).map (Value.int .i64) ++ [.int .i64 x]) →
              w3.ownsRow (w.heap.size + 1) 3 1 v' (k + 1) ((playOut c.rate c.fill (zs.take (k + 1))).map (Value.int .i64)) := fun x v' w3 hxx h3 => by
            rw [take_of_get HS.out, playOut_snoc, List.map_append, ← HC.out, ← hxx]
            exact h3
          have HNX := Lib.hid hnx
          clear hnx
          have hnc : ct + (c.rate - s) = pc c.rate c.fill (zs.take (k + 1)) := by rw [take_of_get HS.out, pc_snoc, ← HC.out]
          have hnf : playErr c.rate c.room (ct + (c.rate - s)) (zs.drop (k + 1)) (k + 1) = playErr c.rate c.room c.fill zs 0 := by
            have e := HF.out
            rw [drop_of_get HS.out, playErr, if_neg hov, if_neg hfl] at e
            exact e
          have HNC := Lib.hid hnc
          have HNF := Lib.hid hnf
          clear hnc hnf
          have hbx : wr.cell? ⟨w.heap.size, 5, none⟩ = some (.int .i64 c.rate) ∧ wr.cell? ⟨w.heap.size, 6, none⟩ = some (.int .i64 c.room) := ⟨m5, m6⟩
          have hsz : w.heap.size < wr.heap.size := Ext.lt m5
          go_wp2_with (at_builtin; refine push_int rfl _ _ 24 rfl Tryd.underlying24 _ k _ _ rfl hown rfl hsz (by omega) ?_; intro v' w3 h1 h2)
          have h3 := HNX.out _ _ _ rfl h1
          have n5 := Below.cellv h2 hbx.1 (Nat.lt_succ_self _)
          have n6 := Below.cellv h2 hbx.2 (Nat.lt_succ_self _)
          have hE3 : Ext w w3 := hE.of_below h2 (by omega)
          clear h1 h2 hown
          go_wp2
          go_roundw
          case rel => exact ⟨k + 1, _, by omega, by go_num, rfl, by omega, by omega, HNC, HNF, h3, hE3, n5, n6⟩
          case measure => simp [intOf]; omega
    · go_wp2
      go_ret2
      refine ⟨_, _, rfl, hE, ?_⟩
      have hkn : k = n := by omega
      have hd : zs.drop k = [] := List.drop_eq_nil_of_le (by rw [hkn, HN.out]; exact Nat.le_refl _)
      have ht : zs.take k = zs := List.take_of_length_le (by rw [hkn, HN.out]; exact Nat.le_refl _)
      have e := HF.out
      rw [hd, playErr] at e
      rw [← e]
      rw [ht] at hown
      exact ⟨Ints.of_owns hown (by rw [playOut_length, ← HN.out]; omega), rfl⟩
end Go.Proofs.YtckhilnjkckabaaDoor
