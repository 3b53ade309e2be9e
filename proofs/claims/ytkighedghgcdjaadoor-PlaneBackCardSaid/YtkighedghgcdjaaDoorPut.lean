/- slices.Clone; plane.Put: contracts over this seat's translation. -/
import Derived.Test.YtkighedghgcdjaaDoorPutM
import Derived.Test.YtkighedghgcdjaaDoorPlN
import Derived.Test.YtkighedghgcdjaaDoorRNew
import Derived.Deep.RegionLaw
import Derived.WalkSpells
namespace Go.Proofs.YtkighedghgcdjaaDoor
set_option linter.unusedVariables false
set_option linter.unusedSimpArgs false
open Go.RowKit Go.Extern.Stop Go.Stop Go.Extern

set_option maxRecDepth 20000 in
theorem clone_own (zs : List Int) (v : Value) (w : World) (ha : Ints w v zs) (hn0 : 0 < zs.length) (hl : zs.length ≤ 1000000) :
    Calls Tryd.prog 67 #[v] w fun e w' => ∃ g cap, e = .returned (.slice (some ⟨g, 0, none⟩) zs.length cap) ∧ w'.ownsRow w.heap.size 3 1 (.slice (some ⟨g, 0, none⟩) zs.length cap) zs.length (zs.map (Value.int .i64)) ∧ Ext w w' := by
  obtain ⟨i0, hi, hz0, hz1, hz2⟩ := info_parts infoInt
  obtain ⟨n, hn⟩ : ∃ n, n = zs.length := ⟨_, rfl⟩
  have E1 : Ext w (w.alloc (.cells #[] 3)) := (Ext.refl w).alloc _
  have hown : (w.alloc (.cells #[] 3)).ownsRow w.heap.size 3 1 (.slice (some ⟨w.heap.size, 0, none⟩) 0 0) 0 [] := World.ownsRow_made w #[] 0 (Nat.le_refl _) (Nat.zero_le _) rfl
  have fin : ∀ (v' : Value) (w' : World), w'.ownsRow w.heap.size 3 1 v' (0 + n) ([] ++ zs.map (Value.int .i64)) → (w.alloc (.cells #[] 3)).grownBy w' (some w.heap.size) → (∃ g cap, v' = .slice (some ⟨g, 0, none⟩) n cap ∧ w'.ownsRow w.heap.size 3 1 (.slice (some ⟨g, 0, none⟩) n cap) n (zs.map (Value.int .i64))) ∧ Ext w w' := fun v' w' h1 h2 => by
    refine ⟨?_, Below.grown E1 h2 (by simp) (fun k hk => by cases hk; exact Nat.le_refl _)⟩
    have h3 : w'.ownsRow w.heap.size 3 1 v' n (zs.map (Value.int .i64)) := by simpa using h1
    obtain ⟨hl, h⟩ := id h3
    rcases h with ⟨h4, h5⟩ | ⟨g, cap, cur, e, -⟩
    · omega
    · exact ⟨g, cap, e, e ▸ h3⟩
  have FIN := Lib.hid fin
  clear fin
  obtain ⟨g, off, cap, rfl, c1, c2⟩ := ha.addr hn0
  rw [← hn] at ha hl c1 ⊢
  have hnews := news_of_ints (ha.ext E1)
  have HN := Lib.hid hn
  have HW := Lib.hid hnews
  have r1 : ∀ W, (binOp .eql 22 (.slice (some ⟨g, off, none⟩) n cap) (.slice none 0 0)).run Tryd.prog W = .ok (.bool false) W := fun W => Lib.run_eql_slice_nil W _ _ _ n cap 0 0 Tryd.underlying22
  clear hn hnews hn0
  go_enter Tryd.func67, Tryd.ntmps67
  go_wp2_with (at_builtin; refine wpList_append_own _ rfl _ _ 22 rfl w.heap.size 3 i0 (.int .i64 0) 1 8 Tryd.underlying22 hi hz0 hz1 hz2 rfl (by decide) _ 0 [] rfl hown ⟨g, off, none⟩ n cap (zs.map (Value.int .i64)) rfl (by simp [HN.out]) HW.out (ints_one zs) (by unfold maxLen; omega) (by omega) (by simp) ?_; intro v' w' h1 h2 _)
  go_ret
  obtain ⟨⟨g', cap', rfl, h3⟩, h4⟩ := FIN.out _ _ h1 h2
  exact ⟨_, _, rfl, h3, h4⟩
/-- what a frame with a square laid in it is, or why it is none -/
def lies (W H x y n : Int) : Prop := 1 ≤ n ∧ n ≤ 8 ∧ 0 ≤ x ∧ x ≤ W - n ∧ 0 ≤ y ∧ y ≤ H - n
instance (W H x y n : Int) : Decidable (lies W H x y n) := by unfold lies; exact inferInstance
def putAns (W H : Int) (zs : List Int) (x y n : Int) (bs : List Int) : Fall :=
  if may W H zs then (if lies W H x y n then (if (bs.length : Int) = n * n then (if within 0 255 bs then none else range) else fit) else range) else form
def putRow (W : Int) (zs : List Int) (x y n : Int) (bs : List Int) : List Int := rowL zs.length (putK W.toNat x.toNat y.toNat n.toNat (n.toNat * n.toNat) (fun i => zs.getD i 0) (fun i => bs.getD i 0))
theorem putAns_none {W H : Int} {zs : List Int} {x y n : Int} {bs : List Int} (h : putAns W H zs x y n bs = none) : may W H zs ∧ lies W H x y n ∧ (bs.length : Int) = n * n ∧ within 0 255 bs := by
  unfold putAns at h
  split at h
  · rename_i h1
    split at h
    · rename_i h2
      split at h
      · rename_i h3
        split at h
        · rename_i h4
          exact ⟨h1, h2, h3, h4⟩
        · cases h
      · cases h
    · cases h
  · cases h
/-- a frame of the call's own and an error -/
def OPost (w : World) (W H : Int) (zs : List Int) (f : Fall) (e : Ending) (w' : World) : Prop := ∃ a n cap x, e = .returned (.tuple #[.agg #[.int .i64 W, .int .i64 H, .slice a n cap], x]) ∧ Ext w w' ∧ n = zs.length ∧ n ≤ 1000000 ∧ w'.ownsRow w.heap.size 3 1 (.slice a n cap) n (zs.map (Value.int .i64)) ∧ ErrIs w' f x
set_option maxHeartbeats 2000000 in
set_option maxRecDepth 20000 in
theorem put_no (W H x y i : Int) (zs bs : List Int) (a b : Option Addr) (n m cap cb : Nat) (w : World) (h : Ints w (.slice a n cap) zs) (hb : Ints w (.slice b m cb) bs) (f : List (ByteArray × Int) × Int) (hf : putAns W H zs x y i bs = some f) :
    Calls Tryd.prog 33 #[.agg #[.int .i64 W, .int .i64 H, .slice a n cap], .int .i64 x, .int .i64 y, .int .i64 i, .slice b m cb] w (OPost w 0 0 [] (putAns W H zs x y i bs)) := by
  have M1 := Lib.hid (fun w h => may_any W H zs a n cap w h)
  have HBL := Lib.hid hb.len
  by_cases h1 : may W H zs
  · have H1 := Lib.hid h1
    have b1 := sideB_true h1.1
    have b2 := sideB_true h1.2.1
    by_cases h2 : lies W H x y i
    · have h2' := h2
      obtain ⟨l1, l2, l3, l4, l5, l6⟩ := h2'
      have e1 : IntKind.i64.wrap (W - i) = W - i := by rw [IntKind.wrap_i64]; omega
      have e2 : IntKind.i64.wrap (H - i) = H - i := by rw [IntKind.wrap_i64]; omega
      have q1 : 0 ≤ i * i := Int.mul_nonneg (by omega) (by omega)
      have q2 : i * i ≤ 8 * 8 := Int.mul_le_mul l2 l2 (by omega) (by omega)
      have e3 : IntKind.i64.wrap (i * i) = i * i := by rw [IntKind.wrap_i64]; omega
      by_cases h3 : (bs.length : Int) = i * i
      · have h4 : ¬ within 0 255 bs := fun k => by
          unfold putAns at hf
          rw [if_pos h1, if_pos h2, if_pos h3, if_pos k] at hf
          cases hf
        have HR : Hid (putAns W H zs x y i bs = range) := by show _ = _; unfold putAns; rw [if_pos h1, if_pos h2, if_pos h3, if_neg h4]
        have hm : (m : Int) = i * i := by rw [hb.len]; exact h3
        have k3 : ((m : Int) != i * i) = false := by simpa using hm
        have hm64 : m ≤ 64 := by omega
        have H4 := Lib.hid h4
        have BG := Lib.hid hb.had
        clear h1 h2 h3 h4 hf hm
        have FB0 : FrHas ((w.alloc (.cells #[.int .i64 W, .int .i64 H, .slice a n cap] 24)).alloc (.cells #[.int .i64 0, .int .i64 0, .slice none 0 0] 24)) w.heap.size W H (.slice a n cap) := (FrHas.new w W H (.slice a n cap)).ext ((Ext.refl _).alloc _)
        have FR0 : FrHas ((w.alloc (.cells #[.int .i64 W, .int .i64 H, .slice a n cap] 24)).alloc (.cells #[.int .i64 0, .int .i64 0, .slice none 0 0] 24)) (w.heap.size + 1) 0 0 (.slice none 0 0) := by
          have := FrHas.new (w.alloc (.cells #[.int .i64 W, .int .i64 H, .slice a n cap] 24)) 0 0 (.slice none 0 0)
          simpa using this
        have E0 : Ext w ((w.alloc (.cells #[.int .i64 W, .int .i64 H, .slice a n cap] 24)).alloc (.cells #[.int .i64 0, .int .i64 0, .slice none 0 0] 24)) := (by repeat (first | exact Ext.refl _ | assumption | refine Ext.alloc ?_ _ | refine Ext.drew ?_ | refine Ext.drewN ?_ _ | refine Ext.setCell ?_ (by first | exact Nat.le_refl _ | (simp; done) | omega) _ | refine Ext.trans ?_ (by assumption)))
        go_enter Tryd.func33, Tryd.ntmps33
        go_wp2_with fail
        revert FB0 FR0 E0
        generalize (w.alloc (.cells #[.int .i64 W, .int .i64 H, .slice a n cap] 24)).alloc (.cells #[.int .i64 0, .int .i64 0, .slice none 0 0] 24) = w0
        intro FB0 FR0 E0
        refine (M1.out _ (h.ext E0)).mono ?_; rintro e w1 ⟨rfl, hx1⟩
        have HFB := Lib.hid (FB0.ext hx1)
        have HFR := Lib.hid (FR0.ext hx1)
        have E1 : Ext w w1 := E0.trans hx1
        clear FB0 FR0 E0 hx1
        rw [decide_eq_true H1.out]
        obtain ⟨⟨p0, p1, p2⟩, f0, f1, f2⟩ := HFB.out
        obtain ⟨⟨r0, r1, r2⟩, f3, f4, f5⟩ := HFR.out
        go_wp2
        go_loop [65] (fun iv => ∃ k : Nat, k ≤ m ∧ iv = .int .i64 k ∧ Hid (∀ j x, j < k → bs[j]? = some x → 0 ≤ x ∧ x ≤ 255)) (fun iv => m - (intOf iv).toNat)
        case atStart => exact ⟨0, Nat.zero_le _, rfl, fun j _ hj => absurd hj (Nat.not_lt_zero _)⟩
        case round =>
          obtain ⟨k, hk, rfl, HJ⟩ := hrel
          by_cases hlt : k < m
          · obtain ⟨g, off, rfl⟩ := BG.out (by omega)
            obtain ⟨z, hz⟩ : ∃ z, bs[k]? = some z := ⟨_, List.getElem?_eq_getElem (by rw [← HBL.out]; exact hlt)⟩
            have cz := E1.cell (hb.at hz)
            have HZ := Lib.hid hz
            clear hz
            cases hs : smpB z with
            | true =>
              have HB := Lib.hid hs
              go_wp2_with (go_at_call 53; refine (smp_any _ _).mono ?_; rintro e w' ⟨rfl, rfl⟩)
              go_round
              case rel => exact ⟨k + 1, by omega, by go_num, fun j y' hj hy => by
                by_cases hjk : j = k
                · subst hjk
                  have : z = y' := Option.some.inj (HZ.out.symm.trans hy)
                  have h2 := HB.out
                  unfold smpB at h2
                  simp at h2
                  omega
                · exact HJ.out j y' (by omega) hy⟩
              case measure => simp [intOf]; omega
            | false =>
              have HB := Lib.hid hs
              go_wp2_with (go_at_call 53; refine (smp_any _ _).mono ?_; rintro e w' ⟨rfl, rfl⟩)
              obtain ⟨e0, e1, e2⟩ := fr_cells 0 0 (.slice none 0 0) r0 r1 r2
              exact bodyPost_ret (v := .tuple #[.agg #[.int .i64 0, .int .i64 0, .slice none 0 0], .iface 31 (.int .i64 3)]) (by simp [results, Tryd.results33, go_sem, e0, e1, e2]) rfl
                ⟨_, _, _, _, rfl, ((E1.setCell (p := ⟨w.heap.size + 1, 0, none⟩) (Nat.le_add_right _ 1) _).setCell (p := ⟨w.heap.size + 1, 1, none⟩) (Nat.le_add_right _ 1) _).setCell (p := ⟨w.heap.size + 1, 2, none⟩) (Nat.le_add_right _ 1) _, rfl, Nat.zero_le _, World.ownsRow_nil _ _ _ _, by rw [HR.out]; exact ErrIs.code (by decide)⟩
          · exact absurd (within_of_gets fun j z hj hz => HJ.out j z (by have := HBL.out; omega) hz) H4.out
      · have HR : Hid (putAns W H zs x y i bs = fit) := by show _ = _; unfold putAns; rw [if_pos h1, if_pos h2, if_neg h3]
        have hm : ¬ (m : Int) = i * i := by rw [hb.len]; exact h3
        have k3 : ((m : Int) != i * i) = true := by simpa using hm
        clear h1 h2 h3 hf hm
        have FB0 : FrHas ((w.alloc (.cells #[.int .i64 W, .int .i64 H, .slice a n cap] 24)).alloc (.cells #[.int .i64 0, .int .i64 0, .slice none 0 0] 24)) w.heap.size W H (.slice a n cap) := (FrHas.new w W H (.slice a n cap)).ext ((Ext.refl _).alloc _)
        have FR0 : FrHas ((w.alloc (.cells #[.int .i64 W, .int .i64 H, .slice a n cap] 24)).alloc (.cells #[.int .i64 0, .int .i64 0, .slice none 0 0] 24)) (w.heap.size + 1) 0 0 (.slice none 0 0) := by
          have := FrHas.new (w.alloc (.cells #[.int .i64 W, .int .i64 H, .slice a n cap] 24)) 0 0 (.slice none 0 0)
          simpa using this
        have E0 : Ext w ((w.alloc (.cells #[.int .i64 W, .int .i64 H, .slice a n cap] 24)).alloc (.cells #[.int .i64 0, .int .i64 0, .slice none 0 0] 24)) := (by repeat (first | exact Ext.refl _ | assumption | refine Ext.alloc ?_ _ | refine Ext.drew ?_ | refine Ext.drewN ?_ _ | refine Ext.setCell ?_ (by first | exact Nat.le_refl _ | (simp; done) | omega) _ | refine Ext.trans ?_ (by assumption)))
        go_enter Tryd.func33, Tryd.ntmps33
        go_wp2_with fail
        revert FB0 FR0 E0
        generalize (w.alloc (.cells #[.int .i64 W, .int .i64 H, .slice a n cap] 24)).alloc (.cells #[.int .i64 0, .int .i64 0, .slice none 0 0] 24) = w0
        intro FB0 FR0 E0
        refine (M1.out _ (h.ext E0)).mono ?_; rintro e w1 ⟨rfl, hx1⟩
        have HFB := Lib.hid (FB0.ext hx1)
        have HFR := Lib.hid (FR0.ext hx1)
        have E1 : Ext w w1 := E0.trans hx1
        clear FB0 FR0 E0 hx1
        rw [decide_eq_true H1.out]
        obtain ⟨⟨p0, p1, p2⟩, f0, f1, f2⟩ := HFB.out
        obtain ⟨⟨r0, r1, r2⟩, f3, f4, f5⟩ := HFR.out
        go_wp2
        obtain ⟨e0, e1, e2⟩ := fr_cells 0 0 (.slice none 0 0) r0 r1 r2
        exact bodyPost_ret (v := .tuple #[.agg #[.int .i64 0, .int .i64 0, .slice none 0 0], .iface 31 (.int .i64 14)]) (by simp [results, Tryd.results33, go_sem, e0, e1, e2]) rfl
          ⟨_, _, _, _, rfl, ((E1.setCell (p := ⟨w.heap.size + 1, 0, none⟩) (Nat.le_add_right _ 1) _).setCell (p := ⟨w.heap.size + 1, 1, none⟩) (Nat.le_add_right _ 1) _).setCell (p := ⟨w.heap.size + 1, 2, none⟩) (Nat.le_add_right _ 1) _, rfl, Nat.zero_le _, World.ownsRow_nil _ _ _ _, by rw [HR.out]; exact ErrIs.code (by decide)⟩
    · have HR : Hid (putAns W H zs x y i bs = range) := by show _ = _; unfold putAns; rw [if_pos h1, if_neg h2]
      unfold lies at h2
      by_cases c1 : i < 1
      · clear h2 h1 hf
        have FB0 : FrHas ((w.alloc (.cells #[.int .i64 W, .int .i64 H, .slice a n cap] 24)).alloc (.cells #[.int .i64 0, .int .i64 0, .slice none 0 0] 24)) w.heap.size W H (.slice a n cap) := (FrHas.new w W H (.slice a n cap)).ext ((Ext.refl _).alloc _)
        have FR0 : FrHas ((w.alloc (.cells #[.int .i64 W, .int .i64 H, .slice a n cap] 24)).alloc (.cells #[.int .i64 0, .int .i64 0, .slice none 0 0] 24)) (w.heap.size + 1) 0 0 (.slice none 0 0) := by
          have := FrHas.new (w.alloc (.cells #[.int .i64 W, .int .i64 H, .slice a n cap] 24)) 0 0 (.slice none 0 0)
          simpa using this
        have E0 : Ext w ((w.alloc (.cells #[.int .i64 W, .int .i64 H, .slice a n cap] 24)).alloc (.cells #[.int .i64 0, .int .i64 0, .slice none 0 0] 24)) := (by repeat (first | exact Ext.refl _ | assumption | refine Ext.alloc ?_ _ | refine Ext.drew ?_ | refine Ext.drewN ?_ _ | refine Ext.setCell ?_ (by first | exact Nat.le_refl _ | (simp; done) | omega) _ | refine Ext.trans ?_ (by assumption)))
        go_enter Tryd.func33, Tryd.ntmps33
        go_wp2_with fail
        revert FB0 FR0 E0
        generalize (w.alloc (.cells #[.int .i64 W, .int .i64 H, .slice a n cap] 24)).alloc (.cells #[.int .i64 0, .int .i64 0, .slice none 0 0] 24) = w0
        intro FB0 FR0 E0
        refine (M1.out _ (h.ext E0)).mono ?_; rintro e w1 ⟨rfl, hx1⟩
        have HFB := Lib.hid (FB0.ext hx1)
        have HFR := Lib.hid (FR0.ext hx1)
        have E1 : Ext w w1 := E0.trans hx1
        clear FB0 FR0 E0 hx1
        rw [decide_eq_true H1.out]
        obtain ⟨⟨p0, p1, p2⟩, f0, f1, f2⟩ := HFB.out
        obtain ⟨⟨r0, r1, r2⟩, f3, f4, f5⟩ := HFR.out
        go_wp2
        obtain ⟨e0, e1, e2⟩ := fr_cells 0 0 (.slice none 0 0) r0 r1 r2
        exact bodyPost_ret (v := .tuple #[.agg #[.int .i64 0, .int .i64 0, .slice none 0 0], .iface 31 (.int .i64 3)]) (by simp [results, Tryd.results33, go_sem, e0, e1, e2]) rfl
          ⟨_, _, _, _, rfl, ((E1.setCell (p := ⟨w.heap.size + 1, 0, none⟩) (Nat.le_add_right _ 1) _).setCell (p := ⟨w.heap.size + 1, 1, none⟩) (Nat.le_add_right _ 1) _).setCell (p := ⟨w.heap.size + 1, 2, none⟩) (Nat.le_add_right _ 1) _, rfl, Nat.zero_le _, World.ownsRow_nil _ _ _ _, by rw [HR.out]; exact ErrIs.code (by decide)⟩
      · by_cases c2 : 8 < i
        · clear h2 h1 hf
          have FB0 : FrHas ((w.alloc (.cells #[.int .i64 W, .int .i64 H, .slice a n cap] 24)).alloc (.cells #[.int .i64 0, .int .i64 0, .slice none 0 0] 24)) w.heap.size W H (.slice a n cap) := (FrHas.new w W H (.slice a n cap)).ext ((Ext.refl _).alloc _)
          have FR0 : FrHas ((w.alloc (.cells #[.int .i64 W, .int .i64 H, .slice a n cap] 24)).alloc (.cells #[.int .i64 0, .int .i64 0, .slice none 0 0] 24)) (w.heap.size + 1) 0 0 (.slice none 0 0) := by
            have := FrHas.new (w.alloc (.cells #[.int .i64 W, .int .i64 H, .slice a n cap] 24)) 0 0 (.slice none 0 0)
            simpa using this
          have E0 : Ext w ((w.alloc (.cells #[.int .i64 W, .int .i64 H, .slice a n cap] 24)).alloc (.cells #[.int .i64 0, .int .i64 0, .slice none 0 0] 24)) := (by repeat (first | exact Ext.refl _ | assumption | refine Ext.alloc ?_ _ | refine Ext.drew ?_ | refine Ext.drewN ?_ _ | refine Ext.setCell ?_ (by first | exact Nat.le_refl _ | (simp; done) | omega) _ | refine Ext.trans ?_ (by assumption)))
          go_enter Tryd.func33, Tryd.ntmps33
          go_wp2_with fail
          revert FB0 FR0 E0
          generalize (w.alloc (.cells #[.int .i64 W, .int .i64 H, .slice a n cap] 24)).alloc (.cells #[.int .i64 0, .int .i64 0, .slice none 0 0] 24) = w0
          intro FB0 FR0 E0
          refine (M1.out _ (h.ext E0)).mono ?_; rintro e w1 ⟨rfl, hx1⟩
          have HFB := Lib.hid (FB0.ext hx1)
          have HFR := Lib.hid (FR0.ext hx1)
          have E1 : Ext w w1 := E0.trans hx1
          clear FB0 FR0 E0 hx1
          rw [decide_eq_true H1.out]
          obtain ⟨⟨p0, p1, p2⟩, f0, f1, f2⟩ := HFB.out
          obtain ⟨⟨r0, r1, r2⟩, f3, f4, f5⟩ := HFR.out
          go_wp2
          obtain ⟨e0, e1, e2⟩ := fr_cells 0 0 (.slice none 0 0) r0 r1 r2
          exact bodyPost_ret (v := .tuple #[.agg #[.int .i64 0, .int .i64 0, .slice none 0 0], .iface 31 (.int .i64 3)]) (by simp [results, Tryd.results33, go_sem, e0, e1, e2]) rfl
            ⟨_, _, _, _, rfl, ((E1.setCell (p := ⟨w.heap.size + 1, 0, none⟩) (Nat.le_add_right _ 1) _).setCell (p := ⟨w.heap.size + 1, 1, none⟩) (Nat.le_add_right _ 1) _).setCell (p := ⟨w.heap.size + 1, 2, none⟩) (Nat.le_add_right _ 1) _, rfl, Nat.zero_le _, World.ownsRow_nil _ _ _ _, by rw [HR.out]; exact ErrIs.code (by decide)⟩
        · have e1 : IntKind.i64.wrap (W - i) = W - i := by rw [IntKind.wrap_i64]; omega
          have e2 : IntKind.i64.wrap (H - i) = H - i := by rw [IntKind.wrap_i64]; omega
          by_cases c3 : x < 0
          · clear h2 h1 hf
            have FB0 : FrHas ((w.alloc (.cells #[.int .i64 W, .int .i64 H, .slice a n cap] 24)).alloc (.cells #[.int .i64 0, .int .i64 0, .slice none 0 0] 24)) w.heap.size W H (.slice a n cap) := (FrHas.new w W H (.slice a n cap)).ext ((Ext.refl _).alloc _)
            have FR0 : FrHas ((w.alloc (.cells #[.int .i64 W, .int .i64 H, .slice a n cap] 24)).alloc (.cells #[.int .i64 0, .int .i64 0, .slice none 0 0] 24)) (w.heap.size + 1) 0 0 (.slice none 0 0) := by
              have := FrHas.new (w.alloc (.cells #[.int .i64 W, .int .i64 H, .slice a n cap] 24)) 0 0 (.slice none 0 0)
              simpa using this
            have E0 : Ext w ((w.alloc (.cells #[.int .i64 W, .int .i64 H, .slice a n cap] 24)).alloc (.cells #[.int .i64 0, .int .i64 0, .slice none 0 0] 24)) := (by repeat (first | exact Ext.refl _ | assumption | refine Ext.alloc ?_ _ | refine Ext.drew ?_ | refine Ext.drewN ?_ _ | refine Ext.setCell ?_ (by first | exact Nat.le_refl _ | (simp; done) | omega) _ | refine Ext.trans ?_ (by assumption)))
            go_enter Tryd.func33, Tryd.ntmps33
            go_wp2_with fail
            revert FB0 FR0 E0
            generalize (w.alloc (.cells #[.int .i64 W, .int .i64 H, .slice a n cap] 24)).alloc (.cells #[.int .i64 0, .int .i64 0, .slice none 0 0] 24) = w0
            intro FB0 FR0 E0
            refine (M1.out _ (h.ext E0)).mono ?_; rintro e w1 ⟨rfl, hx1⟩
            have HFB := Lib.hid (FB0.ext hx1)
            have HFR := Lib.hid (FR0.ext hx1)
            have E1 : Ext w w1 := E0.trans hx1
            clear FB0 FR0 E0 hx1
            rw [decide_eq_true H1.out]
            obtain ⟨⟨p0, p1, p2⟩, f0, f1, f2⟩ := HFB.out
            obtain ⟨⟨r0, r1, r2⟩, f3, f4, f5⟩ := HFR.out
            go_wp2
            obtain ⟨e0, e1, e2⟩ := fr_cells 0 0 (.slice none 0 0) r0 r1 r2
            exact bodyPost_ret (v := .tuple #[.agg #[.int .i64 0, .int .i64 0, .slice none 0 0], .iface 31 (.int .i64 3)]) (by simp [results, Tryd.results33, go_sem, e0, e1, e2]) rfl
              ⟨_, _, _, _, rfl, ((E1.setCell (p := ⟨w.heap.size + 1, 0, none⟩) (Nat.le_add_right _ 1) _).setCell (p := ⟨w.heap.size + 1, 1, none⟩) (Nat.le_add_right _ 1) _).setCell (p := ⟨w.heap.size + 1, 2, none⟩) (Nat.le_add_right _ 1) _, rfl, Nat.zero_le _, World.ownsRow_nil _ _ _ _, by rw [HR.out]; exact ErrIs.code (by decide)⟩
          · by_cases c4 : W - i < x
            · clear h2 h1 hf
              have FB0 : FrHas ((w.alloc (.cells #[.int .i64 W, .int .i64 H, .slice a n cap] 24)).alloc (.cells #[.int .i64 0, .int .i64 0, .slice none 0 0] 24)) w.heap.size W H (.slice a n cap) := (FrHas.new w W H (.slice a n cap)).ext ((Ext.refl _).alloc _)
              have FR0 : FrHas ((w.alloc (.cells #[.int .i64 W, .int .i64 H, .slice a n cap] 24)).alloc (.cells #[.int .i64 0, .int .i64 0, .slice none 0 0] 24)) (w.heap.size + 1) 0 0 (.slice none 0 0) := by
                have := FrHas.new (w.alloc (.cells #[.int .i64 W, .int .i64 H, .slice a n cap] 24)) 0 0 (.slice none 0 0)
                simpa using this
              have E0 : Ext w ((w.alloc (.cells #[.int .i64 W, .int .i64 H, .slice a n cap] 24)).alloc (.cells #[.int .i64 0, .int .i64 0, .slice none 0 0] 24)) := (by repeat (first | exact Ext.refl _ | assumption | refine Ext.alloc ?_ _ | refine Ext.drew ?_ | refine Ext.drewN ?_ _ | refine Ext.setCell ?_ (by first | exact Nat.le_refl _ | (simp; done) | omega) _ | refine Ext.trans ?_ (by assumption)))
              go_enter Tryd.func33, Tryd.ntmps33
              go_wp2_with fail
              revert FB0 FR0 E0
              generalize (w.alloc (.cells #[.int .i64 W, .int .i64 H, .slice a n cap] 24)).alloc (.cells #[.int .i64 0, .int .i64 0, .slice none 0 0] 24) = w0
              intro FB0 FR0 E0
              refine (M1.out _ (h.ext E0)).mono ?_; rintro e w1 ⟨rfl, hx1⟩
              have HFB := Lib.hid (FB0.ext hx1)
              have HFR := Lib.hid (FR0.ext hx1)
              have E1 : Ext w w1 := E0.trans hx1
              clear FB0 FR0 E0 hx1
              rw [decide_eq_true H1.out]
              obtain ⟨⟨p0, p1, p2⟩, f0, f1, f2⟩ := HFB.out
              obtain ⟨⟨r0, r1, r2⟩, f3, f4, f5⟩ := HFR.out
              go_wp2
              obtain ⟨e0, e1, e2⟩ := fr_cells 0 0 (.slice none 0 0) r0 r1 r2
              exact bodyPost_ret (v := .tuple #[.agg #[.int .i64 0, .int .i64 0, .slice none 0 0], .iface 31 (.int .i64 3)]) (by simp [results, Tryd.results33, go_sem, e0, e1, e2]) rfl
                ⟨_, _, _, _, rfl, ((E1.setCell (p := ⟨w.heap.size + 1, 0, none⟩) (Nat.le_add_right _ 1) _).setCell (p := ⟨w.heap.size + 1, 1, none⟩) (Nat.le_add_right _ 1) _).setCell (p := ⟨w.heap.size + 1, 2, none⟩) (Nat.le_add_right _ 1) _, rfl, Nat.zero_le _, World.ownsRow_nil _ _ _ _, by rw [HR.out]; exact ErrIs.code (by decide)⟩
            · by_cases c5 : y < 0
              · clear h2 h1 hf
                have FB0 : FrHas ((w.alloc (.cells #[.int .i64 W, .int .i64 H, .slice a n cap] 24)).alloc (.cells #[.int .i64 0, .int .i64 0, .slice none 0 0] 24)) w.heap.size W H (.slice a n cap) := (FrHas.new w W H (.slice a n cap)).ext ((Ext.refl _).alloc _)
                have FR0 : FrHas ((w.alloc (.cells #[.int .i64 W, .int .i64 H, .slice a n cap] 24)).alloc (.cells #[.int .i64 0, .int .i64 0, .slice none 0 0] 24)) (w.heap.size + 1) 0 0 (.slice none 0 0) := by
                  have := FrHas.new (w.alloc (.cells #[.int .i64 W, .int .i64 H, .slice a n cap] 24)) 0 0 (.slice none 0 0)
                  simpa using this
                have E0 : Ext w ((w.alloc (.cells #[.int .i64 W, .int .i64 H, .slice a n cap] 24)).alloc (.cells #[.int .i64 0, .int .i64 0, .slice none 0 0] 24)) := (by repeat (first | exact Ext.refl _ | assumption | refine Ext.alloc ?_ _ | refine Ext.drew ?_ | refine Ext.drewN ?_ _ | refine Ext.setCell ?_ (by first | exact Nat.le_refl _ | (simp; done) | omega) _ | refine Ext.trans ?_ (by assumption)))
                go_enter Tryd.func33, Tryd.ntmps33
                go_wp2_with fail
                revert FB0 FR0 E0
                generalize (w.alloc (.cells #[.int .i64 W, .int .i64 H, .slice a n cap] 24)).alloc (.cells #[.int .i64 0, .int .i64 0, .slice none 0 0] 24) = w0
                intro FB0 FR0 E0
                refine (M1.out _ (h.ext E0)).mono ?_; rintro e w1 ⟨rfl, hx1⟩
                have HFB := Lib.hid (FB0.ext hx1)
                have HFR := Lib.hid (FR0.ext hx1)
                have E1 : Ext w w1 := E0.trans hx1
                clear FB0 FR0 E0 hx1
                rw [decide_eq_true H1.out]
                obtain ⟨⟨p0, p1, p2⟩, f0, f1, f2⟩ := HFB.out
                obtain ⟨⟨r0, r1, r2⟩, f3, f4, f5⟩ := HFR.out
                go_wp2
                obtain ⟨e0, e1, e2⟩ := fr_cells 0 0 (.slice none 0 0) r0 r1 r2
                exact bodyPost_ret (v := .tuple #[.agg #[.int .i64 0, .int .i64 0, .slice none 0 0], .iface 31 (.int .i64 3)]) (by simp [results, Tryd.results33, go_sem, e0, e1, e2]) rfl
                  ⟨_, _, _, _, rfl, ((E1.setCell (p := ⟨w.heap.size + 1, 0, none⟩) (Nat.le_add_right _ 1) _).setCell (p := ⟨w.heap.size + 1, 1, none⟩) (Nat.le_add_right _ 1) _).setCell (p := ⟨w.heap.size + 1, 2, none⟩) (Nat.le_add_right _ 1) _, rfl, Nat.zero_le _, World.ownsRow_nil _ _ _ _, by rw [HR.out]; exact ErrIs.code (by decide)⟩
              · have c6 : H - i < y := by omega
                clear h2 h1 hf
                have FB0 : FrHas ((w.alloc (.cells #[.int .i64 W, .int .i64 H, .slice a n cap] 24)).alloc (.cells #[.int .i64 0, .int .i64 0, .slice none 0 0] 24)) w.heap.size W H (.slice a n cap) := (FrHas.new w W H (.slice a n cap)).ext ((Ext.refl _).alloc _)
                have FR0 : FrHas ((w.alloc (.cells #[.int .i64 W, .int .i64 H, .slice a n cap] 24)).alloc (.cells #[.int .i64 0, .int .i64 0, .slice none 0 0] 24)) (w.heap.size + 1) 0 0 (.slice none 0 0) := by
                  have := FrHas.new (w.alloc (.cells #[.int .i64 W, .int .i64 H, .slice a n cap] 24)) 0 0 (.slice none 0 0)
                  simpa using this
                have E0 : Ext w ((w.alloc (.cells #[.int .i64 W, .int .i64 H, .slice a n cap] 24)).alloc (.cells #[.int .i64 0, .int .i64 0, .slice none 0 0] 24)) := (by repeat (first | exact Ext.refl _ | assumption | refine Ext.alloc ?_ _ | refine Ext.drew ?_ | refine Ext.drewN ?_ _ | refine Ext.setCell ?_ (by first | exact Nat.le_refl _ | (simp; done) | omega) _ | refine Ext.trans ?_ (by assumption)))
                go_enter Tryd.func33, Tryd.ntmps33
                go_wp2_with fail
                revert FB0 FR0 E0
                generalize (w.alloc (.cells #[.int .i64 W, .int .i64 H, .slice a n cap] 24)).alloc (.cells #[.int .i64 0, .int .i64 0, .slice none 0 0] 24) = w0
                intro FB0 FR0 E0
                refine (M1.out _ (h.ext E0)).mono ?_; rintro e w1 ⟨rfl, hx1⟩
                have HFB := Lib.hid (FB0.ext hx1)
                have HFR := Lib.hid (FR0.ext hx1)
                have E1 : Ext w w1 := E0.trans hx1
                clear FB0 FR0 E0 hx1
                rw [decide_eq_true H1.out]
                obtain ⟨⟨p0, p1, p2⟩, f0, f1, f2⟩ := HFB.out
                obtain ⟨⟨r0, r1, r2⟩, f3, f4, f5⟩ := HFR.out
                go_wp2
                obtain ⟨e0, e1, e2⟩ := fr_cells 0 0 (.slice none 0 0) r0 r1 r2
                exact bodyPost_ret (v := .tuple #[.agg #[.int .i64 0, .int .i64 0, .slice none 0 0], .iface 31 (.int .i64 3)]) (by simp [results, Tryd.results33, go_sem, e0, e1, e2]) rfl
                  ⟨_, _, _, _, rfl, ((E1.setCell (p := ⟨w.heap.size + 1, 0, none⟩) (Nat.le_add_right _ 1) _).setCell (p := ⟨w.heap.size + 1, 1, none⟩) (Nat.le_add_right _ 1) _).setCell (p := ⟨w.heap.size + 1, 2, none⟩) (Nat.le_add_right _ 1) _, rfl, Nat.zero_le _, World.ownsRow_nil _ _ _ _, by rw [HR.out]; exact ErrIs.code (by decide)⟩
  · have HR : Hid (putAns W H zs x y i bs = form) := by show _ = _; unfold putAns; rw [if_neg h1]
    have H1 := Lib.hid h1
    clear h1 hf
    have FB0 : FrHas ((w.alloc (.cells #[.int .i64 W, .int .i64 H, .slice a n cap] 24)).alloc (.cells #[.int .i64 0, .int .i64 0, .slice none 0 0] 24)) w.heap.size W H (.slice a n cap) := (FrHas.new w W H (.slice a n cap)).ext ((Ext.refl _).alloc _)
    have FR0 : FrHas ((w.alloc (.cells #[.int .i64 W, .int .i64 H, .slice a n cap] 24)).alloc (.cells #[.int .i64 0, .int .i64 0, .slice none 0 0] 24)) (w.heap.size + 1) 0 0 (.slice none 0 0) := by
      have := FrHas.new (w.alloc (.cells #[.int .i64 W, .int .i64 H, .slice a n cap] 24)) 0 0 (.slice none 0 0)
      simpa using this
    have E0 : Ext w ((w.alloc (.cells #[.int .i64 W, .int .i64 H, .slice a n cap] 24)).alloc (.cells #[.int .i64 0, .int .i64 0, .slice none 0 0] 24)) := (by repeat (first | exact Ext.refl _ | assumption | refine Ext.alloc ?_ _ | refine Ext.drew ?_ | refine Ext.drewN ?_ _ | refine Ext.setCell ?_ (by first | exact Nat.le_refl _ | (simp; done) | omega) _ | refine Ext.trans ?_ (by assumption)))
    go_enter Tryd.func33, Tryd.ntmps33
    go_wp2_with fail
    revert FB0 FR0 E0
    generalize (w.alloc (.cells #[.int .i64 W, .int .i64 H, .slice a n cap] 24)).alloc (.cells #[.int .i64 0, .int .i64 0, .slice none 0 0] 24) = w0
    intro FB0 FR0 E0
    refine (M1.out _ (h.ext E0)).mono ?_; rintro e w1 ⟨rfl, hx1⟩
    have HFB := Lib.hid (FB0.ext hx1)
    have HFR := Lib.hid (FR0.ext hx1)
    have E1 : Ext w w1 := E0.trans hx1
    clear FB0 FR0 E0 hx1
    rw [decide_eq_false H1.out]
    obtain ⟨⟨r0, r1, r2⟩, f3, f4, f5⟩ := HFR.out
    go_wp2
    obtain ⟨e0, e1, e2⟩ := fr_cells 0 0 (.slice none 0 0) r0 r1 r2
    exact bodyPost_ret (v := .tuple #[.agg #[.int .i64 0, .int .i64 0, .slice none 0 0], .iface 31 (.int .i64 2)]) (by simp [results, Tryd.results33, go_sem, e0, e1, e2]) rfl
      ⟨_, _, _, _, rfl, ((E1.setCell (p := ⟨w.heap.size + 1, 0, none⟩) (Nat.le_add_right _ 1) _).setCell (p := ⟨w.heap.size + 1, 1, none⟩) (Nat.le_add_right _ 1) _).setCell (p := ⟨w.heap.size + 1, 2, none⟩) (Nat.le_add_right _ 1) _, rfl, Nat.zero_le _, World.ownsRow_nil _ _ _ _, by rw [HR.out]; exact ErrIs.code (by decide)⟩
end Go.Proofs.YtkighedghgcdjaaDoor
