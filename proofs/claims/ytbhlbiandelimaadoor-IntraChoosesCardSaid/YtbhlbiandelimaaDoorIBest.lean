/- intra.Best: its contract over this seat's translation. -/
import Derived.Test.YtbhlbiandelimaaDoorISmp
import Derived.Test.YtbhlbiandelimaaDoorBlkM
namespace Go.Proofs.YtbhlbiandelimaaDoor
set_option linter.unusedVariables false
set_option linter.unusedSimpArgs false
open Go.RowKit Go.Extern.Stop Go.Stop Go.Extern

/-- the best of the first modes, and how far it is -/
def bestTo (T : Nat → Int) : Nat → Nat × Int
  | 0 => (0, 0)
  | k + 1 => if k = 0 ∨ T k < (bestTo T k).2 then (k, T k) else bestTo T k
theorem bestTo_spec (T : Nat → Int) (k : Nat) (hk : 0 < k) : (bestTo T k).1 < k ∧ (bestTo T k).2 = T (bestTo T k).1 ∧ (∀ j, j < k → (bestTo T k).2 ≤ T j) ∧ ∀ j, j < (bestTo T k).1 → (bestTo T k).2 < T j := by
  induction k with
  | zero => omega
  | succ k ih =>
    unfold bestTo
    by_cases h0 : k = 0
    · subst h0
      rw [if_pos (Or.inl rfl)]
      refine ⟨Nat.lt_succ_self _, rfl, fun j hj => ?_, fun j hj => absurd hj (Nat.not_lt_zero _)⟩
      obtain rfl : j = 0 := by omega
      exact Int.le_refl _
    · obtain ⟨i1, i2, i3, i4⟩ := ih (by omega)
      by_cases h : T k < (bestTo T k).2
      · rw [if_pos (Or.inr h)]
        refine ⟨Nat.lt_succ_self _, rfl, fun j hj => ?_, fun j hj => ?_⟩
        · by_cases e : j = k
          · subst e; exact Int.le_refl _
          · have := i3 j (by omega); simp only; omega
        · have := i3 j (by simpa using hj); simp only; omega
      · rw [if_neg (by omega)]
        refine ⟨by omega, i2, fun j hj => ?_, i4⟩
        by_cases e : j = k
        · subst e; omega
        · exact i3 j (by omega)
/-- how far each mode's square is -/
def modeT (bs ts ls : List Int) (c : Int) (k : Nat) : Int := sadV bs (prdL (k : Int) ts ls c)
def bstAns (bs ts ls : List Int) (c : Int) : Fall := match chkAns ts ls c with
  | some f => some f
  | none => if bs.length = ts.length * ts.length then (if bs.any nosmpB = true then range else none) else fit
def bstM (bs ts ls : List Int) (c : Int) : Int := match bstAns bs ts ls c with
  | none => ((bestTo (modeT bs ts ls c) 4).1 : Nat)
  | some _ => 0
def bstS (bs ts ls : List Int) (c : Int) : Int := match bstAns bs ts ls c with
  | none => (bestTo (modeT bs ts ls c) 4).2
  | some _ => 0
/-- two ints and an error -/
def I2Post (w : World) (n m : Int) (f : Fall) (e : Ending) (w' : World) : Prop := ∃ x, e = .returned (.tuple #[.int .i64 n, .int .i64 m, x]) ∧ Ext w w' ∧ ErrIs w' f x
theorem bstAns_none {bs ts ls : List Int} {c : Int} (h : bstAns bs ts ls c = none) : chkAns ts ls c = none ∧ bs.length = ts.length * ts.length ∧ bs.any nosmpB = false := by
  unfold bstAns at h
  cases hc : chkAns ts ls c with
  | some f => rw [hc] at h; cases h
  | none =>
    rw [hc] at h
    simp only at h
    split at h
    · rename_i h1
      split at h
      · cases h
      · rename_i h2
        exact ⟨rfl, h1, by simpa using h2⟩
    · cases h
theorem any_bd {zs : List Int} (h : zs.any nosmpB = false) : ∀ x ∈ zs, 0 ≤ x ∧ x ≤ 255 := fun x hx => by
  cases hp : nosmpB x with
  | false => exact nosmp_false hp
  | true => rw [List.any_eq_true.2 ⟨x, hx, hp⟩] at h; cases h
theorem mode_mat {bs ts ls : List Int} {c : Int} (h : bstAns bs ts ls c = none) (m : Int) : matAns bs (prdL m ts ls c) = none := by
  obtain ⟨h1, h2, h3⟩ := bstAns_none h
  exact matAns_ok (by rw [prdL_len, h2]) (fun x hx => by have := any_bd h3 x hx; omega) (fun x hx => by have := prdL_within h1 x hx; omega)
set_option maxHeartbeats 4000000 in
set_option maxRecDepth 20000 in
theorem Best_any (bs ts ls : List Int) (c : Int) (v0 v u : Value) (w : World) (h0 : Ints w v0 bs) (ha : Ints w v ts) (hb : Ints w u ls) (hN : bs.length ≤ 5000) :
    Calls Tryd.prog 25 #[v0, v, u, .int .i64 c] w (I2Post w (bstM bs ts ls c) (bstS bs ts ls c) (bstAns bs ts ls c)) := by
  have C1 := Lib.hid (check_any ts ls c v u w ha hb)
  have C2 := Lib.hid (fun W h => nosmpB_has bs v0 W h)
  obtain ⟨a0, cap0, rfl⟩ := h0.form
  obtain ⟨a, cap, rfl⟩ := ha.form
  obtain ⟨b, cap', rfl⟩ := hb.form
  cases hc : chkAns ts ls c with
  | some f =>
    have HA : Hid (bstAns bs ts ls c = some f) := by show _ = _; unfold bstAns; rw [hc]
    have HM : Hid (bstM bs ts ls c = 0 ∧ bstS bs ts ls c = 0) := by unfold bstM bstS; rw [HA.out]; exact ⟨rfl, rfl⟩
    rw [hc] at C1
    clear hc
    go_enter Tryd.func25, Tryd.ntmps25
    go_wp2_with fail
    refine (C1.out).mono ?_; rintro e w1 ⟨x, rfl, hx, he⟩
    obtain ⟨t, y, rfl⟩ := he.ne
    go_wp2
    go_ret3
    exact ⟨_, by rw [HM.out.1, HM.out.2]; rfl, hx, by rw [HA.out]; exact he⟩
  | none =>
    rw [hc] at C1
    obtain ⟨hn, hll, hT, hL, hcc⟩ := chkAns_none hc
    by_cases hl : bs.length = ts.length * ts.length
    · have hlI : ((bs.length : Int) != (ts.length : Int) * (ts.length : Int)) = false := by
        simp only [bne_eq_false_iff_eq]
        rw [hl]; push_cast; rfl
      have hbd : 0 ≤ (ts.length : Int) * (ts.length : Int) ∧ (ts.length : Int) * (ts.length : Int) ≤ 64 := by rcases hn with hn | hn <;> rw [hn] <;> decide
      cases hx : bs.any nosmpB with
      | true =>
        have HA : Hid (bstAns bs ts ls c = range) := by show _ = _; unfold bstAns; rw [hc]; simp only; rw [if_pos hl, if_pos hx]
        have HM : Hid (bstM bs ts ls c = 0 ∧ bstS bs ts ls c = 0) := by unfold bstM bstS; rw [HA.out]; exact ⟨rfl, rfl⟩
        rw [hx] at C2
        clear hc hl hx hT hL hn hll
        go_enter Tryd.func25, Tryd.ntmps25
        go_wp2_with fail
        refine (C1.out).mono ?_; rintro e w1 ⟨x, rfl, hx, he⟩
        obtain rfl : x = .nilIface := he
        go_wp2_with fail
        refine (C2.out _ (h0.ext (by repeat (first | exact Ext.refl _ | assumption | refine Ext.alloc ?_ _ | refine Ext.drew ?_ | refine Ext.drewN ?_ _ | refine Ext.setCell ?_ (by first | exact Nat.le_refl _ | (simp; done) | omega) _ | refine Ext.trans ?_ (by assumption))))).mono ?_; rintro e w2 ⟨rfl, rfl⟩
        go_wp2
        go_ret3
        exact ⟨_, by rw [HM.out.1, HM.out.2]; rfl, hx, by rw [HA.out]; exact ErrIs.code (by decide)⟩
      | false =>
        have HA : Hid (bstAns bs ts ls c = none) := by show _ = _; unfold bstAns; rw [hc]; simp only; rw [if_pos hl, if_neg (by rw [hx]; decide)]
        have HM : Hid (bstM bs ts ls c = ((bestTo (modeT bs ts ls c) 4).1 : Nat) ∧ bstS bs ts ls c = (bestTo (modeT bs ts ls c) 4).2) := by unfold bstM bstS; rw [HA.out]; exact ⟨rfl, rfl⟩
        have PR := Lib.hid (fun (m : Int) W hm h k => predict_ok m ts ls c (.slice a ts.length cap) (.slice b ls.length cap') W h k hm hc)
        have SD : Hid (∀ (k : Nat) v' u' W, Ints W v' bs → Ints W u' (prdL (k : Int) ts ls c) → Calls Tryd.prog 28 #[v', u'] W (IPost W (modeT bs ts ls c k) none)) := fun k v' u' W h1 h2 => by
          have := sad_any bs (prdL (k : Int) ts ls c) v' u' W h1 h2 (by omega)
          rwa [mode_mat HA.out] at this
        rw [hx] at C2
        clear hc hl hx hT hL hn hll
        go_enter Tryd.func25, Tryd.ntmps25
        go_wp2_with fail
        refine (C1.out).mono ?_; rintro e w1 ⟨x, rfl, hx, he⟩
        obtain rfl : x = .nilIface := he
        go_wp2_with fail
        refine (C2.out _ (h0.ext (by repeat (first | exact Ext.refl _ | assumption | refine Ext.alloc ?_ _ | refine Ext.drew ?_ | refine Ext.drewN ?_ _ | refine Ext.setCell ?_ (by first | exact Nat.le_refl _ | (simp; done) | omega) _ | refine Ext.trans ?_ (by assumption))))).mono ?_; rintro e w2 ⟨rfl, rfl⟩
        go_wp2
        go_loopw [12, 13, 36] (fun mv sv iv wr => ∃ k : Nat, k ≤ 4 ∧ iv = .int .i64 k ∧ mv = .int .i64 ((bestTo (modeT bs ts ls c) k).1 : Nat) ∧ sv = .int .i64 (bestTo (modeT bs ts ls c) k).2 ∧ Ext w wr) (fun _ _ iv _ => 4 - (intOf iv).toNat)
        case atStart => exact ⟨0, Nat.zero_le _, rfl, rfl, rfl, hx⟩
        case round =>
          clear hx
          obtain ⟨k, hk, rfl, rfl, rfl, hE⟩ := hrel
          by_cases hlt : k < 4
          · have P1 := Lib.hid (fun W h k' => PR.out (k : Int) W (by omega) h k')
            have S1 := Lib.hid (fun v' u' W h1 h2 => SD.out k v' u' W h1 h2)
            obtain ⟨T, hT⟩ : ∃ T, modeT bs ts ls c k = T := ⟨_, rfl⟩
            have HB : Hid (bestTo (modeT bs ts ls c) (k + 1) = if k = 0 ∨ T < (bestTo (modeT bs ts ls c) k).2 then (k, T) else bestTo (modeT bs ts ls c) k) := by show _ = _; rw [← hT]; rfl
            rw [hT] at S1
            clear hT
            revert HB
            generalize bestTo (modeT bs ts ls c) k = B
            intro HB
            obtain ⟨M, S⟩ := B
            go_wp2_with fail
            refine (P1.out _ (ha.ext (by repeat (first | exact Ext.refl _ | assumption | refine Ext.alloc ?_ _ | refine Ext.drew ?_ | refine Ext.drewN ?_ _ | refine Ext.setCell ?_ (by first | exact Nat.le_refl _ | (simp; done) | omega) _ | refine Ext.trans ?_ (by assumption)))) (hb.ext (by repeat (first | exact Ext.refl _ | assumption | refine Ext.alloc ?_ _ | refine Ext.drew ?_ | refine Ext.drewN ?_ _ | refine Ext.setCell ?_ (by first | exact Nat.le_refl _ | (simp; done) | omega) _ | refine Ext.trans ?_ (by assumption))))).mono ?_; rintro e w3 ⟨u3, rfl, hx3, hz3⟩
            go_wp2_with fail
            refine (S1.out _ _ _ (h0.ext (by repeat (first | exact Ext.refl _ | assumption | refine Ext.alloc ?_ _ | refine Ext.drew ?_ | refine Ext.drewN ?_ _ | refine Ext.setCell ?_ (by first | exact Nat.le_refl _ | (simp; done) | omega) _ | refine Ext.trans ?_ (by assumption)))) hz3).mono ?_; rintro e w4 ⟨x4, rfl, hx4, he4⟩
            obtain rfl : x4 = .nilIface := he4
            have E4 := hE.trans (hx3.trans hx4)
            by_cases hc : k = 0 ∨ T < S
            · have HB2 : Hid (bestTo (modeT bs ts ls c) (k + 1) = (k, T)) := by show _ = _; rw [HB.out]; exact if_pos hc
              by_cases h0' : k = 0
              · have b1 : ((k : Int) == 0) = true := by simp; omega
                clear hc h0' HB
                go_wp2
                go_roundw
                case rel => exact ⟨k + 1, by omega, by go_num, by rw [HB2.out], by rw [HB2.out], E4⟩
                case measure => simp [intOf]; omega
              · have b1 : ((k : Int) == 0) = false := by simp; omega
                have b2 : T < S := hc.resolve_left h0'
                clear hc h0' HB
                go_wp2
                go_roundw
                case rel => exact ⟨k + 1, by omega, by go_num, by rw [HB2.out], by rw [HB2.out], E4⟩
                case measure => simp [intOf]; omega
            · have HB2 : Hid (bestTo (modeT bs ts ls c) (k + 1) = (M, S)) := by show _ = _; rw [HB.out]; exact if_neg hc
              have b1 : ((k : Int) == 0) = false := by simp; omega
              have b2 : ¬ T < S := fun h => hc (Or.inr h)
              clear hc HB
              go_wp2
              go_roundw
              case rel => exact ⟨k + 1, by omega, by go_num, by rw [HB2.out], by rw [HB2.out], E4⟩
              case measure => simp [intOf]; omega
          · obtain rfl : k = 4 := by omega
            go_wp2
            go_ret3
            exact ⟨_, by rw [HM.out.1, HM.out.2]; rfl, hE, by rw [HA.out]; rfl⟩
    · have hlI : ((bs.length : Int) != (ts.length : Int) * (ts.length : Int)) = true := by
        simp only [bne_iff_ne, ne_eq]
        intro h
        exact hl (by exact_mod_cast h)
      have hbd : 0 ≤ (ts.length : Int) * (ts.length : Int) ∧ (ts.length : Int) * (ts.length : Int) ≤ 64 := by rcases hn with hn | hn <;> rw [hn] <;> decide
      have HA : Hid (bstAns bs ts ls c = fit) := by show _ = _; unfold bstAns; rw [hc]; simp only; rw [if_neg hl]
      have HM : Hid (bstM bs ts ls c = 0 ∧ bstS bs ts ls c = 0) := by unfold bstM bstS; rw [HA.out]; exact ⟨rfl, rfl⟩
      clear hc hl hT hL hn hll
      go_enter Tryd.func25, Tryd.ntmps25
      go_wp2_with fail
      refine (C1.out).mono ?_; rintro e w1 ⟨x, rfl, hx, he⟩
      obtain rfl : x = .nilIface := he
      go_wp2
      go_ret3
      exact ⟨_, by rw [HM.out.1, HM.out.2]; rfl, hx, by rw [HA.out]; exact ErrIs.code (by decide)⟩
end Go.Proofs.YtbhlbiandelimaaDoor
