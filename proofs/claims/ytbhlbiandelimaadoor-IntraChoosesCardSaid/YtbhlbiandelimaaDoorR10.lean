/- kinref10.Predict: its contract over this seat's translation. -/
import Derived.Test.YtbhlbiandelimaaDoorR10q
namespace Go.Proofs.YtbhlbiandelimaaDoor
set_option linter.unusedVariables false
set_option linter.unusedSimpArgs false
open Go.RowKit Go.Extern.Stop Go.Stop Go.Extern

theorem within_smp {zs : List Int} : within 0 255 zs ↔ zs.any nosmpB = false := by
  constructor
  · intro h
    refine any_no (fun j x _ hx => ?_)
    have := h.at hx
    unfold nosmpB
    simp
    omega
  · intro h x hx
    cases hp : nosmpB x with
    | false => exact nosmp_false hp
    | true => rw [List.any_eq_true.2 ⟨x, hx, hp⟩] at h; cases h
theorem within_smp_no {zs : List Int} (h : ¬ within 0 255 zs) : zs.any nosmpB = true := by
  cases hx : zs.any nosmpB with
  | true => rfl
  | false => exact absurd (within_smp.2 hx) h
theorem RPredict_any (mo : Int) (ts ls : List Int) (c : Int) (v u : Value) (w : World) (ha : Ints w v ts) (hb : Ints w u ls) :
    Calls Tryd.prog 23 #[.int .i64 mo, v, u, .int .i64 c] w (RZPost w (prdV mo ts ls c) (prdAns mo ts ls c)) := by
  have hV : ∀ k, prdAns mo ts ls c = some k → prdV mo ts ls c = [] := fun k h => by unfold prdV; rw [h]
  obtain ⟨a, ca, rfl⟩ := ha.form
  obtain ⟨b, cb, rfl⟩ := hb.form
  by_cases h1 : mo < 0
  · have HA : prdAns mo ts ls c = some ([], 13) := by unfold prdAns; rw [if_pos (Or.inl h1)]; rfl
    rw [HA, hV _ HA]
    exact rpred_lo mo c ts ls a b _ _ ca cb w ha hb h1
  by_cases h2 : 3 < mo
  · have HA : prdAns mo ts ls c = some ([], 13) := by unfold prdAns; rw [if_pos (Or.inr (by omega))]; rfl
    rw [HA, hV _ HA]
    exact rpred_hi mo c ts ls a b _ _ ca cb w ha hb h1 h2
  have HA : prdAns mo ts ls c = chkAns ts ls c := by unfold prdAns; rw [if_neg (by omega)]
  by_cases hn : ts.length = 4 ∨ ts.length = 8
  · have hs : sdB ts.length = true := by rcases hn with h | h <;> rw [h] <;> rfl
    by_cases hl : ls.length = ts.length
    · have hR : (ts.any nosmpB = true ∨ ls.any nosmpB = true ∨ nosmpB c = true) → prdAns mo ts ls c = some ([], 3) := fun h => by
        rw [HA]; unfold chkAns; rw [if_pos ⟨hs, hl⟩, if_pos h]; rfl
      by_cases hw : within 0 255 ts
      · by_cases hu : within 0 255 ls
        · by_cases hc1 : c < 0
          · have HB := hR (Or.inr (Or.inr (by unfold nosmpB; simp; omega)))
            rw [HB, hV _ HB]
            rcases hn with h | h
            · rw [h] at ha hl ⊢
              rw [hl] at hb ⊢
              exact rpred_cl4 mo c ts ls a b 0 0 ca cb w ha hb h1 h2 hw hu hc1
            · rw [h] at ha hl ⊢
              rw [hl] at hb ⊢
              exact rpred_cl8 mo c ts ls a b 0 0 ca cb w ha hb h1 h2 hw hu hc1
          by_cases hc2 : 255 < c
          · have HB := hR (Or.inr (Or.inr (by unfold nosmpB; simp; omega)))
            rw [HB, hV _ HB]
            rcases hn with h | h
            · rw [h] at ha hl ⊢
              rw [hl] at hb ⊢
              exact rpred_ch4 mo c ts ls a b 0 0 ca cb w ha hb h1 h2 hw hu hc1 hc2
            · rw [h] at ha hl ⊢
              rw [hl] at hb ⊢
              exact rpred_ch8 mo c ts ls a b 0 0 ca cb w ha hb h1 h2 hw hu hc1 hc2
          have hN : chkAns ts ls c = none := by
            unfold chkAns
            rw [if_pos ⟨hs, hl⟩, if_neg]
            rintro (e | e | e)
            · rw [within_smp.1 hw] at e; cases e
            · rw [within_smp.1 hu] at e; cases e
            · unfold nosmpB at e; simp at e; omega
          have HB : prdAns mo ts ls c = none := by rw [HA, hN]
          have HV : prdV mo ts ls c = prdL mo ts ls c := by unfold prdV; rw [HB]
          rw [HB, HV]
          obtain ⟨-, -, k1, k2, k3⟩ := chkAns_none hN
          rcases hn with h | h
          · rcases (by omega : mo = 0 ∨ mo = 1 ∨ mo = 2 ∨ mo = 3) with rfl | rfl | rfl | rfl
            · exact rpred_0_4 ts ls c _ _ w ha hb h (by omega) k1 k2 hw hu k3
            · exact rpred_1_4 ts ls c _ _ w ha hb h (by omega) k1 k2 hw hu k3
            · exact rpred_2_4 ts ls c _ _ w ha hb h (by omega) k1 k2 hw hu k3
            · exact rpred_3_4 ts ls c _ _ w ha hb h (by omega) k1 k2 hw hu k3
          · rcases (by omega : mo = 0 ∨ mo = 1 ∨ mo = 2 ∨ mo = 3) with rfl | rfl | rfl | rfl
            · exact rpred_0_8 ts ls c _ _ w ha hb h (by omega) k1 k2 hw hu k3
            · exact rpred_1_8 ts ls c _ _ w ha hb h (by omega) k1 k2 hw hu k3
            · exact rpred_2_8 ts ls c _ _ w ha hb h (by omega) k1 k2 hw hu k3
            · exact rpred_3_8 ts ls c _ _ w ha hb h (by omega) k1 k2 hw hu k3
        · have HB := hR (Or.inr (Or.inl (within_smp_no hu)))
          rw [HB, hV _ HB]
          rcases hn with h | h
          · rw [h] at ha hl ⊢
            rw [hl] at hb ⊢
            exact rpred_s4 mo c ts ls a b 0 0 ca cb w ha hb h1 h2 hw hu
          · rw [h] at ha hl ⊢
            rw [hl] at hb ⊢
            exact rpred_s8 mo c ts ls a b 0 0 ca cb w ha hb h1 h2 hw hu
      · have HB := hR (Or.inl (within_smp_no hw))
        rw [HB, hV _ HB]
        rcases hn with h | h
        · rw [h] at ha hl ⊢
          rw [hl] at hb ⊢
          exact rpred_t4 mo c ts ls a b 0 0 ca cb w ha hb h1 h2 hw
        · rw [h] at ha hl ⊢
          rw [hl] at hb ⊢
          exact rpred_t8 mo c ts ls a b 0 0 ca cb w ha hb h1 h2 hw
    · have HB : prdAns mo ts ls c = some ([], 14) := by rw [HA]; unfold chkAns; rw [if_neg (fun e => hl e.2)]; rfl
      rw [HB, hV _ HB]
      rcases hn with h | h
      · have b1 : ((ls.length : Int) != 4) = true := by simp; omega
        rw [h] at ha ⊢
        exact rpred_l4 mo c ts ls a b 0 _ ca cb w ha hb h1 h2 b1
      · have b1 : ((ls.length : Int) != 8) = true := by simp; omega
        rw [h] at ha ⊢
        exact rpred_l8 mo c ts ls a b 0 _ ca cb w ha hb h1 h2 b1
  · have hs : sdB ts.length = false := by unfold sdB; simp; omega
    have HB : prdAns mo ts ls c = some ([], 14) := by rw [HA]; unfold chkAns; rw [if_neg (fun e => by rw [hs] at e; cases e.1)]; rfl
    rw [HB, hV _ HB]
    have b1 : ((ts.length : Int) != 4) = true := by simp; omega
    have b2 : ((ts.length : Int) != 8) = true := by simp; omega
    exact rpred_n mo c ts ls a b _ _ ca cb w ha hb h1 h2 b1 b2
end Go.Proofs.YtbhlbiandelimaaDoor
