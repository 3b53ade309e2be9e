/- decode.Build: what check lets through. -/
import Derived.Test.YtcekpngkfldgkaaGreatDoorXTk
import Derived.Test.YtcekpngkfldgkaaGreatDoorXDeW
namespace Go.Proofs.YtcekpngkfldgkaaGreatDoor
set_option linter.unusedVariables false
set_option linter.unusedSimpArgs false
open Go.RowKit Go.Extern.Stop Go.Stop Go.Extern
theorem cp_none {q : Sq} (h : cpF q = none) (hk : 0 ≤ q.k ∧ q.k ≤ 3) : ptB q = true ∧ liE q = none := by
 unfold cpF at h
 split at h
 · rename_i hp
   refine ⟨hp, ?_⟩
   unfold liE
   split at h
   · rename_i h1
     rw [if_pos h1, ← lsE_one]
     exact h
   · rename_i h1
     rw [if_neg h1]
     split at h
     · rename_i h3
       rw [if_pos h3]
       unfold lsE at h
       split at h
       · rename_i ha
         simp at ha
         split at h
         · cases h
         · rename_i hb
           simp only [List.any_cons, List.any_nil, Bool.or_false, Bool.or_eq_true, not_or, Bool.not_eq_true] at hb
           obtain ⟨b0, b1, b2, b3⟩ := hb
           obtain ⟨a0, a1, a2, a3⟩ := ha
           have e0 : lvE q.s0 16 = none := by unfold lvE; rw [if_pos a0, b0]; rfl
           have e1 : lvE q.s1 16 = none := by unfold lvE; rw [if_pos a1, b1]; rfl
           have e2 : lvE q.s2 16 = none := by unfold lvE; rw [if_pos a2, b2]; rfl
           have e3 : lvE q.s3 16 = none := by unfold lvE; rw [if_pos a3, b3]; rfl
           unfold foE
           rw [e0, e1, e2, e3]
           rfl
       · cases h
     · rename_i h3
       rw [if_neg h3]
 · cases h
theorem ck_none {W H : Int} {zs : List Int} {PW PH : Int} {ps : List Int} {x y qp : Int} {q : Sq} (h : ckD W H zs PW PH ps x y qp q = none) :
 may W H zs ∧ plP W H x y ∧ lies W H x y 8 ∧ (0 ≤ qp ∧ qp ≤ 15) ∧ (0 ≤ q.k ∧ q.k ≤ 3) ∧ ptB q = true ∧ liE q = none ∧ (q.k < 2 → PW = W ∧ PH = H ∧ may W H ps) := by
 unfold ckD at h
 split at h
 · rename_i h1
   split at h
   · rename_i h2
     split at h
     · rename_i h3
       split at h
       · rename_i h4
         split at h
         · cases h
         · rename_i h5
           obtain ⟨a1, a2⟩ := cp_none h h4
           have hW := sideB_true h1.1
           have hH := sideB_true h1.2.1
           refine ⟨h1, h2, ?_, h3, h4, a1, a2, fun hk => ?_⟩
           · unfold plP at h2
             unfold lies
             omega
           · have h6 : leanP PW PH ps W H := Classical.byContradiction fun hn => h5 ⟨by omega, hn⟩
             obtain ⟨h7, rfl, rfl⟩ := h6
             exact ⟨rfl, rfl, h7⟩
       · cases h
     · cases h
   · cases h
 · cases h
end Go.Proofs.YtcekpngkfldgkaaGreatDoor