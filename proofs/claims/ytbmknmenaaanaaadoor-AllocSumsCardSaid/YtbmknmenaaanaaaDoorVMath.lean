/- The bucket, on lists of sizes: what the laws of the chapter ask; plain arithmetic. -/
import Derived.Test.YtbmknmenaaanaaaDoorBucket
namespace Go.Proofs.YtbmknmenaaanaaaDoor
set_option linter.unusedVariables false
set_option linter.unusedSimpArgs false

theorem playErr_take {rate room f : Int} {zs : List Int} {i : Nat} (m : Nat) (h : playErr rate room f zs i = none) : playErr rate room f (zs.take m) i = none := by
  induction zs generalizing f i m with
  | nil => simp [playErr]
  | cons s l ih =>
    cases m with
    | zero => rfl
    | succ m =>
      simp only [List.take_succ_cons]
      unfold playErr at h ⊢
      split at h
      · cases h
      · rename_i h1
        split at h
        · cases h
        · rename_i h2
          rw [if_neg h1, if_neg h2]
          exact ih m h
theorem playOut_take (rate f : Int) (zs : List Int) (m : Nat) : playOut rate f (zs.take m) = (playOut rate f zs).take m := by
  induction zs generalizing f m with
  | nil => simp [playOut]
  | cons s l ih =>
    cases m with
    | zero => simp [playOut]
    | succ m => simp [playOut, ih]
theorem fillErr_take {rate room f : Int} {zs : List Int} {i : Nat} (m : Nat) (h : fillErr rate room f zs i = none) : fillErr rate room f (zs.take m) i = none := by
  induction zs generalizing f i m with
  | nil => simp [fillErr]
  | cons s l ih =>
    cases m with
    | zero => rfl
    | succ m =>
      simp only [List.take_succ_cons]
      unfold fillErr at h ⊢
      split at h
      · cases h
      · rename_i h1
        rw [if_neg h1]
        exact ih m h
theorem fillOut_take (rate room f : Int) (zs : List Int) (m : Nat) : fillOut rate room f (zs.take m) = (fillOut rate room f zs).take m := by
  induction zs generalizing f m with
  | nil => simp [fillOut]
  | cons s l ih =>
    cases m with
    | zero => simp [fillOut]
    | succ m => simp [fillOut, ih]

/-- lesser sizes -/
def lessen : List Int → List Int → List Int
  | [], _ => []
  | s :: l, [] => s :: l
  | s :: l, x :: r => (if 0 ≤ x ∧ x < s then x else s) :: lessen l r
theorem lessen_length (zs ls : List Int) : (lessen zs ls).length = zs.length := by
  induction zs generalizing ls with
  | nil => cases ls <;> rfl
  | cons s l ih => cases ls <;> simp [lessen, ih]
theorem lessen_none {zs ls : List Int} {k : Nat} {s : Int} (h : zs[k]? = some s) (hl : ls[k]? = none) : (lessen zs ls)[k]? = some s := by
  induction zs generalizing ls k with
  | nil => simp at h
  | cons z l ih =>
    cases ls with
    | nil => exact h
    | cons x r =>
      cases k with
      | zero => simp at hl
      | succ k => exact ih (by simpa using h) (by simpa using hl)
theorem lessen_some {zs ls : List Int} {k : Nat} {s x : Int} (h : zs[k]? = some s) (hl : ls[k]? = some x) : (lessen zs ls)[k]? = some (if 0 ≤ x ∧ x < s then x else s) := by
  induction zs generalizing ls k with
  | nil => simp at h
  | cons z l ih =>
    cases ls with
    | nil => simp at hl
    | cons y r =>
      cases k with
      | zero =>
        simp at h hl
        subst h hl
        rfl
      | succ k => exact ih (by simpa using h) (by simpa using hl)
theorem lessen_within {lo hi : Int} {zs ls : List Int} (h0 : lo ≤ 0) (h : ∀ x ∈ zs, lo ≤ x ∧ x ≤ hi) : ∀ x ∈ lessen zs ls, lo ≤ x ∧ x ≤ hi := by
  induction zs generalizing ls with
  | nil => intro x hx; cases ls <;> cases hx
  | cons s l ih =>
    cases ls with
    | nil => exact h
    | cons y r =>
      intro x hx
      simp only [lessen, List.mem_cons] at hx
      have hs := h s (by simp)
      rcases hx with rfl | hx
      · split <;> omega
      · exact ih (fun z hz => h z (by simp [hz])) x hx
theorem lessen_fill {rate room f f' : Int} {zs ls : List Int} {i : Nat} (hf : f ≤ f') (h : fillErr rate room f zs i = none) : fillErr rate room f' (lessen zs ls) i = none := by
  induction zs generalizing ls f f' i with
  | nil => cases ls <;> rfl
  | cons s l ih =>
    have hs : ∀ t : Int, t ≤ s → f' < t → False := fun t ht h' => by
      unfold fillErr at h
      split at h
      · cases h
      · omega
    have hr : ∀ t : Int, t ≤ s → fillErr rate room (nf rate room f' t) (lessen l (ls.drop 1)) (i + 1) = none := fun t ht => by
      unfold fillErr at h
      split at h
      · cases h
      · exact ih (by unfold nf; omega) h
    cases ls with
    | nil =>
      have e : lessen l [] = l := by cases l <;> rfl
      have := hr s (Int.le_refl _)
      simp only [List.drop_nil] at this
      rw [e] at this
      simp only [lessen]
      unfold fillErr
      rw [if_neg (fun h' => hs s (Int.le_refl _) h')]
      exact this
    | cons x r =>
      simp only [lessen]
      unfold fillErr
      have hle : (if 0 ≤ x ∧ x < s then x else s) ≤ s := by split <;> omega
      rw [if_neg (fun h' => hs _ hle h')]
      exact hr _ hle
theorem lessen_fc {rate room f f' : Int} {zs ls : List Int} (k : Nat) (hf : f ≤ f') : fc rate room f (zs.take k) ≤ fc rate room f' ((lessen zs ls).take k) := by
  induction zs generalizing ls f f' k with
  | nil => cases ls <;> simpa [lessen, fc] using hf
  | cons s l ih =>
    cases k with
    | zero => simpa [fc] using hf
    | succ k =>
      cases ls with
      | nil =>
        have e : lessen l [] = l := by cases l <;> rfl
        have := ih (ls := []) (f := nf rate room f s) (f' := nf rate room f' s) k (by unfold nf; omega)
        rw [e] at this
        simpa [lessen, fc] using this
      | cons x r =>
        have hle : (if 0 ≤ x ∧ x < s then x else s) ≤ s := by split <;> omega
        have := ih (ls := r) (f := nf rate room f s) (f' := nf rate room f' (if 0 ≤ x ∧ x < s then x else s)) k (by unfold nf; omega)
        simpa [lessen, fc] using this
/-- where nothing fails, each size fits -/
theorem fit_at {rate room f : Int} {zs : List Int} {i k : Nat} {s : Int} (h : fillErr rate room f zs i = none) (hk : zs[k]? = some s) : s ≤ fc rate room f (zs.take k) := by
  induction zs generalizing f i k with
  | nil => simp at hk
  | cons z l ih =>
    unfold fillErr at h
    split at h
    · cases h
    · cases k with
      | zero =>
        simp at hk
        subst hk
        simp [fc]
        omega
      | succ k => exact ih h (by simpa using hk)
theorem fillOut_at {rate room f : Int} {zs : List Int} {k : Nat} {s : Int} (hk : zs[k]? = some s) : (fillOut rate room f zs)[k]? = some (max 0 (fc rate room f (zs.take k) + (rate - s) - room)) := by
  induction zs generalizing f k with
  | nil => simp at hk
  | cons z l ih =>
    cases k with
    | zero =>
      simp at hk
      subst hk
      simp [fc, fillOut]
    | succ k => exact ih (by simpa using hk)
theorem fc_bounds {rate room f : Int} {zs : List Int} (k : Nat) {i : Nat} (h1 : 0 ≤ rate) (h2 : rate ≤ room) (hf : 0 ≤ f) (hf' : f ≤ room) (hs : ∀ x ∈ zs, 0 ≤ x) (h : fillErr rate room f zs i = none) : 0 ≤ fc rate room f (zs.take k) ∧ fc rate room f (zs.take k) ≤ room := by
  induction zs generalizing f i k with
  | nil => simp [fc]; omega
  | cons s l ih =>
    have h0 := hs s (by simp)
    unfold fillErr at h
    split at h
    · cases h
    · cases k with
      | zero => simp [fc]; omega
      | succ k => exact ih k (by unfold nf; omega) (by unfold nf; omega) (fun x hx => hs x (by simp [hx])) h

/-- sizes with what is filled -/
def filled (rate room : Int) : Int → List Int → List Int
  | _, [] => []
  | f, s :: l => (s + max 0 (f + (rate - s) - room)) :: filled rate room (nf rate room f s) l
theorem filled_length (rate room f : Int) (zs : List Int) : (filled rate room f zs).length = zs.length := by
  induction zs generalizing f with
  | nil => rfl
  | cons s l ih => simp [filled, ih]
theorem filled_at {rate room f : Int} {zs : List Int} {k : Nat} {s : Int} (hk : zs[k]? = some s) : (filled rate room f zs)[k]? = some (s + max 0 (fc rate room f (zs.take k) + (rate - s) - room)) := by
  induction zs generalizing f k with
  | nil => simp at hk
  | cons z l ih =>
    cases k with
    | zero =>
      simp at hk
      subst hk
      simp [fc, filled]
    | succ k => exact ih (by simpa using hk)
theorem filled_play {rate room f : Int} {zs : List Int} {i : Nat} (h2 : rate ≤ room) (hf' : f ≤ room) (h : fillErr rate room f zs i = none) : playErr rate room f (filled rate room f zs) i = none := by
  induction zs generalizing f i with
  | nil => rfl
  | cons s l ih =>
    unfold fillErr at h
    split at h
    · cases h
    · rename_i h1
      simp only [filled]
      unfold playErr
      rw [if_neg (by omega), if_neg (by omega)]
      have e : f + (rate - (s + max 0 (f + (rate - s) - room))) = nf rate room f s := by unfold nf; omega
      rw [e]
      exact ih (by unfold nf; omega) h
theorem filled_out {rate room f : Int} {zs : List Int} {i : Nat} (h2 : rate ≤ room) (hf' : f ≤ room) (h : fillErr rate room f zs i = none) : ∀ x ∈ playOut rate f (filled rate room f zs), rate ≤ x ∧ x ≤ room := by
  induction zs generalizing f i with
  | nil => intro x hx; cases hx
  | cons s l ih =>
    unfold fillErr at h
    split at h
    · cases h
    · rename_i h1
      have e : f + (rate - (s + max 0 (f + (rate - s) - room))) = nf rate room f s := by unfold nf; omega
      intro x hx
      simp only [filled, playOut, List.mem_cons, e] at hx
      rcases hx with rfl | hx
      · unfold nf; omega
      · exact ih (by unfold nf; omega) h x hx
theorem filled_sizes {rate room f : Int} {zs : List Int} {i : Nat} (h1 : 0 ≤ rate) (h2 : rate ≤ room) (hf' : f ≤ room) (hs : ∀ x ∈ zs, 0 ≤ x) (h : fillErr rate room f zs i = none) : ∀ x ∈ filled rate room f zs, 0 ≤ x ∧ x ≤ room + rate := by
  induction zs generalizing f i with
  | nil => intro x hx; cases hx
  | cons s l ih =>
    have h0 := hs s (by simp)
    unfold fillErr at h
    split at h
    · cases h
    · intro x hx
      simp only [filled, List.mem_cons] at hx
      rcases hx with rfl | hx
      · omega
      · exact ih (by unfold nf; omega) (fun x hx => hs x (by simp [hx])) h x hx
/-- where all goes without, nothing is filled -/
theorem play_fill {rate room f : Int} {zs : List Int} {i : Nat} (h : playErr rate room f zs i = none) : fillErr rate room f zs i = none ∧ ∀ x ∈ fillOut rate room f zs, x = 0 := by
  induction zs generalizing f i with
  | nil => exact ⟨rfl, fun x hx => by cases hx⟩
  | cons s l ih =>
    unfold playErr at h
    split at h
    · cases h
    · rename_i h1
      split at h
      · cases h
      · rename_i h2
        have e : nf rate room f s = f + (rate - s) := by unfold nf; omega
        obtain ⟨i1, i2⟩ := ih h
        refine ⟨?_, fun x hx => ?_⟩
        · unfold fillErr
          rw [if_neg h1, e]
          exact i1
        · simp only [fillOut, List.mem_cons, e] at hx
          rcases hx with rfl | hx
          · omega
          · exact i2 x hx
end Go.Proofs.YtbmknmenaaanaaaDoor
