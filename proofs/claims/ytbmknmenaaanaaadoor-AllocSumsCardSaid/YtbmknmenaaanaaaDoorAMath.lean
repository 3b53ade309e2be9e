/- The caps of a list of weights: plain arithmetic. -/
import Derived.Test.YtbmknmenaaanaaaDoorVMath
import Derived.Test.YtbmknmenaaanaaaDoorInts
namespace Go.Proofs.YtbmknmenaaanaaaDoor
set_option linter.unusedVariables false
set_option linter.unusedSimpArgs false

def capk (total sum f w : Int) : Int := max 8 (min (total * w / sum) f)
def capn (rate room f k : Int) : Int := min room (f - k + rate)
def capsL (rate room total sum : Int) : Int → List Int → List Int
  | _, [] => []
  | f, w :: l => capk total sum f w :: capsL rate room total sum (capn rate room f (capk total sum f w)) l
def capF (rate room total sum : Int) : Int → List Int → Int
  | f, [] => f
  | f, w :: l => capF rate room total sum (capn rate room f (capk total sum f w)) l
/-- weights that may be -/
def Wts (zs : List Int) : Prop := (1 ≤ zs.length ∧ zs.length ≤ 16) ∧ within 1 16777216 zs

theorem capF_snoc (rate room total sum f : Int) (l : List Int) (w : Int) : capF rate room total sum f (l ++ [w]) = capn rate room (capF rate room total sum f l) (capk total sum (capF rate room total sum f l) w) := by
  induction l generalizing f with
  | nil => rfl
  | cons x l ih => exact ih _
theorem capsL_snoc (rate room total sum f : Int) (l : List Int) (w : Int) : capsL rate room total sum f (l ++ [w]) = capsL rate room total sum f l ++ [capk total sum (capF rate room total sum f l) w] := by
  induction l generalizing f with
  | nil => rfl
  | cons x l ih => simp [capsL, capF, ih]
theorem capsL_length (rate room total sum f : Int) (l : List Int) : (capsL rate room total sum f l).length = l.length := by
  induction l generalizing f with
  | nil => rfl
  | cons x l ih => simp [capsL, ih]
theorem capk_bounds {total sum f w : Int} (hf : 8 ≤ f) : 8 ≤ capk total sum f w ∧ capk total sum f w ≤ f := by
  unfold capk
  omega
theorem capn_bounds {rate room f k : Int} (h1 : 8 ≤ rate) (h2 : rate ≤ room) (hk : k ≤ f) : 8 ≤ capn rate room f k ∧ capn rate room f k ≤ room := by
  unfold capn
  omega
theorem capF_bounds {rate room total sum f : Int} {l : List Int} (h1 : 8 ≤ rate) (h2 : rate ≤ room) (hf : 8 ≤ f) (hf' : f ≤ room) : 8 ≤ capF rate room total sum f l ∧ capF rate room total sum f l ≤ room := by
  induction l generalizing f with
  | nil => exact ⟨hf, hf'⟩
  | cons w l ih =>
    have hk := capk_bounds (total := total) (sum := sum) (w := w) hf
    have hn := capn_bounds h1 h2 hk.2
    exact ih hn.1 hn.2
theorem capsL_at {rate room total sum f : Int} {l : List Int} {k : Nat} {w : Int} (hk : l[k]? = some w) : (capsL rate room total sum f l)[k]? = some (capk total sum (capF rate room total sum f (l.take k)) w) := by
  induction l generalizing f k with
  | nil => simp at hk
  | cons z l ih =>
    cases k with
    | zero =>
      simp at hk
      subst hk
      simp [capF, capsL]
    | succ k => exact ih (by simpa using hk)
theorem capsL_take {rate room total sum f : Int} {l : List Int} {k : Nat} {w : Int} (hk : l[k]? = some w) : capF rate room total sum f (l.take (k + 1)) = capn rate room (capF rate room total sum f (l.take k)) (capk total sum (capF rate room total sum f (l.take k)) w) := by
  induction l generalizing f k with
  | nil => simp at hk
  | cons z l ih =>
    cases k with
    | zero =>
      simp at hk
      subst hk
      simp [capF]
    | succ k => exact ih (by simpa using hk)
theorem capsL_within {rate room total sum f : Int} {l : List Int} (h1 : 8 ≤ rate) (h2 : rate ≤ room) (hf : 8 ≤ f) (hf' : f ≤ room) : ∀ x ∈ capsL rate room total sum f l, 8 ≤ x ∧ x ≤ room := by
  induction l generalizing f with
  | nil => intro x hx; cases hx
  | cons w l ih =>
    have hk := capk_bounds (total := total) (sum := sum) (w := w) hf
    have hn := capn_bounds h1 h2 hk.2
    intro x hx
    simp only [capsL, List.mem_cons] at hx
    rcases hx with rfl | hx
    · omega
    · exact ih hn.1 hn.2 x hx
theorem nf_capn (rate room f k : Int) : nf rate room f k = capn rate room f k := by unfold nf capn; omega
theorem caps_fill {rate room total sum f : Int} {l : List Int} {i : Nat} (h1 : 8 ≤ rate) (h2 : rate ≤ room) (hf : 8 ≤ f) : fillErr rate room f (capsL rate room total sum f l) i = none := by
  induction l generalizing f i with
  | nil => rfl
  | cons w l ih =>
    have hk := capk_bounds (total := total) (sum := sum) (w := w) hf
    have hn := capn_bounds h1 h2 hk.2
    simp only [capsL]
    unfold fillErr
    rw [if_neg (by omega), nf_capn]
    exact ih hn.1

theorem capk_share {total sum f w : Int} (ht : 0 ≤ total) (hw : 0 ≤ w) (hs : 0 < sum) : sum * (capk total sum f w - 8) ≤ total * w := by
  have hq : 0 ≤ total * w / sum := Int.ediv_nonneg (Int.mul_nonneg ht hw) (by omega)
  have hm : sum * (total * w / sum) ≤ total * w := Int.mul_ediv_self_le (by omega)
  have hle : capk total sum f w - 8 ≤ total * w / sum := by unfold capk; omega
  exact Int.le_trans (Int.mul_le_mul_of_nonneg_left hle (by omega)) hm
theorem caps_share {rate room total sum f : Int} {l : List Int} (ht : 0 ≤ total) (hs : 0 < sum) (hw : ∀ w ∈ l, 0 ≤ w) : sum * ((capsL rate room total sum f l).sum - 8 * l.length) ≤ total * l.sum := by
  induction l generalizing f with
  | nil => simp [capsL]
  | cons w l ih =>
    have h0 := capk_share (f := f) ht (hw w (by simp)) hs
    have h1 := ih (f := capn rate room f (capk total sum f w)) (fun x hx => hw x (by simp [hx]))
    simp only [capsL, List.sum_cons, List.length_cons, Int.mul_add, Int.mul_sub] at h0 h1 ⊢
    push_cast
    simp only [Int.mul_add, Int.mul_sub]
    omega
theorem caps_sum {rate room total f : Int} {l : List Int} (ht : 0 ≤ total) (hs : 0 < l.sum) (hw : ∀ w ∈ l, 0 ≤ w) : (capsL rate room total l.sum f l).sum ≤ total + 8 * l.length := by
  have h := caps_share (rate := rate) (room := room) (f := f) ht hs hw
  rw [Int.mul_comm total] at h
  have := Int.le_of_mul_le_mul_left h hs
  omega
theorem capk_twice {total sum f w : Int} : capk total (2 * sum) f (2 * w) = capk total sum f w := by
  unfold capk
  have e : total * (2 * w) / (2 * sum) = total * w / sum := by
    rw [show total * (2 * w) = 2 * (total * w) by rw [Int.mul_left_comm]]
    exact Int.mul_ediv_mul_of_pos _ _ (by omega)
  rw [e]
theorem caps_twice {rate room total sum f : Int} {l : List Int} : capsL rate room total (2 * sum) f (l.map (2 * ·)) = capsL rate room total sum f l := by
  induction l generalizing f with
  | nil => rfl
  | cons w l ih => simp only [List.map_cons, capsL, capk_twice, ih]
theorem sum_twice (l : List Int) : (l.map (2 * ·)).sum = 2 * l.sum := by
  induction l with
  | nil => rfl
  | cons w l ih => simp only [List.map_cons, List.sum_cons, ih]; omega
theorem sum_le {m : Int} {l : List Int} (hw : ∀ w ∈ l, 0 ≤ w ∧ w ≤ m) : 0 ≤ l.sum ∧ l.sum ≤ m * l.length := by
  induction l with
  | nil => simp
  | cons v l ih =>
    have h0 := hw v (by simp)
    have h1 := ih (fun x hx => hw x (by simp [hx]))
    simp only [List.sum_cons, List.length_cons]
    push_cast
    rw [Int.mul_add]
    omega
theorem sum_pos {l : List Int} (h : 1 ≤ l.length) (hw : ∀ w ∈ l, 1 ≤ w ∧ w ≤ 16777216) : 0 < l.sum := by
  cases l with
  | nil => simp at h
  | cons w l =>
    have h0 := hw w (by simp)
    have h1 := (sum_le (m := 16777216) (l := l) (fun x hx => ⟨by have := hw x (by simp [hx]); omega, (hw x (by simp [hx])).2⟩)).1
    simp only [List.sum_cons]
    omega

/-- sizes between 8 and the caps -/
def fitSizes : List Int → List Int → List Int
  | [], _ => []
  | k :: l, [] => k :: l
  | k :: l, p :: r => (if 0 ≤ p then 8 + p % (k - 7) else k) :: fitSizes l r
theorem fitSizes_length (zs ls : List Int) : (fitSizes zs ls).length = zs.length := by
  induction zs generalizing ls with
  | nil => cases ls <;> rfl
  | cons s l ih => cases ls <;> simp [fitSizes, ih]
theorem fitSizes_none {zs ls : List Int} {k : Nat} {s : Int} (h : zs[k]? = some s) (hl : ls[k]? = none) : (fitSizes zs ls)[k]? = some s := by
  induction zs generalizing ls k with
  | nil => simp at h
  | cons z l ih =>
    cases ls with
    | nil => exact h
    | cons x r =>
      cases k with
      | zero => simp at hl
      | succ k => exact ih (by simpa using h) (by simpa using hl)
theorem fitSizes_some {zs ls : List Int} {k : Nat} {s x : Int} (h : zs[k]? = some s) (hl : ls[k]? = some x) : (fitSizes zs ls)[k]? = some (if 0 ≤ x then 8 + x % (s - 7) else s) := by
  induction zs generalizing ls k with
  | nil => simp at h
  | cons z l ih =>
    cases ls with
    | nil => simp at hl
    | cons y r =>
      cases k with
      | zero =>
        simp at h hl
        subst h hl
        rfl
      | succ k => exact ih (by simpa using h) (by simpa using hl)
theorem fitSize_bounds {k p : Int} (hk : 8 ≤ k) : 8 ≤ (if 0 ≤ p then 8 + p % (k - 7) else k) ∧ (if 0 ≤ p then 8 + p % (k - 7) else k) ≤ k := by
  split
  · have h1 := Int.emod_nonneg p (show k - 7 ≠ 0 by omega)
    have h2 := Int.emod_lt_of_pos p (show 0 < k - 7 by omega)
    omega
  · omega
theorem fitSizes_within {hi : Int} {zs ls : List Int} (h : ∀ x ∈ zs, 8 ≤ x ∧ x ≤ hi) : ∀ x ∈ fitSizes zs ls, 8 ≤ x ∧ x ≤ hi := by
  induction zs generalizing ls with
  | nil => intro x hx; cases ls <;> cases hx
  | cons s l ih =>
    cases ls with
    | nil => exact h
    | cons y r =>
      intro x hx
      simp only [fitSizes, List.mem_cons] at hx
      have hs := h s (by simp)
      have hb := fitSize_bounds (p := y) hs.1
      rcases hx with rfl | hx
      · omega
      · exact ih (fun z hz => h z (by simp [hz])) x hx
theorem fitSizes_fill {rate room f f' : Int} {zs ls : List Int} {i : Nat} (hf : f ≤ f') (h8 : ∀ x ∈ zs, 8 ≤ x) (h : fillErr rate room f zs i = none) : fillErr rate room f' (fitSizes zs ls) i = none := by
  induction zs generalizing ls f f' i with
  | nil => cases ls <;> rfl
  | cons s l ih =>
    have hs : ∀ t : Int, t ≤ s → f' < t → False := fun t ht h' => by
      unfold fillErr at h
      split at h
      · cases h
      · omega
    have hr : ∀ t : Int, t ≤ s → fillErr rate room (nf rate room f' t) (fitSizes l (ls.drop 1)) (i + 1) = none := fun t ht => by
      unfold fillErr at h
      split at h
      · cases h
      · exact ih (by unfold nf; omega) (fun x hx => h8 x (by simp [hx])) h
    cases ls with
    | nil =>
      have e : fitSizes l [] = l := by cases l <;> rfl
      have := hr s (Int.le_refl _)
      simp only [List.drop_nil] at this
      rw [e] at this
      simp only [fitSizes]
      unfold fillErr
      rw [if_neg (fun h' => hs s (Int.le_refl _) h')]
      exact this
    | cons x r =>
      simp only [fitSizes]
      unfold fillErr
      have hle := (fitSize_bounds (p := x) (h8 s (by simp))).2
      rw [if_neg (fun h' => hs _ hle h')]
      exact hr _ hle
end Go.Proofs.YtbmknmenaaanaaaDoor
