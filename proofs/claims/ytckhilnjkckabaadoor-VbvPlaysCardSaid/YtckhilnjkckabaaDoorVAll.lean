/- vbv.Fills and vbv.Play of anything: one contract each. -/
import Derived.Test.YtckhilnjkckabaaDoorCfgAt
import Derived.Test.YtckhilnjkckabaaDoorOpen
namespace Go.Proofs.YtckhilnjkckabaaDoor
set_option linter.unusedVariables false
set_option linter.unusedSimpArgs false
open Go.RowKit Go.Extern.Stop Go.Stop Go.Extern

open Classical in
noncomputable def ansOf (c : Cfg) (zs : List Int) (o : Option (Nat × Int)) : Option (List (ByteArray × Int) × Int) :=
  if Good c then (if Sizes zs then o.map fun p => ([(⟨#[118, 98, 118]⟩, (p.1 : Int))], p.2) else some ([], 3)) else some ([], 11)
theorem ansOf_none {c : Cfg} {zs : List Int} {o : Option (Nat × Int)} (h : ansOf c zs o = none) : Good c ∧ Sizes zs ∧ o = none := by
  unfold ansOf at h
  split at h
  · rename_i g
    split at h
    · rename_i s
      exact ⟨g, s, by simpa using h⟩
    · cases h
  · cases h
theorem ansOf_some {c : Cfg} {zs : List Int} {o : Option (Nat × Int)} {p : List (ByteArray × Int)} {k : Int} (h : ansOf c zs o = some (p, k)) : Good c → Sizes zs → ∃ i, o = some (i, k) ∧ p = [(⟨#[118, 98, 118]⟩, (i : Int))] := by
  intro g s
  unfold ansOf at h
  rw [if_pos g, if_pos s] at h
  obtain ⟨⟨i, j⟩, ho, he⟩ := Option.map_eq_some_iff.1 h
  simp only [Prod.mk.injEq] at he
  exact ⟨i, by rw [ho, he.2], he.1.symm⟩
/-- what a list or an error is answered by -/
def AnsPost (w : World) (ans : Option (List (ByteArray × Int) × Int)) (out : List Int) (e : Ending) (w' : World) : Prop :=
  ∃ u x, e = .returned (.tuple #[u, x]) ∧ Ext w w' ∧ match ans with
    | none => Ints w' u out ∧ x = .nilIface
    | some (p, k) => u = .slice none 0 0 ∧ IsErr w' p k x

theorem fills_all (c : Cfg) (zs : List Int) (v : Value) (w : World) (ha : Ints w v zs) :
    Calls Tryd.prog 10 #[.agg #[.int .i64 c.qmin, .int .i64 c.qmax, .int .i64 c.reach, .int .i64 c.cut, .int .i64 c.gop, .int .i64 c.rate, .int .i64 c.room, .int .i64 c.fill], v] w (AnsPost w (ansOf c zs (fillErr c.rate c.room c.fill zs 0)) (fillOut c.rate c.room c.fill zs)) := by
  by_cases g : Good c
  · by_cases s : Sizes zs
    · refine (fills_any c zs v w g ha s).mono ?_
      rintro e w' ⟨u, x, he, hx, hm⟩
      refine ⟨u, x, he, hx, ?_⟩
      unfold ansOf
      rw [if_pos g, if_pos s]
      cases hq : fillErr c.rate c.room c.fill zs 0 with
      | none => rw [hq] at hm; exact hm
      | some q => rw [hq] at hm; exact hm
    · refine (fills_noS c zs v w g ha s).mono ?_
      rintro e w' ⟨he, hx⟩
      refine ⟨_, _, he, hx, ?_⟩
      unfold ansOf
      rw [if_pos g, if_neg s]
      exact ⟨rfl, rfl⟩
  · refine (fills_noC c v w g).mono ?_
    rintro e w' ⟨he, hx⟩
    refine ⟨_, _, he, hx, ?_⟩
    unfold ansOf
    rw [if_neg g]
    exact ⟨rfl, rfl⟩
theorem play_all (c : Cfg) (zs : List Int) (v : Value) (w : World) (ha : Ints w v zs) :
    Calls Tryd.prog 8 #[.agg #[.int .i64 c.qmin, .int .i64 c.qmax, .int .i64 c.reach, .int .i64 c.cut, .int .i64 c.gop, .int .i64 c.rate, .int .i64 c.room, .int .i64 c.fill], v] w (AnsPost w (ansOf c zs (playErr c.rate c.room c.fill zs 0)) (playOut c.rate c.fill zs)) := by
  by_cases g : Good c
  · by_cases s : Sizes zs
    · refine (play_any c zs v w g ha s).mono ?_
      rintro e w' ⟨u, x, he, hx, hm⟩
      refine ⟨u, x, he, hx, ?_⟩
      unfold ansOf
      rw [if_pos g, if_pos s]
      cases hq : playErr c.rate c.room c.fill zs 0 with
      | none => rw [hq] at hm; exact hm
      | some q => rw [hq] at hm; exact hm
    · refine (play_noS c zs v w g ha s).mono ?_
      rintro e w' ⟨he, hx⟩
      refine ⟨_, _, he, hx, ?_⟩
      unfold ansOf
      rw [if_pos g, if_neg s]
      exact ⟨rfl, rfl⟩
  · refine (play_noC c v w g).mono ?_
    rintro e w' ⟨he, hx⟩
    refine ⟨_, _, he, hx, ?_⟩
    unfold ansOf
    rw [if_neg g]
    exact ⟨rfl, rfl⟩

theorem fillOut_within {rate room f : Int} {zs : List Int} (h1 : 0 ≤ rate) (h2 : rate ≤ room) (hf : f ≤ room) (hs : ∀ x ∈ zs, 0 ≤ x) : ∀ y ∈ fillOut rate room f zs, 0 ≤ y ∧ y ≤ rate := by
  induction zs generalizing f with
  | nil => intro y hy; cases hy
  | cons s l ih =>
    intro y hy
    have h0 := hs s (by simp)
    simp only [fillOut, List.mem_cons] at hy
    rcases hy with rfl | hy
    · omega
    · exact ih (by unfold nf; omega) (fun x hx => hs x (by simp [hx])) y hy
theorem fillErr_more {rate room room' f f' : Int} {zs : List Int} {i : Nat} (hr : room ≤ room') (hf : f ≤ f') (h : fillErr rate room f zs i = none) : fillErr rate room' f' zs i = none := by
  induction zs generalizing f f' i with
  | nil => rfl
  | cons s l ih =>
    unfold fillErr at h ⊢
    split at h
    · cases h
    · rw [if_neg (by omega)]
      exact ih (by unfold nf; omega) h
theorem fillSum_more {rate room room' f f' : Int} {zs : List Int} (hr : room ≤ room') (hf : f ≤ f') (k : Nat) :
    ((fillOut rate room' f' zs).take k).sum ≤ ((fillOut rate room f zs).take k).sum + (f' - f) := by
  induction zs generalizing f f' k with
  | nil => simp [fillOut]; omega
  | cons s l ih =>
    cases k with
    | zero => simp; omega
    | succ k =>
      have := ih (f := nf rate room f s) (f' := nf rate room' f' s) (by unfold nf; omega) k
      simp only [fillOut, List.take_succ_cons, List.sum_cons]
      unfold nf at this ⊢
      omega
end Go.Proofs.YtckhilnjkckabaaDoor
