/- frames one behind the other: plain. -/
import Derived.Test.YtcekpngkfldgkaaGreatDoorLDeQ
namespace Go.Proofs.YtcekpngkfldgkaaGreatDoor
set_option linter.unusedVariables false
set_option linter.unusedSimpArgs false
open Go.RowKit Go.Extern.Stop Go.Stop Go.Extern

/-- each coded frame means the frame beside it, behind the one ahead -/
def Chn (W H : Int) : Fr → List Cd → List Fr → Prop
  | _, [], [] => True
  | p, c :: l, f :: A => dfrV c.1 c.2 p.1 p.2.1 p.2.2 W H = (none, f) ∧ Chn W H f l A
  | _, [], _ :: _ => False
  | _, _ :: _, [] => False
theorem chn_len {W H : Int} : ∀ {p : Fr} {l : List Cd} {A : List Fr}, Chn W H p l A → A.length = l.length
  | _, [], [], _ => rfl
  | _, c :: l, f :: A, h => by
    show A.length + 1 = l.length + 1
    rw [chn_len h.2]
  | _, [], _ :: _, h => h.elim
  | _, _ :: _, [], h => h.elim
theorem chn_run {W H : Int} : ∀ {p : Fr} {l : List Cd} {A : List Fr} (i : Nat) (acc : List Fr), Chn W H p l A → dfsRun W H l i p acc = (none, acc ++ A)
  | p, [], [], i, acc, _ => by simp [dfsRun]
  | p, c :: l, f :: A, i, acc, h => by
    rw [dfsRun_ok h.1, chn_run (i + 1) (acc ++ [f]) h.2, List.append_assoc]
    rfl
  | _, [], _ :: _, _, _, h => h.elim
  | _, _ :: _, [], _, _, h => h.elim
theorem run_chn {W H : Int} : ∀ {p : Fr} {l : List Cd} {R : List Fr} (i : Nat) (acc : List Fr), dfsRun W H l i p acc = (none, R) → ∃ A, R = acc ++ A ∧ Chn W H p l A
  | p, [], R, i, acc, h => by
    refine ⟨[], ?_, trivial⟩
    have := (Prod.mk.inj (show ((none : Fall), acc) = (none, R) from h)).2
    rw [← this, List.append_nil]
  | p, c :: l, R, i, acc, h => by
    obtain ⟨⟨rf, f⟩, hr⟩ : ∃ r, dfrV c.1 c.2 p.1 p.2.1 p.2.2 W H = r := ⟨_, rfl⟩
    cases rf with
    | some e => rw [dfsRun_bad hr] at h; cases (Prod.mk.inj h).1
    | none =>
      rw [dfsRun_ok hr] at h
      obtain ⟨A, e, hA⟩ := run_chn (i + 1) (acc ++ [f]) h
      exact ⟨f :: A, by rw [e, List.append_assoc]; rfl, hr, hA⟩
theorem run_bad {W H : Int} : ∀ {p : Fr} {l : List Cd} {R : List Fr} {e : List (ByteArray × Int) × Int} (i : Nat) (acc : List Fr), dfsRun W H l i p acc = (some e, R) → R = []
  | p, [], R, e, i, acc, h => by cases (Prod.mk.inj (show ((none : Fall), acc) = (some e, R) from h)).1
  | p, c :: l, R, e, i, acc, h => by
    obtain ⟨⟨rf, f⟩, hr⟩ : ∃ r, dfrV c.1 c.2 p.1 p.2.1 p.2.2 W H = r := ⟨_, rfl⟩
    cases rf with
    | some e2 => rw [dfsRun_bad hr] at h; exact (Prod.mk.inj h).2.symm
    | none =>
      rw [dfsRun_ok hr] at h
      exact run_bad (i + 1) _ h
theorem dfs_none {L : List Cd} {W H : Int} {R : List Fr} (h : dfsV L W H = (none, R)) : L.length ≤ 16 ∧ Chn W H fr00 L R := by
  unfold dfsV at h
  split at h
  · cases (Prod.mk.inj h).1
  · rename_i h1
    obtain ⟨A, e, hA⟩ := run_chn 0 [] h
    rw [List.nil_append] at e
    subst e
    exact ⟨by omega, hA⟩
theorem dfs_of {L : List Cd} {W H : Int} {R : List Fr} (h1 : L.length ≤ 16) (h : Chn W H fr00 L R) : dfsV L W H = (none, R) := by
  unfold dfsV
  rw [if_neg (by omega), chn_run 0 [] h]
  rfl
theorem dfs_some {L : List Cd} {W H : Int} {R : List Fr} {e : List (ByteArray × Int) × Int} (h : dfsV L W H = (some e, R)) : R = [] := by
  unfold dfsV at h
  split at h
  · exact (Prod.mk.inj h).2.symm
  · exact run_bad 0 [] h
theorem chn_take {W H : Int} : ∀ {p : Fr} {l : List Cd} {A : List Fr} (n : Nat), Chn W H p l A → Chn W H p (l.take n) (A.take n)
  | _, _, _, 0, _ => by rw [List.take_zero, List.take_zero]; exact trivial
  | _, [], [], n + 1, _ => trivial
  | _, c :: l, f :: A, n + 1, h => ⟨h.1, chn_take n h.2⟩
  | _, [], _ :: _, _ + 1, h => h.elim
  | _, _ :: _, [], _ + 1, h => h.elim
def preF (p : Fr) (A : List Fr) (n : Nat) : Fr := if n = 0 then p else A.getD (n - 1) fr00
theorem preF_succ (p f : Fr) (A : List Fr) (n : Nat) : preF p (f :: A) (n + 1) = preF f A n := by
  unfold preF
  rw [if_neg (by omega)]
  split
  · rename_i h; subst h; rfl
  · rename_i h
    obtain ⟨m, rfl⟩ : ∃ m, n = m + 1 := ⟨n - 1, by omega⟩
    rfl
theorem chn_drop {W H : Int} : ∀ {p : Fr} {l : List Cd} {A : List Fr} (n : Nat), n ≤ l.length → Chn W H p l A → Chn W H (preF p A n) (l.drop n) (A.drop n)
  | p, l, A, 0, _, h => h
  | p, [], A, n + 1, hn, h => by simp at hn
  | p, c :: l, f :: A, n + 1, hn, h => by
    rw [preF_succ, List.drop_succ_cons, List.drop_succ_cons]
    exact chn_drop n (by simpa using hn) h.2
  | p, c :: l, [], n + 1, _, h => h.elim
theorem chn_at {W H : Int} {p : Fr} {l : List Cd} {A : List Fr} {i : Nat} {c : Cd} (h : Chn W H p l A) (hc : l[i]? = some c) : ∃ f, A[i]? = some f ∧ dfrV c.1 c.2 (preF p A i).1 (preF p A i).2.1 (preF p A i).2.2 W H = (none, f) := by
  have hlt := (List.getElem?_eq_some_iff.1 hc).1
  have h2 := chn_drop i (by omega) h
  have hA : A.length = l.length := chn_len h
  have e1 : l.drop i = c :: l.drop (i + 1) := by
    obtain ⟨h3, h4⟩ := List.getElem?_eq_some_iff.1 hc
    rw [List.drop_eq_getElem_cons h3, h4]
  have e2 : A.drop i = A[i]'(by omega) :: A.drop (i + 1) := List.drop_eq_getElem_cons (by omega)
  rw [e1, e2] at h2
  exact ⟨_, List.getElem?_eq_getElem (by omega), h2.1⟩
/-- squares of a key frame hang on nothing ahead -/
theorem sqRun_key {σ : Type} {M : Mc σ} {W H : Int} {ps ps' : List Int} {qp : Int} : ∀ (n k : Nat) (zs : List Int) (s : Ms σ), sqRun M true W H ps qp n k zs s = sqRun M true W H ps' qp n k zs s
  | 0, _, _, _ => rfl
  | n + 1, k, zs, s => by
    obtain ⟨⟨⟨f, q⟩, s'⟩, e1⟩ : ∃ r, (sqP true 0 (blS 0)).run M s = r := ⟨_, rfl⟩
    cases f with
    | some f => rw [sqRun_bad e1, sqRun_bad e1]
    | none =>
      rw [sqRun_ok e1, sqRun_ok e1]
      have hg := sq_got (M := M) true 0 (FullS.bl 0) s
      rw [e1] at hg
      have ha : askE true q = none := by
        rcases hg with ⟨_, _, e⟩ | ⟨q', e, h1, _⟩
        · cases (Prod.mk.inj e).1
        · obtain ⟨-, rfl⟩ := Prod.mk.inj e
          exact h1
      obtain ⟨o1, o2, o3⟩ := ask_out ha
      have hk : ¬ q.k < 2 := by
        simp only [okK, Bool.and_eq_true, Bool.not_eq_true', decide_eq_true_eq, Bool.true_and, decide_eq_false_iff_not] at o1
        exact o1.2
      have e2 : bld W H zs ps (colQ W k) (rowQ W k) qp q = bld W H zs ps' (colQ W k) (rowQ W k) qp q := by
        unfold bld
        have k0 : ¬ q.k = 0 := by omega
        have k1 : ¬ q.k = 1 := by omega
        simp only [if_neg k0, if_neg k1]
      rw [e2]
      exact sqRun_key n (k + 1) _ s'
theorem dfr_key {k : Int} {bs : List Nat} {PW PH QW QH : Int} {ps qs : List Int} {W H : Int} (hk : k = 1 ∨ k = 4) : dfrV k bs PW PH ps W H = dfrV k bs QW QH qs W H := by
  have n1 : ¬ ((k = 2 ∨ k = 3) ∧ ¬ leanP PW PH ps W H) := fun h => by rcases h.1 with h | h <;> omega
  have n2 : ¬ ((k = 2 ∨ k = 3) ∧ ¬ leanP QW QH qs W H) := fun h => by rcases h.1 with h | h <;> omega
  unfold dfrV
  rw [if_neg n1, if_neg n2]
  rcases hk with rfl | rfl
  · rw [if_neg (show ¬ (1 : Int) = 4 by decide), if_neg (show ¬ (1 : Int) = 3 by decide), if_neg (show ¬ (1 : Int) = 4 by decide), if_neg (show ¬ (1 : Int) = 3 by decide), show decide ((1 : Int) = 1) = true from rfl, sqRun_key (ps := ps) (ps' := qs)]
  · rw [if_pos (rfl : (4 : Int) = 4), if_pos (rfl : (4 : Int) = 4)]
theorem chn_key {W H : Int} {p p' : Fr} {c : Cd} {l : List Cd} {A : List Fr} (hk : c.1 = 1 ∨ c.1 = 4) (h : Chn W H p (c :: l) A) : Chn W H p' (c :: l) A := by
  cases A with
  | nil => exact h.elim
  | cons f A => exact ⟨(dfr_key hk).trans h.1, h.2⟩
theorem dfr_skip_is {bs : List Nat} {PW PH : Int} {ps : List Int} {W H : Int} {f : Fr} (h : dfrV 3 bs PW PH ps W H = (none, f)) : f = (PW, PH, ps) ∧ leanP PW PH ps W H := by
  unfold dfrV at h
  split at h
  · cases (Prod.mk.inj h).1
  · split at h
    · cases (Prod.mk.inj h).1
    · split at h
      · cases (Prod.mk.inj h).1
      · rename_i h3
        rw [if_neg (show ¬ (3 : Int) = 4 by decide), if_pos rfl] at h
        exact ⟨(Prod.mk.inj h).2.symm, Classical.byContradiction (fun hn => h3 ⟨.inr rfl, hn⟩)⟩
/-- a skip is the frame ahead -/
theorem chn_skip {W H : Int} {l : List Cd} {A : List Fr} {i : Nat} {bs : List Nat} (h : Chn W H fr00 l A) (hc : l[i]? = some (3, bs)) : 0 < i ∧ ∃ f, A[i]? = some f ∧ A[i - 1]? = some f := by
  obtain ⟨f, h1, h2⟩ := chn_at h hc
  obtain ⟨e, hl⟩ := dfr_skip_is h2
  by_cases hi : i = 0
  · subst hi
    exact absurd hl (lean_zero W H)
  · refine ⟨by omega, f, h1, ?_⟩
    have e2 : preF fr00 A i = A.getD (i - 1) fr00 := by unfold preF; rw [if_neg hi]
    rw [e2] at e
    have hlt := (List.getElem?_eq_some_iff.1 h1).1
    have e3 : A[i - 1]? = some (A[i - 1]'(by omega)) := List.getElem?_eq_getElem (by omega)
    rw [e3]
    rw [e]
    simp [List.getD, e3]
/-- all frames are small -/
theorem chn_small {W H : Int} {l : List Cd} {A : List Fr} {p : Fr} (h : Chn W H p l A) : ∀ (q : Nat) (f : Fr), A[q]? = some f → f.2.2.length ≤ 1000000 := fun q f hf => by
  have hlt := (List.getElem?_eq_some_iff.1 hf).1
  have hA := chn_len h
  obtain ⟨c, hc⟩ : ∃ c, l[q]? = some c := ⟨_, List.getElem?_eq_getElem (by omega)⟩
  obtain ⟨f', h1, h2⟩ := chn_at h hc
  rw [hf] at h1
  obtain rfl := Option.some.inj h1
  exact Nat.le_trans (may_len (dfr_good h2).2.2.2) (by decide)
end Go.Proofs.YtcekpngkfldgkaaGreatDoor
