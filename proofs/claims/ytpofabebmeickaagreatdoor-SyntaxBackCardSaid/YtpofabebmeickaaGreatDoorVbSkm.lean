/- kinlaw20.SyntaxBack: plain: squares that a writer coded, told by a reader. -/
import Derived.Test.YtpofabebmeickaaGreatDoorVbSk1
import Derived.Test.YtpofabebmeickaaGreatDoorVbZj
namespace Go.Proofs.YtpofabebmeickaaGreatDoor
set_option linter.unusedVariables false
set_option linter.unusedSimpArgs false
open Go.RowKit Go.Extern.Stop Go.Stop Go.Extern

abbrev KSq := Bool × Sq
def okSq (p : KSq) : Prop := askE p.1 p.2 = none
def wPg (p : KSq) : Pg (Fall × Sq) := sqP p.1 p.2.k (takeS p.2)
/-- a writer behind squares -/
def wsS (D : List KSq) : Ms Ec := D.foldl (fun s p => ((wPg p).run mE s).2) ⟨ch0, newE⟩
theorem ws_snocS (D : List KSq) (p : KSq) : wsS (D ++ [p]) = ((wPg p).run mE (wsS D)).2 := by unfold wsS; rw [List.foldl_append]; rfl
theorem ws_gS (D : List KSq) : gS (wsS D) := by
  unfold wsS
  generalize (⟨ch0, newE⟩ : Ms Ec) = s, gS_new = g
  revert s
  induction D with
  | nil => intro s g; exact g
  | cons p D ih => intro s g; exact ih _ (Pg.told (p := wPg p) g).2.1
theorem ws_nS {X n : Nat} (D K : List KSq) : nS X n (wsS (D ++ K)) → nS X n (wsS D) := by
  have h : wsS (D ++ K) = K.foldl (fun s p => ((wPg p).run mE s).2) (wsS D) := by unfold wsS; rw [List.foldl_append]
  rw [h]
  have g := ws_gS D
  generalize wsS D = s at g
  clear h
  induction K generalizing s with
  | nil => intro h; exact h
  | cons p K ih => intro h; exact (Pg.told (p := wPg p) g).2.2 (ih _ (Pg.told (p := wPg p) g).2.1 h)
theorem ok_full {p : KSq} (h : okSq p) : FullS (takeS p.2) := FullS.take (ask_out h).2.2
theorem wP_ok {p : KSq} (h : okSq p) {N : Nat} {s : Ms Ec} (hs : okS okEm N s) : okS okEm (N + 22164) ((wPg p).run mE s).2 := by
  have := Pg.ok mkE (sq_dep p.1 p.2.k (takeS p.2)) hs
  rw [sz_full (ok_full h)] at this
  exact this
theorem ws_okS {D : List KSq} (hD : ∀ p ∈ D, okSq p) : okS okEm (22164 * D.length) (wsS D) := by
  have h : ∀ (D : List KSq) (_ : ∀ p ∈ D, okSq p) (N : Nat) (s : Ms Ec), okS okEm N s → okS okEm (N + 22164 * D.length) (D.foldl (fun s p => ((wPg p).run mE s).2) s) := by
    intro D
    induction D with
    | nil => intro _ N s h; exact h
    | cons p D ih =>
      intro hD N s h
      refine (ih (fun q hq => hD q (List.mem_cons_of_mem _ hq)) _ _ (wP_ok (hD p (List.mem_cons_self ..)) h)).mono mkE ?_
      rw [List.length_cons]
      omega
  have := h D hD 0 _ okn13
  rw [Nat.zero_add] at this
  exact this
def bsS (D : List KSq) : List Nat := trimE (allE (wsS D).co)
theorem bsS_lt {D : List KSq} (hD : ∀ p ∈ D, okSq p) : ∀ x ∈ bsS D, x < 256 := fun x hx => all_lt (ws_okS hD).2.1 x (trim_mem _ x hx)
theorem ws_endS (D : List KSq) (m : Nat) : nS (pn (bsS D) (lenE (wsS D).co)) (lenE (wsS D).co) (wsS (D.take m)) := by
  refine ws_nS (D.take m) (D.drop m) ?_
  rw [List.take_append_drop]
  have g := ws_gS D
  refine ⟨0, rfl, ?_, ?_⟩
  · rw [show pn (bsS D) (lenE (wsS D).co) = vE (wsS D).co from pn_end g.2.1]
    omega
  · rw [show pn (bsS D) (lenE (wsS D).co) = vE (wsS D).co from pn_end g.2.1]
    have := g.2.2
    omega
def rPg (k : Int) (p : KSq) : Pg (Fall × Sq) := sqP p.1 k (blS 0)
def rsS (D : List KSq) (k : Int) (m : Nat) : Ms Dc := (D.take m).foldl (fun t p => ((rPg k p).run (mD (bsS D)) t).2) ⟨ch0, newD (bsS D)⟩
theorem rs_stepS {D : List KSq} {k : Int} {m : Nat} (hl : m < D.length) : rsS D k (m + 1) = ((rPg k D[m]).run (mD (bsS D)) (rsS D k m)).2 := by
  unfold rsS
  rw [List.take_succ_eq_append_getElem hl, List.foldl_append]
  rfl
theorem rs_iS {D : List KSq} (hD : ∀ p ∈ D, okSq p) (k : Int) : ∀ m, m ≤ D.length → wrI (bsS D) (wsS (D.take m)) (rsS D k m)
  | 0, _ => ⟨gS_new, rfl, bk_newB (bsS_lt hD) (ws_endS D 0)⟩
  | m + 1, h => by
    have ih := rs_iS hD k m (by omega)
    have hl : m < D.length := h
    have e1 : D.take (m + 1) = D.take m ++ [D[m]] := List.take_succ_eq_append_getElem hl
    have hn := ws_endS D (m + 1)
    rw [e1, ws_snocS] at hn ⊢
    rw [rs_stepS hl]
    exact (Sk.back (bsS_lt hD) (sq_sk _ _ _ (ok_full (hD _ (List.getElem_mem hl))) (FullS.bl 0)) ih hn).2
theorem rs_oS {D : List KSq} (hD : ∀ p ∈ D, okSq p) (k : Int) {m : Nat} {p : KSq} (hx : D[m]? = some p) : sqD p.1 (bsS D) k (rsS D k m) = ((none, partS p.2), rsS D k (m + 1)) := by
  obtain ⟨hl, rfl⟩ := List.getElem?_eq_some_iff.1 hx
  have ih := rs_iS hD k m (by omega)
  have e1 : D.take (m + 1) = D.take m ++ [D[m]] := List.take_succ_eq_append_getElem hl
  have hn := ws_endS D (m + 1)
  rw [e1, ws_snocS] at hn
  have hk := hD _ (List.getElem_mem hl)
  have h1 := (Sk.back (bsS_lt hD) (sq_sk D[m].1 D[m].2.k k (ok_full hk) (FullS.bl 0)) ih hn).1
  obtain ⟨a1, a2, -⟩ := sq_told ih.1 hk
  have h2 : ((wPg D[m]).run mE (wsS (D.take m))).1 = (none, partS D[m].2) := by
    show ((sqP D[m].1 D[m].2.k (takeS D[m].2)).run mE _).1 = _
    rw [a2, a1]
  have h3 : ((sqP D[m].1 k (blS 0)).run (mD (bsS D)) (rsS D k m)).1 = (none, partS D[m].2) := h1.trans h2
  exact Prod.ext h3 (rs_stepS hl).symm
theorem rs_okS {D : List KSq} (hD : ∀ p ∈ D, okSq p) (k : Int) : ∀ m, m ≤ D.length → okS okDm (4 + 22164 * m) (rsS D k m)
  | 0, _ => okd13 (bsS_lt hD)
  | m + 1, h => by
    have hl : m < D.length := h
    have ih := rs_okS hD k m (by omega)
    rw [rs_stepS hl]
    have := Pg.ok (mkD (bsS_lt hD)) (sq_dep D[m].1 k (blS 0)) ih
    rw [sz_full (FullS.bl 0)] at this
    exact this.mono (mkD (bsS_lt hD)) (by omega)
theorem bsS_len {D : List KSq} (hD : ∀ p ∈ D, okSq p) (hn : D.length ≤ 100) : (bsS D).length ≤ 4000000 := by
  have h1 := trim_le (allE (wsS D).co)
  rw [allE_len] at h1
  have h2 := (ws_okS hD).2.1.1
  have h3 : lenE (wsS D).co ≤ (wsS D).co.done.length + (wsS D).co.run + 5 := by unfold lenE; split <;> omega
  show (trimE (allE (wsS D).co)).length ≤ _
  omega
/-- what is done of the first i squares: D, and where they stand -/
def kAt (K : List Bool) (t : Nat) : Bool := K.getD t false
def doS (l : List Sq) (K : List Bool) (D : List KSq) (T : List Int) (i : Nat) : Prop := (D.length ≤ i ∧ T.length = D.length) ∧ (∀ p ∈ D, okSq p) ∧ ∀ (j : Nat) (p : KSq), D[j]? = some p → ∃ t : Nat, T[j]? = some (t : Int) ∧ t < i ∧ l[t]? = some p.2 ∧ kAt K t = p.1
theorem doS.nil (l : List Sq) (K : List Bool) : doS l K [] [] 0 := ⟨⟨Nat.le_refl _, rfl⟩, by simp, by simp⟩
theorem doS.skip {l : List Sq} {K : List Bool} {D : List KSq} {T : List Int} {i : Nat} (h : doS l K D T i) : doS l K D T (i + 1) := by
  obtain ⟨⟨h1, h2⟩, h3, h4⟩ := h
  refine ⟨⟨by omega, h2⟩, h3, fun j p hp => ?_⟩
  obtain ⟨t, a, b, c⟩ := h4 j p hp
  exact ⟨t, a, by omega, c⟩
theorem doS.snoc {l : List Sq} {K : List Bool} {D : List KSq} {T : List Int} {i : Nat} {q : Sq} (h : doS l K D T i) (hq : l[i]? = some q) (ho : askE (kAt K i) q = none) : doS l K (D ++ [(kAt K i, q)]) (T ++ [(i : Int)]) (i + 1) := by
  obtain ⟨⟨h1, h2⟩, h3, h4⟩ := h
  refine ⟨⟨by simp; omega, by simp [h2]⟩, fun p hp => ?_, fun j p hp => ?_⟩
  · rcases List.mem_append.1 hp with hp | hp
    · exact h3 p hp
    · rw [List.mem_singleton.1 hp]; exact ho
  · by_cases e : j < D.length
    · rw [List.getElem?_append_left e] at hp
      obtain ⟨t, a, b, c⟩ := h4 j p hp
      exact ⟨t, by rw [List.getElem?_append_left (by omega)]; exact a, by omega, c⟩
    · have hj : j < (D ++ [(kAt K i, q)]).length := (List.getElem?_eq_some_iff.1 hp).1
      rw [List.length_append, List.length_singleton] at hj
      have : j = D.length := by omega
      subst this
      rw [List.getElem?_append_right (Nat.le_refl _), Nat.sub_self] at hp
      have e2 : (kAt K i, q) = p := Option.some.inj hp
      subst e2
      exact ⟨i, by rw [List.getElem?_append_right (by omega), h2, Nat.sub_self]; rfl, by omega, hq, rfl⟩
theorem kAt_lt {K : List Bool} {t : Nat} {b : Bool} (h : K[t]? = some b) : kAt K t = b := by unfold kAt; rw [List.getD_eq_getElem?_getD, h]; rfl
theorem kAt_ge {K : List Bool} {t : Nat} (h : K.length ≤ t) : kAt K t = false := by unfold kAt; rw [List.getD_eq_getElem?_getD, List.getElem?_eq_none h]; rfl
end Go.Proofs.YtpofabebmeickaaGreatDoor

