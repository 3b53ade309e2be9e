/- kinlaw14.CoefBack: plain: squares that a writer coded, told by a reader. -/
import Derived.Test.YtdndambkaohgiaaDoorCfH
import Derived.Test.YtdndambkaohgiaaDoorZj
namespace Go.Proofs.YtdndambkaohgiaaDoor
set_option linter.unusedVariables false
set_option linter.unusedSimpArgs false
open Go.RowKit Go.Extern.Stop Go.Stop Go.Extern

def okLv (xs : List Int) : Prop := (xs.length = 16 ∨ xs.length = 64) ∧ xs.any noLv = false
/-- a writer behind squares; what it told -/
def wsC (D : List (List Int)) : Ms Ec := D.foldl (fun s xs => ((codP xs).run mE s).2) ⟨ch0, newE⟩
def totC (D : List (List Int)) : Nat := (D.map List.length).sum
theorem ws_snocC (D : List (List Int)) (xs : List Int) : wsC (D ++ [xs]) = ((codP xs).run mE (wsC D)).2 := by unfold wsC; rw [List.foldl_append]; rfl
theorem tot_snoc (D : List (List Int)) (xs : List Int) : totC (D ++ [xs]) = totC D + xs.length := by unfold totC; simp
theorem ws_gC (D : List (List Int)) : gS (wsC D) := by
  unfold wsC
  generalize (⟨ch0, newE⟩ : Ms Ec) = s, gS_new = g
  revert s
  induction D with
  | nil => intro s g; exact g
  | cons xs D ih => intro s g; exact ih _ (Pg.told (p := codP xs) g).2.1
theorem ws_nC {X n : Nat} (D K : List (List Int)) : nS X n (wsC (D ++ K)) → nS X n (wsC D) := by
  have h : wsC (D ++ K) = K.foldl (fun s xs => ((codP xs).run mE s).2) (wsC D) := by unfold wsC; rw [List.foldl_append]
  rw [h]
  have g := ws_gC D
  generalize wsC D = s at g
  clear h
  induction K generalizing s with
  | nil => intro h; exact h
  | cons xs K ih => intro h; exact (Pg.told (p := codP xs) g).2.2 (ih _ (Pg.told (p := codP xs) g).2.1 h)
theorem okP {σ : Type} {M : Mc σ} {ok : Nat → σ → Prop} (m : Mk M ok) (xs : List Int) {N : Nat} {s : Ms σ} (h : okS ok N s) : okS ok (N + (172 * xs.length + 4)) ((codP xs).run M s).2 :=
  (Pg.ok m (cod_dep xs) h).mono m (by omega)
theorem ws_okC (D : List (List Int)) : okS okEm (172 * totC D + 4 * D.length) (wsC D) := by
  have h : ∀ (D : List (List Int)) (N : Nat) (s : Ms Ec), okS okEm N s → okS okEm (N + (172 * totC D + 4 * D.length)) (D.foldl (fun s xs => ((codP xs).run mE s).2) s) := by
    intro D
    induction D with
    | nil => intro N s h; exact h
    | cons xs D ih =>
      intro N s h
      refine (ih _ _ (okP mkE xs h)).mono mkE ?_
      unfold totC
      rw [List.map_cons, List.sum_cons, List.length_cons]
      omega
  have := h D 0 _ okn13
  rw [Nat.zero_add] at this
  exact this
def bsC (D : List (List Int)) : List Nat := trimE (allE (wsC D).co)
theorem bsC_lt (D : List (List Int)) : ∀ x ∈ bsC D, x < 256 := fun x hx => all_lt (ws_okC D).2.1 x (trim_mem _ x hx)
theorem ws_endC (D : List (List Int)) (m : Nat) : nS (pn (bsC D) (lenE (wsC D).co)) (lenE (wsC D).co) (wsC (D.take m)) := by
  refine ws_nC (D.take m) (D.drop m) ?_
  rw [List.take_append_drop]
  have g := ws_gC D
  refine ⟨0, rfl, ?_, ?_⟩
  · rw [show pn (bsC D) (lenE (wsC D).co) = vE (wsC D).co from pn_end g.2.1]
    omega
  · rw [show pn (bsC D) (lenE (wsC D).co) = vE (wsC D).co from pn_end g.2.1]
    have := g.2.2
    omega
def cl9 (v : Int) : Int := min (max v (-9)) 9
/-- what the reader is handed -/
def jnk (v : Int) (n : Nat) : List Int := List.replicate n (cl9 v)
theorem jnk_ok (v : Int) (n : Nat) : (jnk v n).length = n ∧ (jnk v n).any noLv = false := by
  refine ⟨by simp [jnk], List.any_eq_false.2 (fun x hx => ?_)⟩
  rw [(List.mem_replicate.1 hx).2]
  unfold noLv isLv cl9
  rw [decide_eq_true (by omega : (-16320 : Int) ≤ min (max v (-9)) 9), decide_eq_true (by omega : min (max v (-9)) 9 ≤ (16320 : Int))]
  decide
def rsC (D : List (List Int)) (v : Int) (m : Nat) : Ms Dc := (D.take m).foldl (fun t xs => ((codP (jnk v xs.length)).run (mD (bsC D)) t).2) ⟨ch0, newD (bsC D)⟩
theorem rs_iC {D : List (List Int)} (hD : ∀ xs ∈ D, okLv xs) (v : Int) : ∀ m, m ≤ D.length → wrI (bsC D) (wsC (D.take m)) (rsC D v m)
  | 0, _ => ⟨gS_new, rfl, bk_newB (bsC_lt D) (ws_endC D 0)⟩
  | m + 1, h => by
    have ih := rs_iC hD v m (by omega)
    have hl : m < D.length := h
    have e1 : D.take (m + 1) = D.take m ++ [D[m]] := List.take_succ_eq_append_getElem hl
    have e2 : rsC D v (m + 1) = ((codP (jnk v D[m].length)).run (mD (bsC D)) (rsC D v m)).2 := by unfold rsC; rw [e1, List.foldl_append]; rfl
    have hn := ws_endC D (m + 1)
    rw [e1, ws_snocC] at hn ⊢
    rw [e2]
    exact (Sk.back (bsC_lt D) (cod_sk (jnk_ok v _).1 (hD _ (List.getElem_mem hl)).2 (jnk_ok v _).2) ih hn).2
theorem rs_oC {D : List (List Int)} (hD : ∀ xs ∈ D, okLv xs) (v : Int) {m : Nat} {xs : List Int} (hx : D[m]? = some xs) : (codP (jnk v xs.length)).run (mD (bsC D)) (rsC D v m) = ((none, xs), rsC D v (m + 1)) := by
  obtain ⟨hl, rfl⟩ := List.getElem?_eq_some_iff.1 hx
  have ih := rs_iC hD v m (by omega)
  have e1 : D.take (m + 1) = D.take m ++ [D[m]] := List.take_succ_eq_append_getElem hl
  have e2 : rsC D v (m + 1) = ((codP (jnk v D[m].length)).run (mD (bsC D)) (rsC D v m)).2 := by unfold rsC; rw [e1, List.foldl_append]; rfl
  have hn := ws_endC D (m + 1)
  rw [e1, ws_snocC] at hn
  have hk := hD _ (List.getElem_mem hl)
  have h1 := (Sk.back (bsC_lt D) (cod_sk (jnk_ok v _).1 hk.2 (jnk_ok v _).2) ih hn).1
  rw [(Pg.told (p := codP D[m]) ih.1).1, cod_hand hk.1 hk.2] at h1
  exact Prod.ext h1 e2.symm
theorem rs_okC {D : List (List Int)} (v : Int) : ∀ m, m ≤ D.length → okS okDm (4 + 172 * totC (D.take m) + 4 * m) (rsC D v m)
  | 0, _ => okd13 (bsC_lt D)
  | m + 1, h => by
    have hl : m < D.length := h
    have ih := rs_okC (D := D) v m (by omega)
    have e1 : D.take (m + 1) = D.take m ++ [D[m]] := List.take_succ_eq_append_getElem hl
    have e2 : rsC D v (m + 1) = ((codP (jnk v D[m].length)).run (mD (bsC D)) (rsC D v m)).2 := by unfold rsC; rw [e1, List.foldl_append]; rfl
    rw [e2, e1, tot_snoc]
    have := okP (mkD (bsC_lt D)) (jnk v D[m].length) ih
    rw [(jnk_ok v _).1] at this
    exact this.mono (mkD (bsC_lt D)) (by omega)
theorem tot_take (D : List (List Int)) (m : Nat) : totC (D.take m) ≤ totC D := by
  have h : ∀ (A B : List (List Int)), totC (A ++ B) = totC A + totC B := fun A B => by unfold totC; rw [List.map_append, List.sum_append]
  have := h (D.take m) (D.drop m)
  rw [List.take_append_drop] at this
  omega
end Go.Proofs.YtdndambkaohgiaaDoor
