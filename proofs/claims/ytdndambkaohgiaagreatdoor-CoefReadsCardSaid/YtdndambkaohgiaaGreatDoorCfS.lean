/- A list of the call's own beside an object: made, read, stored into; an order of places. -/
import Derived.Test.YtdndambkaohgiaaGreatDoorCf7
import Derived.Test.YtdndambkaohgiaaGreatDoorZb
import Derived.Test.YtdndambkaohgiaaGreatDoorCfP
namespace Go.Proofs.YtdndambkaohgiaaGreatDoor
set_option linter.unusedVariables false
set_option linter.unusedSimpArgs false
open Go.RowKit Go.Extern.Stop Go.Stop Go.Extern

theorem ownL_row {w : World} {base : Nat} {v : Value} {n : Nat} {ys : List Int} (hn : ys.length = n) (h : w.ownsRow base 3 1 v n (ys.map (Value.int .i64))) : w.ownsRow base 3 1 v n ((rowL n (fun i => ys.getD i 0)).map (Value.int .i64)) := by
  subst hn
  rw [rowL_getD]
  exact h
theorem rowL_set {ys : List Int} {k : Nat} {x : Int} (hk : k < ys.length) : rowL ys.length (fun i => if i = k then x else ys.getD i 0) = ys.set k x := by
  have e := rowL_getD (ys.set k x)
  rw [List.length_set] at e
  rw [← e]
  unfold rowL
  refine List.map_congr_left (fun j _ => ?_)
  rw [List.getD_eq_getElem?_getD, List.getD_eq_getElem?_getD, List.getElem?_set]
  by_cases e : j = k
  · subst e; rw [if_pos rfl, if_pos rfl, if_pos hk]; rfl
  · rw [if_neg e, if_neg (fun h => e h.symm)]
/-- the list's cells -/
theorem TlF.at {w : World} {F : Nat → Prop} {g n cap k : Nat} {ys : List Int} {y : Int} (h : TlF w F (.slice (some ⟨g, 0, none⟩) n cap, ys)) (hy : ys[k]? = some y) : w.cell? ⟨g, k, none⟩ = some (.int .i64 y) ∧ w.frozen? ⟨g, k, none⟩ = false := by
  have hk := (List.getElem?_eq_some_iff.1 hy).1
  have h1 := h.1
  have hl : n = ys.length := by
    obtain ⟨a, c, e⟩ := h.form
    simp only [Value.slice.injEq] at e
    exact e.2.1
  subst hl
  have := own_cell (ownL_row rfl h1) hk
  rw [show ys.getD k 0 = y by rw [List.getD_eq_getElem?_getD, hy]; rfl] at this
  exact this
theorem TlF.set {w : World} {F : Nat → Prop} {g n cap k : Nat} {ys : List Int} {x : Int} (h : TlF w F (.slice (some ⟨g, 0, none⟩) n cap, ys)) (hk : k < ys.length) : TlF (w.setCell ⟨g, k, none⟩ (.int .i64 x)) F (.slice (some ⟨g, 0, none⟩) n cap, ys.set k x) := by
  have hl : n = ys.length := by
    obtain ⟨a, c, e⟩ := h.form
    simp only [Value.slice.injEq] at e
    exact e.2.1
  subst hl
  have ho := own_set (x := x) (ownL_row rfl h.1) hk
  rw [rowL_set hk] at ho
  refine ⟨?_, h.2⟩
  show World.ownsRow _ _ _ _ _ (ys.set k x).length _
  rw [List.length_set]
  exact ho
/-- stored into -/
theorem sep_set {σ : Type} {A : World → (Nat → Prop) → σ → Prop} (oa : Obj A) {w : World} {F : Nat → Prop} {s : σ} {g n cap k : Nat} {ys : List Int} {x : Int} (h : Sep A TlF w F (s, (.slice (some ⟨g, 0, none⟩) n cap, ys))) (hk : k < ys.length) :
    Sep A TlF (w.setCell ⟨g, k, none⟩ (.int .i64 x)) F (s, (.slice (some ⟨g, 0, none⟩) n cap, ys.set k x)) ∧ Step F w F (w.setCell ⟨g, k, none⟩ (.int .i64 x)) := by
  obtain ⟨F1, F2, h1, h2, h3, h4⟩ := h
  have hl : n = ys.length := by
    obtain ⟨a, c, e⟩ := h2.form
    simp only [Value.slice.injEq] at e
    exact e.2.1
  subst hl
  have hg2 : F2 g := (h2.2 g).2 rfl
  have hg : F g := (h4 g).2 (.inr hg2)
  have ho := own_set (x := x) (ownL_row rfl h2.1) hk
  rw [rowL_set hk] at ho
  refine ⟨⟨F1, F2, oa.same h1 (fun i hi => Below.heap_setCell _ _ _ _ (fun e => h3 g hg2 (by rw [show i = g from e] at hi; exact hi))), ⟨?_, h2.2⟩, h3, h4⟩, Step.of_kp ((Kp.refl g w).set k _) hg⟩
  show World.ownsRow _ _ _ _ _ (ys.set k x).length _
  rw [List.length_set]
  exact ho
theorem sep_at {σ : Type} {A : World → (Nat → Prop) → σ → Prop} {w : World} {F : Nat → Prop} {s : σ} {g n cap k : Nat} {ys : List Int} {y : Int} (h : Sep A TlF w F (s, (.slice (some ⟨g, 0, none⟩) n cap, ys))) (hy : ys[k]? = some y) : w.cell? ⟨g, k, none⟩ = some (.int .i64 y) ∧ w.frozen? ⟨g, k, none⟩ = false := by
  obtain ⟨F1, F2, h1, h2, h3, h4⟩ := h
  exact h2.at hy
/-- a list that was made -/
theorem TlF.new {w : World} {v : Value} {ys : List Int} {n B : Nat} (hn : ys.length = n) (h : w.ownsRow B 3 1 v n (ys.map (Value.int .i64))) : TlF w (fun k => v.ownBlock = some k) (v, ys) ∧ ∀ k, v.ownBlock = some k → B ≤ k := by
  subst hn
  refine ⟨⟨?_, fun _ => Iff.rfl⟩, fun k hk => (h.lt k hk).1⟩
  obtain ⟨h1, h2⟩ := h
  refine ⟨h1, ?_⟩
  rcases h2 with h2 | ⟨g, cap, cur, e, hg, r⟩
  · exact .inl h2
  · exact .inr ⟨g, cap, cur, e, Nat.zero_le _, r⟩
/-- a list of the call's own as what holds -/
theorem TlF.ho {w : World} {F : Nat → Prop} {v : Value} {ys : List Int} (h : TlF w F (v, ys)) (hl : ys.length ≤ 1000000) : HoF w F (fun W => Ints W v ys) := by
  refine ⟨fun k hk => TlF.obj.lt h k hk, fun w' a => ?_⟩
  have := (TlF.obj.same h a).1
  exact Ints.of_owns this (by omega)
/-- what stays beside an object -/
theorem HoF.step {w w' : World} {F G H : Nat → Prop} {P : World → Prop} (h : HoF w H P) (hd : ∀ k, H k → ¬ F k) (st : Step F w G w') : P w' := h.2 w' (fun i hi => st.1.2.2 i (h.1 i hi) (hd i hi))
/-- coef.Code of a list that may be -/
theorem cod_yes {σ : Type} {M : Mc σ} {xs : List Int} {s s1 : Ms σ} {b : Bool} (hn : xs.length = 16 ∨ xs.length = 64) (h : xs.any noLv = false) (e : bitM M s ((sqB xs.length : Nat) : Int) (xs.any nzB) = (b, s1)) :
    (codP xs).run M s = if b then (cdR (cdM M (sqB xs.length) xs (lastP xs (sqO xs.length) (xs.length - 1)) (sqO xs.length) 0 (zsL xs.length) s1).1, (cdM M (sqB xs.length) xs (lastP xs (sqO xs.length) (xs.length - 1)) (sqO xs.length) 0 (zsL xs.length) s1).2) else ((none, zsL xs.length), s1) := by
  unfold codP
  rw [if_pos hn, h, if_neg (by decide)]
  show Pg.run M (if (bitM M s ((sqB xs.length : Nat) : Int) (xs.any nzB)).1 = true then _ else _) (bitM M s ((sqB xs.length : Nat) : Int) (xs.any nzB)).2 = _
  rw [e]
  cases b
  · rfl
  · show Pg.run M (Pg.bind _ _) s1 = _
    rw [Pg.run_bind, cd_run]
    rfl
theorem cod_bad {σ : Type} {M : Mc σ} {xs : List Int} {s : Ms σ} (hn : xs.length = 16 ∨ xs.length = 64) (h : xs.any noLv = true) : (codP xs).run M s = ((range, []), s) := by
  unfold codP
  rw [if_pos hn, h, if_pos rfl]
  rfl
theorem cod_no {σ : Type} {M : Mc σ} {xs : List Int} {s : Ms σ} (hn : ¬ (xs.length = 16 ∨ xs.length = 64)) : (codP xs).run M s = ((fit, []), s) := by
  unfold codP
  rw [if_neg hn]
  rfl
/-- what coef.Code tells: a list and an error, behind the object -/
def CodR {σ : Type} (r : (Fall × List Int) × Ms σ) (e : Ending) (p : Ms σ × (World → Prop)) : Prop := ∃ u x, e = .returned (.tuple #[u, x]) ∧ p = (r.2, fun W => Ints W u r.1.2 ∧ ErrIs W r.1.1 x)
theorem CodR.done {σ : Type} {A : World → (Nat → Prop) → Ms σ → Prop} {F G : Nat → Prop} {w w' : World} {r : (Fall × List Int) × Ms σ} {u x : Value} {ys : List Int} {f : Fall} {t : Ms σ} {P : World → Prop} (hr : r = ((f, ys), t)) (h : Sep A HoF w' G (t, P)) (hp : ∀ W, P W → Ints W u ys ∧ ErrIs W f x) (st : Step F w G w') : QPost (Sep A HoF) (CodR r) F w (.returned (.tuple #[u, x])) w' := by
  subst hr
  exact ⟨(t, fun W => Ints W u ys ∧ ErrIs W f x), G, ⟨u, x, rfl, rfl⟩, h.imp (fun _ k => k.imp hp), st⟩
def sqN (q : Nat) : Nat := if q = 16 then 4 else 8
theorem order_own {q : Nat} (hq : q = 16 ∨ q = 64) (w : World) : Calls Tryz.prog 42 #[.int .i64 ((sqN q : Nat) : Int)] w fun e w' => ∃ u, e = .returned u ∧ Ext w w' ∧ HoF w' (fun k => u.ownBlock = some k) (fun W => Ints W u ((sqO q).map fun (x : Nat) => (x : Int))) ∧ ∀ k, u.ownBlock = some k → w.heap.size ≤ k := by
  rcases hq with rfl | rfl
  · refine (ordown_4 w).mono ?_
    rintro e w' ⟨u, rfl, hx, h⟩
    rw [natC_ints] at h
    obtain ⟨h1, h2⟩ := TlF.new (n := (zigPre 4 7).length) (by simp [intsOf]) h
    exact ⟨u, rfl, hx, h1.ho (by have := zig_len.1; simp only [intsOf, List.length_map]; omega), h2⟩
  · refine (ordown_8 w).mono ?_
    rintro e w' ⟨u, rfl, hx, h⟩
    rw [natC_ints] at h
    obtain ⟨h1, h2⟩ := TlF.new (n := (zigPre 8 15).length) (by simp [intsOf]) h
    exact ⟨u, rfl, hx, h1.ho (by have := zig_len.2; simp only [intsOf, List.length_map]; omega), h2⟩
theorem side_16 (w : World) : Calls Tryz.prog 39 #[.int .i64 16] w fun e w' => e = .returned (.int .i64 4) ∧ w = w' := by
  go_enter Tryz.func39, Tryz.ntmps39
  go_wp2
  go_ret
  exact ⟨rfl, rfl⟩
theorem base_4 (w : World) : Calls Tryz.prog 34 #[.int .i64 4] w fun e w' => e = .returned (.int .i64 ((sqB 16 : Nat) : Int)) ∧ w = w' := by
  go_enter Tryz.func34, Tryz.ntmps34
  go_wp2
  go_ret
  exact ⟨rfl, rfl⟩
theorem side_64 (w : World) : Calls Tryz.prog 39 #[.int .i64 64] w fun e w' => e = .returned (.int .i64 8) ∧ w = w' := by
  go_enter Tryz.func39, Tryz.ntmps39
  go_wp2
  go_ret
  exact ⟨rfl, rfl⟩
theorem base_8 (w : World) : Calls Tryz.prog 34 #[.int .i64 8] w fun e w' => e = .returned (.int .i64 ((sqB 64 : Nat) : Int)) ∧ w = w' := by
  go_enter Tryz.func34, Tryz.ntmps34
  go_wp2
  go_ret
  exact ⟨rfl, rfl⟩
theorem side_sq {q : Nat} (hq : q = 16 ∨ q = 64) (w : World) : Calls Tryz.prog 39 #[.int .i64 (q : Int)] w fun e w' => e = .returned (.int .i64 ((sqN q : Nat) : Int)) ∧ w = w' := by
  rcases hq with rfl | rfl
  · exact side_16 w
  · exact side_64 w
theorem base_sq {q : Nat} (hq : q = 16 ∨ q = 64) (w : World) : Calls Tryz.prog 34 #[.int .i64 ((sqN q : Nat) : Int)] w fun e w' => e = .returned (.int .i64 ((sqB q : Nat) : Int)) ∧ w = w' := by
  rcases hq with rfl | rfl
  · exact base_4 w
  · exact base_8 w
theorem side_no (n : Int) (h1 : n ≠ 16) (h2 : n ≠ 64) (w : World) : Calls Tryz.prog 39 #[.int .i64 n] w fun e w' => e = .returned (.int .i64 0) ∧ w = w' := by
  have t1 : (n == 16) = false := by rw [beq_eq_false_iff_ne]; exact h1
  have t2 : (n == 64) = false := by rw [beq_eq_false_iff_ne]; exact h2
  clear h1 h2
  go_enter Tryz.func39, Tryz.ntmps39
  go_wp2
  go_ret
  exact ⟨rfl, rfl⟩
theorem islv_any (v : Int) (w : World) : Calls Tryz.prog 40 #[.int .i64 v] w fun e w' => e = .returned (.bool (isLv v)) ∧ w = w' := by
  unfold isLv
  by_cases h1 : -16320 ≤ v
  · by_cases h2 : v ≤ 16320
    · rw [decide_eq_true h1, decide_eq_true h2]
      go_enter Tryz.func40, Tryz.ntmps40
      go_wp2
      go_ret
      exact ⟨rfl, rfl⟩
    · rw [decide_eq_true h1, decide_eq_false h2]
      go_enter Tryz.func40, Tryz.ntmps40
      go_wp2
      go_ret
      exact ⟨rfl, rfl⟩
  · rw [decide_eq_false h1]
    go_enter Tryz.func40, Tryz.ntmps40
    go_wp2
    go_ret
    exact ⟨rfl, rfl⟩
end Go.Proofs.YtdndambkaohgiaaGreatDoor
