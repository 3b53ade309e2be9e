/- A list of the call's own, made by make in a region that draws its order; a square's box whose lists are made one by one. -/
import Derived.Test.YtcekpngkfldgkaaGreatDoorLDeZ
import Derived.Test.YtcekpngkfldgkaaGreatDoorUmd
import Derived.OwnWalk
namespace Go.Proofs.YtcekpngkfldgkaaGreatDoor
set_option linter.unusedVariables false
set_option linter.unusedSimpArgs false
open Go.RowKit Go.Extern.Stop Go.Stop Go.Extern

theorem HoF.sub {w : World} {F G : Nat → Prop} {P : World → Prop} (h : HoF w F P) (k : ∀ i, F i ↔ G i) : HoF w G P := ⟨fun i hi => h.1 i ((k i).2 hi), fun w' a => h.2 w' (fun i hi => a i ((k i).1 hi))⟩
theorem made_ho {w w' : World} {A n B : Nat} (hn : n ≤ 1000000) (h : w'.ownsRow B 3 1 (.slice (some ⟨A, 0, none⟩) n n) n ((madeCells (Value.int .i64 0).cells (n * 1)).toList)) (hgrow : w.grownBy w' none) : Ext w w' ∧ HoF w' (fun k => k = A) (fun W => Ints W (.slice (some ⟨A, 0, none⟩) n n) (zsL n)) :=
  ⟨Below.grown (Ext.refl w) hgrow (Nat.le_refl _) (fun k hk => by cases hk), (ho_made hn h).1.sub (fun i => ⟨fun e => (Option.some.inj (show some A = some i from e)).symm, fun e => by subst e; rfl⟩)⟩
theorem step_made {ops : Array Oper} {o : Oper} {a : Act} {K : Act → World → Prop} {Q : Exit → Act → World → Prop} {E : Prop} {W : World} (hgd : o.guard = none) (n : Nat)
    (ho : o.op = .makeSlice 22 (.const (.int .i64 (n : Int))) (.const (.int .i64 (n : Int)))) (hn : n ≤ 1000)
    (h : ∀ w', Ext W w' → HoF w' (fun k => k = W.heap.size) (fun V => Ints V (.slice (some ⟨W.heap.size, 0, none⟩) n n) (zsL n)) → K (a.put o.dst (.slice (some ⟨W.heap.size, 0, none⟩) n n)) w') :
    if Region.wanted o (yielded ops a.tmps) = true then Oper.wp Tryz.prog o a W K Q else E := by
  have hw : Region.wanted o (yielded ops a.tmps) = true := by simp [Region.wanted, hgd]
  rw [if_pos hw]
  obtain ⟨i0, hi, hz0, hz1, hz2⟩ := info_parts infoInt
  obtain ⟨w', hrun, r1, r2⟩ := run_make_full (P := Tryz.prog) W W.heap.size 22 3 i0 (.int .i64 0) 1 Tryz.underlying22 hi hz0 hz1 .i64 .i64 n (by rw [hz2]; omega) (by unfold maxLen; omega) (Nat.le_refl _)
  obtain ⟨k1, k2⟩ := made_ho (by omega) r1 r2
  unfold Oper.wp
  simp [execOp, ho, Act.eval, hrun, Result.andThen]
  exact h w' k1 k2
/-- lists of the call's own beside a box of its own -/
def SqM (w : World) (bz : Nat) (P : World → Prop) : Prop := ∃ F, HoF w F P ∧ ∀ k, F k → k ≠ bz
theorem SqM.get {w : World} {bz : Nat} {P : World → Prop} (h : SqM w bz P) : P w := h.choose_spec.1.get
theorem SqM.ext {w w' : World} {bz : Nat} {P : World → Prop} (h : SqM w bz P) (k : Ext w w') : SqM w' bz P := by
  obtain ⟨F, h1, h2⟩ := h
  exact ⟨F, h1.ext k, h2⟩
theorem SqM.one {w : World} {bz A : Nat} {P : World → Prop} (h : HoF w (fun k => k = A) P) (hA : A ≠ bz) : SqM w bz P := ⟨_, h, fun k hk => by rw [hk]; exact hA⟩
theorem SqM.setc {w : World} {bz i : Nat} {v : Value} {P : World → Prop} (h : SqM w bz P) : SqM (w.setCell ⟨bz, i, none⟩ v) bz P := by
  obtain ⟨F, h1, h2⟩ := h
  exact ⟨F, h1.setc (fun e => h2 _ e rfl), h2⟩
theorem SqM.add {w wm : World} {bz A i : Nat} {v : Value} {P Q : World → Prop} (h : SqM w bz P) (hE : Ext w wm) (hQ : HoF wm (fun k => k = A) Q) (hA : A ≠ bz) : SqM (wm.setCell ⟨bz, i, none⟩ v) bz (fun W => P W ∧ Q W) := by
  obtain ⟨F, h1, h2⟩ := h
  exact SqM.setc ⟨_, (h1.ext hE).and hQ, fun k hk => hk.elim (h2 k) (fun e => by rw [e]; exact hA)⟩
/-- what Build answers of the square whose levels are all 0 -/
def DzP (w : World) (W H : Int) (M : List Int) (e : Ending) (w' : World) : Prop := ∃ ua un uc, e = .returned (.tuple #[.agg #[.int .i64 W, .int .i64 H, .slice ua un uc], .nilIface]) ∧ Ext w w' ∧ Ints w' (.slice ua un uc) M
theorem dz_any (W H PW PH x y r qp k m a b c d vx vy : Int) (l l0 l1 l2 l3 zs ps : List Int) (fa pa : Option Addr) (fn fc pn pc : Nat) (L s0 s1 s2 s3 : Value) (w : World) (hf : Ints w (.slice fa fn fc) zs) (hp : Ints w (.slice pa pn pc) ps)
    (hs : (((Ints w L (zsL 64) ∧ Ints w s0 (zsL 16)) ∧ Ints w s1 (zsL 16)) ∧ Ints w s2 (zsL 16)) ∧ Ints w s3 (zsL 16)) (hck : ckD W H zs PW PH ps x y qp ⟨k, m, a, b, c, d, vx, vy, l, l0, l1, l2, l3⟩ = none) (hr : 0 ≤ r ∧ r ≤ 15) :
    Calls Tryz.prog 13 #[.agg #[.int .i64 W, .int .i64 H, .slice fa fn fc], .agg #[.int .i64 PW, .int .i64 PH, .slice pa pn pc], .int .i64 x, .int .i64 y, .int .i64 r, .agg #[.int .i64 k, .int .i64 m, .int .i64 a, .int .i64 b, .int .i64 c, .int .i64 d, .int .i64 vx, .int .i64 vy, L, s0, s1, s2, s3]] w (DzP w W H (bld W H zs ps x y 0 (zeQ ⟨k, m, a, b, c, d, vx, vy, l, l0, l1, l2, l3⟩))) := by
  refine (dBuild_any W H PW PH x y r zs ps fa pa fn fc pn pc (zeQ ⟨k, m, a, b, c, d, vx, vy, l, l0, l1, l2, l3⟩) L s0 s1 s2 s3 w hf hp ⟨hs.1.1.1.1, hs.1.1.1.2, hs.1.1.2, hs.1.2, hs.2⟩).mono ?_
  rintro e w' ⟨u, x1, X, rfl, hx, -, ho⟩
  have h := ho.get
  rw [bd_zero hck hr] at h ⊢
  obtain ⟨h1, h2⟩ := h
  obtain rfl : x1 = .nilIface := h2
  obtain ⟨ua, uc, hv⟩ := h1.form
  subst hv
  exact ⟨ua, _, uc, rfl, hx, h1⟩
end Go.Proofs.YtcekpngkfldgkaaGreatDoor
