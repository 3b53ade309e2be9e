/- coef.Code within the laws: beside another object, with what is held. -/
import Derived.Test.YtdndambkaohgiaaGreatDoorCf9
import Derived.Test.YtdndambkaohgiaaGreatDoorCfB
namespace Go.Proofs.YtdndambkaohgiaaGreatDoor
set_option linter.unusedVariables false
set_option linter.unusedSimpArgs false
open Go.RowKit Go.Extern.Stop Go.Stop Go.Extern

section
variable {σ τ : Type} {A : World → (Nat → Prop) → σ → Prop} {B : World → (Nat → Prop) → τ → Prop} {w0 w : World} {P : World → Prop}
/-- behind coef.Code: the object, the list and the error -/
def KoP {σ : Type} (B : World → (Nat → Prop) → σ → Prop) (P : World → Prop) (w0 : World) (s : σ) (r : Fall × List Int) (e : Ending) (w' : World) : Prop := ∃ u x, e = .returned (.tuple #[u, x]) ∧ Uno (Sep B HoF) w0 w' (s, fun W => P W ∧ Ints W u r.2 ∧ ErrIs W r.1 x)
theorem wl_code (ob : Obj B) {a N : Nat} {s : Ms Ec} {t : τ} {xs : List Int} {v : Value} (h : Uno (Sep (Sep (WrF a) B) HoF) w0 w ((s, t), P)) (hk : okS okEm N s) (hN : N ≤ 3900000) (hP : ∀ W, P W → Ints W v xs) :
    Calls Tryz.prog 13 #[.iface 24 (.pointer (some ⟨a, 0, none⟩)), v] w (KoP (Sep (WrF a) B) P w0 (((codP xs).run mE s).2, t) ((codP xs).run mE s).1) := by
  refine (bag_ql ob h (fun G X hG hX hd hb => mwcode_any a N xs v X s G w hG hk hN (hX.imp hP) hd)).mono ?_
  rintro e w' ⟨s', P', ⟨u, x, rfl, hp⟩, hu⟩
  obtain ⟨rfl, rfl⟩ := Prod.mk.inj hp
  exact ⟨u, x, rfl, hu⟩
theorem wl_arg (ob : Obj B) {a N : Nat} {s : Ms Ec} {t : τ} {xs : List Int} {v : Value} (h : Uno (Sep (Sep (WrF a) B) HoF) w0 w ((s, t), P)) (hk : okS okEm N s) (hN : N ≤ 3900000) (hv : Ints w0 v xs) :
    Calls Tryz.prog 13 #[.iface 24 (.pointer (some ⟨a, 0, none⟩)), v] w (KoP (Sep (WrF a) B) P w0 (((codP xs).run mE s).2, t) ((codP xs).run mE s).1) := by
  refine (bag_ql ob h (fun G X hG hX hd hb => mwcode_any a N xs v (fun i => i < w0.heap.size) s G w hG hk hN (HoF.args hv h.out) (fun i hi hg => by have := hb i hg; omega))).mono ?_
  rintro e w' ⟨s', P', ⟨u, x, rfl, hp⟩, hu⟩
  obtain ⟨rfl, rfl⟩ := Prod.mk.inj hp
  exact ⟨u, x, rfl, hu⟩
theorem rr_code (oa : Obj A) {a N : Nat} {bs : List Nat} (hb0 : ∀ x ∈ bs, x < 256) {s : σ} {t : Ms Dc} {xs : List Int} {v : Value} (h : Uno (Sep (Sep A (RdF a bs)) HoF) w0 w ((s, t), P)) (hk : okS okDm N t) (hN : N ≤ 3900000) (hP : ∀ W, P W → Ints W v xs) :
    Calls Tryz.prog 13 #[.iface 52 (.pointer (some ⟨a, 0, none⟩)), v] w (KoP (Sep A (RdF a bs)) P w0 (s, ((codP xs).run (mD bs) t).2) ((codP xs).run (mD bs) t).1) := by
  refine (bag_qr oa h (fun G X hG hX hd hb => mrcode_any a N bs hb0 xs v X t G w hG hk hN (hX.imp hP) hd)).mono ?_
  rintro e w' ⟨s', P', ⟨u, x, rfl, hp⟩, hu⟩
  obtain ⟨rfl, rfl⟩ := Prod.mk.inj hp
  exact ⟨u, x, rfl, hu⟩
/-- no object -/
def NoF (_ : World) (F : Nat → Prop) (_ : Unit) : Prop := ∀ k, ¬ F k
theorem NoF.obj : Obj NoF := ⟨fun h k hk => absurd hk (h k), fun h _ => h⟩
theorem Uno.no (a : Obj A) {s : σ} (h : Uno A w0 w s) : Uno (Sep A NoF) w0 w (s, ()) := h.add a (Ext.refl w) (B := NoF) (G := fun _ => False) (t := ()) (fun _ h => h) (fun _ h => h.elim)
/-- a list that was made -/
theorem ho_made {w : World} {v : Value} {n B : Nat} (hn : n ≤ 1000000) (h : w.ownsRow B 3 1 v n ((madeCells (Value.int .i64 0).cells (n * 1)).toList)) : HoF w (fun k => v.ownBlock = some k) (fun W => Ints W v (zsL n)) ∧ ∀ k, v.ownBlock = some k → B ≤ k := by
  rw [zsL_made] at h
  obtain ⟨h1, h2⟩ := TlF.new (n := n) (by simp [zsL]) h
  exact ⟨h1.ho (by simp [zsL]; omega), h2⟩
end
theorem zs_facts (n : Nat) : (zsL n).length = n ∧ (zsL n).any noLv = false ∧ (zsL n).any nzB = false := by
  refine ⟨by simp [zsL], ?_, ?_⟩
  · exact List.any_eq_false.2 (fun x hx => by rw [(List.mem_replicate.1 hx).2]; decide)
  · exact List.any_eq_false.2 (fun x hx => by rw [(List.mem_replicate.1 hx).2]; decide)
/-- a square of nothing but 0 -/
theorem cod_zero {σ : Type} {M : Mc σ} {n : Nat} {s s1 : Ms σ} (hn : n = 16 ∨ n = 64) (e : bitM M s ((sqB n : Nat) : Int) false = (false, s1)) : (codP (zsL n)).run M s = ((none, zsL n), s1) := by
  obtain ⟨h1, h2, h3⟩ := zs_facts n
  rw [cod_yes (b := false) (s1 := s1) (by rw [h1]; exact hn) h2 (by rw [h1, h3]; exact e), h1]
  rfl
theorem cod_zeroW {n : Nat} {s : Ms Ec} (hn : n = 16 ∨ n = 64) (g : gS s) : (codP (zsL n)).run mE s = ((none, zsL n), (bitM mE s ((sqB n : Nat) : Int) false).2) :=
  cod_zero hn (Prod.ext (bit_g g _ false).2 rfl)
end Go.Proofs.YtdndambkaohgiaaGreatDoor
