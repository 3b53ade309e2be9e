/- coef.Code as a tree of calls: plain. -/
import Derived.Test.YtdndambkaohgiaaGreatDoorCf8
namespace Go.Proofs.YtdndambkaohgiaaGreatDoor
set_option linter.unusedVariables false
set_option linter.unusedSimpArgs false
open Go.RowKit Go.Extern.Stop Go.Stop Go.Extern

def rzP (u : Int) : Nat → Nat → Pg Nat
  | 0, z => .ret z
  | f + 1, z => .fla (geAt u z) (fun v => if v then rzP u f (z + 1) else .ret z)
def rbP (u : Int) : Nat → Nat → Pg Nat
  | 0, c => .ret c
  | k + 1, c => .fla (bitAt u k) (fun v => rbP u k (2 * c + if v then 1 else 0))
def rstP (u : Int) : Pg Nat := (rzP u 13 0).bind (fun z => rbP u z 1)
def csP (C : Nat) (z : Int) : Nat → Nat → Pg Nat
  | 0, _ => (rstP (z - 13)).bind (fun r => .ret (13 + r))
  | f + 1, n => .bit ((C + min n 7 : Nat) : Int) (decide ((n : Int) < z)) (fun v => if v then csP C z f (n + 1) else .ret n)
def lvP (C : Nat) (v : Int) : Pg Int := .fla (decide (v < 0)) (fun m => (csP C ((v.natAbs : Int) - 1) 14 0).bind (fun r => .ret (if m then -((r : Int) + 1) else (r : Int) + 1)))
def cdP (B : Nat) (xs : List Int) (fin : Nat) : List Nat → Nat → List Int → Pg (Option Nat × List Int)
  | [], _, ys => .ret (none, ys)
  | k :: tl, i, ys =>
    if tl = [] then (lvP (B + 17) (xs.getD k 0)).bind (fun v => if isLv v then .ret (none, ys.set k v) else .ret (some i, ys))
    else .bit ((B + min i 7 + 1 : Nat) : Int) (decide (xs.getD k 0 ≠ 0)) (fun c => if c then (lvP (B + 17) (xs.getD k 0)).bind (fun v => if isLv v then .bit ((B + min i 7 + 9 : Nat) : Int) (decide (fin ≤ i)) (fun e => if e then .ret (none, ys.set k v) else cdP B xs fin tl (i + 1) (ys.set k v)) else .ret (some i, ys)) else cdP B xs fin tl (i + 1) ys)
def coefS : ByteArray := { data := #[99, 111, 101, 102] }
def noLv (x : Int) : Bool := !isLv x
def sqB (n : Nat) : Nat := if n = 16 then 14 else 39
def sqO (n : Nat) : List Nat := if n = 16 then zigPre 4 7 else zigPre 8 15
def zsL (n : Nat) : List Int := List.replicate n 0
def cdR (r : Option Nat × List Int) : Fall × List Int := match r with
  | (none, ys) => (none, ys)
  | (some i, _) => (some ([(coefS, (i : Int))], 3), [])
/-- coef.Code -/
def codP (xs : List Int) : Pg (Fall × List Int) :=
  if xs.length = 16 ∨ xs.length = 64 then
    if xs.any noLv then .ret (range, [])
    else .bit ((sqB xs.length : Nat) : Int) (xs.any nzB) (fun c => if c then (cdP (sqB xs.length) xs (lastP xs (sqO xs.length) (xs.length - 1)) (sqO xs.length) 0 (zsL xs.length)).bind (fun r => .ret (cdR r)) else .ret (none, zsL xs.length))
  else .ret (fit, [])
section
variable {σ : Type} {M : Mc σ}
theorem rz_run (u : Int) : ∀ (f z : Nat) (s : Ms σ), (rzP u f z).run M s = rzM M u f z s
  | 0, _, _ => rfl
  | f + 1, z, s => by
    show Pg.run M (if (flaM M s (geAt u z)).1 = true then _ else _) _ = (if (flaM M s (geAt u z)).1 = true then _ else _)
    split
    · exact rz_run u f (z + 1) _
    · rfl
theorem rb_run (u : Int) : ∀ (k c : Nat) (s : Ms σ), (rbP u k c).run M s = rbM M u k c s
  | 0, _, _ => rfl
  | k + 1, c, s => rb_run u k _ _
theorem rst_run (u : Int) (s : Ms σ) : (rstP u).run M s = rstM M u s := by
  unfold rstP rstM
  rw [Pg.run_bind, rb_run, rz_run]
theorem cs_run (C : Nat) (z : Int) : ∀ (f n : Nat) (s : Ms σ), (csP C z f n).run M s = csM M C z f n s
  | 0, _, s => by
    show ((rstP (z - 13)).bind _).run M s = _
    rw [Pg.run_bind, rst_run]
    rfl
  | f + 1, n, s => by
    show Pg.run M (if (bitM M s ((C + min n 7 : Nat) : Int) (decide ((n : Int) < z))).1 = true then _ else _) _ = (if (bitM M s ((C + min n 7 : Nat) : Int) (decide ((n : Int) < z))).1 = true then _ else _)
    split
    · exact cs_run C z f (n + 1) _
    · rfl
theorem lv_run (C : Nat) (v : Int) (s : Ms σ) : (lvP C v).run M s = lvM M C v s := by
  show ((csP C ((v.natAbs : Int) - 1) 14 0).bind _).run M _ = _
  rw [Pg.run_bind, cs_run]
  rfl
theorem cd_run (B : Nat) (xs : List Int) (fin : Nat) : ∀ (od : List Nat) (i : Nat) (ys : List Int) (s : Ms σ), (cdP B xs fin od i ys).run M s = cdM M B xs fin od i ys s
  | [], _, _, _ => rfl
  | k :: tl, i, ys, s => by
    by_cases ht : tl = []
    · subst ht
      unfold cdP
      obtain ⟨⟨v, s1⟩, e⟩ : ∃ r, lvM M (B + 17) (xs.getD k 0) s = r := ⟨_, rfl⟩
      rw [if_pos rfl, Pg.run_bind, lv_run, cd_end e, e]
      show Pg.run M (if isLv v = true then _ else _) s1 = _
      split <;> rfl
    · unfold cdP
      rw [if_neg ht]
      show Pg.run M (if (bitM M s ((B + min i 7 + 1 : Nat) : Int) (decide (xs.getD k 0 ≠ 0))).1 = true then _ else _) _ = _
      obtain ⟨⟨b, s1⟩, e⟩ : ∃ r, bitM M s ((B + min i 7 + 1 : Nat) : Int) (decide (xs.getD k 0 ≠ 0)) = r := ⟨_, rfl⟩
      rw [e]
      cases b
      · rw [cd_skip ht e]
        exact cd_run B xs fin tl (i + 1) ys s1
      · show Pg.run M (Pg.bind _ _) s1 = _
        rw [Pg.run_bind, lv_run]
        obtain ⟨⟨v, s2⟩, e2⟩ : ∃ r, lvM M (B + 17) (xs.getD k 0) s1 = r := ⟨_, rfl⟩
        rw [e2]
        cases hv : isLv v
        · rw [cd_bad ht e e2 hv]
          rfl
        · obtain ⟨⟨c, s3⟩, e3⟩ : ∃ r, bitM M s2 ((B + min i 7 + 9 : Nat) : Int) (decide (fin ≤ i)) = r := ⟨_, rfl⟩
          rw [cd_on ht e e2 hv e3]
          show Pg.run M (if (bitM M s2 ((B + min i 7 + 9 : Nat) : Int) (decide (fin ≤ i))).1 = true then _ else _) (bitM M s2 ((B + min i 7 + 9 : Nat) : Int) (decide (fin ≤ i))).2 = _
          rw [e3]
          cases c
          · exact cd_run B xs fin tl (i + 1) _ s3
          · rfl
end
theorem rz_dep (u : Int) : ∀ (f z : Nat), (rzP u f z).dep f
  | 0, _ => trivial
  | f + 1, z => fun v => by
    show Pg.dep (if v = true then _ else _) f
    split
    · exact rz_dep u f (z + 1)
    · trivial
theorem rb_dep (u : Int) : ∀ (k c : Nat), (rbP u k c).dep k
  | 0, _ => trivial
  | k + 1, _ => fun _ => rb_dep u k _
theorem rz_bindle {β : Type} (u : Int) {m : Nat} {g : Nat → Pg β} : ∀ (f z : Nat), (∀ y, z ≤ y → y ≤ z + f → (g y).dep m) → ((rzP u f z).bind g).dep (f + m)
  | 0, z, hg => by rw [Nat.zero_add]; exact hg z (Nat.le_refl _) (by omega)
  | f + 1, z, hg => by
    rw [show f + 1 + m = (f + m) + 1 by omega]
    intro v
    show Pg.dep (Pg.bind (if v = true then _ else _) g) (f + m)
    split
    · exact rz_bindle u f (z + 1) (fun y h1 h2 => hg y (by omega) (by omega))
    · exact Pg.dep_mono (hg z (Nat.le_refl _) (by omega)) (by omega)
theorem rst_dep (u : Int) : (rstP u).dep 26 := rz_bindle (m := 13) u 13 0 (fun y _ h => Pg.dep_mono (rb_dep u y 1) (by omega))
theorem cs_dep (C : Nat) (z : Int) : ∀ (f n : Nat), (csP C z f n).dep (f + 26)
  | 0, _ => Pg.dep_bind (m := 0) (fun _ => Pg.dep_ret _ _) (rst_dep (z - 13))
  | f + 1, n => by
    rw [show f + 1 + 26 = (f + 26) + 1 by omega]
    intro v
    show Pg.dep (if v = true then _ else _) (f + 26)
    split
    · exact cs_dep C z f (n + 1)
    · trivial
theorem lv_dep (C : Nat) (v : Int) : (lvP C v).dep 41 := fun _ => Pg.dep_bind (m := 0) (fun _ => Pg.dep_ret _ _) (cs_dep C _ 14 0)
theorem cd_dep (B : Nat) (xs : List Int) (fin : Nat) : ∀ (od : List Nat) (i : Nat) (ys : List Int), (cdP B xs fin od i ys).dep (43 * od.length)
  | [], _, _ => trivial
  | k :: tl, i, ys => by
    unfold cdP
    split
    · refine Pg.dep_mono (n := 41 + 0) (Pg.dep_bind (fun v => ?_) (lv_dep _ _)) (by simp only [List.length_cons]; omega)
      split <;> trivial
    · have e : 43 * (k :: tl).length = 42 + 43 * tl.length + 1 := by rw [List.length_cons]; omega
      rw [e]
      intro c
      show Pg.dep (if c = true then _ else _) _
      split
      · refine Pg.dep_mono (n := 41 + (1 + 43 * tl.length)) (Pg.dep_bind (fun v => ?_) (lv_dep _ _)) (by omega)
        split
        · rw [Nat.add_comm 1]
          intro x
          show Pg.dep (if x = true then _ else _) _
          split
          · trivial
          · exact cd_dep B xs fin tl (i + 1) _
        · trivial
      · exact Pg.dep_mono (cd_dep B xs fin tl (i + 1) ys) (by omega)
theorem sqO_len {n : Nat} (h : n = 16 ∨ n = 64) : (sqO n).length = n := by
  rcases h with rfl | rfl
  · exact zig_len.1
  · exact zig_len.2
theorem cod_dep (xs : List Int) : (codP xs).dep (43 * xs.length + 1) := by
  unfold codP
  split
  · rename_i hn
    split
    · trivial
    · intro c
      show Pg.dep (if c = true then _ else _) _
      split
      · have := Pg.dep_bind (m := 0) (g := fun r => Pg.ret (cdR r)) (fun _ => trivial) (cd_dep (sqB xs.length) xs (lastP xs (sqO xs.length) (xs.length - 1)) (sqO xs.length) 0 (zsL xs.length))
        rw [sqO_len hn] at this
        exact this
      · trivial
  · trivial
/-- the same calls, whatever levels they are handed -/
theorem rz_sk (u v : Int) : ∀ (f z : Nat), Sk (rzP u f z) (rzP v f z)
  | 0, z => .ret z
  | f + 1, z => .fla _ _ (fun x => by
    cases x
    · exact .ret z
    · exact rz_sk u v f (z + 1))
theorem rb_sk (u v : Int) : ∀ (k c : Nat), Sk (rbP u k c) (rbP v k c)
  | 0, c => .ret c
  | k + 1, _ => .fla _ _ (fun _ => rb_sk u v k _)
theorem rst_sk (u v : Int) : Sk (rstP u) (rstP v) := Sk.bind (fun z => rb_sk u v z 1) (rz_sk u v 13 0)
theorem cs_sk (C : Nat) (z y : Int) : ∀ (f n : Nat), Sk (csP C z f n) (csP C y f n)
  | 0, _ => Sk.bind (fun _ => .ret _) (rst_sk _ _)
  | f + 1, n => .bit _ _ _ (fun x => by
    cases x
    · exact .ret n
    · exact cs_sk C z y f (n + 1))
theorem lv_sk (C : Nat) (v u : Int) : Sk (lvP C v) (lvP C u) := .fla _ _ (fun _ => Sk.bind (fun _ => .ret _) (cs_sk C _ _ 14 0))
theorem cd_sk (B : Nat) (xs zs : List Int) (fin gin : Nat) : ∀ (od : List Nat) (i : Nat) (ys : List Int), Sk (cdP B xs fin od i ys) (cdP B zs gin od i ys)
  | [], _, _ => .ret _
  | k :: tl, i, ys => by
    unfold cdP
    split
    · exact Sk.bind (fun _ => Sk.refl _) (lv_sk _ _ _)
    · refine .bit _ _ _ (fun c => ?_)
      cases c
      · exact cd_sk B xs zs fin gin tl (i + 1) ys
      · refine Sk.bind (fun v => ?_) (lv_sk _ _ _)
        cases hv : isLv v
        · exact .ret _
        · refine .bit _ _ _ (fun e => ?_)
          cases e
          · exact cd_sk B xs zs fin gin tl (i + 1) _
          · exact .ret _
theorem cod_sk {xs zs : List Int} (hl : zs.length = xs.length) (h1 : xs.any noLv = false) (h2 : zs.any noLv = false) : Sk (codP xs) (codP zs) := by
  unfold codP
  rw [hl]
  split
  · rw [h1, h2]
    refine .bit _ _ _ (fun c => ?_)
    cases c
    · exact .ret _
    · exact Sk.bind (fun _ => .ret _) (cd_sk _ _ _ _ _ _ _ _)
  · exact .ret _
end Go.Proofs.YtdndambkaohgiaaGreatDoor
