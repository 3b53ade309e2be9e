/- Contracts of this seat: Sz1, Sz2, Sz3, Sz4, Sz5, Sz6. -/
import Derived.Test.YtpofabebmeickaaGreatDoorVwZq
import Derived.Test.YtpofabebmeickaaGreatDoorVwZr
import Derived.Test.YtpofabebmeickaaGreatDoorVwZl
import Derived.Deep.RegionHeld3
import Derived.Deep.RegionWith
/- syntax.Code as a tree of calls: plain. -/
namespace Go.Proofs.YtpofabebmeickaaGreatDoor
set_option linter.unusedVariables false
set_option linter.unusedSimpArgs false
open Go.RowKit Go.Extern.Stop Go.Stop Go.Extern

structure Sq where
  k : Int
  m : Int
  a : Int
  b : Int
  c : Int
  d : Int
  x : Int
  y : Int
  L : List Int
  s0 : List Int
  s1 : List Int
  s2 : List Int
  s3 : List Int
def sq0 : Sq := ⟨0, 0, 0, 0, 0, 0, 0, 0, [], [], [], [], []⟩
/-- syntax.blank -/
def blS (k : Int) : Sq := ⟨k, 0, 0, 0, 0, 0, 0, 0, zsL 64, zsL 16, zsL 16, zsL 16, zsL 16⟩
def isM (m : Int) : Bool := decide (0 ≤ m) && decide (m ≤ 3)
def isV (x : Int) : Bool := decide (-15 ≤ x) && decide (x ≤ 15)
def lvE (l : List Int) (n : Nat) : Fall := if l.length = n then (if l.any noLv then range else none) else fit
def mdsB (q : Sq) : Bool := isM q.a && isM q.b && isM q.c && isM q.d
def ptB (q : Sq) : Bool := if q.k = 1 then isV q.x && isV q.y else if q.k = 2 then isM q.m else if q.k = 3 then mdsB q else true
def okK (key : Bool) (k : Int) : Bool := decide (0 ≤ k) && decide (k ≤ 3) && !(key && decide (k < 2))
def orF (f g : Fall) : Fall := match f with
  | none => g
  | some e => some e
def foE (q : Sq) : Fall := orF (lvE q.s0 16) (orF (lvE q.s1 16) (orF (lvE q.s2 16) (lvE q.s3 16)))
def liE (q : Sq) : Fall := if q.k = 1 ∨ q.k = 2 then lvE q.L 64 else if q.k = 3 then foE q else none
def kndF : Fall := some ([], 13)
/-- what a writer is asked first -/
def askE (key : Bool) (q : Sq) : Fall := if okK key q.k then (if ptB q then liE q else range) else kndF
theorem lvE_none {l : List Int} {n : Nat} (h : lvE l n = none) : l.length = n ∧ l.any noLv = false := by
  unfold lvE at h
  split at h
  · rename_i h1
    split at h
    · cases h
    · rename_i h2
      exact ⟨h1, by simpa using h2⟩
  · cases h
theorem orF_none {f g : Fall} (h : orF f g = none) : f = none ∧ g = none := by
  cases f with
  | none => exact ⟨rfl, h⟩
  | some e => cases h
def kinP (k : Int) : Pg Int := .bit 0 (decide (0 < k)) (fun v => if v then .bit 1 (decide (1 < k)) (fun v => if v then .bit 2 (decide (2 < k)) (fun v => .ret (if v then 3 else 2)) else .ret 1) else .ret 0)
def modP (m : Nat) : Pg Int := .bit 3 (decide (1 < m)) (fun v => if v then .bit 5 (decide (m % 2 = 1)) (fun u => .ret (if u then 3 else 2)) else .bit 4 (decide (m % 2 = 1)) (fun u => .ret (if u then 1 else 0)))
def sizP (z : Int) : Nat → Nat → Pg Nat
  | 0, n => .ret n
  | f + 1, n => .bit ((7 + min n 6 : Nat) : Int) (decide ((n : Int) < z)) (fun v => if v then sizP z f (n + 1) else .ret n)
def parP (v : Int) : Pg Int := .bit 6 (decide (v ≠ 0)) (fun c => if c then .fla (decide (v < 0)) (fun g => (sizP ((v.natAbs : Int) - 1) 14 0).bind (fun r => .ret (if g then -(r : Int) - 1 else (r : Int) + 1))) else .ret 0)
section
variable {σ : Type} {M : Mc σ}
theorem kin_run (k : Int) (s : Ms σ) : (kinP k).run M s = (((kindM M s k).1 : Int), (kindM M s k).2) := by
  unfold kindM
  show Pg.run M (if (bitM M s 0 (decide (0 < k))).1 = true then _ else _) _ = _
  cases (bitM M s 0 (decide (0 < k))).1
  · rfl
  · show Pg.run M (if (bitM M (bitM M s 0 (decide (0 < k))).2 1 (decide (1 < k))).1 = true then _ else _) _ = _
    cases (bitM M (bitM M s 0 (decide (0 < k))).2 1 (decide (1 < k))).1
    · rfl
    · show (if (bitM M (bitM M (bitM M s 0 (decide (0 < k))).2 1 (decide (1 < k))).2 2 (decide (2 < k))).1 = true then (3 : Int) else 2, _) = _
      cases (bitM M (bitM M (bitM M s 0 (decide (0 < k))).2 1 (decide (1 < k))).2 2 (decide (2 < k))).1 <;> rfl
theorem mod_run (m : Nat) (s : Ms σ) : (modP m).run M s = (((modeM M s m).1 : Int), (modeM M s m).2) := by
  unfold modeM
  show Pg.run M (if (bitM M s 3 (decide (1 < m))).1 = true then _ else _) _ = _
  cases (bitM M s 3 (decide (1 < m))).1
  · show (if (bitM M (bitM M s 3 (decide (1 < m))).2 4 (decide (m % 2 = 1))).1 = true then (1 : Int) else 0, _) = _
    cases (bitM M (bitM M s 3 (decide (1 < m))).2 4 (decide (m % 2 = 1))).1 <;> rfl
  · show (if (bitM M (bitM M s 3 (decide (1 < m))).2 5 (decide (m % 2 = 1))).1 = true then (3 : Int) else 2, _) = _
    cases (bitM M (bitM M s 3 (decide (1 < m))).2 5 (decide (m % 2 = 1))).1 <;> rfl
theorem siz_run (z : Int) : ∀ (f n : Nat) (s : Ms σ), (sizP z f n).run M s = sizM M z f n s
  | 0, _, _ => rfl
  | f + 1, n, s => by
    show Pg.run M (if (bitM M s ((7 + min n 6 : Nat) : Int) (decide ((n : Int) < z))).1 = true then _ else _) _ = (if (bitM M s ((7 + min n 6 : Nat) : Int) (decide ((n : Int) < z))).1 = true then _ else _)
    split
    · exact siz_run z f (n + 1) _
    · rfl
theorem par_run (v : Int) (s : Ms σ) : (parP v).run M s = partM M s v := by
  unfold partM
  show Pg.run M (if (bitM M s 6 (decide (v ≠ 0))).1 = true then _ else _) _ = _
  cases (bitM M s 6 (decide (v ≠ 0))).1
  · rfl
  · show ((sizP ((v.natAbs : Int) - 1) 14 0).bind _).run M _ = _
    rw [Pg.run_bind, siz_run]
    rfl
end
theorem kin_dep (k : Int) : (kinP k).dep 3 := by
  intro v
  show Pg.dep (if v = true then _ else _) 2
  split
  · intro v
    show Pg.dep (if v = true then _ else _) 1
    split
    · intro v; trivial
    · trivial
  · trivial
theorem mod_dep (m : Nat) : (modP m).dep 2 := by
  intro v
  show Pg.dep (if v = true then _ else _) 1
  split <;> intro v <;> trivial
theorem siz_dep (z : Int) : ∀ (f n : Nat), (sizP z f n).dep f
  | 0, _ => trivial
  | f + 1, n => fun v => by
    show Pg.dep (if v = true then _ else _) f
    split
    · exact siz_dep z f (n + 1)
    · trivial
theorem par_dep (v : Int) : (parP v).dep 16 := by
  intro c
  show Pg.dep (if c = true then _ else _) 15
  split
  · exact fun _ => Pg.dep_bind (m := 0) (fun _ => Pg.dep_ret _ _) (siz_dep _ 14 0)
  · trivial
/-- what a writer tells -/
theorem kin_hand {k : Int} (h0 : 0 ≤ k) (h3 : k ≤ 3) : (kinP k).hand = k := by
  rcases (by omega : k = 0 ∨ k = 1 ∨ k = 2 ∨ k = 3) with rfl | rfl | rfl | rfl <;> rfl
theorem mod_hand {m : Int} (h : isM m = true) : (modP (cl3 m)).hand = m := by
  simp only [isM, Bool.and_eq_true, decide_eq_true_eq] at h
  rcases (by omega : m = 0 ∨ m = 1 ∨ m = 2 ∨ m = 3) with rfl | rfl | rfl | rfl <;> rfl
theorem par_hand {v : Int} (h : isV v = true) : (parP (cl15 v)).hand = v := by
  simp only [isV, Bool.and_eq_true, decide_eq_true_eq] at h
  rcases (by omega : v = -15 ∨ v = -14 ∨ v = -13 ∨ v = -12 ∨ v = -11 ∨ v = -10 ∨ v = -9 ∨ v = -8 ∨ v = -7 ∨ v = -6 ∨ v = -5 ∨ v = -4 ∨ v = -3 ∨ v = -2 ∨ v = -1 ∨ v = 0 ∨ v = 1 ∨ v = 2 ∨ v = 3 ∨ v = 4 ∨ v = 5 ∨ v = 6 ∨ v = 7 ∨ v = 8 ∨ v = 9 ∨ v = 10 ∨ v = 11 ∨ v = 12 ∨ v = 13 ∨ v = 14 ∨ v = 15) with rfl | rfl | rfl | rfl | rfl | rfl | rfl | rfl | rfl | rfl | rfl | rfl | rfl | rfl | rfl | rfl | rfl | rfl | rfl | rfl | rfl | rfl | rfl | rfl | rfl | rfl | rfl | rfl | rfl | rfl | rfl <;> decide +kernel
/-- whatever is told lies within its bounds -/
theorem kin_in {σ : Type} {M : Mc σ} (k : Int) (s : Ms σ) : 0 ≤ ((kinP k).run M s).1 ∧ ((kinP k).run M s).1 ≤ 3 := by
  rw [kin_run]
  unfold kindM
  split
  · split
    · show (0 : Int) ≤ ((if _ then 3 else 2 : Nat) : Int) ∧ ((if _ then 3 else 2 : Nat) : Int) ≤ 3
      split <;> decide
    · exact ⟨(by decide : (0 : Int) ≤ ((1 : Nat) : Int)), (by decide : ((1 : Nat) : Int) ≤ 3)⟩
  · exact ⟨(by decide : (0 : Int) ≤ ((0 : Nat) : Int)), (by decide : ((0 : Nat) : Int) ≤ 3)⟩
def kyP (key : Bool) (k : Int) : Pg Int := if key then .fla (decide (k = 3)) (fun v => .ret (if v then 3 else 2)) else kinP k
def stP (m : Int) (xs : List Int) : Pg (Int × (Fall × List Int)) := (modP (cl3 m)).bind (fun v => (codP xs).bind (fun r => .ret (v, r)))
def onP {β : Type} (f : Fall) (z : Fall → Pg β) (p : Pg β) : Pg β := match f with
  | none => p
  | some e => z (some e)
def foP (q : Sq) : Pg (Fall × Sq) :=
  (stP q.a q.s0).bind (fun r0 => onP r0.2.1 (fun f => .ret (f, sq0)) ((stP q.b q.s1).bind (fun r1 => onP r1.2.1 (fun f => .ret (f, sq0)) ((stP q.c q.s2).bind (fun r2 => onP r2.2.1 (fun f => .ret (f, sq0)) ((stP q.d q.s3).bind (fun r3 => onP r3.2.1 (fun f => .ret (f, sq0))
    (.ret (none, ⟨3, 0, r0.1, r1.1, r2.1, r3.1, 0, 0, [], r0.2.2, r1.2.2, r2.2.2, r3.2.2⟩)))))))))
def mvP (q : Sq) : Pg (Fall × Sq) := (parP (cl15 q.x)).bind (fun x => (parP (cl15 q.y)).bind (fun y => (codP q.L).bind (fun r => onP r.1 (fun f => .ret (f, sq0)) (.ret (none, ⟨1, 0, 0, 0, 0, 0, x, y, r.2, [], [], [], []⟩)))))
def onP1 (q : Sq) : Pg (Fall × Sq) := (modP (cl3 q.m)).bind (fun m => (codP q.L).bind (fun r => onP r.1 (fun f => .ret (f, sq0)) (.ret (none, ⟨2, m, 0, 0, 0, 0, 0, 0, r.2, [], [], [], []⟩))))
def ptP (k : Int) (q : Sq) : Pg (Fall × Sq) := if k = 1 then mvP q else if k = 2 then onP1 q else if k = 3 then foP q else .ret (none, { sq0 with k := k })
def synS : ByteArray := { data := #[115, 121, 110, 116, 97, 120] }
def inF (k : Int) (f : Fall) : Fall := match f with
  | none => none
  | some (p, c) => some ((synS, k) :: p, c)
/-- syntax.Code -/
def fiP (k : Int) (q : Sq) : Pg (Fall × Sq) := (ptP k q).bind (fun r => .ret (inF k r.1, r.2))
def sqP (key : Bool) (k0 : Int) (q : Sq) : Pg (Fall × Sq) := (kyP key k0).bind (fun k => fiP k q)
theorem ky_dep (key : Bool) (k : Int) : (kyP key k).dep 3 := by
  cases key
  · exact kin_dep k
  · exact fun _ => trivial
theorem st_dep (m : Int) (xs : List Int) : (stP m xs).dep (2 + (43 * xs.length + 1 + 0)) := Pg.dep_bind (fun _ => Pg.dep_bind (fun _ => Pg.dep_ret _ _) (cod_dep xs)) (mod_dep _)
theorem on_dep {β : Type} {f : Fall} {z : Fall → Pg β} {p : Pg β} {n : Nat} (h : p.dep n) (hz : ∀ f, (z f).dep n) : (onP f z p).dep n := by
  cases f with
  | none => exact h
  | some e => exact hz _
def szB (q : Sq) : Nat := q.L.length + q.s0.length + q.s1.length + q.s2.length + q.s3.length
theorem pt_dep (k : Int) (q : Sq) : (ptP k q).dep (43 * szB q + 34) := by
  unfold szB ptP
  split
  · exact Pg.dep_mono (Pg.dep_bind (fun _ => Pg.dep_bind (fun _ => Pg.dep_bind (fun _ => on_dep (n := 0) (Pg.dep_ret _ _) (fun _ => Pg.dep_ret _ _)) (cod_dep q.L)) (par_dep _)) (par_dep _)) (by omega)
  · split
    · exact Pg.dep_mono (Pg.dep_bind (fun _ => Pg.dep_bind (fun _ => on_dep (n := 0) (Pg.dep_ret _ _) (fun _ => Pg.dep_ret _ _)) (cod_dep q.L)) (mod_dep _)) (by omega)
    · split
      · exact Pg.dep_mono (Pg.dep_bind (fun _ => on_dep (Pg.dep_bind (fun _ => on_dep (Pg.dep_bind (fun _ => on_dep (Pg.dep_bind (fun _ => on_dep (n := 0) (Pg.dep_ret _ _) (fun _ => Pg.dep_ret _ _)) (st_dep q.d q.s3)) (fun _ => Pg.dep_ret _ _)) (st_dep q.c q.s2)) (fun _ => Pg.dep_ret _ _)) (st_dep q.b q.s1)) (fun _ => Pg.dep_ret _ _)) (st_dep q.a q.s0)) (by omega)
      · trivial
theorem fi_dep (k : Int) (q : Sq) : (fiP k q).dep (43 * szB q + 34 + 0) := Pg.dep_bind (m := 0) (fun _ => Pg.dep_ret _ _) (pt_dep k q)
end Go.Proofs.YtpofabebmeickaaGreatDoor

/- syntax.Code as a tree of calls: what a writer tells, what a reader tells: plain. -/
namespace Go.Proofs.YtpofabebmeickaaGreatDoor
set_option linter.unusedVariables false
set_option linter.unusedSimpArgs false
open Go.RowKit Go.Extern.Stop Go.Stop Go.Extern

/-- syntax.Square.take over syntax.blank -/
def takeS (q : Sq) : Sq := if q.k = 1 then { blS 0 with x := q.x, y := q.y, L := q.L } else if q.k = 2 then { blS 0 with m := q.m, L := q.L } else if q.k = 3 then { blS 0 with a := q.a, b := q.b, c := q.c, d := q.d, s0 := q.s0, s1 := q.s1, s2 := q.s2, s3 := q.s3 } else blS 0
/-- a square with the parts of its kind alone -/
def partS (q : Sq) : Sq := if q.k = 1 then ⟨1, 0, 0, 0, 0, 0, q.x, q.y, q.L, [], [], [], []⟩ else if q.k = 2 then ⟨2, q.m, 0, 0, 0, 0, 0, 0, q.L, [], [], [], []⟩ else if q.k = 3 then ⟨3, 0, q.a, q.b, q.c, q.d, 0, 0, [], q.s0, q.s1, q.s2, q.s3⟩ else { sq0 with k := q.k }
theorem pt_take (q : Sq) : ptP q.k (takeS q) = ptP q.k q := by
  unfold ptP takeS
  split
  · rfl
  · split
    · rfl
    · split
      · rfl
      · rfl
theorem fi_take (q : Sq) : fiP q.k (takeS q) = fiP q.k q := by
  unfold fiP
  rw [pt_take]
theorem ask_out {key : Bool} {q : Sq} (h : askE key q = none) : okK key q.k = true ∧ ptB q = true ∧ liE q = none := by
  unfold askE at h
  split at h
  · rename_i h1
    split at h
    · rename_i h2
      exact ⟨h1, h2, h⟩
    · cases h
  · cases h
theorem ky_hand {key : Bool} {k : Int} (h : okK key k = true) : (kyP key k).hand = k := by
  simp only [okK, Bool.and_eq_true, Bool.not_eq_true', decide_eq_true_eq] at h
  cases key
  · exact kin_hand h.1.1 h.1.2
  · have h2 : ¬ k < 2 := by simpa using h.2
    rcases (by omega : k = 2 ∨ k = 3) with rfl | rfl <;> rfl
theorem st_hand {m : Int} {xs : List Int} (hm : isM m = true) (hx : lvE xs 16 = none) : (stP m xs).hand = (m, (none, xs)) := by
  obtain ⟨h1, h2⟩ := lvE_none hx
  unfold stP
  rw [Pg.hand_bind, Pg.hand_bind, cod_hand (.inl h1) h2, mod_hand hm]
  rfl
theorem pt_hand {q : Sq} (h2 : ptB q = true) (h3 : liE q = none) : (ptP q.k q).hand = (none, partS q) := by
  unfold ptP partS
  unfold ptB at h2
  unfold liE at h3
  split
  · rename_i hk
    rw [if_pos hk, Bool.and_eq_true] at h2
    rw [if_pos (.inl hk)] at h3
    obtain ⟨g1, g2⟩ := lvE_none h3
    unfold mvP
    rw [Pg.hand_bind, Pg.hand_bind, Pg.hand_bind, cod_hand (.inr g1) g2, par_hand h2.1, par_hand h2.2]
    rfl
  · rename_i hk1
    rw [if_neg hk1] at h2
    split
    · rename_i hk
      rw [if_pos hk] at h2
      rw [if_pos (.inr hk)] at h3
      obtain ⟨g1, g2⟩ := lvE_none h3
      unfold onP1
      rw [Pg.hand_bind, Pg.hand_bind, cod_hand (.inr g1) g2, mod_hand h2]
      rfl
    · rename_i hk2
      rw [if_neg hk2] at h2
      split
      · rename_i hk
        rw [if_pos hk] at h2
        rw [if_neg (by omega), if_pos hk] at h3
        simp only [mdsB, Bool.and_eq_true] at h2
        obtain ⟨e0, h3⟩ := orF_none h3
        obtain ⟨e1, h3⟩ := orF_none h3
        obtain ⟨e2, e3⟩ := orF_none h3
        unfold foP
        rw [Pg.hand_bind, st_hand h2.1.1.1 e0]
        show ((stP q.b q.s1).bind _).hand = _
        rw [Pg.hand_bind, st_hand h2.1.1.2 e1]
        show ((stP q.c q.s2).bind _).hand = _
        rw [Pg.hand_bind, st_hand h2.1.2 e2]
        show ((stP q.d q.s3).bind _).hand = _
        rw [Pg.hand_bind, st_hand h2.2 e3]
        rfl
      · rfl
theorem fi_hand {q : Sq} (h2 : ptB q = true) (h3 : liE q = none) : (fiP q.k q).hand = (none, partS q) := by
  unfold fiP
  rw [Pg.hand_bind, pt_hand h2 h3]
  rfl
/-- a writer tells what it is handed -/
theorem sq_told {key : Bool} {q : Sq} {s : Ms Ec} (g : gS s) (h : askE key q = none) : (sqP key q.k q).run mE s = ((none, partS q), ((fiP q.k q).run mE ((kyP key q.k).run mE s).2).2) ∧ (sqP key q.k (takeS q)).run mE s = (sqP key q.k q).run mE s ∧ gS ((sqP key q.k q).run mE s).2 := by
  obtain ⟨h1, h2, h3⟩ := ask_out h
  obtain ⟨a1, a2, -⟩ := Pg.told (p := kyP key q.k) g
  obtain ⟨b1, b2, -⟩ := Pg.told (p := fiP q.k q) a2
  rw [ky_hand h1] at a1
  rw [fi_hand h2 h3] at b1
  have e1 : (sqP key q.k q).run mE s = (fiP q.k q).run mE ((kyP key q.k).run mE s).2 := by
    unfold sqP
    rw [Pg.run_bind, a1]
  have e2 : (sqP key q.k (takeS q)).run mE s = (fiP q.k q).run mE ((kyP key q.k).run mE s).2 := by
    unfold sqP
    rw [Pg.run_bind, a1, fi_take]
  refine ⟨e1.trans (Prod.ext b1 rfl), e2.trans e1.symm, ?_⟩
  rw [e1]
  exact b2
theorem zs_lv (n : Nat) : lvE (zsL n) n = none := by
  obtain ⟨h1, h2, -⟩ := zs_facts n
  unfold lvE
  rw [if_pos h1, h2]
  rfl
/-- all lists of a square are as long as they must be, and may be coded -/
def FullS (q : Sq) : Prop := lvE q.L 64 = none ∧ lvE q.s0 16 = none ∧ lvE q.s1 16 = none ∧ lvE q.s2 16 = none ∧ lvE q.s3 16 = none
theorem FullS.bl (k : Int) : FullS (blS k) := ⟨zs_lv 64, zs_lv 16, zs_lv 16, zs_lv 16, zs_lv 16⟩
theorem FullS.take {q : Sq} (h : liE q = none) : FullS (takeS q) := by
  unfold takeS
  unfold liE at h
  split
  · rename_i hk
    rw [if_pos (.inl hk)] at h
    exact ⟨h, zs_lv 16, zs_lv 16, zs_lv 16, zs_lv 16⟩
  · split
    · rename_i hk
      rw [if_pos (.inr hk)] at h
      exact ⟨h, zs_lv 16, zs_lv 16, zs_lv 16, zs_lv 16⟩
    · split
      · rename_i hk
        rw [if_neg (by omega), if_pos hk] at h
        obtain ⟨e0, h⟩ := orF_none h
        obtain ⟨e1, h⟩ := orF_none h
        obtain ⟨e2, e3⟩ := orF_none h
        exact ⟨zs_lv 64, e0, e1, e2, e3⟩
      · exact FullS.bl 0
theorem sz_full {q : Sq} (h : FullS q) : szB q = 128 := by
  obtain ⟨h1, h2, h3, h4, h5⟩ := h
  unfold szB
  rw [(lvE_none h1).1, (lvE_none h2).1, (lvE_none h3).1, (lvE_none h4).1, (lvE_none h5).1]
section
variable {σ : Type} {M : Mc σ}
theorem cod_got {xs : List Int} {n : Nat} (hn : n = 16 ∨ n = 64) (h : lvE xs n = none) (s : Ms σ) : (∃ ys, ((codP xs).run M s).1 = (none, ys) ∧ lvE ys n = none) ∨ ∃ q : Int, ((codP xs).run M s).1 = (some ([(coefS, q)], 3), []) := by
  obtain ⟨h1, h2⟩ := lvE_none h
  rcases cod_ans (M := M) s (by rw [h1]; exact hn) h2 with ⟨ys, e, hl, hy⟩ | ⟨q, -, e⟩
  · refine .inl ⟨ys, e, ?_⟩
    unfold lvE
    rw [if_pos (hl.trans h1), show ys.any noLv = false from List.any_eq_false.2 (fun y hh => by simp [noLv, hy y hh])]
    rfl
  · exact .inr ⟨_, e⟩
theorem ky_in (key : Bool) (k : Int) (s : Ms σ) : okK key ((kyP key k).run M s).1 = true := by
  unfold okK
  cases key
  · have := kin_in (M := M) k s
    show (decide (0 ≤ ((kinP k).run M s).1) && decide (((kinP k).run M s).1 ≤ 3) && !(false && _)) = true
    simp [this.1, this.2]
  · show (decide ((0 : Int) ≤ if (flaM M s (decide (k = 3))).1 = true then 3 else 2) && decide ((if (flaM M s (decide (k = 3))).1 = true then (3 : Int) else 2) ≤ 3) && !(true && decide ((if (flaM M s (decide (k = 3))).1 = true then (3 : Int) else 2) < 2))) = true
    split <;> decide
end
end Go.Proofs.YtpofabebmeickaaGreatDoor

/- syntax.check's parts: isNoLevel, isNoMode, square.IsVector, checkLevels: contracts over this seat's translation. -/
namespace Go.Proofs.YtpofabebmeickaaGreatDoor
set_option linter.unusedVariables false
set_option linter.unusedSimpArgs false
open Go.RowKit Go.Extern.Stop Go.Stop Go.Extern

def noMd (x : Int) : Bool := !isM x
theorem noLv_call (n : Int) (w : World) : Calls Tryz.prog 85 #[.int .i64 n] w fun e w' => e = .returned (.bool (noLv n)) ∧ w = w' := by
  go_enter Tryz.func85, Tryz.ntmps85
  go_wp2_with fail
  refine (islv_any n _).mono ?_; rintro e w1 ⟨rfl, rfl⟩
  go_wp2
  go_ret
  exact ⟨rfl, rfl⟩
theorem isM_call (n : Int) (w : World) : Calls Tryz.prog 83 #[.int .i64 n] w fun e w' => e = .returned (.bool (isM n)) ∧ w = w' := by
  by_cases h1 : 0 ≤ n
  · by_cases h2 : n ≤ 3
    · have H : Hid (isM n = true) := by show _ = _; unfold isM; simp [h1, h2]
      go_enter Tryz.func83, Tryz.ntmps83
      go_wp2
      go_ret
      exact ⟨by rw [H.out]; rfl, rfl⟩
    · have H : Hid (isM n = false) := by show _ = _; unfold isM; simp [h2]
      go_enter Tryz.func83, Tryz.ntmps83
      go_wp2
      go_ret
      exact ⟨by rw [H.out]; rfl, rfl⟩
  · have H : Hid (isM n = false) := by show _ = _; unfold isM; simp [h1]
    go_enter Tryz.func83, Tryz.ntmps83
    go_wp2
    go_ret
    exact ⟨by rw [H.out]; rfl, rfl⟩
theorem noMd_call (n : Int) (w : World) : Calls Tryz.prog 60 #[.int .i64 n] w fun e w' => e = .returned (.bool (noMd n)) ∧ w = w' := by
  go_enter Tryz.func60, Tryz.ntmps60
  go_wp2_with fail
  refine (isM_call n _).mono ?_; rintro e w1 ⟨rfl, rfl⟩
  go_wp2
  go_ret
  exact ⟨rfl, rfl⟩
def vec2 (x y : Int) : Bool := isV x && isV y
theorem isVec_call (x y : Int) (w : World) : Calls Tryz.prog 59 #[.agg #[.int .i64 x, .int .i64 y]] w fun e w' => e = .returned (.bool (vec2 x y)) ∧ Ext w w' := by
  have H1 : Hid (vec2 x y = (decide (-15 ≤ x) && decide (x ≤ 15) && (decide (-15 ≤ y) && decide (y ≤ 15)))) := rfl
  by_cases h1 : -15 ≤ x
  · by_cases h2 : x ≤ 15
    · by_cases h3 : -15 ≤ y
      · by_cases h4 : y ≤ 15
        · have H : Hid (vec2 x y = true) := by show _ = _; rw [H1.out]; simp [h1, h2, h3, h4]
          go_enter Tryz.func59, Tryz.ntmps59
          go_wp2
          go_ret
          exact ⟨by rw [H.out]; rfl, (Ext.refl w).alloc _⟩
        · have H : Hid (vec2 x y = false) := by show _ = _; rw [H1.out]; simp [h1, h2, h3, h4]
          go_enter Tryz.func59, Tryz.ntmps59
          go_wp2
          go_ret
          exact ⟨by rw [H.out]; rfl, (Ext.refl w).alloc _⟩
      · have H : Hid (vec2 x y = false) := by show _ = _; rw [H1.out]; simp [h1, h2, h3]
        go_enter Tryz.func59, Tryz.ntmps59
        go_wp2
        go_ret
        exact ⟨by rw [H.out]; rfl, (Ext.refl w).alloc _⟩
    · have H : Hid (vec2 x y = false) := by show _ = _; rw [H1.out]; simp [h1, h2]
      go_enter Tryz.func59, Tryz.ntmps59
      go_wp2
      go_ret
      exact ⟨by rw [H.out]; rfl, (Ext.refl w).alloc _⟩
  · have H : Hid (vec2 x y = false) := by show _ = _; rw [H1.out]; simp [h1]
    go_enter Tryz.func59, Tryz.ntmps59
    go_wp2
    go_ret
    exact ⟨by rw [H.out]; rfl, (Ext.refl w).alloc _⟩
set_option maxRecDepth 20000 in
set_option maxHeartbeats 1000000 in
theorem noLv_idx (zs : List Int) (v : Value) (w : World) (ha : Ints w v zs) :
    Calls Tryz.prog 84 #[v, .func (.func 85) #[] #[]] w (IdxPost w (zs.any noLv)) := by
  obtain ⟨a, cap, rfl⟩ := ha.form
  obtain ⟨n, hn⟩ : ∃ n, n = zs.length := ⟨_, rfl⟩
  have hle := ha.2
  rw [← hn] at ha hle ⊢
  have AG := Lib.hid ha.had
  have HN := Lib.hid hn
  clear hn
  go_enter Tryz.func84, Tryz.ntmps84
  go_wp2
  go_loop [8] (fun i => ∃ k : Nat, k ≤ n ∧ i = .int .i64 k ∧ Hid (∀ j x, j < k → zs[j]? = some x → noLv x = false)) (fun i => n - (intOf i).toNat)
  case atStart => exact ⟨0, Nat.zero_le _, rfl, fun j _ hj => absurd hj (Nat.not_lt_zero _)⟩
  case round =>
    obtain ⟨k, hk, rfl, HJ⟩ := hrel
    by_cases hlt : k < n
    · obtain ⟨x, hx⟩ : ∃ x, zs[k]? = some x := ⟨_, List.getElem?_eq_getElem (by rw [← HN.out]; exact hlt)⟩
      obtain ⟨g, off, rfl⟩ := AG.out (by omega)
      have cx := ha.at hx
      have HX := Lib.hid hx
      clear hx
      cases hb : noLv x with
      | true =>
        have HB := Lib.hid hb
        go_wp2_with (go_at_call 85; refine (noLv_call _ _).mono ?_; rintro e w' ⟨rfl, rfl⟩)
        go_ret
        exact ⟨_, rfl, by rw [any_of_get HX.out HB.out]; simp, rfl⟩
      | false =>
        have HB := Lib.hid hb
        go_wp2_with (go_at_call 85; refine (noLv_call _ _).mono ?_; rintro e w' ⟨rfl, rfl⟩)
        go_round
        case rel => exact ⟨k + 1, by omega, by go_num, fun j y hj hy => by
          by_cases hjk : j = k
          · subst hjk
            obtain rfl : x = y := Option.some.inj (HX.out.symm.trans hy)
            exact HB.out
          · exact HJ.out j y (by omega) hy⟩
        case measure => simp [intOf]; omega
    · go_wp2
      go_ret
      refine ⟨_, rfl, ?_, rfl⟩
      rw [any_no (fun j x hj hx => HJ.out j x (by rw [← HN.out] at hj; omega) hx)]
      rfl
theorem noLv_has (zs : List Int) (v : Value) (w : World) (ha : Ints w v zs) :
    Calls Tryz.prog 61 #[v, .func (.func 85) #[] #[]] w fun e w' => e = .returned (.bool (zs.any noLv)) ∧ w = w' := by
  have H := Lib.hid (noLv_idx zs v w ha)
  clear ha
  go_enter Tryz.func61, Tryz.ntmps61
  go_wp2_with fail
  refine (H.out).mono ?_; rintro e w1 ⟨i, rfl, hi, rfl⟩
  have HI := Lib.hid hi
  clear hi
  go_wp2
  go_ret
  exact ⟨by rw [← HI.out]; rfl, rfl⟩
set_option maxRecDepth 20000 in
set_option maxHeartbeats 1000000 in
theorem noMd_idx (zs : List Int) (v : Value) (w : World) (ha : Ints w v zs) :
    Calls Tryz.prog 84 #[v, .func (.func 60) #[] #[]] w (IdxPost w (zs.any noMd)) := by
  obtain ⟨a, cap, rfl⟩ := ha.form
  obtain ⟨n, hn⟩ : ∃ n, n = zs.length := ⟨_, rfl⟩
  have hle := ha.2
  rw [← hn] at ha hle ⊢
  have AG := Lib.hid ha.had
  have HN := Lib.hid hn
  clear hn
  go_enter Tryz.func84, Tryz.ntmps84
  go_wp2
  go_loop [8] (fun i => ∃ k : Nat, k ≤ n ∧ i = .int .i64 k ∧ Hid (∀ j x, j < k → zs[j]? = some x → noMd x = false)) (fun i => n - (intOf i).toNat)
  case atStart => exact ⟨0, Nat.zero_le _, rfl, fun j _ hj => absurd hj (Nat.not_lt_zero _)⟩
  case round =>
    obtain ⟨k, hk, rfl, HJ⟩ := hrel
    by_cases hlt : k < n
    · obtain ⟨x, hx⟩ : ∃ x, zs[k]? = some x := ⟨_, List.getElem?_eq_getElem (by rw [← HN.out]; exact hlt)⟩
      obtain ⟨g, off, rfl⟩ := AG.out (by omega)
      have cx := ha.at hx
      have HX := Lib.hid hx
      clear hx
      cases hb : noMd x with
      | true =>
        have HB := Lib.hid hb
        go_wp2_with (go_at_call 60; refine (noMd_call _ _).mono ?_; rintro e w' ⟨rfl, rfl⟩)
        go_ret
        exact ⟨_, rfl, by rw [any_of_get HX.out HB.out]; simp, rfl⟩
      | false =>
        have HB := Lib.hid hb
        go_wp2_with (go_at_call 60; refine (noMd_call _ _).mono ?_; rintro e w' ⟨rfl, rfl⟩)
        go_round
        case rel => exact ⟨k + 1, by omega, by go_num, fun j y hj hy => by
          by_cases hjk : j = k
          · subst hjk
            obtain rfl : x = y := Option.some.inj (HX.out.symm.trans hy)
            exact HB.out
          · exact HJ.out j y (by omega) hy⟩
        case measure => simp [intOf]; omega
    · go_wp2
      go_ret
      refine ⟨_, rfl, ?_, rfl⟩
      rw [any_no (fun j x hj hx => HJ.out j x (by rw [← HN.out] at hj; omega) hx)]
      rfl
theorem noMd_has (zs : List Int) (v : Value) (w : World) (ha : Ints w v zs) :
    Calls Tryz.prog 61 #[v, .func (.func 60) #[] #[]] w fun e w' => e = .returned (.bool (zs.any noMd)) ∧ w = w' := by
  have H := Lib.hid (noMd_idx zs v w ha)
  clear ha
  go_enter Tryz.func61, Tryz.ntmps61
  go_wp2_with fail
  refine (H.out).mono ?_; rintro e w1 ⟨i, rfl, hi, rfl⟩
  have HI := Lib.hid hi
  clear hi
  go_wp2
  go_ret
  exact ⟨by rw [← HI.out]; rfl, rfl⟩
theorem chkl_any (l : List Int) (n : Nat) (v : Value) (w : World) (h : Ints w v l) : Calls Tryz.prog 62 #[v, .int .i64 (n : Int)] w fun e w' => ∃ x, e = .returned x ∧ (∀ W, ErrIs W (lvE l n) x) ∧ w = w' := by
  obtain ⟨a, cap, rfl⟩ := h.form
  obtain ⟨m, hm⟩ : ∃ m, l.length = m := ⟨_, rfl⟩
  have U := Lib.hid (fun w (h : Ints w (.slice a m cap) l) => noLv_has l _ w h)
  rw [hm] at h ⊢
  have HL := Lib.hid h
  clear h
  by_cases he : m = n
  · subst he
    obtain ⟨b, hb⟩ : ∃ b, l.any noLv = b := ⟨_, rfl⟩
    rw [hb] at U
    have hv : lvE l m = if b then range else none := by unfold lvE; rw [if_pos hm, hb]
    have HV := Lib.hid hv
    clear hv hb hm
    go_enter Tryz.func62, Tryz.ntmps62
    go_wp2_with fail
    refine (U.out _ HL.out).mono ?_; rintro e w1 ⟨rfl, rfl⟩
    cases b
    · go_wp2
      go_ret
      exact ⟨_, rfl, fun W => by rw [HV.out]; exact rfl, rfl⟩
    · go_wp2
      go_ret
      exact ⟨_, rfl, fun W => by rw [HV.out]; exact ErrIs.code (by decide), rfl⟩
  · have hv : lvE l n = fit := by unfold lvE; rw [if_neg (by omega)]
    have HV := Lib.hid hv
    have hne : ((m : Int) == (n : Int)) = false := by rw [beq_eq_false_iff_ne]; omega
    clear hv hm U HL
    go_enter Tryz.func62, Tryz.ntmps62
    go_wp2
    go_ret
    exact ⟨_, rfl, fun W => by rw [HV.out]; exact ErrIs.code (by decide), rfl⟩
end Go.Proofs.YtpofabebmeickaaGreatDoor

/- syntax.blank, with what its lists read as. -/
namespace Go.Proofs.YtpofabebmeickaaGreatDoor
set_option linter.unusedVariables false
set_option linter.unusedSimpArgs false
open Go.RowKit Go.Extern.Stop Go.Stop Go.Extern

theorem HoF.setc {w : World} {F : Nat → Prop} {P : World → Prop} {p : Addr} {v : Value} (h : HoF w F P) (hp : ¬ F p.block) : HoF (w.setCell p v) F P :=
  HoF.obj.same h (fun i hi => Below.heap_setCell w p v i (fun e => hp (e ▸ hi)))
/-- what a square's lists read as -/
def SqIs (W : World) (q : Sq) (L s0 s1 s2 s3 : Value) : Prop := Ints W L q.L ∧ Ints W s0 q.s0 ∧ Ints W s1 q.s1 ∧ Ints W s2 q.s2 ∧ Ints W s3 q.s3
theorem SqIs.ext {w w' : World} {q : Sq} {L s0 s1 s2 s3 : Value} (h : SqIs w q L s0 s1 s2 s3) (k : Ext w w') : SqIs w' q L s0 s1 s2 s3 := ⟨h.1.ext k, h.2.1.ext k, h.2.2.1.ext k, h.2.2.2.1.ext k, h.2.2.2.2.ext k⟩
theorem SqIs.mk' {W : World} {L s0 s1 s2 s3 : Value} (h : (((Ints W L (zsL 64) ∧ Ints W s0 (zsL 16)) ∧ Ints W s1 (zsL 16)) ∧ Ints W s2 (zsL 16)) ∧ Ints W s3 (zsL 16)) : SqIs W (blS 0) L s0 s1 s2 s3 := ⟨h.1.1.1.1, h.1.1.1.2, h.1.1.2, h.1.2, h.2⟩
set_option maxHeartbeats 4000000 in
set_option maxRecDepth 20000 in
theorem blank_own (w : World) : Calls Tryz.prog 34 #[] w fun e w' => ∃ (L s0 s1 s2 s3 : Addr) (Y : Nat → Prop), e = .returned (sqV 0 0 0 0 0 0 0 0 (.slice (some L) 64 64) (.slice (some s0) 16 16) (.slice (some s1) 16 16) (.slice (some s2) 16 16) (.slice (some s3) 16 16)) ∧ Ext w w' ∧ HoF w' Y (fun W => SqIs W (blS 0) (.slice (some L) 64 64) (.slice (some s0) 16 16) (.slice (some s1) 16 16) (.slice (some s2) 16 16) (.slice (some s3) 16 16)) ∧ ∀ k, Y k → w.heap.size ≤ k := by
  obtain ⟨i0, hi, hz0, hz1, hz2⟩ := info_parts infoInt
  have B0 := BoxIs.new w #[.int .i64 0, .int .i64 0, .int .i64 0, .int .i64 0, .int .i64 0, .int .i64 0, .int .i64 0, .int .i64 0, .slice none 0 0, .slice none 0 0, .slice none 0 0, .slice none 0 0, .slice none 0 0] 36
  have E0 := (Ext.refl w).alloc (.cells #[.int .i64 0, .int .i64 0, .int .i64 0, .int .i64 0, .int .i64 0, .int .i64 0, .int .i64 0, .int .i64 0, .slice none 0 0, .slice none 0 0, .slice none 0 0, .slice none 0 0, .slice none 0 0] 36)
  go_enter Tryz.func34, Tryz.ntmps34
  go_wp2_with (at_make; generalize hw0 : w.alloc (.cells #[.int .i64 0, .int .i64 0, .int .i64 0, .int .i64 0, .int .i64 0, .int .i64 0, .int .i64 0, .int .i64 0, .slice none 0 0, .slice none 0 0, .slice none 0 0, .slice none 0 0, .slice none 0 0] 36) = w0 at B0 E0 ⊢; clear hw0; refine wpList_make_full _ rfl _ _ 33 rfl w0.heap.size 3 i0 (.int .i64 0) 1 Tryz.underlying33 hi hz0 hz1 .i64 .i64 _ _ 64 rfl rfl rfl rfl (by rw [hz2]; decide) (by decide) (Nat.le_refl _) ?_; intro w1 hown hgrow)
  have B0 := Lib.hid B0
  have E0 := Lib.hid E0
  have E1 : Ext w0 w1 := Below.grown (Ext.refl w0) hgrow (Nat.le_refl _) (fun k hk => by cases hk)
  obtain ⟨m1, m2⟩ := ho_made (by decide) hown
  have hz : w.heap.size < w0.heap.size := B0.out.lt
  have hy0 : ∀ k, ((.slice (some ⟨w0.heap.size, 0, none⟩) 64 64) : Value).ownBlock = some k → w.heap.size < k ∧ k ≠ w1.heap.size := fun k hk => ⟨by have := m2 k hk; omega, by have := m1.1 k hk; omega⟩
  have HY0 := Lib.hid hy0
  have b2 := BoxIs.new w1 #[.int .i64 0, .int .i64 0, .int .i64 0, .int .i64 0, .int .i64 0, .int .i64 0, .int .i64 0, .int .i64 0, .slice (some ⟨w0.heap.size, 0, none⟩) 64 64, .slice none 0 0, .slice none 0 0, .slice none 0 0, .slice none 0 0] 36
  have hE2 : Ext w0 (w1.alloc (.cells #[.int .i64 0, .int .i64 0, .int .i64 0, .int .i64 0, .int .i64 0, .int .i64 0, .int .i64 0, .int .i64 0, .slice (some ⟨w0.heap.size, 0, none⟩) 64 64, .slice none 0 0, .slice none 0 0, .slice none 0 0, .slice none 0 0] 36)) := E1.alloc _
  have m1 := m1.ext ((Ext.refl w1).alloc (.cells #[.int .i64 0, .int .i64 0, .int .i64 0, .int .i64 0, .int .i64 0, .int .i64 0, .int .i64 0, .int .i64 0, .slice (some ⟨w0.heap.size, 0, none⟩) 64 64, .slice none 0 0, .slice none 0 0, .slice none 0 0, .slice none 0 0] 36))
  generalize hu0 : w1.alloc (.cells #[.int .i64 0, .int .i64 0, .int .i64 0, .int .i64 0, .int .i64 0, .int .i64 0, .int .i64 0, .int .i64 0, .slice (some ⟨w0.heap.size, 0, none⟩) 64 64, .slice none 0 0, .slice none 0 0, .slice none 0 0, .slice none 0 0] 36) = u0 at b2 hE2 m1 ⊢
  have B2 := Lib.hid b2
  have R2 := Lib.hid (B0.out.ext hE2)
  have H0 := Lib.hid m1
  have E2 := Lib.hid (E0.out.trans hE2)
  have hlt := B2.out.lt
  have hne : w.heap.size ≠ w1.heap.size := by have := B0.out.lt; have := E1.size; omega
  have hbl : w.heap.size ≤ w1.heap.size := by have := B0.out.lt; have := E1.size; omega
  clear hu0 b2 hE2 E1 hown hgrow B0 E0 m1 m2 hy0
  refine wp_loop_rounds 5 ?_
  rw [rounds_succ]
  have c := B2.out.cell (i := 9) (v := .slice none 0 0) rfl
  have f := B2.out.free (i := 9)
  go_wp2_with (at_make; refine wpList_make_full _ rfl _ _ 33 rfl u0.heap.size 3 i0 (.int .i64 0) 1 Tryz.underlying33 hi hz0 hz1 .i64 .i64 _ _ 16 rfl rfl rfl rfl (by rw [hz2]; decide) (by decide) (Nat.le_refl _) ?_; intro x0 hown hgrow; have EE : Ext u0 x0 := Below.grown (Ext.refl u0) hgrow (Nat.le_refl _) (fun k hk => by cases hk); have d := EE.cell c; have g := (B2.out.ext EE).free (i := 9))
  obtain ⟨m1, m2⟩ := ho_made (by decide) hown
  have hy : ∀ k, (_ ∨ ((.slice (some ⟨u0.heap.size, 0, none⟩) 16 16) : Value).ownBlock = some k) → w.heap.size < k ∧ k ≠ w1.heap.size := fun k hk => hk.elim (HY0.out k) (fun hk => ⟨by have := m2 k hk; have := B2.out.lt; omega, by have := m2 k hk; have := B2.out.lt; omega⟩)
  have HY1 := Lib.hid hy
  have h0 := ((H0.out.ext EE).and m1).setc (p := ⟨w1.heap.size, 9, none⟩) (v := (.slice (some ⟨u0.heap.size, 0, none⟩) 16 16)) (fun h => (hy _ h).2 rfl)
  have b2 : BoxIs (x0.setCell ⟨w1.heap.size, 9, none⟩ (.slice (some ⟨u0.heap.size, 0, none⟩) 16 16)) w1.heap.size #[.int .i64 0, .int .i64 0, .int .i64 0, .int .i64 0, .int .i64 0, .int .i64 0, .int .i64 0, .int .i64 0, .slice (some ⟨w0.heap.size, 0, none⟩) 64 64, .slice (some ⟨u0.heap.size, 0, none⟩) 16 16, .slice none 0 0, .slice none 0 0, .slice none 0 0] 36 := (B2.out.ext EE).set (i := 9) (.slice (some ⟨u0.heap.size, 0, none⟩) 16 16)
  have e2 := (E2.out.trans EE).setCell (p := ⟨w1.heap.size, 9, none⟩) hbl (.slice (some ⟨u0.heap.size, 0, none⟩) 16 16)
  have r2 := (R2.out.ext EE).other (p := ⟨w1.heap.size, 9, none⟩) (Ne.symm hne) (.slice (some ⟨u0.heap.size, 0, none⟩) 16 16)
  clear B2 R2 E2 c f d g hown hgrow EE H0 HY0
  generalize x0.setCell ⟨w1.heap.size, 9, none⟩ (.slice (some ⟨u0.heap.size, 0, none⟩) 16 16) = u1 at b2 e2 r2 h0 ⊢
  have B2 := Lib.hid b2
  have R2 := Lib.hid r2
  have E2 := Lib.hid e2
  have H1 := Lib.hid h0
  clear b2 e2 r2 h0 hy m1 m2
  rw [rounds_succ]
  have c := B2.out.cell (i := 10) (v := .slice none 0 0) rfl
  have f := B2.out.free (i := 10)
  go_wp2_with (at_make; refine wpList_make_full _ rfl _ _ 33 rfl u1.heap.size 3 i0 (.int .i64 0) 1 Tryz.underlying33 hi hz0 hz1 .i64 .i64 _ _ 16 rfl rfl rfl rfl (by rw [hz2]; decide) (by decide) (Nat.le_refl _) ?_; intro x1 hown hgrow; have EE : Ext u1 x1 := Below.grown (Ext.refl u1) hgrow (Nat.le_refl _) (fun k hk => by cases hk); have d := EE.cell c; have g := (B2.out.ext EE).free (i := 10))
  obtain ⟨m1, m2⟩ := ho_made (by decide) hown
  have hy : ∀ k, (_ ∨ ((.slice (some ⟨u1.heap.size, 0, none⟩) 16 16) : Value).ownBlock = some k) → w.heap.size < k ∧ k ≠ w1.heap.size := fun k hk => hk.elim (HY1.out k) (fun hk => ⟨by have := m2 k hk; have := B2.out.lt; omega, by have := m2 k hk; have := B2.out.lt; omega⟩)
  have HY2 := Lib.hid hy
  have h0 := ((H1.out.ext EE).and m1).setc (p := ⟨w1.heap.size, 10, none⟩) (v := (.slice (some ⟨u1.heap.size, 0, none⟩) 16 16)) (fun h => (hy _ h).2 rfl)
  have b2 : BoxIs (x1.setCell ⟨w1.heap.size, 10, none⟩ (.slice (some ⟨u1.heap.size, 0, none⟩) 16 16)) w1.heap.size #[.int .i64 0, .int .i64 0, .int .i64 0, .int .i64 0, .int .i64 0, .int .i64 0, .int .i64 0, .int .i64 0, .slice (some ⟨w0.heap.size, 0, none⟩) 64 64, .slice (some ⟨u0.heap.size, 0, none⟩) 16 16, .slice (some ⟨u1.heap.size, 0, none⟩) 16 16, .slice none 0 0, .slice none 0 0] 36 := (B2.out.ext EE).set (i := 10) (.slice (some ⟨u1.heap.size, 0, none⟩) 16 16)
  have e2 := (E2.out.trans EE).setCell (p := ⟨w1.heap.size, 10, none⟩) hbl (.slice (some ⟨u1.heap.size, 0, none⟩) 16 16)
  have r2 := (R2.out.ext EE).other (p := ⟨w1.heap.size, 10, none⟩) (Ne.symm hne) (.slice (some ⟨u1.heap.size, 0, none⟩) 16 16)
  clear B2 R2 E2 c f d g hown hgrow EE H1 HY1
  generalize x1.setCell ⟨w1.heap.size, 10, none⟩ (.slice (some ⟨u1.heap.size, 0, none⟩) 16 16) = u2 at b2 e2 r2 h0 ⊢
  have B2 := Lib.hid b2
  have R2 := Lib.hid r2
  have E2 := Lib.hid e2
  have H2 := Lib.hid h0
  clear b2 e2 r2 h0 hy m1 m2
  rw [rounds_succ]
  have c := B2.out.cell (i := 11) (v := .slice none 0 0) rfl
  have f := B2.out.free (i := 11)
  go_wp2_with (at_make; refine wpList_make_full _ rfl _ _ 33 rfl u2.heap.size 3 i0 (.int .i64 0) 1 Tryz.underlying33 hi hz0 hz1 .i64 .i64 _ _ 16 rfl rfl rfl rfl (by rw [hz2]; decide) (by decide) (Nat.le_refl _) ?_; intro x2 hown hgrow; have EE : Ext u2 x2 := Below.grown (Ext.refl u2) hgrow (Nat.le_refl _) (fun k hk => by cases hk); have d := EE.cell c; have g := (B2.out.ext EE).free (i := 11))
  obtain ⟨m1, m2⟩ := ho_made (by decide) hown
  have hy : ∀ k, (_ ∨ ((.slice (some ⟨u2.heap.size, 0, none⟩) 16 16) : Value).ownBlock = some k) → w.heap.size < k ∧ k ≠ w1.heap.size := fun k hk => hk.elim (HY2.out k) (fun hk => ⟨by have := m2 k hk; have := B2.out.lt; omega, by have := m2 k hk; have := B2.out.lt; omega⟩)
  have HY3 := Lib.hid hy
  have h0 := ((H2.out.ext EE).and m1).setc (p := ⟨w1.heap.size, 11, none⟩) (v := (.slice (some ⟨u2.heap.size, 0, none⟩) 16 16)) (fun h => (hy _ h).2 rfl)
  have b2 : BoxIs (x2.setCell ⟨w1.heap.size, 11, none⟩ (.slice (some ⟨u2.heap.size, 0, none⟩) 16 16)) w1.heap.size #[.int .i64 0, .int .i64 0, .int .i64 0, .int .i64 0, .int .i64 0, .int .i64 0, .int .i64 0, .int .i64 0, .slice (some ⟨w0.heap.size, 0, none⟩) 64 64, .slice (some ⟨u0.heap.size, 0, none⟩) 16 16, .slice (some ⟨u1.heap.size, 0, none⟩) 16 16, .slice (some ⟨u2.heap.size, 0, none⟩) 16 16, .slice none 0 0] 36 := (B2.out.ext EE).set (i := 11) (.slice (some ⟨u2.heap.size, 0, none⟩) 16 16)
  have e2 := (E2.out.trans EE).setCell (p := ⟨w1.heap.size, 11, none⟩) hbl (.slice (some ⟨u2.heap.size, 0, none⟩) 16 16)
  have r2 := (R2.out.ext EE).other (p := ⟨w1.heap.size, 11, none⟩) (Ne.symm hne) (.slice (some ⟨u2.heap.size, 0, none⟩) 16 16)
  clear B2 R2 E2 c f d g hown hgrow EE H2 HY2
  generalize x2.setCell ⟨w1.heap.size, 11, none⟩ (.slice (some ⟨u2.heap.size, 0, none⟩) 16 16) = u3 at b2 e2 r2 h0 ⊢
  have B2 := Lib.hid b2
  have R2 := Lib.hid r2
  have E2 := Lib.hid e2
  have H3 := Lib.hid h0
  clear b2 e2 r2 h0 hy m1 m2
  rw [rounds_succ]
  have c := B2.out.cell (i := 12) (v := .slice none 0 0) rfl
  have f := B2.out.free (i := 12)
  go_wp2_with (at_make; refine wpList_make_full _ rfl _ _ 33 rfl u3.heap.size 3 i0 (.int .i64 0) 1 Tryz.underlying33 hi hz0 hz1 .i64 .i64 _ _ 16 rfl rfl rfl rfl (by rw [hz2]; decide) (by decide) (Nat.le_refl _) ?_; intro x3 hown hgrow; have EE : Ext u3 x3 := Below.grown (Ext.refl u3) hgrow (Nat.le_refl _) (fun k hk => by cases hk); have d := EE.cell c; have g := (B2.out.ext EE).free (i := 12))
  obtain ⟨m1, m2⟩ := ho_made (by decide) hown
  have hy : ∀ k, (_ ∨ ((.slice (some ⟨u3.heap.size, 0, none⟩) 16 16) : Value).ownBlock = some k) → w.heap.size < k ∧ k ≠ w1.heap.size := fun k hk => hk.elim (HY3.out k) (fun hk => ⟨by have := m2 k hk; have := B2.out.lt; omega, by have := m2 k hk; have := B2.out.lt; omega⟩)
  have HY4 := Lib.hid hy
  have h0 := ((H3.out.ext EE).and m1).setc (p := ⟨w1.heap.size, 12, none⟩) (v := (.slice (some ⟨u3.heap.size, 0, none⟩) 16 16)) (fun h => (hy _ h).2 rfl)
  have b2 : BoxIs (x3.setCell ⟨w1.heap.size, 12, none⟩ (.slice (some ⟨u3.heap.size, 0, none⟩) 16 16)) w1.heap.size #[.int .i64 0, .int .i64 0, .int .i64 0, .int .i64 0, .int .i64 0, .int .i64 0, .int .i64 0, .int .i64 0, .slice (some ⟨w0.heap.size, 0, none⟩) 64 64, .slice (some ⟨u0.heap.size, 0, none⟩) 16 16, .slice (some ⟨u1.heap.size, 0, none⟩) 16 16, .slice (some ⟨u2.heap.size, 0, none⟩) 16 16, .slice (some ⟨u3.heap.size, 0, none⟩) 16 16] 36 := (B2.out.ext EE).set (i := 12) (.slice (some ⟨u3.heap.size, 0, none⟩) 16 16)
  have e2 := (E2.out.trans EE).setCell (p := ⟨w1.heap.size, 12, none⟩) hbl (.slice (some ⟨u3.heap.size, 0, none⟩) 16 16)
  have r2 := (R2.out.ext EE).other (p := ⟨w1.heap.size, 12, none⟩) (Ne.symm hne) (.slice (some ⟨u3.heap.size, 0, none⟩) 16 16)
  clear B2 R2 E2 c f d g hown hgrow EE H3 HY3
  generalize x3.setCell ⟨w1.heap.size, 12, none⟩ (.slice (some ⟨u3.heap.size, 0, none⟩) 16 16) = u4 at b2 e2 r2 h0 ⊢
  have B2 := Lib.hid b2
  have R2 := Lib.hid r2
  have E2 := Lib.hid e2
  have H4 := Lib.hid h0
  clear b2 e2 r2 h0 hy m1 m2
  rw [rounds_succ]
  obtain ⟨⟨c0, c1, c2, c3, c4, c5, c6, c7, c8, c9, c10, c11, c12⟩, -⟩ := sq_cells B2.out
  obtain ⟨⟨e0, e1, e2, e3, e4, e5, e6, e7, e8, e9, e10, e11, e12⟩, f0, f1, f2, f3, f4, f5, f6, f7, f8, f9, f10, f11, f12⟩ := sq_cells R2.out
  go_wp2
  obtain ⟨⟨g0, g1, g2, g3, g4, g5, g6, g7, g8, g9, g10, g11, g12⟩, -⟩ := sq_cells (sq_put (v0 := .int .i64 0) (v1 := .int .i64 0) (v2 := .int .i64 0) (v3 := .int .i64 0) (v4 := .int .i64 0) (v5 := .int .i64 0) (v6 := .int .i64 0) (v7 := .int .i64 0) (v8 := .slice (some ⟨w0.heap.size, 0, none⟩) 64 64) (v9 := .slice (some ⟨u0.heap.size, 0, none⟩) 16 16) (v10 := .slice (some ⟨u1.heap.size, 0, none⟩) 16 16) (v11 := .slice (some ⟨u2.heap.size, 0, none⟩) 16 16) (v12 := .slice (some ⟨u3.heap.size, 0, none⟩) 16 16) R2.out)
  exact bodyPost_ret (v := .agg #[.int .i64 0, .int .i64 0, .int .i64 0, .int .i64 0, .int .i64 0, .int .i64 0, .int .i64 0, .int .i64 0, .slice (some ⟨w0.heap.size, 0, none⟩) 64 64, .slice (some ⟨u0.heap.size, 0, none⟩) 16 16, .slice (some ⟨u1.heap.size, 0, none⟩) 16 16, .slice (some ⟨u2.heap.size, 0, none⟩) 16 16, .slice (some ⟨u3.heap.size, 0, none⟩) 16 16]) (by simp [results, Tryz.results34, go_sem, g0, g1, g2, g3, g4, g5, g6, g7, g8, g9, g10, g11, g12]) rfl ⟨_, _, _, _, _, _, rfl, by
    have e := E2.out
    repeat refine Ext.setCell ?_ (by show w.heap.size ≤ w.heap.size; exact Nat.le_refl _) _
    exact e, by
    have e := H4.out.imp (fun W h => SqIs.mk' h)
    have hn : ¬ _ := fun h => (Nat.lt_irrefl _ (HY4.out w.heap.size h).1)
    repeat refine HoF.setc ?_ (by exact hn)
    exact e, fun k hk => Nat.le_of_lt (HY4.out k hk).1⟩
end Go.Proofs.YtpofabebmeickaaGreatDoor

/- syntax.check of any square. -/
namespace Go.Proofs.YtpofabebmeickaaGreatDoor
set_option linter.unusedVariables false
set_option linter.unusedSimpArgs false
open Go.RowKit Go.Extern.Stop Go.Stop Go.Extern

def sqQ (q : Sq) (L s0 s1 s2 s3 : Value) : Value := sqV q.k q.m q.a q.b q.c q.d q.x q.y L s0 s1 s2 s3
/-- an error that is a code, in every world -/
def KcPost (w : World) (f : Fall) (e : Ending) (w' : World) : Prop := ∃ x, e = .returned x ∧ (∀ W, ErrIs W f x) ∧ Ext w w'
theorem KcPost.none {w w' : World} {f : Fall} (h : f = none) (k : Ext w w') : KcPost w f (.returned .nilIface) w' := ⟨_, rfl, fun W => by rw [h]; exact rfl, k⟩
theorem KcPost.code {w w' : World} {f : Fall} {c : Int} (h : f = some ([], c)) (hc : c ≠ 0) (k : Ext w w') : KcPost w f (.returned (.iface 43 (.int .i64 c))) w' := ⟨_, rfl, fun W => by rw [h]; exact ErrIs.code hc, k⟩
theorem ints4 {w : World} {B : Nat} {v0 v1 v6 v7 v8 v9 v10 v11 v12 : Value} {a b c d : Int} {T : TypeId} (h : BoxIs w B #[v0, v1, .int .i64 a, .int .i64 b, .int .i64 c, .int .i64 d, v6, v7, v8, v9, v10, v11, v12] T) : Ints w (.slice (some ⟨B, 2, none⟩) 4 4) [a, b, c, d] := by
  refine ⟨⟨_, 4, rfl, Nat.le_refl 4, by show 4 ≤ maxLen; decide, fun _ => ⟨B, 2, rfl⟩, ?_⟩, by show 4 ≤ 4611686018427387903; decide⟩
  intro g off e j u hj
  simp only [Option.some.injEq, Addr.mk.injEq, and_true] at e
  obtain ⟨rfl, rfl⟩ := e
  match j, hj with
  | 0, hj => simp at hj; subst hj; exact h.cell rfl
  | 1, hj => simp at hj; subst hj; exact h.cell rfl
  | 2, hj => simp at hj; subst hj; exact h.cell rfl
  | 3, hj => simp at hj; subst hj; exact h.cell rfl
  | n + 4, hj => simp at hj
theorem any_md (a b c d : Int) : [a, b, c, d].any noMd = !(isM a && isM b && isM c && isM d) := by
  simp only [List.any_cons, List.any_nil, noMd, Bool.or_false, Bool.not_and, Bool.or_assoc]
def SlF (v : Value) : Prop := ∃ a n c, v = .slice a n c
theorem Ints.slf {w : World} {v : Value} {zs : List Int} (h : Ints w v zs) : SlF v := by
  obtain ⟨a, c, e⟩ := h.form
  exact ⟨a, _, c, e⟩
set_option maxRecDepth 20000 in
theorem chk_zero (f : Fall) (m a b c d x y : Int) (vL v0 v1 v2 v3 : Value) (w : World) (hf : f = none) (hL : SlF vL) (h0 : SlF v0) (h1 : SlF v1) (h2 : SlF v2) (h3 : SlF v3) : Calls Tryz.prog 36 #[.bool false, sqV 0 m a b c d x y vL v0 v1 v2 v3] w (KcPost w f) := by
  obtain ⟨aL, nL, cL, rfl⟩ := hL
  obtain ⟨a0, n0, c0, rfl⟩ := h0
  obtain ⟨a1, n1, c1, rfl⟩ := h1
  obtain ⟨a2, n2, c2, rfl⟩ := h2
  obtain ⟨a3, n3, c3, rfl⟩ := h3
  unfold sqV
  go_enter Tryz.func36, Tryz.ntmps36
  go_wp2
  go_ret
  exact KcPost.none hf ((Ext.refl w).alloc _)
set_option maxRecDepth 20000 in
set_option maxHeartbeats 1000000 in
theorem chk_bad (key : Bool) (f : Fall) (k m a b c d x y : Int) (vL v0 v1 v2 v3 : Value) (w : World) (hk : okK key k = false) (hf : f = kndF) (hL : SlF vL) (h0 : SlF v0) (h1 : SlF v1) (h2 : SlF v2) (h3 : SlF v3) : Calls Tryz.prog 36 #[.bool key, sqV k m a b c d x y vL v0 v1 v2 v3] w (KcPost w f) := by
  obtain ⟨aL, nL, cL, rfl⟩ := hL
  obtain ⟨a0, n0, c0, rfl⟩ := h0
  obtain ⟨a1, n1, c1, rfl⟩ := h1
  obtain ⟨a2, n2, c2, rfl⟩ := h2
  obtain ⟨a3, n3, c3, rfl⟩ := h3
  have HF := Lib.hid hf
  clear hf
  unfold sqV
  by_cases k1 : k < 0
  · clear hk
    go_enter Tryz.func36, Tryz.ntmps36
    go_wp2
    go_ret
    exact KcPost.code HF.out (by decide) ((Ext.refl w).alloc _)
  · by_cases k2 : 3 < k
    · clear hk
      go_enter Tryz.func36, Tryz.ntmps36
      go_wp2
      go_ret
      exact KcPost.code HF.out (by decide) ((Ext.refl w).alloc _)
    · cases key
      · exfalso
        simp only [okK, Bool.false_and, Bool.not_false, Bool.and_true, Bool.and_eq_false_iff, decide_eq_false_iff_not] at hk
        omega
      · have k3 : k < 2 := by
          simp only [okK, Bool.true_and, Bool.not_eq_false', Bool.and_eq_false_iff, decide_eq_false_iff_not, decide_eq_true_eq] at hk
          omega
        clear hk
        go_enter Tryz.func36, Tryz.ntmps36
        go_wp2
        go_ret
        exact KcPost.code HF.out (by decide) ((Ext.refl w).alloc _)
set_option maxRecDepth 20000 in
set_option maxHeartbeats 1000000 in
theorem chk_one (f : Fall) (m a b c d x y : Int) (l : List Int) (vL v0 v1 v2 v3 : Value) (w : World) (hf : f = if vec2 x y then lvE l 64 else range) (hL : Ints w vL l) (h0 : SlF v0) (h1 : SlF v1) (h2 : SlF v2) (h3 : SlF v3) : Calls Tryz.prog 36 #[.bool false, sqV 1 m a b c d x y vL v0 v1 v2 v3] w (KcPost w f) := by
  have U := Lib.hid (fun w' (h : Ext w w') => chkl_any l 64 vL w' (hL.ext h))
  obtain ⟨aL, nL, cL, rfl⟩ := hL.slf
  obtain ⟨a0, n0, c0, rfl⟩ := h0
  obtain ⟨a1, n1, c1, rfl⟩ := h1
  obtain ⟨a2, n2, c2, rfl⟩ := h2
  obtain ⟨a3, n3, c3, rfl⟩ := h3
  clear hL
  have B0 := BoxIs.new w #[.int .i64 1, .int .i64 m, .int .i64 a, .int .i64 b, .int .i64 c, .int .i64 d, .int .i64 x, .int .i64 y, .slice aL nL cL, .slice a0 n0 c0, .slice a1 n1 c1, .slice a2 n2 c2, .slice a3 n3 c3] 36
  have E0 := (Ext.refl w).alloc (.cells #[.int .i64 1, .int .i64 m, .int .i64 a, .int .i64 b, .int .i64 c, .int .i64 d, .int .i64 x, .int .i64 y, .slice aL nL cL, .slice a0 n0 c0, .slice a1 n1 c1, .slice a2 n2 c2, .slice a3 n3 c3] 36)
  obtain ⟨u, hu⟩ : ∃ z, w.alloc (.cells #[.int .i64 1, .int .i64 m, .int .i64 a, .int .i64 b, .int .i64 c, .int .i64 d, .int .i64 x, .int .i64 y, .slice aL nL cL, .slice a0 n0 c0, .slice a1 n1 c1, .slice a2 n2 c2, .slice a3 n3 c3] 36) = z := ⟨_, rfl⟩
  rw [hu] at B0 E0
  have HB := Lib.hid B0
  have HE := Lib.hid E0
  have HU := Lib.hid hu
  clear B0 E0 hu
  obtain ⟨V, hV⟩ : ∃ V, vec2 x y = V := ⟨_, rfl⟩
  rw [hV] at hf
  have UV := Lib.hid (fun w => isVec_call x y w)
  rw [hV] at UV
  have HF := Lib.hid hf
  clear hf hV
  obtain ⟨⟨g0, g1, g2, g3, g4, g5, g6, g7, g8, g9, g10, g11, g12⟩, -⟩ := sq_cells HB.out
  unfold sqV
  go_enter Tryz.func36, Tryz.ntmps36
  go_wp2_with fail
  rw [HU.out]
  refine (UV.out _).mono ?_; rintro e w1 ⟨rfl, hx1⟩
  have E1 := Lib.hid hx1
  have e1 := E1.out
  obtain ⟨⟨g0, g1, g2, g3, g4, g5, g6, g7, g8, g9, g10, g11, g12⟩, -⟩ := sq_cells (HB.out.ext E1.out)
  cases V
  · go_wp2
    go_ret
    exact KcPost.code HF.out (by decide) (HE.out.trans E1.out)
  · go_wp2_with fail
    refine (U.out _ (HE.out.trans E1.out)).mono ?_; rintro e w2 ⟨x2, rfl, hx2, rfl⟩
    go_wp2
    go_ret
    exact ⟨x2, rfl, fun W => by rw [HF.out]; exact hx2 W, HE.out.trans E1.out⟩
set_option maxRecDepth 20000 in
set_option maxHeartbeats 1000000 in
theorem chk_two (key : Bool) (f : Fall) (m a b c d x y : Int) (l : List Int) (vL v0 v1 v2 v3 : Value) (w : World) (hf : f = if noMd m then range else lvE l 64) (hL : Ints w vL l) (h0 : SlF v0) (h1 : SlF v1) (h2 : SlF v2) (h3 : SlF v3) : Calls Tryz.prog 36 #[.bool key, sqV 2 m a b c d x y vL v0 v1 v2 v3] w (KcPost w f) := by
  have U := Lib.hid (fun w' (h : Ext w w') => chkl_any l 64 vL w' (hL.ext h))
  obtain ⟨aL, nL, cL, rfl⟩ := hL.slf
  obtain ⟨a0, n0, c0, rfl⟩ := h0
  obtain ⟨a1, n1, c1, rfl⟩ := h1
  obtain ⟨a2, n2, c2, rfl⟩ := h2
  obtain ⟨a3, n3, c3, rfl⟩ := h3
  clear hL
  have B0 := BoxIs.new w #[.int .i64 2, .int .i64 m, .int .i64 a, .int .i64 b, .int .i64 c, .int .i64 d, .int .i64 x, .int .i64 y, .slice aL nL cL, .slice a0 n0 c0, .slice a1 n1 c1, .slice a2 n2 c2, .slice a3 n3 c3] 36
  have E0 := (Ext.refl w).alloc (.cells #[.int .i64 2, .int .i64 m, .int .i64 a, .int .i64 b, .int .i64 c, .int .i64 d, .int .i64 x, .int .i64 y, .slice aL nL cL, .slice a0 n0 c0, .slice a1 n1 c1, .slice a2 n2 c2, .slice a3 n3 c3] 36)
  obtain ⟨u, hu⟩ : ∃ z, w.alloc (.cells #[.int .i64 2, .int .i64 m, .int .i64 a, .int .i64 b, .int .i64 c, .int .i64 d, .int .i64 x, .int .i64 y, .slice aL nL cL, .slice a0 n0 c0, .slice a1 n1 c1, .slice a2 n2 c2, .slice a3 n3 c3] 36) = z := ⟨_, rfl⟩
  rw [hu] at B0 E0
  have HB := Lib.hid B0
  have HE := Lib.hid E0
  have HU := Lib.hid hu
  clear B0 E0 hu
  obtain ⟨V, hV⟩ : ∃ V, noMd m = V := ⟨_, rfl⟩
  rw [hV] at hf
  have UV := Lib.hid (fun w => noMd_call m w)
  rw [hV] at UV
  have HF := Lib.hid hf
  clear hf hV
  obtain ⟨⟨g0, g1, g2, g3, g4, g5, g6, g7, g8, g9, g10, g11, g12⟩, -⟩ := sq_cells HB.out
  unfold sqV
  cases key
  · go_enter Tryz.func36, Tryz.ntmps36
    go_wp2_with fail
    rw [HU.out]
    refine (UV.out _).mono ?_; rintro e w1 ⟨rfl, rfl⟩
    have E1 := Lib.hid (Ext.refl u)
    have e1 := E1.out
    obtain ⟨⟨g0, g1, g2, g3, g4, g5, g6, g7, g8, g9, g10, g11, g12⟩, -⟩ := sq_cells (HB.out.ext E1.out)
    cases V
    · go_wp2_with fail
      refine (U.out _ (HE.out.trans E1.out)).mono ?_; rintro e w2 ⟨x2, rfl, hx2, rfl⟩
      go_wp2
      go_ret
      exact ⟨x2, rfl, fun W => by rw [HF.out]; exact hx2 W, HE.out.trans E1.out⟩
    · go_wp2
      go_ret
      exact KcPost.code HF.out (by decide) (HE.out.trans E1.out)
  · go_enter Tryz.func36, Tryz.ntmps36
    go_wp2_with fail
    rw [HU.out]
    refine (UV.out _).mono ?_; rintro e w1 ⟨rfl, rfl⟩
    have E1 := Lib.hid (Ext.refl u)
    have e1 := E1.out
    obtain ⟨⟨g0, g1, g2, g3, g4, g5, g6, g7, g8, g9, g10, g11, g12⟩, -⟩ := sq_cells (HB.out.ext E1.out)
    cases V
    · go_wp2_with fail
      refine (U.out _ (HE.out.trans E1.out)).mono ?_; rintro e w2 ⟨x2, rfl, hx2, rfl⟩
      go_wp2
      go_ret
      exact ⟨x2, rfl, fun W => by rw [HF.out]; exact hx2 W, HE.out.trans E1.out⟩
    · go_wp2
      go_ret
      exact KcPost.code HF.out (by decide) (HE.out.trans E1.out)
set_option maxRecDepth 20000 in
set_option maxHeartbeats 2000000 in
theorem chk_three (key : Bool) (f : Fall) (m a b c d x y : Int) (l0 l1 l2 l3 : List Int) (vL v0 v1 v2 v3 : Value) (w : World) (hf : f = if [a, b, c, d].any noMd then range else orF (lvE l0 16) (orF (lvE l1 16) (orF (lvE l2 16) (lvE l3 16)))) (hL : SlF vL) (h0 : Ints w v0 l0) (h1 : Ints w v1 l1) (h2 : Ints w v2 l2) (h3 : Ints w v3 l3) : Calls Tryz.prog 36 #[.bool key, sqV 3 m a b c d x y vL v0 v1 v2 v3] w (KcPost w f) := by
  have U0 := Lib.hid (fun w' (h : Ext w w') => chkl_any l0 16 v0 w' (h0.ext h))
  have U1 := Lib.hid (fun w' (h : Ext w w') => chkl_any l1 16 v1 w' (h1.ext h))
  have U2 := Lib.hid (fun w' (h : Ext w w') => chkl_any l2 16 v2 w' (h2.ext h))
  have U3 := Lib.hid (fun w' (h : Ext w w') => chkl_any l3 16 v3 w' (h3.ext h))
  obtain ⟨aL, nL, cL, rfl⟩ := hL
  obtain ⟨a0, n0, c0, rfl⟩ := h0.slf
  obtain ⟨a1, n1, c1, rfl⟩ := h1.slf
  obtain ⟨a2, n2, c2, rfl⟩ := h2.slf
  obtain ⟨a3, n3, c3, rfl⟩ := h3.slf
  clear h0 h1 h2 h3
  have B0 := BoxIs.new w #[.int .i64 3, .int .i64 m, .int .i64 a, .int .i64 b, .int .i64 c, .int .i64 d, .int .i64 x, .int .i64 y, .slice aL nL cL, .slice a0 n0 c0, .slice a1 n1 c1, .slice a2 n2 c2, .slice a3 n3 c3] 36
  have E0 := (Ext.refl w).alloc (.cells #[.int .i64 3, .int .i64 m, .int .i64 a, .int .i64 b, .int .i64 c, .int .i64 d, .int .i64 x, .int .i64 y, .slice aL nL cL, .slice a0 n0 c0, .slice a1 n1 c1, .slice a2 n2 c2, .slice a3 n3 c3] 36)
  obtain ⟨u, hu⟩ : ∃ z, w.alloc (.cells #[.int .i64 3, .int .i64 m, .int .i64 a, .int .i64 b, .int .i64 c, .int .i64 d, .int .i64 x, .int .i64 y, .slice aL nL cL, .slice a0 n0 c0, .slice a1 n1 c1, .slice a2 n2 c2, .slice a3 n3 c3] 36) = z := ⟨_, rfl⟩
  rw [hu] at B0 E0
  have HB := Lib.hid B0
  have HE := Lib.hid E0
  have HU := Lib.hid hu
  clear B0 E0 hu
  obtain ⟨V, hV⟩ : ∃ V, [a, b, c, d].any noMd = V := ⟨_, rfl⟩
  have UV := Lib.hid (fun (h : Ints u (.slice (some ⟨w.heap.size, 2, none⟩) 4 4) [a, b, c, d]) => noMd_has [a, b, c, d] _ _ h)
  rw [hV] at hf UV
  have HF := Lib.hid hf
  clear hf hV
  obtain ⟨⟨g0, g1, g2, g3, g4, g5, g6, g7, g8, g9, g10, g11, g12⟩, -⟩ := sq_cells HB.out
  have ix0 : ∀ w : World, (Instr.index 34 (.agg #[.slice a0 n0 c0, .slice a1 n1 c1, .slice a2 n2 c2, .slice a3 n3 c3]) (.int .i64 0)).run Tryz.prog w = .ok (.slice a0 n0 c0) w := fun _ => by kernel_rfl
  have ix1 : ∀ w : World, (Instr.index 34 (.agg #[.slice a0 n0 c0, .slice a1 n1 c1, .slice a2 n2 c2, .slice a3 n3 c3]) (.int .i64 1)).run Tryz.prog w = .ok (.slice a1 n1 c1) w := fun _ => by kernel_rfl
  have ix2 : ∀ w : World, (Instr.index 34 (.agg #[.slice a0 n0 c0, .slice a1 n1 c1, .slice a2 n2 c2, .slice a3 n3 c3]) (.int .i64 2)).run Tryz.prog w = .ok (.slice a2 n2 c2) w := fun _ => by kernel_rfl
  have ix3 : ∀ w : World, (Instr.index 34 (.agg #[.slice a0 n0 c0, .slice a1 n1 c1, .slice a2 n2 c2, .slice a3 n3 c3]) (.int .i64 3)).run Tryz.prog w = .ok (.slice a3 n3 c3) w := fun _ => by kernel_rfl
  unfold sqV
  cases key
  · go_enter Tryz.func36, Tryz.ntmps36
    go_wp2_with fail
    rw [HU.out]
    refine (UV.out (ints4 HB.out)).mono ?_; rintro e w1 ⟨rfl, rfl⟩
    cases V
    · go_wp2_with fail
      refine wp_loop_rounds 5 ?_
      rw [rounds_succ]
      go_wp2_with fail
      refine (U0.out _ HE.out).mono ?_; rintro e w2 ⟨x0, rfl, hx0, rfl⟩
      obtain ⟨f0, hf0⟩ : ∃ f, lvE l0 16 = f := ⟨_, rfl⟩
      rw [hf0] at HF hx0
      clear hf0
      cases f0 with
      | some e0 =>
        obtain ⟨xt, xv, rfl⟩ := ErrIs.ne (hx0 u)
        go_wp2
        go_ret
        exact ⟨_, rfl, fun W => by rw [HF.out]; exact hx0 W, HE.out⟩
      | none =>
        obtain rfl : x0 = .nilIface := hx0 u
        clear hx0
        go_wp2_with fail
        rw [rounds_succ]
        go_wp2_with fail
        refine (U1.out _ HE.out).mono ?_; rintro e w2 ⟨x1, rfl, hx1, rfl⟩
        obtain ⟨f1, hf1⟩ : ∃ f, lvE l1 16 = f := ⟨_, rfl⟩
        rw [hf1] at HF hx1
        clear hf1
        cases f1 with
        | some e1 =>
          obtain ⟨xt, xv, rfl⟩ := ErrIs.ne (hx1 u)
          go_wp2
          go_ret
          exact ⟨_, rfl, fun W => by rw [HF.out]; exact hx1 W, HE.out⟩
        | none =>
          obtain rfl : x1 = .nilIface := hx1 u
          clear hx1
          go_wp2_with fail
          rw [rounds_succ]
          go_wp2_with fail
          refine (U2.out _ HE.out).mono ?_; rintro e w2 ⟨x2, rfl, hx2, rfl⟩
          obtain ⟨f2, hf2⟩ : ∃ f, lvE l2 16 = f := ⟨_, rfl⟩
          rw [hf2] at HF hx2
          clear hf2
          cases f2 with
          | some e2 =>
            obtain ⟨xt, xv, rfl⟩ := ErrIs.ne (hx2 u)
            go_wp2
            go_ret
            exact ⟨_, rfl, fun W => by rw [HF.out]; exact hx2 W, HE.out⟩
          | none =>
            obtain rfl : x2 = .nilIface := hx2 u
            clear hx2
            go_wp2_with fail
            rw [rounds_succ]
            go_wp2_with fail
            refine (U3.out _ HE.out).mono ?_; rintro e w2 ⟨x3, rfl, hx3, rfl⟩
            obtain ⟨f3, hf3⟩ : ∃ f, lvE l3 16 = f := ⟨_, rfl⟩
            rw [hf3] at HF hx3
            clear hf3
            cases f3 with
            | some e3 =>
              obtain ⟨xt, xv, rfl⟩ := ErrIs.ne (hx3 u)
              go_wp2
              go_ret
              exact ⟨_, rfl, fun W => by rw [HF.out]; exact hx3 W, HE.out⟩
            | none =>
              obtain rfl : x3 = .nilIface := hx3 u
              clear hx3
              go_wp2_with fail
              rw [rounds_succ]
              go_wp2
              go_ret
              exact KcPost.none HF.out HE.out
    · go_wp2
      go_ret
      exact KcPost.code HF.out (by decide) HE.out
  · go_enter Tryz.func36, Tryz.ntmps36
    go_wp2_with fail
    rw [HU.out]
    refine (UV.out (ints4 HB.out)).mono ?_; rintro e w1 ⟨rfl, rfl⟩
    cases V
    · go_wp2_with fail
      refine wp_loop_rounds 5 ?_
      rw [rounds_succ]
      go_wp2_with fail
      refine (U0.out _ HE.out).mono ?_; rintro e w2 ⟨x0, rfl, hx0, rfl⟩
      obtain ⟨f0, hf0⟩ : ∃ f, lvE l0 16 = f := ⟨_, rfl⟩
      rw [hf0] at HF hx0
      clear hf0
      cases f0 with
      | some e0 =>
        obtain ⟨xt, xv, rfl⟩ := ErrIs.ne (hx0 u)
        go_wp2
        go_ret
        exact ⟨_, rfl, fun W => by rw [HF.out]; exact hx0 W, HE.out⟩
      | none =>
        obtain rfl : x0 = .nilIface := hx0 u
        clear hx0
        go_wp2_with fail
        rw [rounds_succ]
        go_wp2_with fail
        refine (U1.out _ HE.out).mono ?_; rintro e w2 ⟨x1, rfl, hx1, rfl⟩
        obtain ⟨f1, hf1⟩ : ∃ f, lvE l1 16 = f := ⟨_, rfl⟩
        rw [hf1] at HF hx1
        clear hf1
        cases f1 with
        | some e1 =>
          obtain ⟨xt, xv, rfl⟩ := ErrIs.ne (hx1 u)
          go_wp2
          go_ret
          exact ⟨_, rfl, fun W => by rw [HF.out]; exact hx1 W, HE.out⟩
        | none =>
          obtain rfl : x1 = .nilIface := hx1 u
          clear hx1
          go_wp2_with fail
          rw [rounds_succ]
          go_wp2_with fail
          refine (U2.out _ HE.out).mono ?_; rintro e w2 ⟨x2, rfl, hx2, rfl⟩
          obtain ⟨f2, hf2⟩ : ∃ f, lvE l2 16 = f := ⟨_, rfl⟩
          rw [hf2] at HF hx2
          clear hf2
          cases f2 with
          | some e2 =>
            obtain ⟨xt, xv, rfl⟩ := ErrIs.ne (hx2 u)
            go_wp2
            go_ret
            exact ⟨_, rfl, fun W => by rw [HF.out]; exact hx2 W, HE.out⟩
          | none =>
            obtain rfl : x2 = .nilIface := hx2 u
            clear hx2
            go_wp2_with fail
            rw [rounds_succ]
            go_wp2_with fail
            refine (U3.out _ HE.out).mono ?_; rintro e w2 ⟨x3, rfl, hx3, rfl⟩
            obtain ⟨f3, hf3⟩ : ∃ f, lvE l3 16 = f := ⟨_, rfl⟩
            rw [hf3] at HF hx3
            clear hf3
            cases f3 with
            | some e3 =>
              obtain ⟨xt, xv, rfl⟩ := ErrIs.ne (hx3 u)
              go_wp2
              go_ret
              exact ⟨_, rfl, fun W => by rw [HF.out]; exact hx3 W, HE.out⟩
            | none =>
              obtain rfl : x3 = .nilIface := hx3 u
              clear hx3
              go_wp2_with fail
              rw [rounds_succ]
              go_wp2
              go_ret
              exact KcPost.none HF.out HE.out
    · go_wp2
      go_ret
      exact KcPost.code HF.out (by decide) HE.out
end Go.Proofs.YtpofabebmeickaaGreatDoor

/- syntax.check whole; (*syntax.Square).take; syntax.codeKind. -/
namespace Go.Proofs.YtpofabebmeickaaGreatDoor
set_option linter.unusedVariables false
set_option linter.unusedSimpArgs false
open Go.RowKit Go.Extern.Stop Go.Stop Go.Extern

theorem check_any (key : Bool) (q : Sq) (L s0 s1 s2 s3 : Value) (w : World) (h : SqIs w q L s0 s1 s2 s3) : Calls Tryz.prog 36 #[.bool key, sqQ q L s0 s1 s2 s3] w (KcPost w (askE key q)) := by
  obtain ⟨hL, h0, h1, h2, h3⟩ := h
  obtain ⟨k, m, a, b, c, d, x, y, l, l0, l1, l2, l3⟩ := q
  unfold sqQ
  dsimp only at *
  cases hk : okK key k
  · refine chk_bad key _ k m a b c d x y _ _ _ _ _ w hk ?_ hL.slf h0.slf h1.slf h2.slf h3.slf
    unfold askE
    rw [if_neg (by rw [hk]; decide)]
  · have hk2 := hk
    simp only [okK, Bool.and_eq_true, Bool.not_eq_true', decide_eq_true_eq] at hk2
    rcases (by omega : k = 0 ∨ k = 1 ∨ k = 2 ∨ k = 3) with rfl | rfl | rfl | rfl
    · cases key
      · exact chk_zero _ m a b c d x y _ _ _ _ _ w rfl hL.slf h0.slf h1.slf h2.slf h3.slf
      · simp at hk2
    · cases key
      · refine chk_one _ m a b c d x y l _ _ _ _ _ w ?_ hL h0.slf h1.slf h2.slf h3.slf
        show (if (isV x && isV y) = true then lvE l 64 else range) = _
        rfl
      · simp at hk2
    · refine chk_two key _ m a b c d x y l _ _ _ _ _ w ?_ hL h0.slf h1.slf h2.slf h3.slf
      unfold askE
      rw [if_pos hk]
      show (if isM m = true then lvE l 64 else range) = if noMd m = true then range else lvE l 64
      unfold noMd
      cases isM m <;> rfl
    · refine chk_three key _ m a b c d x y l0 l1 l2 l3 _ _ _ _ _ w ?_ hL.slf h0 h1 h2 h3
      unfold askE
      rw [if_pos hk, any_md]
      show (if (isM a && isM b && isM c && isM d) = true then _ else range) = if (!(isM a && isM b && isM c && isM d)) = true then range else _
      cases (isM a && isM b && isM c && isM d) <;> rfl

set_option maxRecDepth 20000 in
set_option maxHeartbeats 2000000 in
theorem tak_1 (p : Nat) (m a b c d x y : Int) (vL v0 v1 v2 v3 : Value) (k0 k1 k2 k3 k4 k5 k6 k7 k8 k9 k10 k11 k12 : Value) (w : World) (h : BoxIs w p #[k0, k1, k2, k3, k4, k5, k6, k7, k8, k9, k10, k11, k12] 36) (hL : SlF vL) (h0 : SlF v0) (h1 : SlF v1) (h2 : SlF v2) (h3 : SlF v3) : Calls Tryz.prog 37 #[.pointer (some ⟨p, 0, none⟩), sqV 1 m a b c d x y vL v0 v1 v2 v3] w fun e w' => e = .returned (.tuple #[]) ∧ BoxIs w' p #[k0, k1, k2, k3, k4, k5, .int .i64 x, .int .i64 y, vL, k9, k10, k11, k12] 36 ∧ Kp p w w' := by
  obtain ⟨aL, nL, cL, rfl⟩ := hL
  obtain ⟨a0, n0, c0, rfl⟩ := h0
  obtain ⟨a1, n1, c1, rfl⟩ := h1
  obtain ⟨a2, n2, c2, rfl⟩ := h2
  obtain ⟨a3, n3, c3, rfl⟩ := h3
  have hne : w.heap.size ≠ p := fun e => Nat.lt_irrefl _ (e ▸ h.lt)
  have B0 := BoxIs.new w #[.int .i64 1, .int .i64 m, .int .i64 a, .int .i64 b, .int .i64 c, .int .i64 d, .int .i64 x, .int .i64 y, .slice aL nL cL, .slice a0 n0 c0, .slice a1 n1 c1, .slice a2 n2 c2, .slice a3 n3 c3] 36
  have E0 := (Ext.refl w).alloc (.cells #[.int .i64 1, .int .i64 m, .int .i64 a, .int .i64 b, .int .i64 c, .int .i64 d, .int .i64 x, .int .i64 y, .slice aL nL cL, .slice a0 n0 c0, .slice a1 n1 c1, .slice a2 n2 c2, .slice a3 n3 c3] 36)
  obtain ⟨u, hu⟩ : ∃ z, w.alloc (.cells #[.int .i64 1, .int .i64 m, .int .i64 a, .int .i64 b, .int .i64 c, .int .i64 d, .int .i64 x, .int .i64 y, .slice aL nL cL, .slice a0 n0 c0, .slice a1 n1 c1, .slice a2 n2 c2, .slice a3 n3 c3] 36) = z := ⟨_, rfl⟩
  rw [hu] at B0 E0
  have HB := Lib.hid B0
  have HE := Lib.hid E0
  have HU := Lib.hid hu
  have HP := Lib.hid (h.ext E0)
  clear B0 E0 hu h
  obtain ⟨⟨g0, g1, g2, g3, g4, g5, g6, g7, g8, g9, g10, g11, g12⟩, -⟩ := sq_cells HB.out
  unfold sqV
  go_enter Tryz.func37, Tryz.ntmps37
  go_wp2_with fail
  rw [HU.out]
  clear g0 g1 g2 g3 g4 g5 g6 g7 g8 g9 g10 g11 g12
  refine wp_region_held_drew (S := fun w' => w'.cell? ⟨w.heap.size, 6, none⟩ = some (.int .i64 x) ∧ w'.cell? ⟨w.heap.size, 7, none⟩ = some (.int .i64 y) ∧ w'.cell? ⟨w.heap.size, 8, none⟩ = some (.slice aL nL cL)) (by kernel_rfl) (⟨(HB.out.ext ((Ext.refl _).drew)).cell rfl, (HB.out.ext ((Ext.refl _).drew)).cell rfl, (HB.out.ext ((Ext.refl _).drew)).cell rfl⟩) (fun hHeld => ?_)
  refine wpAnyH_take (i := 0) (oi := { dst := some 8, op := Op.move (Operand.tmp 0), type := 128, pos := "syntax.go:118", after := #[], guard := none }) (v := ?_) rfl (by kernel_rfl) (by kernel_rfl) (by kernel_rfl) (fun _ _ _ h => h) (Or.inl ⟨by rfl, ?_⟩) (by assumption) ?_
  case refine_2 => (intro w hSw; (try dsimp only at hSw); go_simp; (try with_reducible rfl))
  try simp only [Act.put, List.setIfInBounds_toArray, List.set_cons_zero, List.set_cons_succ]
  refine wpAnyH_take (i := 1) (oi := { dst := some 9, op := Op.move (Operand.tmp 0), type := 128, pos := "syntax.go:118", after := #[{ on := 8, ground := Ground.gcOnly Departure.lateStores }], guard := none }) (v := ?_) rfl (by kernel_rfl) (by kernel_rfl) (by kernel_rfl) (fun _ _ _ h => h) (Or.inl ⟨by rfl, ?_⟩) (by assumption) ?_
  case refine_2 => (intro w hSw; (try dsimp only at hSw); go_simp; (try with_reducible rfl))
  try simp only [Act.put, List.setIfInBounds_toArray, List.set_cons_zero, List.set_cons_succ]
  refine wpAnyH_take (i := 2) (oi := { dst := some 10, op := Op.fieldAddr 36 (Operand.tmp 3) 3, type := 0, pos := "syntax.go:118", after := #[], guard := none }) (v := ?_) rfl (by kernel_rfl) (by kernel_rfl) (by kernel_rfl) (fun _ _ _ h => h) (Or.inl ⟨by rfl, ?_⟩) (by assumption) ?_
  case refine_2 => (intro w hSw; (try dsimp only at hSw); go_simp; (try with_reducible rfl))
  try simp only [Act.put, List.setIfInBounds_toArray, List.set_cons_zero, List.set_cons_succ]
  refine wpAnyH_take (i := 3) (oi := { dst := some 11, op := Op.load 32 (Operand.tmp 10), type := 32, pos := "syntax.go:118", after := #[{ on := 2, ground := Ground.data }], guard := none }) (v := ?_) rfl (by kernel_rfl) (by kernel_rfl) (by kernel_rfl) (fun _ _ _ h => h) (Or.inl ⟨by rfl, ?_⟩) (by assumption) ?_
  case refine_2 => (intro w hSw; (try dsimp only at hSw); go_simp; (try with_reducible rfl))
  try simp only [Act.put, List.setIfInBounds_toArray, List.set_cons_zero, List.set_cons_succ]
  refine wpAnyH_take (i := 4) (oi := { dst := some 12, op := Op.fieldAddr 36 (Operand.tmp 3) 4, type := 0, pos := "syntax.go:118", after := #[{ on := 8, ground := Ground.gcOnly Departure.lateStores }], guard := none }) (v := ?_) rfl (by kernel_rfl) (by kernel_rfl) (by kernel_rfl) (fun _ _ _ h => h) (Or.inl ⟨by rfl, ?_⟩) (by assumption) ?_
  case refine_2 => (intro w hSw; (try dsimp only at hSw); go_simp; (try with_reducible rfl))
  try simp only [Act.put, List.setIfInBounds_toArray, List.set_cons_zero, List.set_cons_succ]
  refine wpAnyH_take (i := 5) (oi := { dst := some 13, op := Op.load 33 (Operand.tmp 12), type := 33, pos := "syntax.go:118", after := #[{ on := 4, ground := Ground.data }, { on := 8, ground := Ground.gcOnly Departure.lateStores }], guard := none }) (v := ?_) rfl (by kernel_rfl) (by kernel_rfl) (by kernel_rfl) (fun _ _ _ h => h) (Or.inl ⟨by rfl, ?_⟩) (by assumption) ?_
  case refine_2 => (intro w hSw; (try dsimp only at hSw); go_simp; (try with_reducible rfl))
  try simp only [Act.put, List.setIfInBounds_toArray, List.set_cons_zero, List.set_cons_succ]
  refine wpAnyH_take (i := 6) (oi := { dst := some 14, op := Op.nilCheck (Operand.tmp 8), type := 0, pos := "syntax.go:118", after := #[{ on := 0, ground := Ground.data }, { on := 0, ground := Ground.phase }, { on := 1, ground := Ground.textOnly Departure.lateStores }, { on := 2, ground := Ground.phase }, { on := 3, ground := Ground.phase }, { on := 4, ground := Ground.textOnly Departure.lateStores }, { on := 5, ground := Ground.textOnly Departure.lateStores }], guard := none }) (v := ?_) rfl (by kernel_rfl) (by kernel_rfl) (by kernel_rfl) (fun _ _ _ h => h) (Or.inl ⟨by rfl, ?_⟩) (by assumption) ?_
  case refine_2 => (intro w hSw; (try dsimp only at hSw); go_simp; (try with_reducible rfl))
  try simp only [Act.put, List.setIfInBounds_toArray, List.set_cons_zero, List.set_cons_succ]
  refine wpAnyH_take (i := 7) (oi := { dst := some 15, op := Op.fieldAddr 36 (Operand.tmp 14) 3, type := 0, pos := "syntax.go:118", after := #[{ on := 6, ground := Ground.data }, { on := 0, ground := Ground.phase }, { on := 1, ground := Ground.textOnly Departure.lateStores }, { on := 2, ground := Ground.phase }, { on := 3, ground := Ground.phase }, { on := 4, ground := Ground.textOnly Departure.lateStores }, { on := 5, ground := Ground.textOnly Departure.lateStores }], guard := none }) (v := ?_) rfl (by kernel_rfl) (by kernel_rfl) (by kernel_rfl) (fun _ _ _ h => h) (Or.inl ⟨by rfl, ?_⟩) (by assumption) ?_
  case refine_2 => (intro w hSw; (try dsimp only at hSw); go_simp; (try with_reducible rfl))
  try simp only [Act.put, List.setIfInBounds_toArray, List.set_cons_zero, List.set_cons_succ]
  have HP1 := Lib.hid HP.out
  obtain ⟨⟨c0', c1', c2', c3', c4', c5', c6', c7', c8', c9', c10', c11', c12'⟩, f0, f1, f2, f3, f4, f5, f6, f7, f8, f9, f10, f11, f12⟩ := sq_cells HP1.out
  refine wpAnyH_ready (rs := [8]) (by kernel_rfl) (by simp) ?_
  refine AllReadyH.cons (o := { dst := none, op := Op.store 32 (Operand.tmp 15) (Operand.tmp 11), type := 0, pos := "syntax.go:118", after := #[{ on := 7, ground := Ground.data }, { on := 3, ground := Ground.data }, { on := 0, ground := Ground.phase }, { on := 1, ground := Ground.textOnly Departure.lateStores }, { on := 2, ground := Ground.phase }, { on := 3, ground := Ground.phase }, { on := 4, ground := Ground.textOnly Departure.lateStores }, { on := 5, ground := Ground.textOnly Departure.lateStores }], guard := none }) rfl (fun K hK => ?_) AllReadyH.nil
  go_simp
  refine hK.out _ _ (⟨((((HB.out).other (p := ⟨p, 6, none⟩) (Ne.symm hne) _).other (p := ⟨p, 7, none⟩) (Ne.symm hne) _).ext ((Ext.refl _).drew)).cell rfl, ((((HB.out).other (p := ⟨p, 6, none⟩) (Ne.symm hne) _).other (p := ⟨p, 7, none⟩) (Ne.symm hne) _).ext ((Ext.refl _).drew)).cell rfl, ((((HB.out).other (p := ⟨p, 6, none⟩) (Ne.symm hne) _).other (p := ⟨p, 7, none⟩) (Ne.symm hne) _).ext ((Ext.refl _).drew)).cell rfl⟩) (fun hHeld => ?_)
  clear hK K
  try simp only [Act.put, List.setIfInBounds_toArray, List.set_cons_zero, List.set_cons_succ]
  refine wpAnyH_take (i := 9) (oi := { dst := some 16, op := Op.nilCheck (Operand.tmp 9), type := 0, pos := "syntax.go:118", after := #[{ on := 1, ground := Ground.data }, { on := 0, ground := Ground.phase }, { on := 1, ground := Ground.phase }, { on := 2, ground := Ground.phase }, { on := 3, ground := Ground.phase }, { on := 4, ground := Ground.phase }, { on := 5, ground := Ground.phase }, { on := 6, ground := Ground.phase }, { on := 7, ground := Ground.phase }, { on := 8, ground := Ground.phase }], guard := none }) (v := ?_) rfl (by kernel_rfl) (by kernel_rfl) (by kernel_rfl) (fun _ _ _ h => h) (Or.inl ⟨by rfl, ?_⟩) (by assumption) ?_
  case refine_2 => (intro w hSw; (try dsimp only at hSw); go_simp; (try with_reducible rfl))
  try simp only [Act.put, List.setIfInBounds_toArray, List.set_cons_zero, List.set_cons_succ]
  refine wpAnyH_take (i := 10) (oi := { dst := some 17, op := Op.fieldAddr 36 (Operand.tmp 16) 4, type := 0, pos := "syntax.go:118", after := #[{ on := 9, ground := Ground.data }, { on := 0, ground := Ground.phase }, { on := 1, ground := Ground.phase }, { on := 2, ground := Ground.phase }, { on := 3, ground := Ground.phase }, { on := 4, ground := Ground.phase }, { on := 5, ground := Ground.phase }, { on := 6, ground := Ground.phase }, { on := 7, ground := Ground.phase }, { on := 8, ground := Ground.phase }], guard := none }) (v := ?_) rfl (by kernel_rfl) (by kernel_rfl) (by kernel_rfl) (fun _ _ _ h => h) (Or.inl ⟨by rfl, ?_⟩) (by assumption) ?_
  case refine_2 => (intro w hSw; (try dsimp only at hSw); go_simp; (try with_reducible rfl))
  try simp only [Act.put, List.setIfInBounds_toArray, List.set_cons_zero, List.set_cons_succ]
  refine wpAnyH_ready (rs := [11]) (by kernel_rfl) (by simp) ?_
  refine AllReadyH.cons (o := { dst := none, op := Op.store 33 (Operand.tmp 17) (Operand.tmp 13), type := 0, pos := "syntax.go:118", after := #[{ on := 10, ground := Ground.data }, { on := 5, ground := Ground.data }, { on := 8, ground := Ground.chain }, { on := 0, ground := Ground.phase }, { on := 1, ground := Ground.phase }, { on := 2, ground := Ground.phase }, { on := 3, ground := Ground.phase }, { on := 4, ground := Ground.phase }, { on := 5, ground := Ground.phase }, { on := 6, ground := Ground.phase }, { on := 7, ground := Ground.phase }, { on := 8, ground := Ground.phase }], guard := none }) rfl (fun K hK => ?_) AllReadyH.nil
  go_simp
  refine hK.out _ _ (⟨(((((HB.out).other (p := ⟨p, 6, none⟩) (Ne.symm hne) _).other (p := ⟨p, 7, none⟩) (Ne.symm hne) _).other (p := ⟨p, 8, none⟩) (Ne.symm hne) _).ext ((Ext.refl _).drew)).cell rfl, (((((HB.out).other (p := ⟨p, 6, none⟩) (Ne.symm hne) _).other (p := ⟨p, 7, none⟩) (Ne.symm hne) _).other (p := ⟨p, 8, none⟩) (Ne.symm hne) _).ext ((Ext.refl _).drew)).cell rfl, (((((HB.out).other (p := ⟨p, 6, none⟩) (Ne.symm hne) _).other (p := ⟨p, 7, none⟩) (Ne.symm hne) _).other (p := ⟨p, 8, none⟩) (Ne.symm hne) _).ext ((Ext.refl _).drew)).cell rfl⟩) (fun hHeld => ?_)
  clear hK K
  try simp only [Act.put, List.setIfInBounds_toArray, List.set_cons_zero, List.set_cons_succ]
  refine wpAnyH_done (by kernel_rfl) ?_ _
  clear c0' c1' c2' c3' c4' c5' c6' c7' c8' c9' c10' c11' c12' f0 f1 f2 f3 f4 f5 f6 f7 f8 f9 f10 f11 f12
  go_wp2
  go_end0
  refine ⟨rfl, ?_, ((((Kp.of_ext HE.out).set 6 _).set 7 _).set 8 _).ext ((Ext.refl _).drew)⟩
  have q0 : BoxIs (u.setCell ⟨p, 6, none⟩ (.int .i64 x)) p #[k0, k1, k2, k3, k4, k5, .int .i64 x, k7, k8, k9, k10, k11, k12] 36 := HP1.out.set (i := 6) (.int .i64 x)
  have q1 : BoxIs ((u.setCell ⟨p, 6, none⟩ (.int .i64 x)).setCell ⟨p, 7, none⟩ (.int .i64 y)) p #[k0, k1, k2, k3, k4, k5, .int .i64 x, .int .i64 y, k8, k9, k10, k11, k12] 36 := q0.set (i := 7) (.int .i64 y)
  have q2 : BoxIs (((u.setCell ⟨p, 6, none⟩ (.int .i64 x)).setCell ⟨p, 7, none⟩ (.int .i64 y)).setCell ⟨p, 8, none⟩ (.slice aL nL cL)) p #[k0, k1, k2, k3, k4, k5, .int .i64 x, .int .i64 y, .slice aL nL cL, k9, k10, k11, k12] 36 := q1.set (i := 8) (.slice aL nL cL)
  exact q2.ext ((Ext.refl _).drew)
set_option maxRecDepth 20000 in
set_option maxHeartbeats 2000000 in
theorem tak_2 (p : Nat) (m a b c d x y : Int) (vL v0 v1 v2 v3 : Value) (k0 k1 k2 k3 k4 k5 k6 k7 k8 k9 k10 k11 k12 : Value) (w : World) (h : BoxIs w p #[k0, k1, k2, k3, k4, k5, k6, k7, k8, k9, k10, k11, k12] 36) (hL : SlF vL) (h0 : SlF v0) (h1 : SlF v1) (h2 : SlF v2) (h3 : SlF v3) : Calls Tryz.prog 37 #[.pointer (some ⟨p, 0, none⟩), sqV 2 m a b c d x y vL v0 v1 v2 v3] w fun e w' => e = .returned (.tuple #[]) ∧ BoxIs w' p #[k0, .int .i64 m, k2, k3, k4, k5, k6, k7, vL, k9, k10, k11, k12] 36 ∧ Kp p w w' := by
  obtain ⟨aL, nL, cL, rfl⟩ := hL
  obtain ⟨a0, n0, c0, rfl⟩ := h0
  obtain ⟨a1, n1, c1, rfl⟩ := h1
  obtain ⟨a2, n2, c2, rfl⟩ := h2
  obtain ⟨a3, n3, c3, rfl⟩ := h3
  have hne : w.heap.size ≠ p := fun e => Nat.lt_irrefl _ (e ▸ h.lt)
  have B0 := BoxIs.new w #[.int .i64 2, .int .i64 m, .int .i64 a, .int .i64 b, .int .i64 c, .int .i64 d, .int .i64 x, .int .i64 y, .slice aL nL cL, .slice a0 n0 c0, .slice a1 n1 c1, .slice a2 n2 c2, .slice a3 n3 c3] 36
  have E0 := (Ext.refl w).alloc (.cells #[.int .i64 2, .int .i64 m, .int .i64 a, .int .i64 b, .int .i64 c, .int .i64 d, .int .i64 x, .int .i64 y, .slice aL nL cL, .slice a0 n0 c0, .slice a1 n1 c1, .slice a2 n2 c2, .slice a3 n3 c3] 36)
  obtain ⟨u, hu⟩ : ∃ z, w.alloc (.cells #[.int .i64 2, .int .i64 m, .int .i64 a, .int .i64 b, .int .i64 c, .int .i64 d, .int .i64 x, .int .i64 y, .slice aL nL cL, .slice a0 n0 c0, .slice a1 n1 c1, .slice a2 n2 c2, .slice a3 n3 c3] 36) = z := ⟨_, rfl⟩
  rw [hu] at B0 E0
  have HB := Lib.hid B0
  have HE := Lib.hid E0
  have HU := Lib.hid hu
  have HP := Lib.hid (h.ext E0)
  clear B0 E0 hu h
  obtain ⟨⟨g0, g1, g2, g3, g4, g5, g6, g7, g8, g9, g10, g11, g12⟩, -⟩ := sq_cells HB.out
  unfold sqV
  go_enter Tryz.func37, Tryz.ntmps37
  go_wp2_with fail
  rw [HU.out]
  clear g0 g1 g2 g3 g4 g5 g6 g7 g8 g9 g10 g11 g12
  refine wp_region_held_drew (S := fun w' => w'.cell? ⟨w.heap.size, 1, none⟩ = some (.int .i64 m) ∧ w'.cell? ⟨w.heap.size, 8, none⟩ = some (.slice aL nL cL)) (by kernel_rfl) (⟨(HB.out.ext ((Ext.refl _).drew)).cell rfl, (HB.out.ext ((Ext.refl _).drew)).cell rfl⟩) (fun hHeld => ?_)
  refine wpAnyH_take (i := 0) (oi := { dst := some 20, op := Op.move (Operand.tmp 0), type := 128, pos := "syntax.go:120", after := #[], guard := none }) (v := ?_) rfl (by kernel_rfl) (by kernel_rfl) (by kernel_rfl) (fun _ _ _ h => h) (Or.inl ⟨by rfl, ?_⟩) (by assumption) ?_
  case refine_2 => (intro w hSw; (try dsimp only at hSw); go_simp; (try with_reducible rfl))
  try simp only [Act.put, List.setIfInBounds_toArray, List.set_cons_zero, List.set_cons_succ]
  refine wpAnyH_take (i := 1) (oi := { dst := some 21, op := Op.move (Operand.tmp 0), type := 128, pos := "syntax.go:120", after := #[{ on := 8, ground := Ground.gcOnly Departure.lateStores }], guard := none }) (v := ?_) rfl (by kernel_rfl) (by kernel_rfl) (by kernel_rfl) (fun _ _ _ h => h) (Or.inl ⟨by rfl, ?_⟩) (by assumption) ?_
  case refine_2 => (intro w hSw; (try dsimp only at hSw); go_simp; (try with_reducible rfl))
  try simp only [Act.put, List.setIfInBounds_toArray, List.set_cons_zero, List.set_cons_succ]
  refine wpAnyH_take (i := 2) (oi := { dst := some 22, op := Op.fieldAddr 36 (Operand.tmp 3) 1, type := 0, pos := "syntax.go:120", after := #[], guard := none }) (v := ?_) rfl (by kernel_rfl) (by kernel_rfl) (by kernel_rfl) (fun _ _ _ h => h) (Or.inl ⟨by rfl, ?_⟩) (by assumption) ?_
  case refine_2 => (intro w hSw; (try dsimp only at hSw); go_simp; (try with_reducible rfl))
  try simp only [Act.put, List.setIfInBounds_toArray, List.set_cons_zero, List.set_cons_succ]
  refine wpAnyH_take (i := 3) (oi := { dst := some 23, op := Op.load 3 (Operand.tmp 22), type := 3, pos := "syntax.go:120", after := #[{ on := 2, ground := Ground.data }], guard := none }) (v := ?_) rfl (by kernel_rfl) (by kernel_rfl) (by kernel_rfl) (fun _ _ _ h => h) (Or.inl ⟨by rfl, ?_⟩) (by assumption) ?_
  case refine_2 => (intro w hSw; (try dsimp only at hSw); go_simp; (try with_reducible rfl))
  try simp only [Act.put, List.setIfInBounds_toArray, List.set_cons_zero, List.set_cons_succ]
  refine wpAnyH_take (i := 4) (oi := { dst := some 24, op := Op.fieldAddr 36 (Operand.tmp 3) 4, type := 0, pos := "syntax.go:120", after := #[{ on := 8, ground := Ground.gcOnly Departure.lateStores }], guard := none }) (v := ?_) rfl (by kernel_rfl) (by kernel_rfl) (by kernel_rfl) (fun _ _ _ h => h) (Or.inl ⟨by rfl, ?_⟩) (by assumption) ?_
  case refine_2 => (intro w hSw; (try dsimp only at hSw); go_simp; (try with_reducible rfl))
  try simp only [Act.put, List.setIfInBounds_toArray, List.set_cons_zero, List.set_cons_succ]
  refine wpAnyH_take (i := 5) (oi := { dst := some 25, op := Op.load 33 (Operand.tmp 24), type := 33, pos := "syntax.go:120", after := #[{ on := 4, ground := Ground.data }, { on := 8, ground := Ground.gcOnly Departure.lateStores }], guard := none }) (v := ?_) rfl (by kernel_rfl) (by kernel_rfl) (by kernel_rfl) (fun _ _ _ h => h) (Or.inl ⟨by rfl, ?_⟩) (by assumption) ?_
  case refine_2 => (intro w hSw; (try dsimp only at hSw); go_simp; (try with_reducible rfl))
  try simp only [Act.put, List.setIfInBounds_toArray, List.set_cons_zero, List.set_cons_succ]
  refine wpAnyH_take (i := 6) (oi := { dst := some 26, op := Op.nilCheck (Operand.tmp 20), type := 0, pos := "syntax.go:120", after := #[{ on := 0, ground := Ground.data }, { on := 0, ground := Ground.phase }, { on := 1, ground := Ground.textOnly Departure.lateStores }, { on := 2, ground := Ground.phase }, { on := 3, ground := Ground.phase }, { on := 4, ground := Ground.textOnly Departure.lateStores }, { on := 5, ground := Ground.textOnly Departure.lateStores }], guard := none }) (v := ?_) rfl (by kernel_rfl) (by kernel_rfl) (by kernel_rfl) (fun _ _ _ h => h) (Or.inl ⟨by rfl, ?_⟩) (by assumption) ?_
  case refine_2 => (intro w hSw; (try dsimp only at hSw); go_simp; (try with_reducible rfl))
  try simp only [Act.put, List.setIfInBounds_toArray, List.set_cons_zero, List.set_cons_succ]
  refine wpAnyH_take (i := 7) (oi := { dst := some 27, op := Op.fieldAddr 36 (Operand.tmp 26) 1, type := 0, pos := "syntax.go:120", after := #[{ on := 6, ground := Ground.data }, { on := 0, ground := Ground.phase }, { on := 1, ground := Ground.textOnly Departure.lateStores }, { on := 2, ground := Ground.phase }, { on := 3, ground := Ground.phase }, { on := 4, ground := Ground.textOnly Departure.lateStores }, { on := 5, ground := Ground.textOnly Departure.lateStores }], guard := none }) (v := ?_) rfl (by kernel_rfl) (by kernel_rfl) (by kernel_rfl) (fun _ _ _ h => h) (Or.inl ⟨by rfl, ?_⟩) (by assumption) ?_
  case refine_2 => (intro w hSw; (try dsimp only at hSw); go_simp; (try with_reducible rfl))
  try simp only [Act.put, List.setIfInBounds_toArray, List.set_cons_zero, List.set_cons_succ]
  have HP1 := Lib.hid HP.out
  obtain ⟨⟨c0', c1', c2', c3', c4', c5', c6', c7', c8', c9', c10', c11', c12'⟩, f0, f1, f2, f3, f4, f5, f6, f7, f8, f9, f10, f11, f12⟩ := sq_cells HP1.out
  refine wpAnyH_ready (rs := [8]) (by kernel_rfl) (by simp) ?_
  refine AllReadyH.cons (o := { dst := none, op := Op.store 3 (Operand.tmp 27) (Operand.tmp 23), type := 0, pos := "syntax.go:120", after := #[{ on := 7, ground := Ground.data }, { on := 3, ground := Ground.data }, { on := 0, ground := Ground.phase }, { on := 1, ground := Ground.textOnly Departure.lateStores }, { on := 2, ground := Ground.phase }, { on := 3, ground := Ground.phase }, { on := 4, ground := Ground.textOnly Departure.lateStores }, { on := 5, ground := Ground.textOnly Departure.lateStores }], guard := none }) rfl (fun K hK => ?_) AllReadyH.nil
  go_simp
  refine hK.out _ _ (⟨(((HB.out).other (p := ⟨p, 1, none⟩) (Ne.symm hne) _).ext ((Ext.refl _).drew)).cell rfl, (((HB.out).other (p := ⟨p, 1, none⟩) (Ne.symm hne) _).ext ((Ext.refl _).drew)).cell rfl⟩) (fun hHeld => ?_)
  clear hK K
  try simp only [Act.put, List.setIfInBounds_toArray, List.set_cons_zero, List.set_cons_succ]
  refine wpAnyH_take (i := 9) (oi := { dst := some 28, op := Op.nilCheck (Operand.tmp 21), type := 0, pos := "syntax.go:120", after := #[{ on := 1, ground := Ground.data }, { on := 0, ground := Ground.phase }, { on := 1, ground := Ground.phase }, { on := 2, ground := Ground.phase }, { on := 3, ground := Ground.phase }, { on := 4, ground := Ground.phase }, { on := 5, ground := Ground.phase }, { on := 6, ground := Ground.phase }, { on := 7, ground := Ground.phase }, { on := 8, ground := Ground.phase }], guard := none }) (v := ?_) rfl (by kernel_rfl) (by kernel_rfl) (by kernel_rfl) (fun _ _ _ h => h) (Or.inl ⟨by rfl, ?_⟩) (by assumption) ?_
  case refine_2 => (intro w hSw; (try dsimp only at hSw); go_simp; (try with_reducible rfl))
  try simp only [Act.put, List.setIfInBounds_toArray, List.set_cons_zero, List.set_cons_succ]
  refine wpAnyH_take (i := 10) (oi := { dst := some 29, op := Op.fieldAddr 36 (Operand.tmp 28) 4, type := 0, pos := "syntax.go:120", after := #[{ on := 9, ground := Ground.data }, { on := 0, ground := Ground.phase }, { on := 1, ground := Ground.phase }, { on := 2, ground := Ground.phase }, { on := 3, ground := Ground.phase }, { on := 4, ground := Ground.phase }, { on := 5, ground := Ground.phase }, { on := 6, ground := Ground.phase }, { on := 7, ground := Ground.phase }, { on := 8, ground := Ground.phase }], guard := none }) (v := ?_) rfl (by kernel_rfl) (by kernel_rfl) (by kernel_rfl) (fun _ _ _ h => h) (Or.inl ⟨by rfl, ?_⟩) (by assumption) ?_
  case refine_2 => (intro w hSw; (try dsimp only at hSw); go_simp; (try with_reducible rfl))
  try simp only [Act.put, List.setIfInBounds_toArray, List.set_cons_zero, List.set_cons_succ]
  refine wpAnyH_ready (rs := [11]) (by kernel_rfl) (by simp) ?_
  refine AllReadyH.cons (o := { dst := none, op := Op.store 33 (Operand.tmp 29) (Operand.tmp 25), type := 0, pos := "syntax.go:120", after := #[{ on := 10, ground := Ground.data }, { on := 5, ground := Ground.data }, { on := 8, ground := Ground.chain }, { on := 0, ground := Ground.phase }, { on := 1, ground := Ground.phase }, { on := 2, ground := Ground.phase }, { on := 3, ground := Ground.phase }, { on := 4, ground := Ground.phase }, { on := 5, ground := Ground.phase }, { on := 6, ground := Ground.phase }, { on := 7, ground := Ground.phase }, { on := 8, ground := Ground.phase }], guard := none }) rfl (fun K hK => ?_) AllReadyH.nil
  go_simp
  refine hK.out _ _ (⟨((((HB.out).other (p := ⟨p, 1, none⟩) (Ne.symm hne) _).other (p := ⟨p, 8, none⟩) (Ne.symm hne) _).ext ((Ext.refl _).drew)).cell rfl, ((((HB.out).other (p := ⟨p, 1, none⟩) (Ne.symm hne) _).other (p := ⟨p, 8, none⟩) (Ne.symm hne) _).ext ((Ext.refl _).drew)).cell rfl⟩) (fun hHeld => ?_)
  clear hK K
  try simp only [Act.put, List.setIfInBounds_toArray, List.set_cons_zero, List.set_cons_succ]
  refine wpAnyH_done (by kernel_rfl) ?_ _
  clear c0' c1' c2' c3' c4' c5' c6' c7' c8' c9' c10' c11' c12' f0 f1 f2 f3 f4 f5 f6 f7 f8 f9 f10 f11 f12
  go_wp2
  go_end0
  refine ⟨rfl, ?_, (((Kp.of_ext HE.out).set 1 _).set 8 _).ext ((Ext.refl _).drew)⟩
  have q0 : BoxIs (u.setCell ⟨p, 1, none⟩ (.int .i64 m)) p #[k0, .int .i64 m, k2, k3, k4, k5, k6, k7, k8, k9, k10, k11, k12] 36 := HP1.out.set (i := 1) (.int .i64 m)
  have q1 : BoxIs ((u.setCell ⟨p, 1, none⟩ (.int .i64 m)).setCell ⟨p, 8, none⟩ (.slice aL nL cL)) p #[k0, .int .i64 m, k2, k3, k4, k5, k6, k7, .slice aL nL cL, k9, k10, k11, k12] 36 := q0.set (i := 8) (.slice aL nL cL)
  exact q1.ext ((Ext.refl _).drew)
set_option maxRecDepth 20000 in
set_option maxHeartbeats 2000000 in
theorem tak_3 (p : Nat) (m a b c d x y : Int) (vL v0 v1 v2 v3 : Value) (k0 k1 k2 k3 k4 k5 k6 k7 k8 k9 k10 k11 k12 : Value) (w : World) (h : BoxIs w p #[k0, k1, k2, k3, k4, k5, k6, k7, k8, k9, k10, k11, k12] 36) (hL : SlF vL) (h0 : SlF v0) (h1 : SlF v1) (h2 : SlF v2) (h3 : SlF v3) : Calls Tryz.prog 37 #[.pointer (some ⟨p, 0, none⟩), sqV 3 m a b c d x y vL v0 v1 v2 v3] w fun e w' => e = .returned (.tuple #[]) ∧ BoxIs w' p #[k0, k1, .int .i64 a, .int .i64 b, .int .i64 c, .int .i64 d, k6, k7, k8, v0, v1, v2, v3] 36 ∧ Kp p w w' := by
  obtain ⟨aL, nL, cL, rfl⟩ := hL
  obtain ⟨a0, n0, c0, rfl⟩ := h0
  obtain ⟨a1, n1, c1, rfl⟩ := h1
  obtain ⟨a2, n2, c2, rfl⟩ := h2
  obtain ⟨a3, n3, c3, rfl⟩ := h3
  have hne : w.heap.size ≠ p := fun e => Nat.lt_irrefl _ (e ▸ h.lt)
  have B0 := BoxIs.new w #[.int .i64 3, .int .i64 m, .int .i64 a, .int .i64 b, .int .i64 c, .int .i64 d, .int .i64 x, .int .i64 y, .slice aL nL cL, .slice a0 n0 c0, .slice a1 n1 c1, .slice a2 n2 c2, .slice a3 n3 c3] 36
  have E0 := (Ext.refl w).alloc (.cells #[.int .i64 3, .int .i64 m, .int .i64 a, .int .i64 b, .int .i64 c, .int .i64 d, .int .i64 x, .int .i64 y, .slice aL nL cL, .slice a0 n0 c0, .slice a1 n1 c1, .slice a2 n2 c2, .slice a3 n3 c3] 36)
  obtain ⟨u, hu⟩ : ∃ z, w.alloc (.cells #[.int .i64 3, .int .i64 m, .int .i64 a, .int .i64 b, .int .i64 c, .int .i64 d, .int .i64 x, .int .i64 y, .slice aL nL cL, .slice a0 n0 c0, .slice a1 n1 c1, .slice a2 n2 c2, .slice a3 n3 c3] 36) = z := ⟨_, rfl⟩
  rw [hu] at B0 E0
  have HB := Lib.hid B0
  have HE := Lib.hid E0
  have HU := Lib.hid hu
  have HP := Lib.hid (h.ext E0)
  clear B0 E0 hu h
  obtain ⟨⟨g0, g1, g2, g3, g4, g5, g6, g7, g8, g9, g10, g11, g12⟩, -⟩ := sq_cells HB.out
  unfold sqV
  go_enter Tryz.func37, Tryz.ntmps37
  go_wp2_with fail
  rw [HU.out]
  clear g0 g1 g2 g3 g4 g5 g6 g7 g8 g9 g10 g11 g12
  refine wp_region_held_drew (S := fun w' => w'.cell? ⟨w.heap.size, 2, none⟩ = some (.int .i64 a) ∧ w'.cell? ⟨w.heap.size, 3, none⟩ = some (.int .i64 b) ∧ w'.cell? ⟨w.heap.size, 4, none⟩ = some (.int .i64 c) ∧ w'.cell? ⟨w.heap.size, 5, none⟩ = some (.int .i64 d) ∧ w'.cell? ⟨w.heap.size, 9, none⟩ = some (.slice a0 n0 c0) ∧ w'.cell? ⟨w.heap.size, 10, none⟩ = some (.slice a1 n1 c1) ∧ w'.cell? ⟨w.heap.size, 11, none⟩ = some (.slice a2 n2 c2) ∧ w'.cell? ⟨w.heap.size, 12, none⟩ = some (.slice a3 n3 c3)) (by kernel_rfl) (⟨(HB.out.ext ((Ext.refl _).drew)).cell rfl, (HB.out.ext ((Ext.refl _).drew)).cell rfl, (HB.out.ext ((Ext.refl _).drew)).cell rfl, (HB.out.ext ((Ext.refl _).drew)).cell rfl, (HB.out.ext ((Ext.refl _).drew)).cell rfl, (HB.out.ext ((Ext.refl _).drew)).cell rfl, (HB.out.ext ((Ext.refl _).drew)).cell rfl, (HB.out.ext ((Ext.refl _).drew)).cell rfl⟩) (fun hHeld => ?_)
  refine wpAnyH_take (i := 0) (oi := { dst := some 32, op := Op.move (Operand.tmp 0), type := 128, pos := "syntax.go:122", after := #[], guard := none }) (v := ?_) rfl (by kernel_rfl) (by kernel_rfl) (by kernel_rfl) (fun _ _ _ h => h) (Or.inl ⟨by rfl, ?_⟩) (by assumption) ?_
  case refine_2 => (intro w hSw; (try dsimp only at hSw); go_simp; (try with_reducible rfl))
  try simp only [Act.put, List.setIfInBounds_toArray, List.set_cons_zero, List.set_cons_succ]
  refine wpAnyH_take (i := 1) (oi := { dst := some 33, op := Op.move (Operand.tmp 0), type := 128, pos := "syntax.go:122", after := #[{ on := 8, ground := Ground.gcOnly Departure.lateStores }], guard := none }) (v := ?_) rfl (by kernel_rfl) (by kernel_rfl) (by kernel_rfl) (fun _ _ _ h => h) (Or.inl ⟨by rfl, ?_⟩) (by assumption) ?_
  case refine_2 => (intro w hSw; (try dsimp only at hSw); go_simp; (try with_reducible rfl))
  try simp only [Act.put, List.setIfInBounds_toArray, List.set_cons_zero, List.set_cons_succ]
  refine wpAnyH_take (i := 2) (oi := { dst := some 34, op := Op.fieldAddr 36 (Operand.tmp 3) 2, type := 0, pos := "syntax.go:122", after := #[], guard := none }) (v := ?_) rfl (by kernel_rfl) (by kernel_rfl) (by kernel_rfl) (fun _ _ _ h => h) (Or.inl ⟨by rfl, ?_⟩) (by assumption) ?_
  case refine_2 => (intro w hSw; (try dsimp only at hSw); go_simp; (try with_reducible rfl))
  try simp only [Act.put, List.setIfInBounds_toArray, List.set_cons_zero, List.set_cons_succ]
  refine wpAnyH_take (i := 3) (oi := { dst := some 35, op := Op.load 30 (Operand.tmp 34), type := 30, pos := "syntax.go:122", after := #[{ on := 2, ground := Ground.data }], guard := none }) (v := ?_) rfl (by kernel_rfl) (by kernel_rfl) (by kernel_rfl) (fun _ _ _ h => h) (Or.inl ⟨by rfl, ?_⟩) (by assumption) ?_
  case refine_2 => (intro w hSw; (try dsimp only at hSw); go_simp; (try with_reducible rfl))
  try simp only [Act.put, List.setIfInBounds_toArray, List.set_cons_zero, List.set_cons_succ]
  refine wpAnyH_take (i := 4) (oi := { dst := some 36, op := Op.fieldAddr 36 (Operand.tmp 3) 5, type := 0, pos := "syntax.go:122", after := #[{ on := 8, ground := Ground.gcOnly Departure.lateStores }], guard := none }) (v := ?_) rfl (by kernel_rfl) (by kernel_rfl) (by kernel_rfl) (fun _ _ _ h => h) (Or.inl ⟨by rfl, ?_⟩) (by assumption) ?_
  case refine_2 => (intro w hSw; (try dsimp only at hSw); go_simp; (try with_reducible rfl))
  try simp only [Act.put, List.setIfInBounds_toArray, List.set_cons_zero, List.set_cons_succ]
  refine wpAnyH_take (i := 5) (oi := { dst := some 37, op := Op.load 34 (Operand.tmp 36), type := 34, pos := "syntax.go:122", after := #[{ on := 4, ground := Ground.data }, { on := 8, ground := Ground.gcOnly Departure.lateStores }], guard := none }) (v := ?_) rfl (by kernel_rfl) (by kernel_rfl) (by kernel_rfl) (fun _ _ _ h => h) (Or.inl ⟨by rfl, ?_⟩) (by assumption) ?_
  case refine_2 => (intro w hSw; (try dsimp only at hSw); go_simp; (try with_reducible rfl))
  try simp only [Act.put, List.setIfInBounds_toArray, List.set_cons_zero, List.set_cons_succ]
  refine wpAnyH_take (i := 6) (oi := { dst := some 38, op := Op.nilCheck (Operand.tmp 32), type := 0, pos := "syntax.go:122", after := #[{ on := 0, ground := Ground.data }, { on := 0, ground := Ground.phase }, { on := 1, ground := Ground.textOnly Departure.lateStores }, { on := 2, ground := Ground.phase }, { on := 3, ground := Ground.phase }, { on := 4, ground := Ground.textOnly Departure.lateStores }, { on := 5, ground := Ground.textOnly Departure.lateStores }], guard := none }) (v := ?_) rfl (by kernel_rfl) (by kernel_rfl) (by kernel_rfl) (fun _ _ _ h => h) (Or.inl ⟨by rfl, ?_⟩) (by assumption) ?_
  case refine_2 => (intro w hSw; (try dsimp only at hSw); go_simp; (try with_reducible rfl))
  try simp only [Act.put, List.setIfInBounds_toArray, List.set_cons_zero, List.set_cons_succ]
  refine wpAnyH_take (i := 7) (oi := { dst := some 39, op := Op.fieldAddr 36 (Operand.tmp 38) 2, type := 0, pos := "syntax.go:122", after := #[{ on := 6, ground := Ground.data }, { on := 0, ground := Ground.phase }, { on := 1, ground := Ground.textOnly Departure.lateStores }, { on := 2, ground := Ground.phase }, { on := 3, ground := Ground.phase }, { on := 4, ground := Ground.textOnly Departure.lateStores }, { on := 5, ground := Ground.textOnly Departure.lateStores }], guard := none }) (v := ?_) rfl (by kernel_rfl) (by kernel_rfl) (by kernel_rfl) (fun _ _ _ h => h) (Or.inl ⟨by rfl, ?_⟩) (by assumption) ?_
  case refine_2 => (intro w hSw; (try dsimp only at hSw); go_simp; (try with_reducible rfl))
  try simp only [Act.put, List.setIfInBounds_toArray, List.set_cons_zero, List.set_cons_succ]
  have HP1 := Lib.hid HP.out
  obtain ⟨⟨c0', c1', c2', c3', c4', c5', c6', c7', c8', c9', c10', c11', c12'⟩, f0, f1, f2, f3, f4, f5, f6, f7, f8, f9, f10, f11, f12⟩ := sq_cells HP1.out
  refine wpAnyH_ready (rs := [8]) (by kernel_rfl) (by simp) ?_
  refine AllReadyH.cons (o := { dst := none, op := Op.store 30 (Operand.tmp 39) (Operand.tmp 35), type := 0, pos := "syntax.go:122", after := #[{ on := 7, ground := Ground.data }, { on := 3, ground := Ground.data }, { on := 0, ground := Ground.phase }, { on := 1, ground := Ground.textOnly Departure.lateStores }, { on := 2, ground := Ground.phase }, { on := 3, ground := Ground.phase }, { on := 4, ground := Ground.textOnly Departure.lateStores }, { on := 5, ground := Ground.textOnly Departure.lateStores }], guard := none }) rfl (fun K hK => ?_) AllReadyH.nil
  go_simp
  refine hK.out _ _ (⟨((((((HB.out).other (p := ⟨p, 2, none⟩) (Ne.symm hne) _).other (p := ⟨p, 3, none⟩) (Ne.symm hne) _).other (p := ⟨p, 4, none⟩) (Ne.symm hne) _).other (p := ⟨p, 5, none⟩) (Ne.symm hne) _).ext ((Ext.refl _).drew)).cell rfl, ((((((HB.out).other (p := ⟨p, 2, none⟩) (Ne.symm hne) _).other (p := ⟨p, 3, none⟩) (Ne.symm hne) _).other (p := ⟨p, 4, none⟩) (Ne.symm hne) _).other (p := ⟨p, 5, none⟩) (Ne.symm hne) _).ext ((Ext.refl _).drew)).cell rfl, ((((((HB.out).other (p := ⟨p, 2, none⟩) (Ne.symm hne) _).other (p := ⟨p, 3, none⟩) (Ne.symm hne) _).other (p := ⟨p, 4, none⟩) (Ne.symm hne) _).other (p := ⟨p, 5, none⟩) (Ne.symm hne) _).ext ((Ext.refl _).drew)).cell rfl, ((((((HB.out).other (p := ⟨p, 2, none⟩) (Ne.symm hne) _).other (p := ⟨p, 3, none⟩) (Ne.symm hne) _).other (p := ⟨p, 4, none⟩) (Ne.symm hne) _).other (p := ⟨p, 5, none⟩) (Ne.symm hne) _).ext ((Ext.refl _).drew)).cell rfl, ((((((HB.out).other (p := ⟨p, 2, none⟩) (Ne.symm hne) _).other (p := ⟨p, 3, none⟩) (Ne.symm hne) _).other (p := ⟨p, 4, none⟩) (Ne.symm hne) _).other (p := ⟨p, 5, none⟩) (Ne.symm hne) _).ext ((Ext.refl _).drew)).cell rfl, ((((((HB.out).other (p := ⟨p, 2, none⟩) (Ne.symm hne) _).other (p := ⟨p, 3, none⟩) (Ne.symm hne) _).other (p := ⟨p, 4, none⟩) (Ne.symm hne) _).other (p := ⟨p, 5, none⟩) (Ne.symm hne) _).ext ((Ext.refl _).drew)).cell rfl, ((((((HB.out).other (p := ⟨p, 2, none⟩) (Ne.symm hne) _).other (p := ⟨p, 3, none⟩) (Ne.symm hne) _).other (p := ⟨p, 4, none⟩) (Ne.symm hne) _).other (p := ⟨p, 5, none⟩) (Ne.symm hne) _).ext ((Ext.refl _).drew)).cell rfl, ((((((HB.out).other (p := ⟨p, 2, none⟩) (Ne.symm hne) _).other (p := ⟨p, 3, none⟩) (Ne.symm hne) _).other (p := ⟨p, 4, none⟩) (Ne.symm hne) _).other (p := ⟨p, 5, none⟩) (Ne.symm hne) _).ext ((Ext.refl _).drew)).cell rfl⟩) (fun hHeld => ?_)
  clear hK K
  try simp only [Act.put, List.setIfInBounds_toArray, List.set_cons_zero, List.set_cons_succ]
  refine wpAnyH_take (i := 9) (oi := { dst := some 40, op := Op.nilCheck (Operand.tmp 33), type := 0, pos := "syntax.go:122", after := #[{ on := 1, ground := Ground.data }, { on := 0, ground := Ground.phase }, { on := 1, ground := Ground.phase }, { on := 2, ground := Ground.phase }, { on := 3, ground := Ground.phase }, { on := 4, ground := Ground.phase }, { on := 5, ground := Ground.phase }, { on := 6, ground := Ground.phase }, { on := 7, ground := Ground.phase }, { on := 8, ground := Ground.phase }], guard := none }) (v := ?_) rfl (by kernel_rfl) (by kernel_rfl) (by kernel_rfl) (fun _ _ _ h => h) (Or.inl ⟨by rfl, ?_⟩) (by assumption) ?_
  case refine_2 => (intro w hSw; (try dsimp only at hSw); go_simp; (try with_reducible rfl))
  try simp only [Act.put, List.setIfInBounds_toArray, List.set_cons_zero, List.set_cons_succ]
  refine wpAnyH_take (i := 10) (oi := { dst := some 41, op := Op.fieldAddr 36 (Operand.tmp 40) 5, type := 0, pos := "syntax.go:122", after := #[{ on := 9, ground := Ground.data }, { on := 0, ground := Ground.phase }, { on := 1, ground := Ground.phase }, { on := 2, ground := Ground.phase }, { on := 3, ground := Ground.phase }, { on := 4, ground := Ground.phase }, { on := 5, ground := Ground.phase }, { on := 6, ground := Ground.phase }, { on := 7, ground := Ground.phase }, { on := 8, ground := Ground.phase }], guard := none }) (v := ?_) rfl (by kernel_rfl) (by kernel_rfl) (by kernel_rfl) (fun _ _ _ h => h) (Or.inl ⟨by rfl, ?_⟩) (by assumption) ?_
  case refine_2 => (intro w hSw; (try dsimp only at hSw); go_simp; (try with_reducible rfl))
  try simp only [Act.put, List.setIfInBounds_toArray, List.set_cons_zero, List.set_cons_succ]
  refine wpAnyH_ready (rs := [11]) (by kernel_rfl) (by simp) ?_
  refine AllReadyH.cons (o := { dst := none, op := Op.store 34 (Operand.tmp 41) (Operand.tmp 37), type := 0, pos := "syntax.go:122", after := #[{ on := 10, ground := Ground.data }, { on := 5, ground := Ground.data }, { on := 8, ground := Ground.chain }, { on := 0, ground := Ground.phase }, { on := 1, ground := Ground.phase }, { on := 2, ground := Ground.phase }, { on := 3, ground := Ground.phase }, { on := 4, ground := Ground.phase }, { on := 5, ground := Ground.phase }, { on := 6, ground := Ground.phase }, { on := 7, ground := Ground.phase }, { on := 8, ground := Ground.phase }], guard := none }) rfl (fun K hK => ?_) AllReadyH.nil
  go_simp
  refine hK.out _ _ (⟨((((((((((HB.out).other (p := ⟨p, 2, none⟩) (Ne.symm hne) _).other (p := ⟨p, 3, none⟩) (Ne.symm hne) _).other (p := ⟨p, 4, none⟩) (Ne.symm hne) _).other (p := ⟨p, 5, none⟩) (Ne.symm hne) _).other (p := ⟨p, 9, none⟩) (Ne.symm hne) _).other (p := ⟨p, 10, none⟩) (Ne.symm hne) _).other (p := ⟨p, 11, none⟩) (Ne.symm hne) _).other (p := ⟨p, 12, none⟩) (Ne.symm hne) _).ext ((Ext.refl _).drew)).cell rfl, ((((((((((HB.out).other (p := ⟨p, 2, none⟩) (Ne.symm hne) _).other (p := ⟨p, 3, none⟩) (Ne.symm hne) _).other (p := ⟨p, 4, none⟩) (Ne.symm hne) _).other (p := ⟨p, 5, none⟩) (Ne.symm hne) _).other (p := ⟨p, 9, none⟩) (Ne.symm hne) _).other (p := ⟨p, 10, none⟩) (Ne.symm hne) _).other (p := ⟨p, 11, none⟩) (Ne.symm hne) _).other (p := ⟨p, 12, none⟩) (Ne.symm hne) _).ext ((Ext.refl _).drew)).cell rfl, ((((((((((HB.out).other (p := ⟨p, 2, none⟩) (Ne.symm hne) _).other (p := ⟨p, 3, none⟩) (Ne.symm hne) _).other (p := ⟨p, 4, none⟩) (Ne.symm hne) _).other (p := ⟨p, 5, none⟩) (Ne.symm hne) _).other (p := ⟨p, 9, none⟩) (Ne.symm hne) _).other (p := ⟨p, 10, none⟩) (Ne.symm hne) _).other (p := ⟨p, 11, none⟩) (Ne.symm hne) _).other (p := ⟨p, 12, none⟩) (Ne.symm hne) _).ext ((Ext.refl _).drew)).cell rfl, ((((((((((HB.out).other (p := ⟨p, 2, none⟩) (Ne.symm hne) _).other (p := ⟨p, 3, none⟩) (Ne.symm hne) _).other (p := ⟨p, 4, none⟩) (Ne.symm hne) _).other (p := ⟨p, 5, none⟩) (Ne.symm hne) _).other (p := ⟨p, 9, none⟩) (Ne.symm hne) _).other (p := ⟨p, 10, none⟩) (Ne.symm hne) _).other (p := ⟨p, 11, none⟩) (Ne.symm hne) _).other (p := ⟨p, 12, none⟩) (Ne.symm hne) _).ext ((Ext.refl _).drew)).cell rfl, ((((((((((HB.out).other (p := ⟨p, 2, none⟩) (Ne.symm hne) _).other (p := ⟨p, 3, none⟩) (Ne.symm hne) _).other (p := ⟨p, 4, none⟩) (Ne.symm hne) _).other (p := ⟨p, 5, none⟩) (Ne.symm hne) _).other (p := ⟨p, 9, none⟩) (Ne.symm hne) _).other (p := ⟨p, 10, none⟩) (Ne.symm hne) _).other (p := ⟨p, 11, none⟩) (Ne.symm hne) _).other (p := ⟨p, 12, none⟩) (Ne.symm hne) _).ext ((Ext.refl _).drew)).cell rfl, ((((((((((HB.out).other (p := ⟨p, 2, none⟩) (Ne.symm hne) _).other (p := ⟨p, 3, none⟩) (Ne.symm hne) _).other (p := ⟨p, 4, none⟩) (Ne.symm hne) _).other (p := ⟨p, 5, none⟩) (Ne.symm hne) _).other (p := ⟨p, 9, none⟩) (Ne.symm hne) _).other (p := ⟨p, 10, none⟩) (Ne.symm hne) _).other (p := ⟨p, 11, none⟩) (Ne.symm hne) _).other (p := ⟨p, 12, none⟩) (Ne.symm hne) _).ext ((Ext.refl _).drew)).cell rfl, ((((((((((HB.out).other (p := ⟨p, 2, none⟩) (Ne.symm hne) _).other (p := ⟨p, 3, none⟩) (Ne.symm hne) _).other (p := ⟨p, 4, none⟩) (Ne.symm hne) _).other (p := ⟨p, 5, none⟩) (Ne.symm hne) _).other (p := ⟨p, 9, none⟩) (Ne.symm hne) _).other (p := ⟨p, 10, none⟩) (Ne.symm hne) _).other (p := ⟨p, 11, none⟩) (Ne.symm hne) _).other (p := ⟨p, 12, none⟩) (Ne.symm hne) _).ext ((Ext.refl _).drew)).cell rfl, ((((((((((HB.out).other (p := ⟨p, 2, none⟩) (Ne.symm hne) _).other (p := ⟨p, 3, none⟩) (Ne.symm hne) _).other (p := ⟨p, 4, none⟩) (Ne.symm hne) _).other (p := ⟨p, 5, none⟩) (Ne.symm hne) _).other (p := ⟨p, 9, none⟩) (Ne.symm hne) _).other (p := ⟨p, 10, none⟩) (Ne.symm hne) _).other (p := ⟨p, 11, none⟩) (Ne.symm hne) _).other (p := ⟨p, 12, none⟩) (Ne.symm hne) _).ext ((Ext.refl _).drew)).cell rfl⟩) (fun hHeld => ?_)
  clear hK K
  try simp only [Act.put, List.setIfInBounds_toArray, List.set_cons_zero, List.set_cons_succ]
  refine wpAnyH_done (by kernel_rfl) ?_ _
  clear c0' c1' c2' c3' c4' c5' c6' c7' c8' c9' c10' c11' c12' f0 f1 f2 f3 f4 f5 f6 f7 f8 f9 f10 f11 f12
  go_wp2
  go_end0
  refine ⟨rfl, ?_, (((((((((Kp.of_ext HE.out).set 2 _).set 3 _).set 4 _).set 5 _).set 9 _).set 10 _).set 11 _).set 12 _).ext ((Ext.refl _).drew)⟩
  have q0 : BoxIs (u.setCell ⟨p, 2, none⟩ (.int .i64 a)) p #[k0, k1, .int .i64 a, k3, k4, k5, k6, k7, k8, k9, k10, k11, k12] 36 := HP1.out.set (i := 2) (.int .i64 a)
  have q1 : BoxIs ((u.setCell ⟨p, 2, none⟩ (.int .i64 a)).setCell ⟨p, 3, none⟩ (.int .i64 b)) p #[k0, k1, .int .i64 a, .int .i64 b, k4, k5, k6, k7, k8, k9, k10, k11, k12] 36 := q0.set (i := 3) (.int .i64 b)
  have q2 : BoxIs (((u.setCell ⟨p, 2, none⟩ (.int .i64 a)).setCell ⟨p, 3, none⟩ (.int .i64 b)).setCell ⟨p, 4, none⟩ (.int .i64 c)) p #[k0, k1, .int .i64 a, .int .i64 b, .int .i64 c, k5, k6, k7, k8, k9, k10, k11, k12] 36 := q1.set (i := 4) (.int .i64 c)
  have q3 : BoxIs ((((u.setCell ⟨p, 2, none⟩ (.int .i64 a)).setCell ⟨p, 3, none⟩ (.int .i64 b)).setCell ⟨p, 4, none⟩ (.int .i64 c)).setCell ⟨p, 5, none⟩ (.int .i64 d)) p #[k0, k1, .int .i64 a, .int .i64 b, .int .i64 c, .int .i64 d, k6, k7, k8, k9, k10, k11, k12] 36 := q2.set (i := 5) (.int .i64 d)
  have q4 : BoxIs (((((u.setCell ⟨p, 2, none⟩ (.int .i64 a)).setCell ⟨p, 3, none⟩ (.int .i64 b)).setCell ⟨p, 4, none⟩ (.int .i64 c)).setCell ⟨p, 5, none⟩ (.int .i64 d)).setCell ⟨p, 9, none⟩ (.slice a0 n0 c0)) p #[k0, k1, .int .i64 a, .int .i64 b, .int .i64 c, .int .i64 d, k6, k7, k8, .slice a0 n0 c0, k10, k11, k12] 36 := q3.set (i := 9) (.slice a0 n0 c0)
  have q5 : BoxIs ((((((u.setCell ⟨p, 2, none⟩ (.int .i64 a)).setCell ⟨p, 3, none⟩ (.int .i64 b)).setCell ⟨p, 4, none⟩ (.int .i64 c)).setCell ⟨p, 5, none⟩ (.int .i64 d)).setCell ⟨p, 9, none⟩ (.slice a0 n0 c0)).setCell ⟨p, 10, none⟩ (.slice a1 n1 c1)) p #[k0, k1, .int .i64 a, .int .i64 b, .int .i64 c, .int .i64 d, k6, k7, k8, .slice a0 n0 c0, .slice a1 n1 c1, k11, k12] 36 := q4.set (i := 10) (.slice a1 n1 c1)
  have q6 : BoxIs (((((((u.setCell ⟨p, 2, none⟩ (.int .i64 a)).setCell ⟨p, 3, none⟩ (.int .i64 b)).setCell ⟨p, 4, none⟩ (.int .i64 c)).setCell ⟨p, 5, none⟩ (.int .i64 d)).setCell ⟨p, 9, none⟩ (.slice a0 n0 c0)).setCell ⟨p, 10, none⟩ (.slice a1 n1 c1)).setCell ⟨p, 11, none⟩ (.slice a2 n2 c2)) p #[k0, k1, .int .i64 a, .int .i64 b, .int .i64 c, .int .i64 d, k6, k7, k8, .slice a0 n0 c0, .slice a1 n1 c1, .slice a2 n2 c2, k12] 36 := q5.set (i := 11) (.slice a2 n2 c2)
  have q7 : BoxIs ((((((((u.setCell ⟨p, 2, none⟩ (.int .i64 a)).setCell ⟨p, 3, none⟩ (.int .i64 b)).setCell ⟨p, 4, none⟩ (.int .i64 c)).setCell ⟨p, 5, none⟩ (.int .i64 d)).setCell ⟨p, 9, none⟩ (.slice a0 n0 c0)).setCell ⟨p, 10, none⟩ (.slice a1 n1 c1)).setCell ⟨p, 11, none⟩ (.slice a2 n2 c2)).setCell ⟨p, 12, none⟩ (.slice a3 n3 c3)) p #[k0, k1, .int .i64 a, .int .i64 b, .int .i64 c, .int .i64 d, k6, k7, k8, .slice a0 n0 c0, .slice a1 n1 c1, .slice a2 n2 c2, .slice a3 n3 c3] 36 := q6.set (i := 12) (.slice a3 n3 c3)
  exact q7.ext ((Ext.refl _).drew)
end Go.Proofs.YtpofabebmeickaaGreatDoor

