/- Contracts of this seat: Sz1, Sz2, Sz3, Sz4, Sz5, Sz6. -/
import Derived.Test.YtcekpngkfldgkaaGreatDoorXZq
import Derived.Test.YtcekpngkfldgkaaGreatDoorXZr
import Derived.Test.YtcekpngkfldgkaaGreatDoorXZl
import Derived.Deep.RegionHeld3
import Derived.Deep.RegionWith
namespace Go.Proofs.YtcekpngkfldgkaaGreatDoor
set_option linter.unusedVariables false
set_option linter.unusedSimpArgs false
open Go.RowKit Go.Extern.Stop Go.Stop Go.Extern
structure Sq where
 k : Int
 m : Int
 a : Int
 b : Int
 c : Int
 d : Int
 x : Int
 y : Int
 L : List Int
 s0 : List Int
 s1 : List Int
 s2 : List Int
 s3 : List Int
def sq0 : Sq := ⟨0, 0, 0, 0, 0, 0, 0, 0, [], [], [], [], []⟩
def blS (k : Int) : Sq := ⟨k, 0, 0, 0, 0, 0, 0, 0, zsL 64, zsL 16, zsL 16, zsL 16, zsL 16⟩
def isM (m : Int) : Bool := decide (0 ≤ m) && decide (m ≤ 3)
def isV (x : Int) : Bool := decide (-15 ≤ x) && decide (x ≤ 15)
def lvE (l : List Int) (n : Nat) : Fall := if l.length = n then (if l.any noLv then range else none) else fit
def mdsB (q : Sq) : Bool := isM q.a && isM q.b && isM q.c && isM q.d
def ptB (q : Sq) : Bool := if q.k = 1 then isV q.x && isV q.y else if q.k = 2 then isM q.m else if q.k = 3 then mdsB q else true
def okK (key : Bool) (k : Int) : Bool := decide (0 ≤ k) && decide (k ≤ 3) && !(key && decide (k < 2))
def orF (f g : Fall) : Fall := match f with
 | none => g
 | some e => some e
def foE (q : Sq) : Fall := orF (lvE q.s0 16) (orF (lvE q.s1 16) (orF (lvE q.s2 16) (lvE q.s3 16)))
def liE (q : Sq) : Fall := if q.k = 1 ∨ q.k = 2 then lvE q.L 64 else if q.k = 3 then foE q else none
def kndF : Fall := some ([], 13)
def askE (key : Bool) (q : Sq) : Fall := if okK key q.k then (if ptB q then liE q else range) else kndF
theorem lvE_none {l : List Int} {n : Nat} (h : lvE l n = none) : l.length = n ∧ l.any noLv = false := by
 unfold lvE at h
 split at h
 · rename_i h1
   split at h
   · cases h
   · rename_i h2
     exact ⟨h1, by simpa using h2⟩
 · cases h
theorem orF_none {f g : Fall} (h : orF f g = none) : f = none ∧ g = none := by
 cases f with
 | none => exact ⟨rfl, h⟩
 | some e => cases h
def kinP (k : Int) : Pg Int := .bit 0 (decide (0 < k)) (fun v => if v then .bit 1 (decide (1 < k)) (fun v => if v then .bit 2 (decide (2 < k)) (fun v => .ret (if v then 3 else 2)) else .ret 1) else .ret 0)
def modP (m : Nat) : Pg Int := .bit 3 (decide (1 < m)) (fun v => if v then .bit 5 (decide (m % 2 = 1)) (fun u => .ret (if u then 3 else 2)) else .bit 4 (decide (m % 2 = 1)) (fun u => .ret (if u then 1 else 0)))
def sizP (z : Int) : Nat → Nat → Pg Nat
 | 0, n => .ret n
 | f + 1, n => .bit ((7 + min n 6 : Nat) : Int) (decide ((n : Int) < z)) (fun v => if v then sizP z f (n + 1) else .ret n)
def parP (v : Int) : Pg Int := .bit 6 (decide (v ≠ 0)) (fun c => if c then .fla (decide (v < 0)) (fun g => (sizP ((v.natAbs : Int) - 1) 14 0).bind (fun r => .ret (if g then -(r : Int) - 1 else (r : Int) + 1))) else .ret 0)
section
variable {σ : Type} {M : Mc σ}
theorem kin_run (k : Int) (s : Ms σ) : (kinP k).run M s = (((kindM M s k).1 : Int), (kindM M s k).2) := by
 unfold kindM
 show Pg.run M (if (bitM M s 0 (decide (0 < k))).1 = true then _ else _) _ = _
 cases (bitM M s 0 (decide (0 < k))).1
 · rfl
 · show Pg.run M (if (bitM M (bitM M s 0 (decide (0 < k))).2 1 (decide (1 < k))).1 = true then _ else _) _ = _
   cases (bitM M (bitM M s 0 (decide (0 < k))).2 1 (decide (1 < k))).1
   · rfl
   · show (if (bitM M (bitM M (bitM M s 0 (decide (0 < k))).2 1 (decide (1 < k))).2 2 (decide (2 < k))).1 = true then (3 : Int) else 2, _) = _
     cases (bitM M (bitM M (bitM M s 0 (decide (0 < k))).2 1 (decide (1 < k))).2 2 (decide (2 < k))).1 <;> rfl
theorem mod_run (m : Nat) (s : Ms σ) : (modP m).run M s = (((modeM M s m).1 : Int), (modeM M s m).2) := by
 unfold modeM
 show Pg.run M (if (bitM M s 3 (decide (1 < m))).1 = true then _ else _) _ = _
 cases (bitM M s 3 (decide (1 < m))).1
 · show (if (bitM M (bitM M s 3 (decide (1 < m))).2 4 (decide (m % 2 = 1))).1 = true then (1 : Int) else 0, _) = _
   cases (bitM M (bitM M s 3 (decide (1 < m))).2 4 (decide (m % 2 = 1))).1 <;> rfl
 · show (if (bitM M (bitM M s 3 (decide (1 < m))).2 5 (decide (m % 2 = 1))).1 = true then (3 : Int) else 2, _) = _
   cases (bitM M (bitM M s 3 (decide (1 < m))).2 5 (decide (m % 2 = 1))).1 <;> rfl
theorem siz_run (z : Int) : ∀ (f n : Nat) (s : Ms σ), (sizP z f n).run M s = sizM M z f n s
 | 0, _, _ => rfl
 | f + 1, n, s => by
   show Pg.run M (if (bitM M s ((7 + min n 6 : Nat) : Int) (decide ((n : Int) < z))).1 = true then _ else _) _ = (if (bitM M s ((7 + min n 6 : Nat) : Int) (decide ((n : Int) < z))).1 = true then _ else _)
   split
   · exact siz_run z f (n + 1) _
   · rfl
theorem par_run (v : Int) (s : Ms σ) : (parP v).run M s = partM M s v := by
 unfold partM
 show Pg.run M (if (bitM M s 6 (decide (v ≠ 0))).1 = true then _ else _) _ = _
 cases (bitM M s 6 (decide (v ≠ 0))).1
 · rfl
 · show ((sizP ((v.natAbs : Int) - 1) 14 0).bind _).run M _ = _
   rw [Pg.run_bind, siz_run]
   rfl
end
theorem kin_dep (k : Int) : (kinP k).dep 3 := by
 intro v
 show Pg.dep (if v = true then _ else _) 2
 split
 · intro v
   show Pg.dep (if v = true then _ else _) 1
   split
   · intro v; trivial
   · trivial
 · trivial
theorem mod_dep (m : Nat) : (modP m).dep 2 := by
 intro v
 show Pg.dep (if v = true then _ else _) 1
 split <;> intro v <;> trivial
theorem siz_dep (z : Int) : ∀ (f n : Nat), (sizP z f n).dep f
 | 0, _ => trivial
 | f + 1, n => fun v => by
   show Pg.dep (if v = true then _ else _) f
   split
   · exact siz_dep z f (n + 1)
   · trivial
theorem par_dep (v : Int) : (parP v).dep 16 := by
 intro c
 show Pg.dep (if c = true then _ else _) 15
 split
 · exact fun _ => Pg.dep_bind (m := 0) (fun _ => Pg.dep_ret _ _) (siz_dep _ 14 0)
 · trivial
theorem kin_in {σ : Type} {M : Mc σ} (k : Int) (s : Ms σ) : 0 ≤ ((kinP k).run M s).1 ∧ ((kinP k).run M s).1 ≤ 3 := by
 rw [kin_run]
 unfold kindM
 split
 · split
   · show (0 : Int) ≤ ((if _ then 3 else 2 : Nat) : Int) ∧ ((if _ then 3 else 2 : Nat) : Int) ≤ 3
     split <;> decide
   · exact ⟨(by decide : (0 : Int) ≤ ((1 : Nat) : Int)), (by decide : ((1 : Nat) : Int) ≤ 3)⟩
 · exact ⟨(by decide : (0 : Int) ≤ ((0 : Nat) : Int)), (by decide : ((0 : Nat) : Int) ≤ 3)⟩
theorem isv_of {v : Int} (h : -15 ≤ v ∧ v ≤ 15) : isV v = true := by
 unfold isV
 rw [Bool.and_eq_true, decide_eq_true_eq, decide_eq_true_eq]
 exact h
theorem mod_in {σ : Type} {M : Mc σ} (m : Nat) (s : Ms σ) : isM ((modP m).run M s).1 = true := by
 rw [mod_run]
 unfold modeM isM
 split
 · show (decide ((0 : Int) ≤ ((if _ then 3 else 2 : Nat) : Int)) && decide (((if _ then 3 else 2 : Nat) : Int) ≤ 3)) = true
   split <;> decide
 · show (decide ((0 : Int) ≤ ((if _ then 1 else 0 : Nat) : Int)) && decide (((if _ then 1 else 0 : Nat) : Int) ≤ 3)) = true
   split <;> decide
theorem siz_in {σ : Type} {M : Mc σ} (z : Int) : ∀ (f n : Nat) (s : Ms σ), ((sizP z f n).run M s).1 ≤ n + f
 | 0, n, s => Nat.le_refl _
 | f + 1, n, s => by
   show (Pg.run M (if (bitM M s ((7 + min n 6 : Nat) : Int) (decide ((n : Int) < z))).1 = true then _ else _) _).1 ≤ _
   split
   · have := siz_in (M := M) z f (n + 1) (bitM M s ((7 + min n 6 : Nat) : Int) (decide ((n : Int) < z))).2
     omega
   · show n ≤ _
     omega
theorem par_in {σ : Type} {M : Mc σ} (v : Int) (s : Ms σ) : isV ((parP v).run M s).1 = true := by
 refine isv_of ?_
 show -15 ≤ (Pg.run M (if (bitM M s 6 (decide (v ≠ 0))).1 = true then _ else _) _).1 ∧ (Pg.run M (if (bitM M s 6 (decide (v ≠ 0))).1 = true then _ else _) _).1 ≤ 15
 split
 · have h := siz_in (M := M) ((v.natAbs : Int) - 1) 14 0 (flaM M (bitM M s 6 (decide (v ≠ 0))).2 (decide (v < 0))).2
   show -15 ≤ (((sizP ((v.natAbs : Int) - 1) 14 0).bind _).run M (flaM M (bitM M s 6 (decide (v ≠ 0))).2 (decide (v < 0))).2).1 ∧ (((sizP ((v.natAbs : Int) - 1) 14 0).bind _).run M (flaM M (bitM M s 6 (decide (v ≠ 0))).2 (decide (v < 0))).2).1 ≤ 15
   rw [Pg.run_bind]
   obtain ⟨r, hr⟩ : ∃ r, (sizP ((v.natAbs : Int) - 1) 14 0).run M (flaM M (bitM M s 6 (decide (v ≠ 0))).2 (decide (v < 0))).2 = r := ⟨_, rfl⟩
   rw [hr] at h ⊢
   have a1 : (0 : Int) ≤ (r.1 : Int) := Int.natCast_nonneg _
   have a2 : (r.1 : Int) ≤ 14 := by omega
   have key : ∀ (b : Bool) (z : Int), 0 ≤ z → z ≤ 14 → -15 ≤ (if b = true then -z - 1 else z + 1) ∧ (if b = true then -z - 1 else z + 1) ≤ 15 := by
    intro b z h1 h2
    cases b
    · exact ⟨by simp only [Bool.false_eq_true, if_false]; omega, by simp only [Bool.false_eq_true, if_false]; omega⟩
    · exact ⟨by simp only [if_true]; omega, by simp only [if_true]; omega⟩
   exact key _ _ a1 a2
 · exact ⟨(by decide : (-15 : Int) ≤ 0), (by decide : (0 : Int) ≤ 15)⟩
def kyP (key : Bool) (k : Int) : Pg Int := if key then .fla (decide (k = 3)) (fun v => .ret (if v then 3 else 2)) else kinP k
def stP (m : Int) (xs : List Int) : Pg (Int × (Fall × List Int)) := (modP (cl3 m)).bind (fun v => (codP xs).bind (fun r => .ret (v, r)))
def onP {β : Type} (f : Fall) (z : Fall → Pg β) (p : Pg β) : Pg β := match f with
 | none => p
 | some e => z (some e)
def foP (q : Sq) : Pg (Fall × Sq) :=
 (stP q.a q.s0).bind (fun r0 => onP r0.2.1 (fun f => .ret (f, sq0)) ((stP q.b q.s1).bind (fun r1 => onP r1.2.1 (fun f => .ret (f, sq0)) ((stP q.c q.s2).bind (fun r2 => onP r2.2.1 (fun f => .ret (f, sq0)) ((stP q.d q.s3).bind (fun r3 => onP r3.2.1 (fun f => .ret (f, sq0))
   (.ret (none, ⟨3, 0, r0.1, r1.1, r2.1, r3.1, 0, 0, [], r0.2.2, r1.2.2, r2.2.2, r3.2.2⟩)))))))))
def mvP (q : Sq) : Pg (Fall × Sq) := (parP (cl15 q.x)).bind (fun x => (parP (cl15 q.y)).bind (fun y => (codP q.L).bind (fun r => onP r.1 (fun f => .ret (f, sq0)) (.ret (none, ⟨1, 0, 0, 0, 0, 0, x, y, r.2, [], [], [], []⟩)))))
def onP1 (q : Sq) : Pg (Fall × Sq) := (modP (cl3 q.m)).bind (fun m => (codP q.L).bind (fun r => onP r.1 (fun f => .ret (f, sq0)) (.ret (none, ⟨2, m, 0, 0, 0, 0, 0, 0, r.2, [], [], [], []⟩))))
def ptP (k : Int) (q : Sq) : Pg (Fall × Sq) := if k = 1 then mvP q else if k = 2 then onP1 q else if k = 3 then foP q else .ret (none, { sq0 with k := k })
def synS : ByteArray := { data := #[115, 121, 110, 116, 97, 120] }
def inF (k : Int) (f : Fall) : Fall := match f with
 | none => none
 | some (p, c) => some ((synS, k) :: p, c)
def fiP (k : Int) (q : Sq) : Pg (Fall × Sq) := (ptP k q).bind (fun r => .ret (inF k r.1, r.2))
def sqP (key : Bool) (k0 : Int) (q : Sq) : Pg (Fall × Sq) := (kyP key k0).bind (fun k => fiP k q)
theorem ky_dep (key : Bool) (k : Int) : (kyP key k).dep 3 := by
 cases key
 · exact kin_dep k
 · exact fun _ => trivial
theorem st_dep (m : Int) (xs : List Int) : (stP m xs).dep (2 + (43 * xs.length + 1 + 0)) := Pg.dep_bind (fun _ => Pg.dep_bind (fun _ => Pg.dep_ret _ _) (cod_dep xs)) (mod_dep _)
theorem on_dep {β : Type} {f : Fall} {z : Fall → Pg β} {p : Pg β} {n : Nat} (h : p.dep n) (hz : ∀ f, (z f).dep n) : (onP f z p).dep n := by
 cases f with
 | none => exact h
 | some e => exact hz _
def szB (q : Sq) : Nat := q.L.length + q.s0.length + q.s1.length + q.s2.length + q.s3.length
theorem pt_dep (k : Int) (q : Sq) : (ptP k q).dep (43 * szB q + 34) := by
 unfold szB ptP
 split
 · exact Pg.dep_mono (Pg.dep_bind (fun _ => Pg.dep_bind (fun _ => Pg.dep_bind (fun _ => on_dep (n := 0) (Pg.dep_ret _ _) (fun _ => Pg.dep_ret _ _)) (cod_dep q.L)) (par_dep _)) (par_dep _)) (by omega)
 · split
   · exact Pg.dep_mono (Pg.dep_bind (fun _ => Pg.dep_bind (fun _ => on_dep (n := 0) (Pg.dep_ret _ _) (fun _ => Pg.dep_ret _ _)) (cod_dep q.L)) (mod_dep _)) (by omega)
   · split
     · exact Pg.dep_mono (Pg.dep_bind (fun _ => on_dep (Pg.dep_bind (fun _ => on_dep (Pg.dep_bind (fun _ => on_dep (Pg.dep_bind (fun _ => on_dep (n := 0) (Pg.dep_ret _ _) (fun _ => Pg.dep_ret _ _)) (st_dep q.d q.s3)) (fun _ => Pg.dep_ret _ _)) (st_dep q.c q.s2)) (fun _ => Pg.dep_ret _ _)) (st_dep q.b q.s1)) (fun _ => Pg.dep_ret _ _)) (st_dep q.a q.s0)) (by omega)
     · trivial
theorem fi_dep (k : Int) (q : Sq) : (fiP k q).dep (43 * szB q + 34 + 0) := Pg.dep_bind (m := 0) (fun _ => Pg.dep_ret _ _) (pt_dep k q)
theorem sq_dep (key : Bool) (k0 : Int) (q : Sq) : (sqP key k0 q).dep (43 * szB q + 37) :=
 Pg.dep_mono (Pg.dep_bind (fun k => fi_dep k q) (ky_dep key k0)) (by omega)
def partS (q : Sq) : Sq := if q.k = 1 then ⟨1, 0, 0, 0, 0, 0, q.x, q.y, q.L, [], [], [], []⟩ else if q.k = 2 then ⟨2, q.m, 0, 0, 0, 0, 0, 0, q.L, [], [], [], []⟩ else if q.k = 3 then ⟨3, 0, q.a, q.b, q.c, q.d, 0, 0, [], q.s0, q.s1, q.s2, q.s3⟩ else { sq0 with k := q.k }
theorem ask_out {key : Bool} {q : Sq} (h : askE key q = none) : okK key q.k = true ∧ ptB q = true ∧ liE q = none := by
 unfold askE at h
 split at h
 · rename_i h1
   split at h
   · rename_i h2
     exact ⟨h1, h2, h⟩
   · cases h
 · cases h
theorem ask_of {key : Bool} {q : Sq} (h1 : okK key q.k = true) (h2 : ptB q = true) (h3 : liE q = none) : askE key q = none := by
 unfold askE
 rw [if_pos h1, if_pos h2, h3]
theorem zs_lv (n : Nat) : lvE (zsL n) n = none := by
 obtain ⟨h1, h2, -⟩ := zs_facts n
 unfold lvE
 rw [if_pos h1, h2]
 rfl
def FullS (q : Sq) : Prop := lvE q.L 64 = none ∧ lvE q.s0 16 = none ∧ lvE q.s1 16 = none ∧ lvE q.s2 16 = none ∧ lvE q.s3 16 = none
theorem FullS.bl (k : Int) : FullS (blS k) := ⟨zs_lv 64, zs_lv 16, zs_lv 16, zs_lv 16, zs_lv 16⟩
theorem sz_full {q : Sq} (h : FullS q) : szB q = 128 := by
 obtain ⟨h1, h2, h3, h4, h5⟩ := h
 unfold szB
 rw [(lvE_none h1).1, (lvE_none h2).1, (lvE_none h3).1, (lvE_none h4).1, (lvE_none h5).1]
def GotS (key : Bool) (r : Fall × Sq) : Prop := (∃ k q : Int, r = (some ([(synS, k), (coefS, q)], 3), sq0)) ∨ ∃ q, r = (none, q) ∧ askE key q = none ∧ partS q = q
section
variable {σ : Type} {M : Mc σ}
theorem cod_got {xs : List Int} {n : Nat} (hn : n = 16 ∨ n = 64) (h : lvE xs n = none) (s : Ms σ) : (∃ ys, ((codP xs).run M s).1 = (none, ys) ∧ lvE ys n = none) ∨ ∃ q : Int, ((codP xs).run M s).1 = (some ([(coefS, q)], 3), []) := by
 obtain ⟨h1, h2⟩ := lvE_none h
 rcases cod_ans (M := M) s (by rw [h1]; exact hn) h2 with ⟨ys, e, hl, hy⟩ | ⟨q, -, e⟩
 · refine .inl ⟨ys, e, ?_⟩
   unfold lvE
   rw [if_pos (hl.trans h1), show ys.any noLv = false from List.any_eq_false.2 (fun y hh => by simp [noLv, hy y hh])]
   rfl
 · exact .inr ⟨_, e⟩
theorem st_got {m : Int} {xs : List Int} (h : lvE xs 16 = none) (s : Ms σ) : (∃ v ys, ((stP m xs).run M s).1 = (v, (none, ys)) ∧ isM v = true ∧ lvE ys 16 = none) ∨ ∃ (v q : Int), ((stP m xs).run M s).1 = (v, (some ([(coefS, q)], 3), [])) := by
 unfold stP
 rw [Pg.run_bind, Pg.run_bind]
 rcases cod_got (M := M) (.inl rfl) h ((modP (cl3 m)).run M s).2 with ⟨ys, e, hy⟩ | ⟨q, e⟩
 · refine .inl ⟨((modP (cl3 m)).run M s).1, ys, ?_, mod_in (M := M) (cl3 m) s, hy⟩
   show (_, (Pg.run M (codP xs) _).1) = _
   rw [e]
 · refine .inr ⟨((modP (cl3 m)).run M s).1, q, ?_⟩
   show (_, (Pg.run M (codP xs) _).1) = _
   rw [e]
theorem ky_in (key : Bool) (k : Int) (s : Ms σ) : okK key ((kyP key k).run M s).1 = true := by
 unfold okK
 cases key
 · have := kin_in (M := M) k s
   show (decide (0 ≤ ((kinP k).run M s).1) && decide (((kinP k).run M s).1 ≤ 3) && !(false && _)) = true
   simp [this.1, this.2]
 · show (decide ((0 : Int) ≤ if (flaM M s (decide (k = 3))).1 = true then 3 else 2) && decide ((if (flaM M s (decide (k = 3))).1 = true then (3 : Int) else 2) ≤ 3) && !(true && decide ((if (flaM M s (decide (k = 3))).1 = true then (3 : Int) else 2) < 2))) = true
   split <;> decide
theorem fi_bad {k : Int} {q : Sq} {s : Ms σ} {i : Int} (h : ((ptP k q).run M s).1 = (some ([(coefS, i)], 3), sq0)) : ((fiP k q).run M s).1 = (some ([(synS, k), (coefS, i)], 3), sq0) := by
 unfold fiP
 rw [Pg.run_bind]
 show (inF k ((ptP k q).run M s).1.1, ((ptP k q).run M s).1.2) = _
 rw [h]
 rfl
theorem fi_ok {k : Int} {q r : Sq} {s : Ms σ} (h : ((ptP k q).run M s).1 = (none, r)) : ((fiP k q).run M s).1 = (none, r) := by
 unfold fiP
 rw [Pg.run_bind]
 show (inF k ((ptP k q).run M s).1.1, ((ptP k q).run M s).1.2) = _
 rw [h]
 rfl
theorem pt_got {k : Int} {q : Sq} (hk : 0 ≤ k ∧ k ≤ 3) (h : FullS q) (s : Ms σ) : (∃ i : Int, ((ptP k q).run M s).1 = (some ([(coefS, i)], 3), sq0)) ∨ ∃ r, ((ptP k q).run M s).1 = (none, r) ∧ r.k = k ∧ ptB r = true ∧ liE r = none ∧ partS r = r := by
 obtain ⟨h1, h2, h3, h4, h5⟩ := h
 unfold ptP
 split
 · rename_i hk1
   unfold mvP
   rw [Pg.run_bind, Pg.run_bind, Pg.run_bind]
   rcases cod_got (M := M) (.inr rfl) h1 ((parP (cl15 q.y)).run M ((parP (cl15 q.x)).run M s).2).2 with ⟨ys, e, hy⟩ | ⟨i, e⟩
   · rw [e]
     refine .inr ⟨_, rfl, hk1.symm, ?_, hy, rfl⟩
     show (isV _ && isV _) = true
     rw [par_in, par_in]
     rfl
   · rw [e]
     exact .inl ⟨i, rfl⟩
 · split
   · rename_i hk1
     unfold onP1
     rw [Pg.run_bind, Pg.run_bind]
     rcases cod_got (M := M) (.inr rfl) h1 ((modP (cl3 q.m)).run M s).2 with ⟨ys, e, hy⟩ | ⟨i, e⟩
     · rw [e]
       exact .inr ⟨_, rfl, hk1.symm, mod_in _ _, hy, rfl⟩
     · rw [e]
       exact .inl ⟨i, rfl⟩
   · split
     · rename_i hk1
       unfold foP
       rw [Pg.run_bind]
       rcases st_got (M := M) (m := q.a) h2 s with ⟨v0, y0, e0, m0, l0⟩ | ⟨v, i, e⟩
       · rw [e0]
         show (∃ i : Int, (((stP q.b q.s1).bind _).run M _).1 = _) ∨ ∃ r, (((stP q.b q.s1).bind _).run M _).1 = _ ∧ _
         rw [Pg.run_bind]
         rcases st_got (M := M) (m := q.b) h3 ((stP q.a q.s0).run M s).2 with ⟨v1, y1, e1, m1, l1⟩ | ⟨v, i, e⟩
         · rw [e1]
           show (∃ i : Int, (((stP q.c q.s2).bind _).run M _).1 = _) ∨ ∃ r, (((stP q.c q.s2).bind _).run M _).1 = _ ∧ _
           rw [Pg.run_bind]
           rcases st_got (M := M) (m := q.c) h4 ((stP q.b q.s1).run M ((stP q.a q.s0).run M s).2).2 with ⟨v2, y2, e2, m2, l2⟩ | ⟨v, i, e⟩
           · rw [e2]
             show (∃ i : Int, (((stP q.d q.s3).bind _).run M _).1 = _) ∨ ∃ r, (((stP q.d q.s3).bind _).run M _).1 = _ ∧ _
             rw [Pg.run_bind]
             rcases st_got (M := M) (m := q.d) h5 ((stP q.c q.s2).run M ((stP q.b q.s1).run M ((stP q.a q.s0).run M s).2).2).2 with ⟨v3, y3, e3, m3, l3⟩ | ⟨v, i, e⟩
             · rw [e3]
               refine .inr ⟨_, rfl, hk1.symm, ?_, ?_, rfl⟩
               · show (isM v0 && isM v1 && isM v2 && isM v3) = true
                 rw [m0, m1, m2, m3]
                 rfl
               · show orF (lvE y0 16) (orF (lvE y1 16) (orF (lvE y2 16) (lvE y3 16))) = none
                 rw [l0, l1, l2, l3]
                 rfl
             · rw [e]
               exact .inl ⟨i, rfl⟩
           · rw [e]
             exact .inl ⟨i, rfl⟩
         · rw [e]
           exact .inl ⟨i, rfl⟩
       · rw [e]
         exact .inl ⟨i, rfl⟩
     · rename_i a1 a2 a3
       obtain rfl : k = 0 := by omega
       exact .inr ⟨_, rfl, rfl, rfl, rfl, rfl⟩
theorem sq_got (key : Bool) (k0 : Int) {q : Sq} (h : FullS q) (s : Ms σ) : GotS key ((sqP key k0 q).run M s).1 := by
 unfold sqP
 rw [Pg.run_bind]
 have hk := ky_in (M := M) key k0 s
 obtain ⟨⟨k, s1⟩, e⟩ : ∃ z, (kyP key k0).run M s = z := ⟨_, rfl⟩
 rw [e] at hk ⊢
 have hk2 : 0 ≤ k ∧ k ≤ 3 := by
  simp only [okK, Bool.and_eq_true, decide_eq_true_eq] at hk
  exact hk.1
 rcases pt_got (M := M) hk2 h s1 with ⟨i, e2⟩ | ⟨r, e2, h1, h2, h3, h4⟩
 · exact .inl ⟨k, i, fi_bad e2⟩
 · refine .inr ⟨r, fi_ok e2, ask_of ?_ h2 h3, h4⟩
   rw [h1]
   exact hk
end
theorem isM_call (n : Int) (w : World) : Calls Tryz.prog 89 #[.int .i64 n] w fun e w' => e = .returned (.bool (isM n)) ∧ w = w' := by
 by_cases h1 : 0 ≤ n
 · by_cases h2 : n ≤ 3
   · have H : Hid (isM n = true) := by show _ = _; unfold isM; simp [h1, h2]
     go_enter Tryz.func89, Tryz.ntmps89
     go_wp2
     go_ret
     exact ⟨by rw [H.out]; rfl, rfl⟩
   · have H : Hid (isM n = false) := by show _ = _; unfold isM; simp [h2]
     go_enter Tryz.func89, Tryz.ntmps89
     go_wp2
     go_ret
     exact ⟨by rw [H.out]; rfl, rfl⟩
 · have H : Hid (isM n = false) := by show _ = _; unfold isM; simp [h1]
   go_enter Tryz.func89, Tryz.ntmps89
   go_wp2
   go_ret
   exact ⟨by rw [H.out]; rfl, rfl⟩
def vec2 (x y : Int) : Bool := isV x && isV y
theorem isVec_call (x y : Int) (w : World) : Calls Tryz.prog 88 #[.agg #[.int .i64 x, .int .i64 y]] w fun e w' => e = .returned (.bool (vec2 x y)) ∧ Ext w w' := by
 have H1 : Hid (vec2 x y = (decide (-15 ≤ x) && decide (x ≤ 15) && (decide (-15 ≤ y) && decide (y ≤ 15)))) := rfl
 by_cases h1 : -15 ≤ x
 · by_cases h2 : x ≤ 15
   · by_cases h3 : -15 ≤ y
     · by_cases h4 : y ≤ 15
       · have H : Hid (vec2 x y = true) := by show _ = _; rw [H1.out]; simp [h1, h2, h3, h4]
         go_enter Tryz.func88, Tryz.ntmps88
         go_wp2
         go_ret
         exact ⟨by rw [H.out]; rfl, (Ext.refl w).alloc _⟩
       · have H : Hid (vec2 x y = false) := by show _ = _; rw [H1.out]; simp [h1, h2, h3, h4]
         go_enter Tryz.func88, Tryz.ntmps88
         go_wp2
         go_ret
         exact ⟨by rw [H.out]; rfl, (Ext.refl w).alloc _⟩
     · have H : Hid (vec2 x y = false) := by show _ = _; rw [H1.out]; simp [h1, h2, h3]
       go_enter Tryz.func88, Tryz.ntmps88
       go_wp2
       go_ret
       exact ⟨by rw [H.out]; rfl, (Ext.refl w).alloc _⟩
   · have H : Hid (vec2 x y = false) := by show _ = _; rw [H1.out]; simp [h1, h2]
     go_enter Tryz.func88, Tryz.ntmps88
     go_wp2
     go_ret
     exact ⟨by rw [H.out]; rfl, (Ext.refl w).alloc _⟩
 · have H : Hid (vec2 x y = false) := by show _ = _; rw [H1.out]; simp [h1]
   go_enter Tryz.func88, Tryz.ntmps88
   go_wp2
   go_ret
   exact ⟨by rw [H.out]; rfl, (Ext.refl w).alloc _⟩
theorem HoF.setc {w : World} {F : Nat → Prop} {P : World → Prop} {p : Addr} {v : Value} (h : HoF w F P) (hp : ¬ F p.block) : HoF (w.setCell p v) F P :=
 HoF.obj.same h (fun i hi => Below.heap_setCell w p v i (fun e => hp (e ▸ hi)))
def SqIs (W : World) (q : Sq) (L s0 s1 s2 s3 : Value) : Prop := Ints W L q.L ∧ Ints W s0 q.s0 ∧ Ints W s1 q.s1 ∧ Ints W s2 q.s2 ∧ Ints W s3 q.s3
theorem SqIs.ext {w w' : World} {q : Sq} {L s0 s1 s2 s3 : Value} (h : SqIs w q L s0 s1 s2 s3) (k : Ext w w') : SqIs w' q L s0 s1 s2 s3 := ⟨h.1.ext k, h.2.1.ext k, h.2.2.1.ext k, h.2.2.2.1.ext k, h.2.2.2.2.ext k⟩
theorem SqIs.mk' {W : World} {L s0 s1 s2 s3 : Value} (h : (((Ints W L (zsL 64) ∧ Ints W s0 (zsL 16)) ∧ Ints W s1 (zsL 16)) ∧ Ints W s2 (zsL 16)) ∧ Ints W s3 (zsL 16)) : SqIs W (blS 0) L s0 s1 s2 s3 := ⟨h.1.1.1.1, h.1.1.1.2, h.1.1.2, h.1.2, h.2⟩
set_option maxHeartbeats 4000000 in
set_option maxRecDepth 20000 in
theorem blank_own (w : World) : Calls Tryz.prog 108 #[] w fun e w' => ∃ (L s0 s1 s2 s3 : Addr) (Y : Nat → Prop), e = .returned (sqV 0 0 0 0 0 0 0 0 (.slice (some L) 64 64) (.slice (some s0) 16 16) (.slice (some s1) 16 16) (.slice (some s2) 16 16) (.slice (some s3) 16 16)) ∧ Ext w w' ∧ HoF w' Y (fun W => SqIs W (blS 0) (.slice (some L) 64 64) (.slice (some s0) 16 16) (.slice (some s1) 16 16) (.slice (some s2) 16 16) (.slice (some s3) 16 16)) ∧ ∀ k, Y k → w.heap.size ≤ k := by
 obtain ⟨i0, hi, hz0, hz1, hz2⟩ := info_parts infoInt
 have B0 := BoxIs.new w #[.int .i64 0, .int .i64 0, .int .i64 0, .int .i64 0, .int .i64 0, .int .i64 0, .int .i64 0, .int .i64 0, .slice none 0 0, .slice none 0 0, .slice none 0 0, .slice none 0 0, .slice none 0 0] 30
 have E0 := (Ext.refl w).alloc (.cells #[.int .i64 0, .int .i64 0, .int .i64 0, .int .i64 0, .int .i64 0, .int .i64 0, .int .i64 0, .int .i64 0, .slice none 0 0, .slice none 0 0, .slice none 0 0, .slice none 0 0, .slice none 0 0] 30)
 go_enter Tryz.func108, Tryz.ntmps108
 go_wp2_with (at_make; generalize hw0 : w.alloc (.cells #[.int .i64 0, .int .i64 0, .int .i64 0, .int .i64 0, .int .i64 0, .int .i64 0, .int .i64 0, .int .i64 0, .slice none 0 0, .slice none 0 0, .slice none 0 0, .slice none 0 0, .slice none 0 0] 30) = w0 at B0 E0 ⊢; clear hw0; refine wpList_make_full _ rfl _ _ 22 rfl w0.heap.size 3 i0 (.int .i64 0) 1 Tryz.underlying22 hi hz0 hz1 .i64 .i64 _ _ 64 rfl rfl rfl rfl (by rw [hz2]; decide) (by decide) (Nat.le_refl _) ?_; intro w1 hown hgrow)
 have B0 := Lib.hid B0
 have E0 := Lib.hid E0
 have E1 : Ext w0 w1 := Below.grown (Ext.refl w0) hgrow (Nat.le_refl _) (fun k hk => by cases hk)
 obtain ⟨m1, m2⟩ := ho_made (by decide) hown
 have hz : w.heap.size < w0.heap.size := B0.out.lt
 have hy0 : ∀ k, ((.slice (some ⟨w0.heap.size, 0, none⟩) 64 64) : Value).ownBlock = some k → w.heap.size < k ∧ k ≠ w1.heap.size := fun k hk => ⟨by have := m2 k hk; omega, by have := m1.1 k hk; omega⟩
 have HY0 := Lib.hid hy0
 have b2 := BoxIs.new w1 #[.int .i64 0, .int .i64 0, .int .i64 0, .int .i64 0, .int .i64 0, .int .i64 0, .int .i64 0, .int .i64 0, .slice (some ⟨w0.heap.size, 0, none⟩) 64 64, .slice none 0 0, .slice none 0 0, .slice none 0 0, .slice none 0 0] 30
 have hE2 : Ext w0 (w1.alloc (.cells #[.int .i64 0, .int .i64 0, .int .i64 0, .int .i64 0, .int .i64 0, .int .i64 0, .int .i64 0, .int .i64 0, .slice (some ⟨w0.heap.size, 0, none⟩) 64 64, .slice none 0 0, .slice none 0 0, .slice none 0 0, .slice none 0 0] 30)) := E1.alloc _
 have m1 := m1.ext ((Ext.refl w1).alloc (.cells #[.int .i64 0, .int .i64 0, .int .i64 0, .int .i64 0, .int .i64 0, .int .i64 0, .int .i64 0, .int .i64 0, .slice (some ⟨w0.heap.size, 0, none⟩) 64 64, .slice none 0 0, .slice none 0 0, .slice none 0 0, .slice none 0 0] 30))
 generalize hu0 : w1.alloc (.cells #[.int .i64 0, .int .i64 0, .int .i64 0, .int .i64 0, .int .i64 0, .int .i64 0, .int .i64 0, .int .i64 0, .slice (some ⟨w0.heap.size, 0, none⟩) 64 64, .slice none 0 0, .slice none 0 0, .slice none 0 0, .slice none 0 0] 30) = u0 at b2 hE2 m1 ⊢
 have B2 := Lib.hid b2
 have R2 := Lib.hid (B0.out.ext hE2)
 have H0 := Lib.hid m1
 have E2 := Lib.hid (E0.out.trans hE2)
 have hlt := B2.out.lt
 have hne : w.heap.size ≠ w1.heap.size := by have := B0.out.lt; have := E1.size; omega
 have hbl : w.heap.size ≤ w1.heap.size := by have := B0.out.lt; have := E1.size; omega
 clear hu0 b2 hE2 E1 hown hgrow B0 E0 m1 m2 hy0
 refine wp_loop_rounds 5 ?_
 rw [rounds_succ]
 have c := B2.out.cell (i := 9) (v := .slice none 0 0) rfl
 have f := B2.out.free (i := 9)
 go_wp2_with (at_make; refine wpList_make_full _ rfl _ _ 22 rfl u0.heap.size 3 i0 (.int .i64 0) 1 Tryz.underlying22 hi hz0 hz1 .i64 .i64 _ _ 16 rfl rfl rfl rfl (by rw [hz2]; decide) (by decide) (Nat.le_refl _) ?_; intro x0 hown hgrow; have EE : Ext u0 x0 := Below.grown (Ext.refl u0) hgrow (Nat.le_refl _) (fun k hk => by cases hk); have d := EE.cell c; have g := (B2.out.ext EE).free (i := 9))
 obtain ⟨m1, m2⟩ := ho_made (by decide) hown
 have hy : ∀ k, (_ ∨ ((.slice (some ⟨u0.heap.size, 0, none⟩) 16 16) : Value).ownBlock = some k) → w.heap.size < k ∧ k ≠ w1.heap.size := fun k hk => hk.elim (HY0.out k) (fun hk => ⟨by have := m2 k hk; have := B2.out.lt; omega, by have := m2 k hk; have := B2.out.lt; omega⟩)
 have HY1 := Lib.hid hy
 have h0 := ((H0.out.ext EE).and m1).setc (p := ⟨w1.heap.size, 9, none⟩) (v := (.slice (some ⟨u0.heap.size, 0, none⟩) 16 16)) (fun h => (hy _ h).2 rfl)
 have b2 : BoxIs (x0.setCell ⟨w1.heap.size, 9, none⟩ (.slice (some ⟨u0.heap.size, 0, none⟩) 16 16)) w1.heap.size #[.int .i64 0, .int .i64 0, .int .i64 0, .int .i64 0, .int .i64 0, .int .i64 0, .int .i64 0, .int .i64 0, .slice (some ⟨w0.heap.size, 0, none⟩) 64 64, .slice (some ⟨u0.heap.size, 0, none⟩) 16 16, .slice none 0 0, .slice none 0 0, .slice none 0 0] 30 := (B2.out.ext EE).set (i := 9) (.slice (some ⟨u0.heap.size, 0, none⟩) 16 16)
 have e2 := (E2.out.trans EE).setCell (p := ⟨w1.heap.size, 9, none⟩) hbl (.slice (some ⟨u0.heap.size, 0, none⟩) 16 16)
 have r2 := (R2.out.ext EE).other (p := ⟨w1.heap.size, 9, none⟩) (Ne.symm hne) (.slice (some ⟨u0.heap.size, 0, none⟩) 16 16)
 clear B2 R2 E2 c f d g hown hgrow EE H0 HY0
 generalize x0.setCell ⟨w1.heap.size, 9, none⟩ (.slice (some ⟨u0.heap.size, 0, none⟩) 16 16) = u1 at b2 e2 r2 h0 ⊢
 have B2 := Lib.hid b2
 have R2 := Lib.hid r2
 have E2 := Lib.hid e2
 have H1 := Lib.hid h0
 clear b2 e2 r2 h0 hy m1 m2
 rw [rounds_succ]
 have c := B2.out.cell (i := 10) (v := .slice none 0 0) rfl
 have f := B2.out.free (i := 10)
 go_wp2_with (at_make; refine wpList_make_full _ rfl _ _ 22 rfl u1.heap.size 3 i0 (.int .i64 0) 1 Tryz.underlying22 hi hz0 hz1 .i64 .i64 _ _ 16 rfl rfl rfl rfl (by rw [hz2]; decide) (by decide) (Nat.le_refl _) ?_; intro x1 hown hgrow; have EE : Ext u1 x1 := Below.grown (Ext.refl u1) hgrow (Nat.le_refl _) (fun k hk => by cases hk); have d := EE.cell c; have g := (B2.out.ext EE).free (i := 10))
 obtain ⟨m1, m2⟩ := ho_made (by decide) hown
 have hy : ∀ k, (_ ∨ ((.slice (some ⟨u1.heap.size, 0, none⟩) 16 16) : Value).ownBlock = some k) → w.heap.size < k ∧ k ≠ w1.heap.size := fun k hk => hk.elim (HY1.out k) (fun hk => ⟨by have := m2 k hk; have := B2.out.lt; omega, by have := m2 k hk; have := B2.out.lt; omega⟩)
 have HY2 := Lib.hid hy
 have h0 := ((H1.out.ext EE).and m1).setc (p := ⟨w1.heap.size, 10, none⟩) (v := (.slice (some ⟨u1.heap.size, 0, none⟩) 16 16)) (fun h => (hy _ h).2 rfl)
 have b2 : BoxIs (x1.setCell ⟨w1.heap.size, 10, none⟩ (.slice (some ⟨u1.heap.size, 0, none⟩) 16 16)) w1.heap.size #[.int .i64 0, .int .i64 0, .int .i64 0, .int .i64 0, .int .i64 0, .int .i64 0, .int .i64 0, .int .i64 0, .slice (some ⟨w0.heap.size, 0, none⟩) 64 64, .slice (some ⟨u0.heap.size, 0, none⟩) 16 16, .slice (some ⟨u1.heap.size, 0, none⟩) 16 16, .slice none 0 0, .slice none 0 0] 30 := (B2.out.ext EE).set (i := 10) (.slice (some ⟨u1.heap.size, 0, none⟩) 16 16)
 have e2 := (E2.out.trans EE).setCell (p := ⟨w1.heap.size, 10, none⟩) hbl (.slice (some ⟨u1.heap.size, 0, none⟩) 16 16)
 have r2 := (R2.out.ext EE).other (p := ⟨w1.heap.size, 10, none⟩) (Ne.symm hne) (.slice (some ⟨u1.heap.size, 0, none⟩) 16 16)
 clear B2 R2 E2 c f d g hown hgrow EE H1 HY1
 generalize x1.setCell ⟨w1.heap.size, 10, none⟩ (.slice (some ⟨u1.heap.size, 0, none⟩) 16 16) = u2 at b2 e2 r2 h0 ⊢
 have B2 := Lib.hid b2
 have R2 := Lib.hid r2
 have E2 := Lib.hid e2
 have H2 := Lib.hid h0
 clear b2 e2 r2 h0 hy m1 m2
 rw [rounds_succ]
 have c := B2.out.cell (i := 11) (v := .slice none 0 0) rfl
 have f := B2.out.free (i := 11)
 go_wp2_with (at_make; refine wpList_make_full _ rfl _ _ 22 rfl u2.heap.size 3 i0 (.int .i64 0) 1 Tryz.underlying22 hi hz0 hz1 .i64 .i64 _ _ 16 rfl rfl rfl rfl (by rw [hz2]; decide) (by decide) (Nat.le_refl _) ?_; intro x2 hown hgrow; have EE : Ext u2 x2 := Below.grown (Ext.refl u2) hgrow (Nat.le_refl _) (fun k hk => by cases hk); have d := EE.cell c; have g := (B2.out.ext EE).free (i := 11))
 obtain ⟨m1, m2⟩ := ho_made (by decide) hown
 have hy : ∀ k, (_ ∨ ((.slice (some ⟨u2.heap.size, 0, none⟩) 16 16) : Value).ownBlock = some k) → w.heap.size < k ∧ k ≠ w1.heap.size := fun k hk => hk.elim (HY2.out k) (fun hk => ⟨by have := m2 k hk; have := B2.out.lt; omega, by have := m2 k hk; have := B2.out.lt; omega⟩)
 have HY3 := Lib.hid hy
 have h0 := ((H2.out.ext EE).and m1).setc (p := ⟨w1.heap.size, 11, none⟩) (v := (.slice (some ⟨u2.heap.size, 0, none⟩) 16 16)) (fun h => (hy _ h).2 rfl)
 have b2 : BoxIs (x2.setCell ⟨w1.heap.size, 11, none⟩ (.slice (some ⟨u2.heap.size, 0, none⟩) 16 16)) w1.heap.size #[.int .i64 0, .int .i64 0, .int .i64 0, .int .i64 0, .int .i64 0, .int .i64 0, .int .i64 0, .int .i64 0, .slice (some ⟨w0.heap.size, 0, none⟩) 64 64, .slice (some ⟨u0.heap.size, 0, none⟩) 16 16, .slice (some ⟨u1.heap.size, 0, none⟩) 16 16, .slice (some ⟨u2.heap.size, 0, none⟩) 16 16, .slice none 0 0] 30 := (B2.out.ext EE).set (i := 11) (.slice (some ⟨u2.heap.size, 0, none⟩) 16 16)
 have e2 := (E2.out.trans EE).setCell (p := ⟨w1.heap.size, 11, none⟩) hbl (.slice (some ⟨u2.heap.size, 0, none⟩) 16 16)
 have r2 := (R2.out.ext EE).other (p := ⟨w1.heap.size, 11, none⟩) (Ne.symm hne) (.slice (some ⟨u2.heap.size, 0, none⟩) 16 16)
 clear B2 R2 E2 c f d g hown hgrow EE H2 HY2
 generalize x2.setCell ⟨w1.heap.size, 11, none⟩ (.slice (some ⟨u2.heap.size, 0, none⟩) 16 16) = u3 at b2 e2 r2 h0 ⊢
 have B2 := Lib.hid b2
 have R2 := Lib.hid r2
 have E2 := Lib.hid e2
 have H3 := Lib.hid h0
 clear b2 e2 r2 h0 hy m1 m2
 rw [rounds_succ]
 have c := B2.out.cell (i := 12) (v := .slice none 0 0) rfl
 have f := B2.out.free (i := 12)
 go_wp2_with (at_make; refine wpList_make_full _ rfl _ _ 22 rfl u3.heap.size 3 i0 (.int .i64 0) 1 Tryz.underlying22 hi hz0 hz1 .i64 .i64 _ _ 16 rfl rfl rfl rfl (by rw [hz2]; decide) (by decide) (Nat.le_refl _) ?_; intro x3 hown hgrow; have EE : Ext u3 x3 := Below.grown (Ext.refl u3) hgrow (Nat.le_refl _) (fun k hk => by cases hk); have d := EE.cell c; have g := (B2.out.ext EE).free (i := 12))
 obtain ⟨m1, m2⟩ := ho_made (by decide) hown
 have hy : ∀ k, (_ ∨ ((.slice (some ⟨u3.heap.size, 0, none⟩) 16 16) : Value).ownBlock = some k) → w.heap.size < k ∧ k ≠ w1.heap.size := fun k hk => hk.elim (HY3.out k) (fun hk => ⟨by have := m2 k hk; have := B2.out.lt; omega, by have := m2 k hk; have := B2.out.lt; omega⟩)
 have HY4 := Lib.hid hy
 have h0 := ((H3.out.ext EE).and m1).setc (p := ⟨w1.heap.size, 12, none⟩) (v := (.slice (some ⟨u3.heap.size, 0, none⟩) 16 16)) (fun h => (hy _ h).2 rfl)
 have b2 : BoxIs (x3.setCell ⟨w1.heap.size, 12, none⟩ (.slice (some ⟨u3.heap.size, 0, none⟩) 16 16)) w1.heap.size #[.int .i64 0, .int .i64 0, .int .i64 0, .int .i64 0, .int .i64 0, .int .i64 0, .int .i64 0, .int .i64 0, .slice (some ⟨w0.heap.size, 0, none⟩) 64 64, .slice (some ⟨u0.heap.size, 0, none⟩) 16 16, .slice (some ⟨u1.heap.size, 0, none⟩) 16 16, .slice (some ⟨u2.heap.size, 0, none⟩) 16 16, .slice (some ⟨u3.heap.size, 0, none⟩) 16 16] 30 := (B2.out.ext EE).set (i := 12) (.slice (some ⟨u3.heap.size, 0, none⟩) 16 16)
 have e2 := (E2.out.trans EE).setCell (p := ⟨w1.heap.size, 12, none⟩) hbl (.slice (some ⟨u3.heap.size, 0, none⟩) 16 16)
 have r2 := (R2.out.ext EE).other (p := ⟨w1.heap.size, 12, none⟩) (Ne.symm hne) (.slice (some ⟨u3.heap.size, 0, none⟩) 16 16)
 clear B2 R2 E2 c f d g hown hgrow EE H3 HY3
 generalize x3.setCell ⟨w1.heap.size, 12, none⟩ (.slice (some ⟨u3.heap.size, 0, none⟩) 16 16) = u4 at b2 e2 r2 h0 ⊢
 have B2 := Lib.hid b2
 have R2 := Lib.hid r2
 have E2 := Lib.hid e2
 have H4 := Lib.hid h0
 clear b2 e2 r2 h0 hy m1 m2
 rw [rounds_succ]
 obtain ⟨⟨c0, c1, c2, c3, c4, c5, c6, c7, c8, c9, c10, c11, c12⟩, -⟩ := sq_cells B2.out
 obtain ⟨⟨e0, e1, e2, e3, e4, e5, e6, e7, e8, e9, e10, e11, e12⟩, f0, f1, f2, f3, f4, f5, f6, f7, f8, f9, f10, f11, f12⟩ := sq_cells R2.out
 go_wp2
 obtain ⟨⟨g0, g1, g2, g3, g4, g5, g6, g7, g8, g9, g10, g11, g12⟩, -⟩ := sq_cells (sq_put (v0 := .int .i64 0) (v1 := .int .i64 0) (v2 := .int .i64 0) (v3 := .int .i64 0) (v4 := .int .i64 0) (v5 := .int .i64 0) (v6 := .int .i64 0) (v7 := .int .i64 0) (v8 := .slice (some ⟨w0.heap.size, 0, none⟩) 64 64) (v9 := .slice (some ⟨u0.heap.size, 0, none⟩) 16 16) (v10 := .slice (some ⟨u1.heap.size, 0, none⟩) 16 16) (v11 := .slice (some ⟨u2.heap.size, 0, none⟩) 16 16) (v12 := .slice (some ⟨u3.heap.size, 0, none⟩) 16 16) R2.out)
 exact bodyPost_ret (v := .agg #[.int .i64 0, .int .i64 0, .int .i64 0, .int .i64 0, .int .i64 0, .int .i64 0, .int .i64 0, .int .i64 0, .slice (some ⟨w0.heap.size, 0, none⟩) 64 64, .slice (some ⟨u0.heap.size, 0, none⟩) 16 16, .slice (some ⟨u1.heap.size, 0, none⟩) 16 16, .slice (some ⟨u2.heap.size, 0, none⟩) 16 16, .slice (some ⟨u3.heap.size, 0, none⟩) 16 16]) (by simp [results, Tryz.results108, go_sem, g0, g1, g2, g3, g4, g5, g6, g7, g8, g9, g10, g11, g12]) rfl ⟨_, _, _, _, _, _, rfl, by
  have e := E2.out
  repeat refine Ext.setCell ?_ (by show w.heap.size ≤ w.heap.size; exact Nat.le_refl _) _
  exact e, by
  have e := H4.out.imp (fun W h => SqIs.mk' h)
  have hn : ¬ _ := fun h => (Nat.lt_irrefl _ (HY4.out w.heap.size h).1)
  repeat refine HoF.setc ?_ (by exact hn)
  exact e, fun k hk => Nat.le_of_lt (HY4.out k hk).1⟩
def sqQ (q : Sq) (L s0 s1 s2 s3 : Value) : Value := sqV q.k q.m q.a q.b q.c q.d q.x q.y L s0 s1 s2 s3
def KcPost (w : World) (f : Fall) (e : Ending) (w' : World) : Prop := ∃ x, e = .returned x ∧ (∀ W, ErrIs W f x) ∧ Ext w w'
theorem KcPost.none {w w' : World} {f : Fall} (h : f = none) (k : Ext w w') : KcPost w f (.returned .nilIface) w' := ⟨_, rfl, fun W => by rw [h]; exact rfl, k⟩
theorem KcPost.code {w w' : World} {f : Fall} {c : Int} (h : f = some ([], c)) (hc : c ≠ 0) (k : Ext w w') : KcPost w f (.returned (.iface 40 (.int .i64 c))) w' := ⟨_, rfl, fun W => by rw [h]; exact ErrIs.code hc, k⟩
def SlF (v : Value) : Prop := ∃ a n c, v = .slice a n c
theorem Ints.slf {w : World} {v : Value} {zs : List Int} (h : Ints w v zs) : SlF v := by
 obtain ⟨a, c, e⟩ := h.form
 exact ⟨a, _, c, e⟩
end Go.Proofs.YtcekpngkfldgkaaGreatDoor