/- Contracts of this seat: Md1, Md0, Md2, Md3. -/
import Derived.Test.YtpofabebmeickaaGreatDoorVwZb
import Derived.Deep.MidRow
import Derived.Deep.WholeRow
import Derived.Test.YtpofabebmeickaaGreatDoorVwZe
import Derived.Test.YtpofabebmeickaaGreatDoorVwZd
import Derived.Deep.RegionLaw
/- model's chances: contracts over this seat's translation. -/
namespace Go.Proofs.YtpofabebmeickaaGreatDoor
set_option linter.unusedVariables false
set_option linter.unusedSimpArgs false
open Go.RowKit Go.Extern.Stop Go.Stop Go.Extern

/-- 64 chances in a block, from a cell on, which may be written -/
def ChAt (w : World) (a o : Nat) (f : Nat → Nat) : Prop := ∀ i, i < 64 → w.cell? ⟨a, o + i, none⟩ = some (.int .i64 (f i : Int)) ∧ w.frozen? ⟨a, o + i, none⟩ = false
theorem ChAt.same {w w' : World} {a o : Nat} {f : Nat → Nat} (h : ChAt w a o f) (k : w'.heap[a]? = w.heap[a]?) : ChAt w' a o f := fun i hi =>
  ⟨(World.cell?_of_block (a := ⟨a, o + i, none⟩) k).trans (h i hi).1, (World.frozen?_of_block (a := ⟨a, o + i, none⟩) k).trans (h i hi).2⟩
theorem ChAt.lt {w : World} {a o : Nat} {f : Nat → Nat} (h : ChAt w a o f) : a < w.heap.size := Ext.lt (p := ⟨a, o + 0, none⟩) (h 0 (by decide)).1
theorem ChAt.ext {w w' : World} {a o : Nat} {f : Nat → Nat} (h : ChAt w a o f) (k : Ext w w') : ChAt w' a o f := h.same (k.block h.lt)
theorem ChAt.set {w : World} {a o c : Nat} {f : Nat → Nat} (h : ChAt w a o f) (hc : c < 64) (p : Nat) : ChAt (w.setCell ⟨a, o + c, none⟩ (.int .i64 (p : Int))) a o (fun j => if j = c then p else f j) := fun i hi => by
  obtain ⟨h1, h2⟩ := h i hi
  refine ⟨?_, by simpa using h2⟩
  by_cases e : i = c
  · subst e
    rw [World.cell?_setCell_same _ _ _ h1]
    simp
  · rw [cell_off_ne _ (show o + c ≠ o + i by omega), h1]
    simp [e]
theorem Ext.setCells {a w : World} (h : Ext a w) {b : Nat} (hb : a.heap.size ≤ b) : ∀ (vs : List Value) (o : Nat), Ext a (w.setCells b o vs)
  | [], _ => h
  | v :: vs, o => Ext.setCells (Ext.setCell h (p := ⟨b, o, none⟩) hb v) hb vs (o + 1)
theorem rep_get {α : Type} (n j : Nat) (x : α) (h : j < n) : (List.replicate n x)[j]? = some x := by simp [h]
def lrnM (p : Nat) (b : Bool) : Nat := if b then p - p / 32 else p + (2048 - p) / 32
theorem lrnM_ok {p : Nat} (b : Bool) (h1 : 31 ≤ p) (h2 : p ≤ 2017) : 31 ≤ lrnM p b ∧ lrnM p b ≤ 2017 := by
  unfold lrnM
  split <;> omega
def mxt (n : Nat) : List Value := List.replicate n (.int .i64 1024)
def mzt : List Value := List.replicate 64 (.int .i64 0)
theorem ChAt.of {w : World} {a : Nat} {t : TypeId} (h : w.heap[a]? = some (.cells mzt.toArray t (0, 0))) : ChAt w a 0 (fun _ => 0) := fun i hi => by
  refine ⟨?_, by simp [World.frozen?, h]⟩
  rw [cell_of_row w a (0 + i) _ t (0, 0) h]
  rw [List.getElem?_toArray, Nat.zero_add]
  exact rep_get 64 i _ hi
theorem ChAt.range {w : World} {a o : Nat} {f : Nat → Nat} (h : ChAt w a o f) (hf : ∀ i, i < 64 → f i = 1024) : w.rangeAt a o (mxt 64) := fun j v hv => by
  have hj : j < 64 := by
    have := (List.getElem?_eq_some_iff.1 hv).1
    rwa [mxt, List.length_replicate] at this
  have e : (mxt 64)[j]? = some (.int .i64 1024) := rep_get 64 j _ hj
  rw [e] at hv
  rw [← Option.some.inj hv, (h j hj).1, hf j hj]
  rfl
theorem ChAt.there {w : World} {a o : Nat} {f : Nat → Nat} (h : ChAt w a o f) : w.there a o 64 := fun j hj => ⟨by rw [(h j hj).1]; rfl, (h j hj).2⟩
theorem results_cell_mid {P : Program} {fn : Func} {p : Tmp} {ty : TypeId} (h : fn.results = #[.cell p ty]) (tmps : Array Value) (w : World) (g : Nat) (cs : Array Value) (hp : tmps.getD p undef = .pointer (some ⟨g, 0, none⟩))
    (hl : (loadVar ty ⟨g, 0, none⟩).run P w = .ok (.agg cs) w) : (results fn tmps).run P w = .ok (.agg cs) w := by
  have hp' : tmps[p]?.getD undef = .pointer (some ⟨g, 0, none⟩) := by simpa using hp
  simp [results, h, hp', asAddr, hl]
set_option maxRecDepth 20000 in
set_option maxHeartbeats 2000000 in
theorem newch_any (w : World) : Calls Tryz.prog 29 #[] w fun e w' => e = .returned (.agg (mxt 64).toArray) ∧ Ext w w' := by
  go_enter Tryz.func29, Tryz.ntmps29
  go_wp2_with fail
  generalize hW : World.alloc (World.alloc w _) _ = W1
  have h1 : W1.heap[w.heap.size]? = some (.cells mzt.toArray 78 (0, 0)) := by rw [← hW]; rw [Below.heap_alloc _ _ _ (by simp), heap_alloc_last]; rfl
  have h2 : W1.heap[w.heap.size + 1]? = some (.cells mzt.toArray 78 (0, 0)) := by
    rw [← hW]
    have := heap_alloc_last (w.alloc (.cells mzt.toArray 78)) (.cells mzt.toArray 78)
    rw [show (w.alloc (.cells mzt.toArray 78)).heap.size = w.heap.size + 1 by simp] at this
    exact this
  have hE : Ext w W1 := by rw [← hW]; exact ((Ext.refl w).alloc _).alloc _
  have HR := Lib.hid (ChAt.of h1)
  have HB0 : Hid (ChAt W1 (w.heap.size + 1) 0 (fun i => if i < 0 then 1024 else 0)) := fun i hi => by
    have := ChAt.of h2 i hi
    simpa using this
  have HE := Lib.hid hE
  clear hW h1 h2 hE
  go_loopw [3] (fun iv wr => ∃ k : Nat, k ≤ 64 ∧ iv = .int .i64 (k : Int) ∧ Hid (ChAt wr w.heap.size 0 (fun _ => 0)) ∧ Hid (ChAt wr (w.heap.size + 1) 0 (fun i => if i < k then 1024 else 0)) ∧ Hid (Ext w wr)) (fun iv _ => 64 - (intOf iv).toNat)
  case atStart => exact ⟨0, Nat.zero_le _, rfl, HR.out, HB0.out, HE.out⟩
  case round =>
    clear HR HB0 HE
    obtain ⟨k, hk, rfl, HR, HB, HE⟩ := hrel
    by_cases hlt : k < 64
    · have x1 : (0 : Int) ≤ (k : Int) := by omega
      have x2 : (k : Int) < 64 := by omega
      obtain ⟨c0, f0⟩ := HB.out k hlt
      rw [Nat.zero_add] at c0 f0
      have HB2 : Hid (ChAt (wr.setCell ⟨w.heap.size + 1, k, none⟩ (.int .i64 1024)) (w.heap.size + 1) 0 (fun i => if i < k + 1 then 1024 else 0)) := fun i hi => by
        have := (HB.out.set hlt 1024) i hi
        rw [Nat.zero_add] at this
        refine ⟨this.1.trans ?_, this.2⟩
        show some (Value.int .i64 ((if i = k then 1024 else if i < k then 1024 else 0 : Nat) : Int)) = some (Value.int .i64 ((if i < k + 1 then 1024 else 0 : Nat) : Int))
        by_cases e1 : i = k
        · rw [if_pos e1, if_pos (by omega)]
        · by_cases e2 : i < k
          · rw [if_neg e1, if_pos e2, if_pos (by omega)]
          · rw [if_neg e1, if_neg e2, if_neg (by omega)]
      have HR2 := Lib.hid (HR.out.same (w' := wr.setCell ⟨w.heap.size + 1, k, none⟩ (.int .i64 1024)) (Below.heap_setCell _ _ _ _ (by simp)))
      have HE2 := Lib.hid (HE.out.setCell (p := ⟨w.heap.size + 1, k, none⟩) (by simp) (.int .i64 1024))
      clear HR HB HE
      go_wp2
      go_roundw
      case rel => exact ⟨k + 1, by omega, by go_num, HR2.out, HB2.out, HE2.out⟩
      case measure => simp [intOf]; omega
    · obtain rfl : k = 64 := by omega
      have x2 : ¬ ((64 : Nat) : Int) < 64 := by omega
      have hr := HB.out.range (fun i hi => if_pos hi)
      have ht := HR.out.there
      have hu := Tryz.underlying78
      have hi : (Tryz.prog.info? 78).map (·.size) = some 64 := by kernel_rfl
      go_wp2_with (first | (refine wpList_load_mid rfl 78 _ rfl (w.heap.size + 1) 0 rfl (mxt 64) _ hr hu rfl hi ?_) | (refine wpList_store_mid rfl 78 _ _ rfl w.heap.size 0 (mxt 64).toArray rfl rfl ht hi (by kernel_rfl) ?_))
      exact bodyPost_ret (v := .agg (mxt 64).toArray) (results_cell_mid rfl _ _ w.heap.size _ rfl (run_loadVar_mid _ w.heap.size 0 78 (mxt 64) _ (World.rangeAt_setCells_same _ _ _ _ ht) hu rfl hi)) rfl ⟨rfl, HE.out.setCells (Nat.le_refl _) _ _⟩
theorem isctx_any (c : Int) (w : World) : Calls Tryz.prog 140 #[.int .i64 c] w fun e w' => e = .returned (.bool (decide (0 ≤ c) && decide (c < 64))) ∧ w = w' := by
  by_cases h1 : 0 ≤ c
  · by_cases h2 : c < 64
    · rw [decide_eq_true h1, decide_eq_true h2]
      have t2 : decide (c < 64) = true := decide_eq_true h2
      go_enter Tryz.func140, Tryz.ntmps140
      go_wp2
      go_ret
      exact ⟨rfl, rfl⟩
    · rw [decide_eq_true h1, decide_eq_false h2]
      have t2 : decide (c < 64) = false := decide_eq_false h2
      go_enter Tryz.func140, Tryz.ntmps140
      go_wp2
      go_ret
      exact ⟨rfl, rfl⟩
  · rw [decide_eq_false h1]
    go_enter Tryz.func140, Tryz.ntmps140
    go_wp2
    go_ret
    exact ⟨rfl, rfl⟩
set_option maxRecDepth 20000 in
theorem learn_any (a c p : Nat) (b : Bool) (w : World) (hc : c < 64) (h : w.cell? ⟨a, c, none⟩ = some (.int .i64 (p : Int))) (hf : w.frozen? ⟨a, c, none⟩ = false) (h1 : 31 ≤ p) (h2 : p ≤ 2017) :
    Calls Tryz.prog 142 #[.pointer (some ⟨a, 0, none⟩), .int .i64 (c : Int), .bool b] w fun e w' => e = .returned (.tuple #[]) ∧ w' = w.setCell ⟨a, c, none⟩ (.int .i64 (lrnM p b : Int)) := by
  have x1 : (0 : Int) ≤ (c : Int) := by omega
  have x2 : (c : Int) < 64 := by omega
  cases b
  · obtain ⟨q, hq⟩ : ∃ q, (2048 - p) / 32 = q := ⟨_, rfl⟩
    obtain ⟨z, hz⟩ : ∃ z, 2048 - p = z := ⟨_, rfl⟩
    have s1 : IntKind.i64.wrap (2048 - (p : Int)) = (z : Int) := by rw [IntKind.wrap_i64]; omega
    have s2 : Int.tdiv (z : Int) 32 = (q : Int) := by rw [← hq, ← hz, show (32 : Int) = ((32 : Nat) : Int) from rfl, Int.ofNat_tdiv]
    have s3 : IntKind.i64.wrap (q : Int) = (q : Int) := by rw [IntKind.wrap_i64]; omega
    have s4 : IntKind.i64.wrap ((p : Int) + (q : Int)) = ((p + q : Nat) : Int) := by rw [IntKind.wrap_i64]; omega
    have hl : lrnM p false = p + q := by rw [← hq]; rfl
    rw [hl]
    clear hq hz hl
    go_enter Tryz.func142, Tryz.ntmps142
    go_wp2
    go_end0
    exact ⟨rfl, rfl⟩
  · obtain ⟨q, hq⟩ : ∃ q, p / 32 = q := ⟨_, rfl⟩
    have s2 : Int.tdiv (p : Int) 32 = (q : Int) := by rw [← hq, show (32 : Int) = ((32 : Nat) : Int) from rfl, Int.ofNat_tdiv]
    have s3 : IntKind.i64.wrap (q : Int) = (q : Int) := by rw [IntKind.wrap_i64]; omega
    have s4 : IntKind.i64.wrap ((p : Int) - (q : Int)) = ((p - q : Nat) : Int) := by rw [IntKind.wrap_i64]; omega
    have hl : lrnM p true = p - q := by rw [← hq]; rfl
    rw [hl]
    clear hq hl
    go_enter Tryz.func142, Tryz.ntmps142
    go_wp2
    go_end0
    exact ⟨rfl, rfl⟩
end Go.Proofs.YtpofabebmeickaaGreatDoor

/- model's coders: plain. -/
namespace Go.Proofs.YtpofabebmeickaaGreatDoor
set_option linter.unusedVariables false
set_option linter.unusedSimpArgs false
open Go.RowKit Go.Extern.Stop Go.Stop Go.Extern

structure Mc (σ : Type) where
  cod : σ → Int → Bool → Bool × σ
  fla : σ → Bool → Bool × σ
structure Ms (σ : Type) where
  ch : Nat → Nat
  co : σ
section
variable {σ : Type}
def ctxM (c : Int) : Bool := decide (0 ≤ c) && decide (c < 64)
def flaM (M : Mc σ) (s : Ms σ) (b : Bool) : Bool × Ms σ := ((M.fla s.co b).1, ⟨s.ch, (M.fla s.co b).2⟩)
def setM (f : Nat → Nat) (i p : Nat) : Nat → Nat := fun j => if j = i then p else f j
def bitM (M : Mc σ) (s : Ms σ) (c : Int) (b : Bool) : Bool × Ms σ :=
  if ctxM c then ((M.cod s.co (s.ch c.toNat) b).1, ⟨setM s.ch c.toNat (lrnM (s.ch c.toNat) (M.cod s.co (s.ch c.toNat) b).1), (M.cod s.co (s.ch c.toNat) b).2⟩)
  else flaM M s b
def kindM (M : Mc σ) (s : Ms σ) (k : Int) : Nat × Ms σ :=
  if (bitM M s 0 (decide (0 < k))).1 then
    if (bitM M (bitM M s 0 (decide (0 < k))).2 1 (decide (1 < k))).1 then
      (if (bitM M (bitM M (bitM M s 0 (decide (0 < k))).2 1 (decide (1 < k))).2 2 (decide (2 < k))).1 then 3 else 2, (bitM M (bitM M (bitM M s 0 (decide (0 < k))).2 1 (decide (1 < k))).2 2 (decide (2 < k))).2)
    else (1, (bitM M (bitM M s 0 (decide (0 < k))).2 1 (decide (1 < k))).2)
  else (0, (bitM M s 0 (decide (0 < k))).2)
/-- m taken into 0 to 3 -/
def modeM (M : Mc σ) (s : Ms σ) (m : Nat) : Nat × Ms σ :=
  if (bitM M s 3 (decide (1 < m))).1 then
    (if (bitM M (bitM M s 3 (decide (1 < m))).2 5 (decide (m % 2 = 1))).1 then 3 else 2, (bitM M (bitM M s 3 (decide (1 < m))).2 5 (decide (m % 2 = 1))).2)
  else (if (bitM M (bitM M s 3 (decide (1 < m))).2 4 (decide (m % 2 = 1))).1 then 1 else 0, (bitM M (bitM M s 3 (decide (1 < m))).2 4 (decide (m % 2 = 1))).2)
/-- the size of a part from n on: z is what is coded, f what may still come -/
def sizM (M : Mc σ) (z : Int) : Nat → Nat → Ms σ → Nat × Ms σ
  | 0, n, s => (n, s)
  | f + 1, n, s => if (bitM M s ((7 + min n 6 : Nat) : Int) (decide ((n : Int) < z))).1 then sizM M z f (n + 1) (bitM M s ((7 + min n 6 : Nat) : Int) (decide ((n : Int) < z))).2 else (n, (bitM M s ((7 + min n 6 : Nat) : Int) (decide ((n : Int) < z))).2)
/-- v taken into -15 to 15 -/
def partM (M : Mc σ) (s : Ms σ) (v : Int) : Int × Ms σ :=
  if (bitM M s 6 (decide (v ≠ 0))).1 then
    ((if (flaM M (bitM M s 6 (decide (v ≠ 0))).2 (decide (v < 0))).1 then -((sizM M ((v.natAbs : Int) - 1) 14 0 (flaM M (bitM M s 6 (decide (v ≠ 0))).2 (decide (v < 0))).2).1 : Int) - 1 else ((sizM M ((v.natAbs : Int) - 1) 14 0 (flaM M (bitM M s 6 (decide (v ≠ 0))).2 (decide (v < 0))).2).1 : Int) + 1),
      (sizM M ((v.natAbs : Int) - 1) 14 0 (flaM M (bitM M s 6 (decide (v ≠ 0))).2 (decide (v < 0))).2).2)
  else (0, (bitM M s 6 (decide (v ≠ 0))).2)
def cl3 (m : Int) : Nat := (max 0 (min m 3)).toNat
def cl15 (v : Int) : Int := max (-15) (min v 15)
/-- a relation of two coders, or a fact on one: what coding keeps -/
structure Mk (M : Mc σ) (ok : Nat → σ → Prop) : Prop where
  cod : ∀ {N s} (p : Nat) (b : Bool), 31 ≤ p → p ≤ 2017 → ok N s → ok (N + 4) (M.cod s p b).2
  fla : ∀ {N s} (b : Bool), ok N s → ok (N + 4) (M.fla s b).2
  mono : ∀ {N K s}, ok N s → N ≤ K → ok K s
def chI (f : Nat → Nat) : Prop := ∀ i, 31 ≤ f i ∧ f i ≤ 2017
def okS (ok : Nat → σ → Prop) (N : Nat) (s : Ms σ) : Prop := chI s.ch ∧ ok N s.co
theorem chI.set {f : Nat → Nat} (h : chI f) (i : Nat) (b : Bool) : chI (setM f i (lrnM (f i) b)) := fun j => by
  unfold setM
  split
  · exact lrnM_ok b (h i).1 (h i).2
  · exact h j
section
variable {M : Mc σ} {ok : Nat → σ → Prop}
theorem okS.mono (m : Mk M ok) {N K : Nat} {s : Ms σ} (h : okS ok N s) (k : N ≤ K) : okS ok K s := ⟨h.1, m.mono h.2 k⟩
theorem fla_ok (m : Mk M ok) {N : Nat} {s : Ms σ} (b : Bool) (h : okS ok N s) : okS ok (N + 4) (flaM M s b).2 := ⟨h.1, m.fla b h.2⟩
theorem bit_ok (m : Mk M ok) {N : Nat} {s : Ms σ} (c : Int) (b : Bool) (h : okS ok N s) : okS ok (N + 4) (bitM M s c b).2 := by
  unfold bitM
  split
  · exact ⟨h.1.set _ _, m.cod _ _ (h.1 _).1 (h.1 _).2 h.2⟩
  · exact fla_ok m b h
end
/-- two coders that tell the same -/
structure Mr {τ : Type} (M : Mc σ) (K : Mc τ) (R : Nat → σ → τ → Prop) : Prop where
  cod : ∀ {N s t} (p : Nat) (b : Bool), 31 ≤ p → p ≤ 2017 → R N s t → (M.cod s p b).1 = (K.cod t p b).1 ∧ R (N + 4) (M.cod s p b).2 (K.cod t p b).2
  fla : ∀ {N s t} (b : Bool), R N s t → (M.fla s b).1 = (K.fla t b).1 ∧ R (N + 4) (M.fla s b).2 (K.fla t b).2
  mono : ∀ {N K s t}, R N s t → N ≤ K → R K s t
def rS {τ : Type} (R : Nat → σ → τ → Prop) (N : Nat) (s : Ms σ) (t : Ms τ) : Prop := s.ch = t.ch ∧ chI s.ch ∧ R N s.co t.co
section
variable {τ : Type} {M : Mc σ} {K : Mc τ} {R : Nat → σ → τ → Prop}
theorem rS.mono (m : Mr M K R) {N L : Nat} {s : Ms σ} {t : Ms τ} (h : rS R N s t) (k : N ≤ L) : rS R L s t := ⟨h.1, h.2.1, m.mono h.2.2 k⟩
theorem fla_r (m : Mr M K R) {N : Nat} {s : Ms σ} {t : Ms τ} (b : Bool) (h : rS R N s t) : (flaM M s b).1 = (flaM K t b).1 ∧ rS R (N + 4) (flaM M s b).2 (flaM K t b).2 :=
  ⟨(m.fla b h.2.2).1, h.1, h.2.1, (m.fla b h.2.2).2⟩
theorem bit_r (m : Mr M K R) {N : Nat} {s : Ms σ} {t : Ms τ} (c : Int) (b : Bool) (h : rS R N s t) : (bitM M s c b).1 = (bitM K t c b).1 ∧ rS R (N + 4) (bitM M s c b).2 (bitM K t c b).2 := by
  unfold bitM
  cases hc : ctxM c
  · exact fla_r m b h
  · obtain ⟨h1, h2, h3⟩ := h
    obtain ⟨k1, k2⟩ := m.cod (s.ch c.toNat) b (h2 _).1 (h2 _).2 h3
    rw [h1] at k1 k2
    refine ⟨?_, ?_, ?_, ?_⟩
    · show (M.cod s.co (s.ch c.toNat) b).1 = _
      rw [h1]; exact k1
    · show setM s.ch _ (lrnM (s.ch c.toNat) (M.cod s.co (s.ch c.toNat) b).1) = setM t.ch _ _
      rw [h1, k1]
    · exact h2.set _ _
    · show R _ (M.cod s.co (s.ch c.toNat) b).2 _
      rw [h1]; exact k2
end
end
/-- the four coders -/
def mE : Mc Ec := ⟨fun s p b => (b, codE s p b), fun s b => (b, parE s (s.wid / 2) b)⟩
def mX : Mc Xe := ⟨fun s p b => (b, codX' s p b), fun s b => (b, parX' s (s.rr / 2) b)⟩
def mD (bs : List Nat) : Mc Dc := ⟨fun s p _ => (codU s p, codD bs s p), fun s _ => (upD s (s.wid / 2), parD bs s (s.wid / 2))⟩
theorem chance_ok {p : Nat} (h1 : 31 ≤ p) (h2 : p ≤ 2017) : chance (p : Int) = true := by
  unfold chance
  rw [decide_eq_true (by omega : (1 : Int) ≤ (p : Int)), decide_eq_true (by omega : (p : Int) < 2048)]
  rfl
def okEm (N : Nat) (s : Ec) : Prop := okE N s ∧ 16777216 ≤ s.wid
def okXm (N : Nat) (s : Xe) : Prop := okX' N s ∧ 16777216 ≤ s.rr
theorem mkE : Mk mE okEm := ⟨fun p b _ _ h => codE_ok h.1 h.2, fun b h => flaE_ok h.1 h.2, fun h k => ⟨h.1.mono k, h.2⟩⟩
theorem mrE : Mr mE mX (fun N s x => alX N s x ∧ 16777216 ≤ s.wid) := ⟨fun p b _ _ h => ⟨rfl, al_code h.1 h.2 _ b, (codE_ok h.1.1.1 h.2).2⟩, fun b h => ⟨rfl, al_flat h.1 h.2 b, (flaE_ok h.1.1.1 h.2).2⟩, fun h k => ⟨h.1.mono k, h.2⟩⟩
def ch0 : Nat → Nat := fun _ => 1024
theorem ch0_ok : chI ch0 := fun _ => ⟨(by show (31 : Nat) ≤ 1024; decide), (by show (1024 : Nat) ≤ 2017; decide)⟩
end Go.Proofs.YtpofabebmeickaaGreatDoor

/- model.Writer: an object and the blocks that it lies in: contracts over this seat's translation. -/
namespace Go.Proofs.YtpofabebmeickaaGreatDoor
set_option linter.unusedVariables false
set_option linter.unusedSimpArgs false
open Go.RowKit Go.Extern.Stop Go.Stop Go.Extern

/-- a rac.Encoder and its blocks -/
def EnF (b : Nat) (w : World) (F : Nat → Prop) (s : Ec) : Prop := ∃ v, EcBox w b v s.held s.run s.low s.wid ∧ w.ownsRow 0 5 1 v s.done.length (byC s.done) ∧ v.ownBlock ≠ some b ∧ ∀ k, F k ↔ (k = b ∨ v.ownBlock = some k)
theorem EnF.lt {b : Nat} {w : World} {F : Nat → Prop} {s : Ec} (h : EnF b w F s) : ∀ k, F k → k < w.heap.size := by
  obtain ⟨v, h1, h2, h3, h4⟩ := h
  intro k hk
  rcases (h4 k).1 hk with rfl | hk
  · exact h1.lt
  · exact (h2.lt k hk).2
theorem EnF.same {b : Nat} {w w' : World} {F : Nat → Prop} {s : Ec} (h : EnF b w F s) (k : ∀ i, F i → w'.heap[i]? = w.heap[i]?) : EnF b w' F s := by
  obtain ⟨v, h1, h2, h3, h4⟩ := h
  exact ⟨v, h1.same (k b ((h4 b).2 (.inl rfl))), own_block h2 (fun g hg => k g ((h4 g).2 (.inr hg))), h3, h4⟩
theorem EnF.ext {b : Nat} {w w' : World} {F : Nat → Prop} {s : Ec} (h : EnF b w F s) (k : Ext w w') : EnF b w' F s := h.same (fun i hi => k.block (h.lt i hi))
theorem EnF.ec {b : Nat} {w : World} {F : Nat → Prop} {s : Ec} (h : EnF b w F s) : ∃ P, EcAt w b P s ∧ ∀ s' w', EcAt w' b P s' → PKp b P w w' → ∃ F', EnF b w' F' s' ∧ Step F w F' w' := by
  obtain ⟨v, h1, h2, h3, h4⟩ := h
  refine ⟨fun k => k = b ∨ (k < w.heap.size ∧ v.ownBlock ≠ some k), ⟨v, h1, h2, ?_, .inl rfl, ?_⟩, ?_⟩
  · rintro g hg (rfl | ⟨-, h⟩)
    · exact h3 hg
    · exact h hg
  · rintro g (rfl | ⟨h, -⟩)
    · exact h1.lt
    · exact h
  · rintro s' w' ⟨v', k1, k2, k3, -, -⟩ hk
    refine ⟨fun k => k = b ∨ v'.ownBlock = some k, ⟨v', k1, k2, fun e => k3 b e (.inl rfl), fun _ => Iff.rfl⟩, ⟨hk.1, hk.2.1, fun k hk2 hn => ?_⟩, ?_⟩
    · have hn' : k ≠ b ∧ v.ownBlock ≠ some k := ⟨fun e => hn ((h4 k).2 (.inl e)), fun e => hn ((h4 k).2 (.inr e))⟩
      exact hk.2.2 k hk2 hn'.1 (.inl (.inr ⟨hk2, hn'.2⟩))
    · rintro k (rfl | hk2)
      · exact .inl ((h4 k).2 (.inl rfl))
      · have := k3 k hk2
        rw [not_or, Classical.not_and_iff_not_or_not, Classical.not_not] at this
        rcases this.2 with e | e
        · exact .inr (by omega)
        · exact .inl ((h4 k).2 (.inr e))
theorem EnF.new {b : Nat} {w : World} (h : EcBox w b (.slice none 0 0) (-1) 0 0 4294967295) : EnF b w (fun k => k = b) newE :=
  ⟨_, h, World.ownsRow_nil _ _ _ _, by simp [Value.ownBlock], fun k => ⟨.inl, fun e => e.elim id (fun e => by simp [Value.ownBlock] at e)⟩⟩
theorem enf_flat (b N : Nat) (up : Bool) (s : Ec) (F : Nat → Prop) (w : World) (h : EnF b w F s) (hk : okEm N s) (hN : N ≤ 4000000) : Calls Tryz.prog 143 #[.pointer (some ⟨b, 0, none⟩), .bool up] w (FPost (EnF b) F w (.tuple #[]) (parE s (s.wid / 2) up)) := by
  obtain ⟨P, h1, h2⟩ := h.ec
  refine (enflat_any b P N up s w h1 hk.1 (by omega) hk.2).mono ?_
  rintro e w' ⟨rfl, k1, k2⟩
  exact ⟨rfl, h2 _ _ k1 k2⟩
theorem enf_code (b N : Nat) (p : Int) (up : Bool) (s : Ec) (F : Nat → Prop) (w : World) (h : EnF b w F s) (hk : okEm N s) (hN : N ≤ 4000000) : Calls Tryz.prog 141 #[.pointer (some ⟨b, 0, none⟩), .int .i64 p, .bool up] w fun e w' => ∃ y, e = .returned y ∧ ∃ F', EnF b w' F' (codE s p up) ∧ Step F w F' w' := by
  obtain ⟨P, h1, h2⟩ := h.ec
  refine (encode_any b P N p up s w h1 hk.1 (by omega) hk.2).mono ?_
  rintro e w' ⟨y, rfl, -, k1, k2⟩
  exact ⟨y, rfl, h2 _ _ k1 k2⟩
theorem enf_end (b N : Nat) (s : Ec) (F : Nat → Prop) (w : World) (h : EnF b w F s) (hk : okEm N s) (hN : N ≤ 4000000) : Calls Tryz.prog 51 #[.pointer (some ⟨b, 0, none⟩)] w (EePost w s) := by
  obtain ⟨P, h1, h2⟩ := h.ec
  exact enend_any b P N s w h1 hk.1 hN
/-- a model.Writer and its blocks -/
def WrF (a : Nat) (w : World) (F : Nat → Prop) (s : Ms Ec) : Prop := ∃ b G, EnF b w G s.co ∧ ChAt w a 0 s.ch ∧ w.cell? ⟨a, 64, none⟩ = some (.pointer (some ⟨b, 0, none⟩)) ∧ ¬ G a ∧ ∀ k, F k ↔ (k = a ∨ G k)
theorem WrF.lt {a : Nat} {w : World} {F : Nat → Prop} {s : Ms Ec} (h : WrF a w F s) : ∀ k, F k → k < w.heap.size := by
  obtain ⟨b, G, h1, h2, h3, h4, h5⟩ := h
  intro k hk
  rcases (h5 k).1 hk with rfl | hk
  · exact h2.lt
  · exact h1.lt k hk
theorem WrF.same {a : Nat} {w w' : World} {F : Nat → Prop} {s : Ms Ec} (h : WrF a w F s) (k : ∀ i, F i → w'.heap[i]? = w.heap[i]?) : WrF a w' F s := by
  obtain ⟨b, G, h1, h2, h3, h4, h5⟩ := h
  have ka := k a ((h5 a).2 (.inl rfl))
  exact ⟨b, G, h1.same (fun i hi => k i ((h5 i).2 (.inr hi))), h2.same ka, (World.cell?_of_block (a := ⟨a, 64, none⟩) ka).trans h3, h4, h5⟩
theorem WrF.ext {a : Nat} {w w' : World} {F : Nat → Prop} {s : Ms Ec} (h : WrF a w F s) (k : Ext w w') : WrF a w' F s := h.same (fun i hi => k.block (h.lt i hi))
/-- a step of the encoder within the writer's -/
theorem WrF.inner {a b : Nat} {w w' : World} {F G G' : Nat → Prop} {s : Ms Ec} {t : Ec} (h2 : ChAt w a 0 s.ch) (h3 : w.cell? ⟨a, 64, none⟩ = some (.pointer (some ⟨b, 0, none⟩))) (h4 : ¬ G a) (h5 : ∀ k, F k ↔ (k = a ∨ G k)) (k1 : EnF b w' G' t) (k2 : Step G w G' w') :
    WrF a w' (fun k => k = a ∨ G' k) ⟨s.ch, t⟩ ∧ Step F w (fun k => k = a ∨ G' k) w' := by
  have ha := h2.lt
  have e := k2.1.2.2 a ha h4
  refine ⟨⟨b, G', k1, h2.same e, (World.cell?_of_block (a := ⟨a, 64, none⟩) e).trans h3, fun hg => (k2.2 a hg).elim h4 (by omega), fun _ => Iff.rfl⟩, ⟨k2.1.1, k2.1.2.1, fun k hk hn => k2.1.2.2 k hk (fun hg => hn ((h5 k).2 (.inr hg)))⟩, ?_⟩
  rintro k (rfl | hg)
  · exact .inl ((h5 k).2 (.inl rfl))
  · exact (k2.2 k hg).imp (fun h => (h5 k).2 (.inr h)) id
/-- a chance stored -/
theorem WrF.learn {a c p : Nat} {w : World} {F : Nat → Prop} {s : Ms Ec} (h : WrF a w F s) (hc : c < 64) : WrF a (w.setCell ⟨a, c, none⟩ (.int .i64 (p : Int))) F ⟨setM s.ch c p, s.co⟩ ∧ Step F w F (w.setCell ⟨a, c, none⟩ (.int .i64 (p : Int))) := by
  obtain ⟨b, G, h1, h2, h3, h4, h5⟩ := h
  have h9 := h2.set hc p
  rw [Nat.zero_add] at h9
  exact ⟨⟨b, G, h1.same (fun i hi => Below.heap_setCell _ _ _ _ (fun e => h4 (by rw [show i = a from e] at hi; exact hi))), h9, (cell_off_ne _ (by omega)).trans h3, h4, h5⟩, Step.of_kp ((Kp.refl a w).set c _) ((h5 a).2 (.inl rfl))⟩
set_option maxRecDepth 20000 in
theorem mwflat_any (a N : Nat) (up : Bool) (s : Ms Ec) (F : Nat → Prop) (w : World) (h : WrF a w F s) (hk : okS okEm N s) (hN : N ≤ 4000000) : Calls Tryz.prog 139 #[.pointer (some ⟨a, 0, none⟩), .bool up] w (FPost (WrF a) F w (.bool (flaM mE s up).1) (flaM mE s up).2) := by
  obtain ⟨b, G, h1, h2, h3, h4, h5⟩ := h
  have UF := Lib.hid (enf_flat b N up s.co G w h1 hk.2 hN)
  have HI := Lib.hid (fun w' G' t (k1 : EnF b w' G' t) (k2 : Step G w G' w') => WrF.inner (s := s) h2 h3 h4 h5 k1 k2)
  show Calls Tryz.prog 139 _ w (FPost (WrF a) F w (.bool up) ⟨s.ch, parE s.co (s.co.wid / 2) up⟩)
  clear h1 h2 h4 h5 hk
  go_enter Tryz.func139, Tryz.ntmps139
  go_wp2_with fail
  refine (UF.out).mono ?_; rintro e w7 ⟨rfl, G', k1, k2⟩
  have HZ := Lib.hid (HI.out _ _ _ k1 k2)
  clear k1 k2
  go_wp2
  go_ret
  exact ⟨rfl, _, HZ.out⟩
set_option maxRecDepth 20000 in
set_option maxHeartbeats 4000000 in
theorem mwbit_any (a N : Nat) (c : Int) (up : Bool) (s : Ms Ec) (F : Nat → Prop) (w : World) (h : WrF a w F s) (hk : okS okEm N s) (hN : N ≤ 4000000) : Calls Tryz.prog 137 #[.pointer (some ⟨a, 0, none⟩), .int .i64 c, .bool up] w (FPost (WrF a) F w (.bool (bitM mE s c up).1) (bitM mE s c up).2) := by
  cases hc : ctxM c
  · have hb : bitM mE s c up = flaM mE s up := by unfold bitM; rw [hc]; rfl
    rw [hb]
    have UI := Lib.hid (isctx_any c)
    have hc' : (decide (0 ≤ c) && decide (c < 64)) = false := hc
    rw [hc'] at UI
    have UF := Lib.hid (mwflat_any a N up s F w h hk hN)
    clear h hk hb hc hc'
    go_enter Tryz.func137, Tryz.ntmps137
    go_wp2_with fail
    refine (UI.out _).mono ?_; rintro e w1 ⟨rfl, rfl⟩
    go_wp2_with fail
    refine (UF.out).mono ?_; rintro e w7 ⟨rfl, k⟩
    have HZ := Lib.hid k
    clear k
    go_wp2
    go_ret
    exact ⟨rfl, HZ.out⟩
  · have UI := Lib.hid (isctx_any c)
    have hc' : (decide (0 ≤ c) && decide (c < 64)) = true := hc
    rw [hc'] at UI
    rw [Bool.and_eq_true, decide_eq_true_iff, decide_eq_true_iff] at hc'
    obtain ⟨n, rfl⟩ : ∃ n : Nat, c = (n : Int) := ⟨c.toNat, by omega⟩
    have hn : n < 64 := by omega
    obtain ⟨b, G, h1, h2, h3, h4, h5⟩ := h
    obtain ⟨p, hp⟩ : ∃ p, s.ch n = p := ⟨_, rfl⟩
    obtain ⟨p1, p2⟩ := hk.1 n
    rw [hp] at p1 p2
    have hbm : bitM mE s (n : Int) up = (up, ⟨setM s.ch n (lrnM p up), codE s.co (p : Int) up⟩) := by
      unfold bitM
      rw [hc, if_pos rfl, Int.toNat_natCast, hp]
      rfl
    rw [hbm]
    have c0 := (h2 n hn).1
    rw [Nat.zero_add, hp] at c0
    have D1 : Ext w w.drew := (Ext.refl w).drew
    have c0d := D1.cell c0
    have c3d := D1.cell h3
    have UC := Lib.hid (enf_code b N (p : Int) up s.co G w.drew (h1.ext D1) hk.2 hN)
    have HI := Lib.hid (fun w' G' t (k1 : EnF b w' G' t) (k2 : Step G w.drew G' w') => WrF.inner (s := s) (h2.ext D1) c3d h4 h5 k1 k2)
    have HP := Lib.hid hp
    have HD := Lib.hid (Step.of_ext (F := F) D1)
    have UL := Lib.hid (fun w' h hf => learn_any a n p up w' hn h hf p1 p2)
    have x1 : (0 : Int) ≤ (n : Int) := by omega
    have x2 : (n : Int) < 64 := by omega
    clear h1 h2 h4 h5 hk hbm hc' hp p1 p2 D1 hc
    go_enter Tryz.func137, Tryz.ntmps137
    go_wp2_with fail
    refine (UI.out _).mono ?_; rintro e w1 ⟨rfl, rfl⟩
    go_wp2_with fail
    go_region_law (go_simp; go_at_call 141; refine (UC.out).mono ?_; rintro e w5 ⟨y5, rfl, G', k1, k2⟩; have HZ := Lib.hid (HI.out _ _ _ k1 k2); clear k1 k2)
    all_goals (
      have HL := Lib.hid (HZ.out.1.learn (c := n) (p := lrnM p up) hn)
      obtain ⟨-, -, -, hch, -⟩ := HZ.out.1
      obtain ⟨d0, f0⟩ := hch n hn
      rw [Nat.zero_add] at d0 f0
      have d0 : w5.cell? ⟨a, n, none⟩ = some (.int .i64 (s.ch n : Int)) := d0
      rw [HP.out] at d0
      have UL2 := Lib.hid (UL.out w5 d0 f0)
      clear hch d0 f0
      go_wp2_with fail
      refine (UL2.out).mono ?_; rintro e w6 ⟨rfl, rfl⟩
      go_wp2
      go_ret
      exact ⟨rfl, _, HL.out.1, (HD.out.trans HZ.out.2).trans HL.out.2⟩)
theorem fro_of {w : World} {g i : Nat} {cs : Array Value} {t : TypeId} (h : w.heap[g]? = some (.cells cs t (0, 0))) : w.frozen? ⟨g, i, none⟩ = false := by simp [World.frozen?, h]
def NmPost (w : World) (e : Ending) (w' : World) : Prop := ∃ a F, e = .returned (.pointer (some ⟨a, 0, none⟩)) ∧ (∀ k, F k → w.heap.size ≤ k) ∧ WrF a w' F ⟨ch0, newE⟩ ∧ Ext w w'
set_option maxRecDepth 20000 in
theorem mwnew_any (w : World) : Calls Tryz.prog 7 #[] w (NmPost w) := by
  go_enter Tryz.func7, Tryz.ntmps7
  go_wp2_with fail
  refine (newch_any _).mono ?_; rintro e w1 ⟨rfl, hx1⟩
  go_wp2_with fail
  refine (newen_any _).mono ?_; rintro e w2 ⟨b, rfl, hb, hbx, hx2⟩
  have hb1 : w.heap.size ≤ b := Nat.le_trans hx1.size hb
  have HE := Lib.hid (hx1.trans hx2)
  clear hx1 hx2 hb
  go_wp2_with fail
  generalize hO : Array.setIfInBounds (List.foldl _ _ _) 64 _ = O
  have hO2 : O = (mxt 64 ++ [Value.pointer (some ⟨b, 0, none⟩)]).toArray := by rw [← hO]; kernel_rfl
  subst hO2
  clear hO
  have hh := heap_alloc_last w2 (.cells (mxt 64 ++ [Value.pointer (some ⟨b, 0, none⟩)]).toArray 83)
  have A := (Ext.refl w2).alloc (.cells (mxt 64 ++ [Value.pointer (some ⟨b, 0, none⟩)]).toArray 83)
  go_ret
  refine ⟨_, fun k => k = w2.heap.size ∨ k = b, rfl, ?_, ⟨b, fun k => k = b, EnF.new (hbx.ext A), fun i hi => ⟨?_, fro_of hh⟩, ?_, ?_, fun _ => Iff.rfl⟩, HE.out.trans A⟩
  · rintro k (rfl | rfl)
    · exact HE.out.size
    · exact hb1
  · rw [cell_of_row _ _ _ _ _ _ hh, List.getElem?_toArray, Nat.zero_add, List.getElem?_append_left (by rw [mxt, List.length_replicate]; exact hi)]
    exact rep_get 64 i _ hi
  · rw [cell_of_row _ _ _ _ _ _ hh, List.getElem?_toArray, List.getElem?_append_right (by rw [mxt, List.length_replicate]; exact Nat.le_refl _)]
    rw [mxt, List.length_replicate]
    rfl
  · intro e
    have := hbx.lt
    omega
end Go.Proofs.YtpofabebmeickaaGreatDoor

/- model.Reader: an object and the blocks that it lies in: contracts over this seat's translation. -/
namespace Go.Proofs.YtpofabebmeickaaGreatDoor
set_option linter.unusedVariables false
set_option linter.unusedSimpArgs false
open Go.RowKit Go.Extern.Stop Go.Stop Go.Extern

set_option maxRecDepth 20000 in
theorem mwend_any (a N : Nat) (s : Ms Ec) (F : Nat → Prop) (w : World) (h : WrF a w F s) (hk : okS okEm N s) (hN : N ≤ 4000000) : Calls Tryz.prog 17 #[.pointer (some ⟨a, 0, none⟩)] w (EePost w s.co) := by
  obtain ⟨b, G, h1, h2, h3, -⟩ := h
  have UO := Lib.hid (enf_end b N s.co G w h1 hk.2 hN)
  clear h1 h2 hk
  go_enter Tryz.func17, Tryz.ntmps17
  go_wp2_with fail
  refine (UO.out).mono ?_; rintro e w7 ⟨g, k, cap, rfl, h4, h5, h6⟩
  go_wp2
  go_ret
  exact ⟨g, k, cap, rfl, h4, h5, h6⟩
end Go.Proofs.YtpofabebmeickaaGreatDoor

