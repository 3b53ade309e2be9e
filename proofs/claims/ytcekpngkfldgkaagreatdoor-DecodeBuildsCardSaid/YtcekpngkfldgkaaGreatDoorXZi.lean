/- Contracts of this seat: Md1, Md0, Md2, Md3, Md4. -/
import Derived.Test.YtcekpngkfldgkaaGreatDoorXTk
import Derived.Test.YtcekpngkfldgkaaGreatDoorXZb
import Derived.Deep.MidRow
import Derived.Deep.WholeRow
import Derived.Test.YtcekpngkfldgkaaGreatDoorXZe
import Derived.Test.YtcekpngkfldgkaaGreatDoorXZd
import Derived.Deep.RegionLaw
namespace Go.Proofs.YtcekpngkfldgkaaGreatDoor
set_option linter.unusedVariables false
set_option linter.unusedSimpArgs false
open Go.RowKit Go.Extern.Stop Go.Stop Go.Extern
def ChAt (w : World) (a o : Nat) (f : Nat → Nat) : Prop := ∀ i, i < 64 → w.cell? ⟨a, o + i, none⟩ = some (.int .i64 (f i : Int)) ∧ w.frozen? ⟨a, o + i, none⟩ = false
theorem ChAt.same {w w' : World} {a o : Nat} {f : Nat → Nat} (h : ChAt w a o f) (k : w'.heap[a]? = w.heap[a]?) : ChAt w' a o f := fun i hi =>
 ⟨(World.cell?_of_block (a := ⟨a, o + i, none⟩) k).trans (h i hi).1, (World.frozen?_of_block (a := ⟨a, o + i, none⟩) k).trans (h i hi).2⟩
theorem ChAt.lt {w : World} {a o : Nat} {f : Nat → Nat} (h : ChAt w a o f) : a < w.heap.size := Ext.lt (p := ⟨a, o + 0, none⟩) (h 0 (by decide)).1
theorem ChAt.ext {w w' : World} {a o : Nat} {f : Nat → Nat} (h : ChAt w a o f) (k : Ext w w') : ChAt w' a o f := h.same (k.block h.lt)
theorem ChAt.set {w : World} {a o c : Nat} {f : Nat → Nat} (h : ChAt w a o f) (hc : c < 64) (p : Nat) : ChAt (w.setCell ⟨a, o + c, none⟩ (.int .i64 (p : Int))) a o (fun j => if j = c then p else f j) := fun i hi => by
 obtain ⟨h1, h2⟩ := h i hi
 refine ⟨?_, by simpa using h2⟩
 by_cases e : i = c
 · subst e
   rw [World.cell?_setCell_same _ _ _ h1]
   simp
 · rw [cell_off_ne _ (show o + c ≠ o + i by omega), h1]
   simp [e]
theorem Ext.setCells {a w : World} (h : Ext a w) {b : Nat} (hb : a.heap.size ≤ b) : ∀ (vs : List Value) (o : Nat), Ext a (w.setCells b o vs)
 | [], _ => h
 | v :: vs, o => Ext.setCells (Ext.setCell h (p := ⟨b, o, none⟩) hb v) hb vs (o + 1)
theorem rep_get {α : Type} (n j : Nat) (x : α) (h : j < n) : (List.replicate n x)[j]? = some x := by simp [h]
def lrnM (p : Nat) (b : Bool) : Nat := if b then p - p / 32 else p + (2048 - p) / 32
theorem lrnM_ok {p : Nat} (b : Bool) (h1 : 31 ≤ p) (h2 : p ≤ 2017) : 31 ≤ lrnM p b ∧ lrnM p b ≤ 2017 := by
 unfold lrnM
 split <;> omega
def mxt (n : Nat) : List Value := List.replicate n (.int .i64 1024)
def mzt : List Value := List.replicate 64 (.int .i64 0)
theorem ChAt.of {w : World} {a : Nat} {t : TypeId} (h : w.heap[a]? = some (.cells mzt.toArray t (0, 0))) : ChAt w a 0 (fun _ => 0) := fun i hi => by
 refine ⟨?_, by simp [World.frozen?, h]⟩
 rw [cell_of_row w a (0 + i) _ t (0, 0) h]
 rw [List.getElem?_toArray, Nat.zero_add]
 exact rep_get 64 i _ hi
theorem ChAt.range {w : World} {a o : Nat} {f : Nat → Nat} (h : ChAt w a o f) (hf : ∀ i, i < 64 → f i = 1024) : w.rangeAt a o (mxt 64) := fun j v hv => by
 have hj : j < 64 := by
  have := (List.getElem?_eq_some_iff.1 hv).1
  rwa [mxt, List.length_replicate] at this
 have e : (mxt 64)[j]? = some (.int .i64 1024) := rep_get 64 j _ hj
 rw [e] at hv
 rw [← Option.some.inj hv, (h j hj).1, hf j hj]
 rfl
theorem ChAt.there {w : World} {a o : Nat} {f : Nat → Nat} (h : ChAt w a o f) : w.there a o 64 := fun j hj => ⟨by rw [(h j hj).1]; rfl, (h j hj).2⟩
theorem results_cell_mid {P : Program} {fn : Func} {p : Tmp} {ty : TypeId} (h : fn.results = #[.cell p ty]) (tmps : Array Value) (w : World) (g : Nat) (cs : Array Value) (hp : tmps.getD p undef = .pointer (some ⟨g, 0, none⟩))
 (hl : (loadVar ty ⟨g, 0, none⟩).run P w = .ok (.agg cs) w) : (results fn tmps).run P w = .ok (.agg cs) w := by
 have hp' : tmps[p]?.getD undef = .pointer (some ⟨g, 0, none⟩) := by simpa using hp
 simp [results, h, hp', asAddr, hl]
set_option maxRecDepth 20000 in
set_option maxHeartbeats 2000000 in
theorem newch_any (w : World) : Calls Tryz.prog 106 #[] w fun e w' => e = .returned (.agg (mxt 64).toArray) ∧ Ext w w' := by
 go_enter Tryz.func106, Tryz.ntmps106
 go_wp2_with fail
 generalize hW : World.alloc (World.alloc w _) _ = W1
 have h1 : W1.heap[w.heap.size]? = some (.cells mzt.toArray 167 (0, 0)) := by rw [← hW]; rw [Below.heap_alloc _ _ _ (by simp), heap_alloc_last]; rfl
 have h2 : W1.heap[w.heap.size + 1]? = some (.cells mzt.toArray 167 (0, 0)) := by
  rw [← hW]
  have := heap_alloc_last (w.alloc (.cells mzt.toArray 167)) (.cells mzt.toArray 167)
  rw [show (w.alloc (.cells mzt.toArray 167)).heap.size = w.heap.size + 1 by simp] at this
  exact this
 have hE : Ext w W1 := by rw [← hW]; exact ((Ext.refl w).alloc _).alloc _
 have HR := Lib.hid (ChAt.of h1)
 have HB0 : Hid (ChAt W1 (w.heap.size + 1) 0 (fun i => if i < 0 then 1024 else 0)) := fun i hi => by
  have := ChAt.of h2 i hi
  simpa using this
 have HE := Lib.hid hE
 clear hW h1 h2 hE
 go_loopw [3] (fun iv wr => ∃ k : Nat, k ≤ 64 ∧ iv = .int .i64 (k : Int) ∧ Hid (ChAt wr w.heap.size 0 (fun _ => 0)) ∧ Hid (ChAt wr (w.heap.size + 1) 0 (fun i => if i < k then 1024 else 0)) ∧ Hid (Ext w wr)) (fun iv _ => 64 - (intOf iv).toNat)
 case atStart => exact ⟨0, Nat.zero_le _, rfl, HR.out, HB0.out, HE.out⟩
 case round =>
  clear HR HB0 HE
  obtain ⟨k, hk, rfl, HR, HB, HE⟩ := hrel
  by_cases hlt : k < 64
  · have x1 : (0 : Int) ≤ (k : Int) := by omega
    have x2 : (k : Int) < 64 := by omega
    obtain ⟨c0, f0⟩ := HB.out k hlt
    rw [Nat.zero_add] at c0 f0
    have HB2 : Hid (ChAt (wr.setCell ⟨w.heap.size + 1, k, none⟩ (.int .i64 1024)) (w.heap.size + 1) 0 (fun i => if i < k + 1 then 1024 else 0)) := fun i hi => by
     have := (HB.out.set hlt 1024) i hi
     rw [Nat.zero_add] at this
     refine ⟨this.1.trans ?_, this.2⟩
     show some (Value.int .i64 ((if i = k then 1024 else if i < k then 1024 else 0 : Nat) : Int)) = some (Value.int .i64 ((if i < k + 1 then 1024 else 0 : Nat) : Int))
     by_cases e1 : i = k
     · rw [if_pos e1, if_pos (by omega)]
     · by_cases e2 : i < k
       · rw [if_neg e1, if_pos e2, if_pos (by omega)]
       · rw [if_neg e1, if_neg e2, if_neg (by omega)]
    have HR2 := Lib.hid (HR.out.same (w' := wr.setCell ⟨w.heap.size + 1, k, none⟩ (.int .i64 1024)) (Below.heap_setCell _ _ _ _ (by simp)))
    have HE2 := Lib.hid (HE.out.setCell (p := ⟨w.heap.size + 1, k, none⟩) (by simp) (.int .i64 1024))
    clear HR HB HE
    go_wp2
    go_roundw
    case rel => exact ⟨k + 1, by omega, by go_num, HR2.out, HB2.out, HE2.out⟩
    case measure => simp [intOf]; omega
  · obtain rfl : k = 64 := by omega
    have x2 : ¬ ((64 : Nat) : Int) < 64 := by omega
    have hr := HB.out.range (fun i hi => if_pos hi)
    have ht := HR.out.there
    have hu := Tryz.underlying167
    have hi : (Tryz.prog.info? 167).map (·.size) = some 64 := by kernel_rfl
    go_wp2_with (first | (refine wpList_load_mid rfl 167 _ rfl (w.heap.size + 1) 0 rfl (mxt 64) _ hr hu rfl hi ?_) | (refine wpList_store_mid rfl 167 _ _ rfl w.heap.size 0 (mxt 64).toArray rfl rfl ht hi (by kernel_rfl) ?_))
    exact bodyPost_ret (v := .agg (mxt 64).toArray) (results_cell_mid rfl _ _ w.heap.size _ rfl (run_loadVar_mid _ w.heap.size 0 167 (mxt 64) _ (World.rangeAt_setCells_same _ _ _ _ ht) hu rfl hi)) rfl ⟨rfl, HE.out.setCells (Nat.le_refl _) _ _⟩
theorem isctx_any (c : Int) (w : World) : Calls Tryz.prog 204 #[.int .i64 c] w fun e w' => e = .returned (.bool (decide (0 ≤ c) && decide (c < 64))) ∧ w = w' := by
 by_cases h1 : 0 ≤ c
 · by_cases h2 : c < 64
   · rw [decide_eq_true h1, decide_eq_true h2]
     have t2 : decide (c < 64) = true := decide_eq_true h2
     go_enter Tryz.func204, Tryz.ntmps204
     go_wp2
     go_ret
     exact ⟨rfl, rfl⟩
   · rw [decide_eq_true h1, decide_eq_false h2]
     have t2 : decide (c < 64) = false := decide_eq_false h2
     go_enter Tryz.func204, Tryz.ntmps204
     go_wp2
     go_ret
     exact ⟨rfl, rfl⟩
 · rw [decide_eq_false h1]
   go_enter Tryz.func204, Tryz.ntmps204
   go_wp2
   go_ret
   exact ⟨rfl, rfl⟩
set_option maxRecDepth 20000 in
theorem learn_any (a c p : Nat) (b : Bool) (w : World) (hc : c < 64) (h : w.cell? ⟨a, c, none⟩ = some (.int .i64 (p : Int))) (hf : w.frozen? ⟨a, c, none⟩ = false) (h1 : 31 ≤ p) (h2 : p ≤ 2017) :
 Calls Tryz.prog 206 #[.pointer (some ⟨a, 0, none⟩), .int .i64 (c : Int), .bool b] w fun e w' => e = .returned (.tuple #[]) ∧ w' = w.setCell ⟨a, c, none⟩ (.int .i64 (lrnM p b : Int)) := by
 have x1 : (0 : Int) ≤ (c : Int) := by omega
 have x2 : (c : Int) < 64 := by omega
 cases b
 · obtain ⟨q, hq⟩ : ∃ q, (2048 - p) / 32 = q := ⟨_, rfl⟩
   obtain ⟨z, hz⟩ : ∃ z, 2048 - p = z := ⟨_, rfl⟩
   have s1 : IntKind.i64.wrap (2048 - (p : Int)) = (z : Int) := by rw [IntKind.wrap_i64]; omega
   have s2 : Int.tdiv (z : Int) 32 = (q : Int) := by rw [← hq, ← hz, show (32 : Int) = ((32 : Nat) : Int) from rfl, Int.ofNat_tdiv]
   have s3 : IntKind.i64.wrap (q : Int) = (q : Int) := by rw [IntKind.wrap_i64]; omega
   have s4 : IntKind.i64.wrap ((p : Int) + (q : Int)) = ((p + q : Nat) : Int) := by rw [IntKind.wrap_i64]; omega
   have hl : lrnM p false = p + q := by rw [← hq]; rfl
   rw [hl]
   clear hq hz hl
   go_enter Tryz.func206, Tryz.ntmps206
   go_wp2
   go_end0
   exact ⟨rfl, rfl⟩
 · obtain ⟨q, hq⟩ : ∃ q, p / 32 = q := ⟨_, rfl⟩
   have s2 : Int.tdiv (p : Int) 32 = (q : Int) := by rw [← hq, show (32 : Int) = ((32 : Nat) : Int) from rfl, Int.ofNat_tdiv]
   have s3 : IntKind.i64.wrap (q : Int) = (q : Int) := by rw [IntKind.wrap_i64]; omega
   have s4 : IntKind.i64.wrap ((p : Int) - (q : Int)) = ((p - q : Nat) : Int) := by rw [IntKind.wrap_i64]; omega
   have hl : lrnM p true = p - q := by rw [← hq]; rfl
   rw [hl]
   clear hq hl
   go_enter Tryz.func206, Tryz.ntmps206
   go_wp2
   go_end0
   exact ⟨rfl, rfl⟩
structure Mc (σ : Type) where
 cod : σ → Int → Bool → Bool × σ
 fla : σ → Bool → Bool × σ
structure Ms (σ : Type) where
 ch : Nat → Nat
 co : σ
section
variable {σ : Type}
def ctxM (c : Int) : Bool := decide (0 ≤ c) && decide (c < 64)
def flaM (M : Mc σ) (s : Ms σ) (b : Bool) : Bool × Ms σ := ((M.fla s.co b).1, ⟨s.ch, (M.fla s.co b).2⟩)
def setM (f : Nat → Nat) (i p : Nat) : Nat → Nat := fun j => if j = i then p else f j
def bitM (M : Mc σ) (s : Ms σ) (c : Int) (b : Bool) : Bool × Ms σ :=
 if ctxM c then ((M.cod s.co (s.ch c.toNat) b).1, ⟨setM s.ch c.toNat (lrnM (s.ch c.toNat) (M.cod s.co (s.ch c.toNat) b).1), (M.cod s.co (s.ch c.toNat) b).2⟩)
 else flaM M s b
def kindM (M : Mc σ) (s : Ms σ) (k : Int) : Nat × Ms σ :=
 if (bitM M s 0 (decide (0 < k))).1 then
  if (bitM M (bitM M s 0 (decide (0 < k))).2 1 (decide (1 < k))).1 then
   (if (bitM M (bitM M (bitM M s 0 (decide (0 < k))).2 1 (decide (1 < k))).2 2 (decide (2 < k))).1 then 3 else 2, (bitM M (bitM M (bitM M s 0 (decide (0 < k))).2 1 (decide (1 < k))).2 2 (decide (2 < k))).2)
  else (1, (bitM M (bitM M s 0 (decide (0 < k))).2 1 (decide (1 < k))).2)
 else (0, (bitM M s 0 (decide (0 < k))).2)
def modeM (M : Mc σ) (s : Ms σ) (m : Nat) : Nat × Ms σ :=
 if (bitM M s 3 (decide (1 < m))).1 then
  (if (bitM M (bitM M s 3 (decide (1 < m))).2 5 (decide (m % 2 = 1))).1 then 3 else 2, (bitM M (bitM M s 3 (decide (1 < m))).2 5 (decide (m % 2 = 1))).2)
 else (if (bitM M (bitM M s 3 (decide (1 < m))).2 4 (decide (m % 2 = 1))).1 then 1 else 0, (bitM M (bitM M s 3 (decide (1 < m))).2 4 (decide (m % 2 = 1))).2)
def sizM (M : Mc σ) (z : Int) : Nat → Nat → Ms σ → Nat × Ms σ
 | 0, n, s => (n, s)
 | f + 1, n, s => if (bitM M s ((7 + min n 6 : Nat) : Int) (decide ((n : Int) < z))).1 then sizM M z f (n + 1) (bitM M s ((7 + min n 6 : Nat) : Int) (decide ((n : Int) < z))).2 else (n, (bitM M s ((7 + min n 6 : Nat) : Int) (decide ((n : Int) < z))).2)
def partM (M : Mc σ) (s : Ms σ) (v : Int) : Int × Ms σ :=
 if (bitM M s 6 (decide (v ≠ 0))).1 then
  ((if (flaM M (bitM M s 6 (decide (v ≠ 0))).2 (decide (v < 0))).1 then -((sizM M ((v.natAbs : Int) - 1) 14 0 (flaM M (bitM M s 6 (decide (v ≠ 0))).2 (decide (v < 0))).2).1 : Int) - 1 else ((sizM M ((v.natAbs : Int) - 1) 14 0 (flaM M (bitM M s 6 (decide (v ≠ 0))).2 (decide (v < 0))).2).1 : Int) + 1),
    (sizM M ((v.natAbs : Int) - 1) 14 0 (flaM M (bitM M s 6 (decide (v ≠ 0))).2 (decide (v < 0))).2).2)
 else (0, (bitM M s 6 (decide (v ≠ 0))).2)
def cl3 (m : Int) : Nat := (max 0 (min m 3)).toNat
def cl15 (v : Int) : Int := max (-15) (min v 15)
structure Mk (M : Mc σ) (ok : Nat → σ → Prop) : Prop where
 cod : ∀ {N s} (p : Nat) (b : Bool), 31 ≤ p → p ≤ 2017 → ok N s → ok (N + 4) (M.cod s p b).2
 fla : ∀ {N s} (b : Bool), ok N s → ok (N + 4) (M.fla s b).2
 mono : ∀ {N K s}, ok N s → N ≤ K → ok K s
def chI (f : Nat → Nat) : Prop := ∀ i, 31 ≤ f i ∧ f i ≤ 2017
def okS (ok : Nat → σ → Prop) (N : Nat) (s : Ms σ) : Prop := chI s.ch ∧ ok N s.co
theorem chI.set {f : Nat → Nat} (h : chI f) (i : Nat) (b : Bool) : chI (setM f i (lrnM (f i) b)) := fun j => by
 unfold setM
 split
 · exact lrnM_ok b (h i).1 (h i).2
 · exact h j
section
variable {M : Mc σ} {ok : Nat → σ → Prop}
theorem okS.mono (m : Mk M ok) {N K : Nat} {s : Ms σ} (h : okS ok N s) (k : N ≤ K) : okS ok K s := ⟨h.1, m.mono h.2 k⟩
theorem fla_ok (m : Mk M ok) {N : Nat} {s : Ms σ} (b : Bool) (h : okS ok N s) : okS ok (N + 4) (flaM M s b).2 := ⟨h.1, m.fla b h.2⟩
theorem bit_ok (m : Mk M ok) {N : Nat} {s : Ms σ} (c : Int) (b : Bool) (h : okS ok N s) : okS ok (N + 4) (bitM M s c b).2 := by
 unfold bitM
 split
 · exact ⟨h.1.set _ _, m.cod _ _ (h.1 _).1 (h.1 _).2 h.2⟩
 · exact fla_ok m b h
end
section
variable {τ : Type} {M : Mc σ} {K : Mc τ} {R : Nat → σ → τ → Prop}
end
end
def mE : Mc Ec := ⟨fun s p b => (b, codE s p b), fun s b => (b, parE s (s.wid / 2) b)⟩
def mD (bs : List Nat) : Mc Dc := ⟨fun s p _ => (codU s p, codD bs s p), fun s _ => (upD s (s.wid / 2), parD bs s (s.wid / 2))⟩
def okDm (N : Nat) (s : Dc) : Prop := okD N s ∧ 16777216 ≤ s.wid
theorem mkD {bs : List Nat} (hb : ∀ x ∈ bs, x < 256) : Mk (mD bs) okDm := ⟨fun p b _ _ h => by
 obtain ⟨h1, h2⟩ := codD_ok (p := (p : Int)) hb h.1 h.2
 exact ⟨h1.mono (by omega), h2⟩, fun b h => by
 obtain ⟨h1, h2⟩ := flaD_ok hb h.1 h.2
 exact ⟨h1.mono (by omega), h2⟩, fun h k => ⟨h.1.mono k, h.2⟩⟩
def ch0 : Nat → Nat := fun _ => 1024
theorem ch0_ok : chI ch0 := fun _ => ⟨(by show (31 : Nat) ≤ 1024; decide), (by show (1024 : Nat) ≤ 2017; decide)⟩
theorem fro_of {w : World} {g i : Nat} {cs : Array Value} {t : TypeId} (h : w.heap[g]? = some (.cells cs t (0, 0))) : w.frozen? ⟨g, i, none⟩ = false := by simp [World.frozen?, h]
theorem DcAt.same {F : Nat → Prop} {w w' : World} {b : Nat} {bs : List Nat} {s : Dc} (h : DcAt F w b bs s) (kb : w'.heap[b]? = w.heap[b]?) (kg : ∀ g, ¬ F g → w'.heap[g]? = w.heap[g]?) : DcAt F w' b bs s := by
 obtain ⟨a, cap, h1, h3, h4⟩ := h
 refine ⟨a, cap, h1.same kb, ⟨?_, h3.2⟩, h4⟩
 obtain ⟨a', cap', e, e1, e2, e3, e4⟩ := h3.1
 refine ⟨a', cap', e, e1, e2, e3, fun g off ha j u hu => ?_⟩
 have c := e4 g off ha j u hu
 simp only [Value.slice.injEq] at e
 obtain ⟨rfl, -, -⟩ := e
 exact (World.cell?_of_block (a := ⟨g, off + j, none⟩) (kg g (h4 g off ha).2)).trans c
def RdF (a : Nat) (bs : List Nat) (w : World) (F : Nat → Prop) (s : Ms Dc) : Prop := ∃ d E, DcAt E w d bs s.co ∧ ChAt w a 0 s.ch ∧ w.cell? ⟨a, 64, none⟩ = some (.pointer (some ⟨d, 0, none⟩)) ∧ (d ≠ a ∧ E a) ∧ (F a ∧ F d) ∧ (∀ k, ¬ E k → F k) ∧ ∀ k, F k → k < w.heap.size
theorem RdF.lt {a : Nat} {bs : List Nat} {w : World} {F : Nat → Prop} {s : Ms Dc} (h : RdF a bs w F s) : ∀ k, F k → k < w.heap.size := by
 obtain ⟨d, E, h1, h2, h3, h4, h5, h6, h7⟩ := h
 exact h7
theorem RdF.same {a : Nat} {bs : List Nat} {w w' : World} {F : Nat → Prop} {s : Ms Dc} (h : RdF a bs w F s) (k : ∀ i, F i → w'.heap[i]? = w.heap[i]?) : RdF a bs w' F s := by
 obtain ⟨d, E, h1, h2, h3, h4, h5, h6, h7⟩ := h
 have ka := k a h5.1
 refine ⟨d, E, h1.same (k d h5.2) (fun g hg => k g (h6 g hg)), h2.same ka, (World.cell?_of_block (a := ⟨a, 64, none⟩) ka).trans h3, h4, h5, h6, fun i hi => ?_⟩
 have e := k i hi
 rw [Array.getElem?_eq_getElem (h7 i hi)] at e
 exact (Array.getElem?_eq_some_iff.1 e).1
theorem RdF.ext {a : Nat} {bs : List Nat} {w w' : World} {F : Nat → Prop} {s : Ms Dc} (h : RdF a bs w F s) (k : Ext w w') : RdF a bs w' F s := h.same (fun i hi => k.block (h.lt i hi))
theorem RdF.inner {a d : Nat} {bs : List Nat} {w w' : World} {F E : Nat → Prop} {s : Ms Dc} {t : Dc} (h2 : ChAt w a 0 s.ch) (h3 : w.cell? ⟨a, 64, none⟩ = some (.pointer (some ⟨d, 0, none⟩))) (h4 : d ≠ a ∧ E a) (h5 : F a ∧ F d) (h6 : ∀ k, ¬ E k → F k) (h7 : ∀ k, F k → k < w.heap.size) (k1 : DcAt E w' d bs t) (k2 : Kp d w w') :
 RdF a bs w' F ⟨s.ch, t⟩ ∧ Step F w F w' := by
 have e := k2.block h2.lt (fun e => h4.1 e.symm)
 exact ⟨⟨d, E, k1, h2.same e, (World.cell?_of_block (a := ⟨a, 64, none⟩) e).trans h3, h4, h5, h6, fun k hk => Nat.lt_of_lt_of_le (h7 k hk) k2.size⟩, Step.of_kp k2 h5.2⟩
theorem RdF.learn {a c p : Nat} {bs : List Nat} {w : World} {F : Nat → Prop} {s : Ms Dc} (h : RdF a bs w F s) (hc : c < 64) : RdF a bs (w.setCell ⟨a, c, none⟩ (.int .i64 (p : Int))) F ⟨setM s.ch c p, s.co⟩ ∧ Step F w F (w.setCell ⟨a, c, none⟩ (.int .i64 (p : Int))) := by
 obtain ⟨d, E, h1, h2, h3, h4, h5, h6, h7⟩ := h
 have h9 := h2.set hc p
 rw [Nat.zero_add] at h9
 exact ⟨⟨d, E, h1.kp ((Kp.refl a w).set c _) h4.2 h4.1, h9, (cell_off_ne _ (by omega)).trans h3, h4, h5, h6, by simpa using h7⟩, Step.of_kp ((Kp.refl a w).set c _) h5.1⟩
set_option maxRecDepth 20000 in
theorem mrflat_any (a N : Nat) (bs : List Nat) (up : Bool) (s : Ms Dc) (F : Nat → Prop) (w : World) (h : RdF a bs w F s) (hk : okS okDm N s) (hN : N ≤ 4000000) : Calls Tryz.prog 202 #[.pointer (some ⟨a, 0, none⟩), .bool up] w (FPost (RdF a bs) F w (.bool (flaM (mD bs) s up).1) (flaM (mD bs) s up).2) := by
 obtain ⟨d, E, h1, h2, h3, h4, h5, h6, h7⟩ := h
 have UF := Lib.hid (dflat_any E d N bs s.co w h1 hk.2.1 (by omega) hk.2.2)
 have HI := Lib.hid (fun w' t (k1 : DcAt E w' d bs t) (k2 : Kp d w w') => RdF.inner (s := s) h2 h3 h4 h5 h6 h7 k1 k2)
 show Calls Tryz.prog 202 _ w (FPost (RdF a bs) F w (.bool (upD s.co (s.co.wid / 2))) ⟨s.ch, parD bs s.co (s.co.wid / 2)⟩)
 obtain ⟨V, hV⟩ : ∃ V, upD s.co (s.co.wid / 2) = V := ⟨_, rfl⟩
 rw [hV] at UF ⊢
 clear h1 h2 h4 h5 h6 h7 hk hV
 go_enter Tryz.func202, Tryz.ntmps202
 go_wp2_with fail
 refine (UF.out).mono ?_; rintro e w7 ⟨rfl, k1, k2⟩
 have HZ := Lib.hid (HI.out _ _ k1 k2)
 clear k1 k2
 go_wp2
 go_ret
 exact ⟨rfl, _, HZ.out⟩
set_option maxRecDepth 20000 in
set_option maxHeartbeats 4000000 in
theorem mrbit_any (a N : Nat) (bs : List Nat) (c : Int) (up : Bool) (s : Ms Dc) (F : Nat → Prop) (w : World) (h : RdF a bs w F s) (hk : okS okDm N s) (hN : N ≤ 4000000) : Calls Tryz.prog 201 #[.pointer (some ⟨a, 0, none⟩), .int .i64 c, .bool up] w (FPost (RdF a bs) F w (.bool (bitM (mD bs) s c up).1) (bitM (mD bs) s c up).2) := by
 cases hc : ctxM c
 · have hb : bitM (mD bs) s c up = flaM (mD bs) s up := by unfold bitM; rw [hc]; rfl
   rw [hb]
   have UI := Lib.hid (isctx_any c)
   have hc' : (decide (0 ≤ c) && decide (c < 64)) = false := hc
   rw [hc'] at UI
   have UF := Lib.hid (mrflat_any a N bs up s F w h hk hN)
   clear h hk hb hc hc'
   go_enter Tryz.func201, Tryz.ntmps201
   go_wp2_with fail
   refine (UI.out _).mono ?_; rintro e w1 ⟨rfl, rfl⟩
   go_wp2_with fail
   refine (UF.out).mono ?_; rintro e w7 ⟨rfl, k⟩
   have HZ := Lib.hid k
   clear k
   go_wp2
   go_ret
   exact ⟨rfl, HZ.out⟩
 · have UI := Lib.hid (isctx_any c)
   have hc' : (decide (0 ≤ c) && decide (c < 64)) = true := hc
   rw [hc'] at UI
   rw [Bool.and_eq_true, decide_eq_true_iff, decide_eq_true_iff] at hc'
   obtain ⟨n, rfl⟩ : ∃ n : Nat, c = (n : Int) := ⟨c.toNat, by omega⟩
   have hn : n < 64 := by omega
   obtain ⟨d, E, h1, h2, h3, h4, h5, h6, h7⟩ := h
   obtain ⟨p, hp⟩ : ∃ p, s.ch n = p := ⟨_, rfl⟩
   obtain ⟨p1, p2⟩ := hk.1 n
   rw [hp] at p1 p2
   obtain ⟨V, hV⟩ : ∃ V, codU s.co (p : Int) = V := ⟨_, rfl⟩
   have hbm : bitM (mD bs) s (n : Int) up = (V, ⟨setM s.ch n (lrnM p V), codD bs s.co (p : Int)⟩) := by
    unfold bitM
    rw [hc, if_pos rfl, Int.toNat_natCast, hp, ← hV]
    rfl
   rw [hbm]
   have c0 := (h2 n hn).1
   rw [Nat.zero_add, hp] at c0
   have D1 : Ext w w.drew := (Ext.refl w).drew
   have c0d := D1.cell c0
   have c3d := D1.cell h3
   have UC := Lib.hid (dcode_any E d N (p : Int) bs s.co w.drew (h1.ext D1) hk.2.1 (by omega) hk.2.2)
   rw [hV] at UC
   have HI := Lib.hid (fun w' t (k1 : DcAt E w' d bs t) (k2 : Kp d w.drew w') => RdF.inner (s := s) (h2.ext D1) c3d h4 h5 h6 (fun k hk => Nat.lt_of_lt_of_le (h7 k hk) D1.size) k1 k2)
   have HP := Lib.hid hp
   have HD := Lib.hid (Step.of_ext (F := F) D1)
   have UL := Lib.hid (fun w' h hf => learn_any a n p V w' hn h hf p1 p2)
   have x1 : (0 : Int) ≤ (n : Int) := by omega
   have x2 : (n : Int) < 64 := by omega
   clear h1 h2 h4 h5 h6 h7 hk hbm hc' hp p1 p2 D1 hc hV
   go_enter Tryz.func201, Tryz.ntmps201
   go_wp2_with fail
   refine (UI.out _).mono ?_; rintro e w1 ⟨rfl, rfl⟩
   go_wp2_with fail
   go_region_law (go_simp; go_at_call 205; refine (UC.out).mono ?_; rintro e w5 ⟨y5, rfl, -, k1, k2⟩; have HZ := Lib.hid (HI.out _ _ k1 k2); clear k1 k2)
   all_goals (
    have HL := Lib.hid (HZ.out.1.learn (c := n) (p := lrnM p V) hn)
    obtain ⟨-, -, -, hch, -⟩ := HZ.out.1
    obtain ⟨d0, f0⟩ := hch n hn
    rw [Nat.zero_add] at d0 f0
    have d0 : w5.cell? ⟨a, n, none⟩ = some (.int .i64 (s.ch n : Int)) := d0
    rw [HP.out] at d0
    have UL2 := Lib.hid (UL.out w5 d0 f0)
    clear hch d0 f0
    go_wp2_with fail
    refine (UL2.out).mono ?_; rintro e w6 ⟨rfl, rfl⟩
    go_wp2
    go_ret
    exact ⟨rfl, _, HL.out.1, (HD.out.trans HZ.out.2).trans HL.out.2⟩)
def NrPost (w : World) (bs : List Nat) (e : Ending) (w' : World) : Prop := ∃ a F, e = .returned (.pointer (some ⟨a, 0, none⟩)) ∧ (∀ k, F k → w.heap.size ≤ k) ∧ RdF a bs w' F ⟨ch0, newD bs⟩ ∧ Ext w w'
set_option maxRecDepth 20000 in
theorem mrnew_any (bs : List Nat) (v : Value) (w : World) (hv : Bys w v bs) : Calls Tryz.prog 75 #[v] w (NrPost w bs) := by
 have HV := Lib.hid hv
 clear hv
 go_enter Tryz.func75, Tryz.ntmps75
 go_wp2_with fail
 refine (newch_any _).mono ?_; rintro e w1 ⟨rfl, hx1⟩
 go_wp2_with fail
 refine (newdc_any bs v w1 (HV.out.ext hx1)).mono ?_; rintro e w2 ⟨d, rfl, hd, hD, hx2⟩
 have hd2 : d < w2.heap.size := by obtain ⟨_, _, h, _⟩ := hD; exact h.lt
 have hw1 : w.heap.size ≤ w1.heap.size := hx1.size
 have HE := Lib.hid (hx1.trans hx2)
 have HDD := Lib.hid hD
 have hw2 : w1.heap.size ≤ w2.heap.size := hx2.size
 clear hx1 hx2 hD
 go_wp2_with fail
 generalize hO : Array.setIfInBounds (List.foldl _ _ _) 64 _ = O
 have hO2 : O = (mxt 64 ++ [Value.pointer (some ⟨d, 0, none⟩)]).toArray := by rw [← hO]; kernel_rfl
 subst hO2
 clear hO
 have hh := heap_alloc_last w2 (.cells (mxt 64 ++ [Value.pointer (some ⟨d, 0, none⟩)]).toArray 172)
 have A := (Ext.refl w2).alloc (.cells (mxt 64 ++ [Value.pointer (some ⟨d, 0, none⟩)]).toArray 172)
 go_ret
 refine ⟨_, fun k => w.heap.size ≤ k ∧ k < w2.heap.size + 1, rfl, fun k h => h.1, ⟨d, _, HDD.out.ext A, fun i hi => ⟨?_, fro_of hh⟩, ?_, ⟨by omega, .inr (Nat.le_refl _)⟩, ⟨⟨by omega, by omega⟩, by omega, by omega⟩, fun k hk => ?_, fun k hk => by have := hk.2; simpa using this⟩, HE.out.trans A⟩
 · rw [cell_of_row _ _ _ _ _ _ hh, List.getElem?_toArray, Nat.zero_add, List.getElem?_append_left (by rw [mxt, List.length_replicate]; exact hi)]
   exact rep_get 64 i _ hi
 · rw [cell_of_row _ _ _ _ _ _ hh, List.getElem?_toArray, List.getElem?_append_right (by rw [mxt, List.length_replicate]; exact Nat.le_refl _)]
   rw [mxt, List.length_replicate]
   rfl
 · rw [not_or] at hk
   omega
theorem mr_bit (a : Nat) (w : World) : (method 379 122 (.pointer (some ⟨a, 0, none⟩)) "Bit").run Tryz.prog w = .ok (201, .pointer (some ⟨a, 0, none⟩)) w := by kernel_rfl
theorem mr_fla (a : Nat) (w : World) : (method 379 122 (.pointer (some ⟨a, 0, none⟩)) "Flat").run Tryz.prog w = .ok (202, .pointer (some ⟨a, 0, none⟩)) w := by kernel_rfl
theorem part_split {σ : Type} {M : Mc σ} {s : Ms σ} {v : Int} {V0 V1 : Bool} {s1 s2 : Ms σ} (h0 : bitM M s 6 (decide (v ≠ 0)) = (V0, s1)) (h1 : flaM M s1 (decide (v < 0)) = (V1, s2)) :
 partM M s v = if V0 then ((if V1 then -((sizM M ((v.natAbs : Int) - 1) 14 0 s2).1 : Int) - 1 else ((sizM M ((v.natAbs : Int) - 1) 14 0 s2).1 : Int) + 1), (sizM M ((v.natAbs : Int) - 1) 14 0 s2).2) else (0, s1) := by
 unfold partM
 rw [h0]
 show (if V0 = true then _ else _) = _
 rw [show (flaM M (V0, s1).2 (decide (v < 0))) = (V1, s2) from h1]
theorem siz_yes {σ : Type} {M : Mc σ} {z : Int} {f n : Nat} {s s1 : Ms σ} (h : bitM M s ((7 + min n 6 : Nat) : Int) (decide ((n : Int) < z)) = (true, s1)) : sizM M z (f + 1) n s = sizM M z f (n + 1) s1 := by
 show (if _ = true then _ else _) = _
 rw [h]
 rfl
theorem siz_no {σ : Type} {M : Mc σ} {z : Int} {f n : Nat} {s s1 : Ms σ} (h : bitM M s ((7 + min n 6 : Nat) : Int) (decide ((n : Int) < z)) = (false, s1)) : sizM M z (f + 1) n s = (n, s1) := by
 show (if _ = true then _ else _) = _
 rw [h]
 rfl
set_option maxRecDepth 20000 in
set_option maxHeartbeats 4000000 in
theorem mrkind_any (a N : Nat) (bs : List Nat) (hb : ∀ x ∈ bs, x < 256) (k : Int) (s : Ms Dc) (F : Nat → Prop) (w : World) (h : (RdF a bs) w F s) (hk : okS okDm N s) (hN : N ≤ 3999000) : Calls Tryz.prog 150 #[.iface 122 (.pointer (some ⟨a, 0, none⟩)), .int .i64 k] w (FPost (RdF a bs) F w (.int .i64 ((kindM (mD bs) s k).1 : Int)) (kindM (mD bs) s k).2) := by
 have HM := mr_bit a
 have UB := Lib.hid ((fun N c up s F w h hk hN => mrbit_any a N bs c up s F w h hk hN))
 obtain ⟨b0, hb0⟩ : ∃ b, decide (0 < k) = b := ⟨_, rfl⟩
 obtain ⟨b1, hb1⟩ : ∃ b, decide (1 < k) = b := ⟨_, rfl⟩
 obtain ⟨b2, hb2⟩ : ∃ b, decide (2 < k) = b := ⟨_, rfl⟩
 have d0 : decide (0 < max 0 (min k 3)) = b0 := by rw [← hb0]; exact decide_eq_decide.2 (by omega)
 have d1 : decide (1 < max 0 (min k 3)) = b1 := by rw [← hb1]; exact decide_eq_decide.2 (by omega)
 have d2 : decide (2 < max 0 (min k 3)) = b2 := by rw [← hb2]; exact decide_eq_decide.2 (by omega)
 obtain ⟨⟨V0, s1⟩, e0⟩ : ∃ r, bitM (mD bs) s 0 b0 = r := ⟨_, rfl⟩
 obtain ⟨⟨V1, s2⟩, e1⟩ : ∃ r, bitM (mD bs) s1 1 b1 = r := ⟨_, rfl⟩
 obtain ⟨⟨V2, s3⟩, e2⟩ : ∃ r, bitM (mD bs) s2 2 b2 = r := ⟨_, rfl⟩
 have k1 := bit_ok (mkD hb) 0 b0 hk
 rw [e0] at k1
 have k2 := bit_ok (mkD hb) 1 b1 k1
 rw [e1] at k2
 have HR : Hid (kindM (mD bs) s k = if V0 then (if V1 then (if V2 then 3 else 2, s3) else (1, s2)) else (0, s1)) := by
  show _ = _
  unfold kindM
  rw [hb0, hb1, hb2, e0]
  show (if V0 = true then (if (bitM (mD bs) s1 1 b1).1 = true then _ else _) else _) = _
  rw [e1]
  show (if V0 = true then (if V1 = true then (if (bitM (mD bs) s2 2 b2).1 = true then 3 else 2, (bitM (mD bs) s2 2 b2).2) else _) else _) = _
  rw [e2]
 have U0 := Lib.hid (UB.out N 0 b0 s F w h hk (by omega))
 have U1 := Lib.hid (fun F w' (h : (RdF a bs) w' F s1) => UB.out (N + 4) 1 b1 s1 F w' h k1 (by omega))
 have U2 := Lib.hid (fun F w' (h : (RdF a bs) w' F s2) => UB.out (N + 4 + 4) 2 b2 s2 F w' h k2 (by omega))
 rw [e0] at U0
 rw [e1] at U1
 rw [e2] at U2
 clear h hk k1 k2 hb0 hb1 hb2 e0 e1 e2 UB
 go_enter Tryz.func150, Tryz.ntmps150
 go_wp2_with fail
 refine (U0.out).mono ?_; rintro e w1 ⟨rfl, F1, h1, g1⟩
 have H1 := Lib.hid h1
 have G1 := Lib.hid g1
 clear h1 g1
 cases V0
 · go_wp2
   go_ret
   exact ⟨by rw [HR.out]; rfl, F1, by rw [HR.out]; exact H1.out, G1.out⟩
 · go_wp2_with fail
   refine (U1.out _ _ H1.out).mono ?_; rintro e w2 ⟨rfl, F2, h2, g2⟩
   have H2 := Lib.hid h2
   have G2 := Lib.hid (G1.out.trans g2)
   clear h2 g2 H1 G1
   cases V1
   · go_wp2
     go_ret
     exact ⟨by rw [HR.out]; rfl, F2, by rw [HR.out]; exact H2.out, G2.out⟩
   · go_wp2_with fail
     refine (U2.out _ _ H2.out).mono ?_; rintro e w3 ⟨rfl, F3, h3, g3⟩
     have H3 := Lib.hid h3
     have G3 := Lib.hid (G2.out.trans g3)
     clear h3 g3 H2 G2
     cases V2
     all_goals (
      go_wp2
      go_ret
      exact ⟨by rw [HR.out]; rfl, F3, by rw [HR.out]; exact H3.out, G3.out⟩)
set_option maxRecDepth 20000 in
set_option maxHeartbeats 4000000 in
theorem mrmode_any (a N : Nat) (bs : List Nat) (hb : ∀ x ∈ bs, x < 256) (k : Int) (s : Ms Dc) (F : Nat → Prop) (w : World) (h : (RdF a bs) w F s) (hk : okS okDm N s) (hN : N ≤ 3999000) : Calls Tryz.prog 152 #[.iface 122 (.pointer (some ⟨a, 0, none⟩)), .int .i64 k] w (FPost (RdF a bs) F w (.int .i64 ((modeM (mD bs) s (cl3 k)).1 : Int)) (modeM (mD bs) s (cl3 k)).2) := by
 have HM := mr_bit a
 have UB := Lib.hid ((fun N c up s F w h hk hN => mrbit_any a N bs c up s F w h hk hN))
 obtain ⟨m, hm⟩ : ∃ m, cl3 k = m := ⟨_, rfl⟩
 have hmk : max 0 (min k 3) = (m : Int) := by rw [← hm]; unfold cl3; omega
 rw [hm]
 have hm4 : m ≤ 3 := by omega
 obtain ⟨r, hr⟩ : ∃ r, m % 2 = r := ⟨_, rfl⟩
 have s1 : Int.tmod (m : Int) 2 = (r : Int) := by rw [← hr, show (2 : Int) = ((2 : Nat) : Int) from rfl, Int.ofNat_tmod]
 obtain ⟨b1, hb1⟩ : ∃ b, decide (1 < m) = b := ⟨_, rfl⟩
 obtain ⟨b2, hb2⟩ : ∃ b, decide (m % 2 = 1) = b := ⟨_, rfl⟩
 have d1 : decide (1 < (m : Int)) = b1 := by rw [← hb1]; exact decide_eq_decide.2 (by omega)
 have d2 : ((r : Int) == 1) = b2 := by
  rw [← hb2]
  by_cases e : m % 2 = 1
  · rw [decide_eq_true e, beq_iff_eq]; omega
  · rw [decide_eq_false e, beq_eq_false_iff_ne]; omega
 obtain ⟨⟨V0, t1⟩, e0⟩ : ∃ r, bitM (mD bs) s 3 b1 = r := ⟨_, rfl⟩
 obtain ⟨⟨V1, t2⟩, e1⟩ : ∃ r, bitM (mD bs) t1 5 b2 = r := ⟨_, rfl⟩
 obtain ⟨⟨V2, t3⟩, e2⟩ : ∃ r, bitM (mD bs) t1 4 b2 = r := ⟨_, rfl⟩
 have k1 := bit_ok (mkD hb) 3 b1 hk
 rw [e0] at k1
 have HR : Hid (modeM (mD bs) s m = if V0 then (if V1 then 3 else 2, t2) else (if V2 then 1 else 0, t3)) := by
  show _ = _
  unfold modeM
  rw [hb1, hb2, e0]
  show (if V0 = true then (if (bitM (mD bs) t1 5 b2).1 = true then 3 else 2, (bitM (mD bs) t1 5 b2).2) else (if (bitM (mD bs) t1 4 b2).1 = true then 1 else 0, (bitM (mD bs) t1 4 b2).2)) = _
  rw [e1, e2]
 have U0 := Lib.hid (UB.out N 3 b1 s F w h hk (by omega))
 have U1 := Lib.hid (fun F w' (h : (RdF a bs) w' F t1) => UB.out (N + 4) 5 b2 t1 F w' h k1 (by omega))
 have U2 := Lib.hid (fun F w' (h : (RdF a bs) w' F t1) => UB.out (N + 4) 4 b2 t1 F w' h k1 (by omega))
 rw [e0] at U0
 rw [e1] at U1
 rw [e2] at U2
 clear h hk k1 hb1 hb2 e0 e1 e2 UB hm hr hm4
 go_enter Tryz.func152, Tryz.ntmps152
 go_wp2_with fail
 refine (U0.out).mono ?_; rintro e w1 ⟨rfl, F1, h1, g1⟩
 have H1 := Lib.hid h1
 have G1 := Lib.hid g1
 clear h1 g1
 cases V0
 · go_wp2_with fail
   refine (U2.out _ _ H1.out).mono ?_; rintro e w2 ⟨rfl, F2, h2, g2⟩
   have H2 := Lib.hid h2
   have G2 := Lib.hid (G1.out.trans g2)
   clear h2 g2 H1 G1
   cases V2
   all_goals (
    go_wp2
    go_ret
    exact ⟨by rw [HR.out]; rfl, F2, by rw [HR.out]; exact H2.out, G2.out⟩)
 · go_wp2_with fail
   refine (U1.out _ _ H1.out).mono ?_; rintro e w2 ⟨rfl, F2, h2, g2⟩
   have H2 := Lib.hid h2
   have G2 := Lib.hid (G1.out.trans g2)
   clear h2 g2 H1 G1
   cases V1
   all_goals (
    go_wp2
    go_ret
    exact ⟨by rw [HR.out]; rfl, F2, by rw [HR.out]; exact H2.out, G2.out⟩)
set_option maxRecDepth 20000 in
set_option maxHeartbeats 4000000 in
theorem mrpart_any (a N : Nat) (bs : List Nat) (hb : ∀ x ∈ bs, x < 256) (k : Int) (s : Ms Dc) (F : Nat → Prop) (w : World) (h : (RdF a bs) w F s) (hk : okS okDm N s) (hN : N ≤ 3999000) : Calls Tryz.prog 151 #[.iface 122 (.pointer (some ⟨a, 0, none⟩)), .int .i64 k] w (FPost (RdF a bs) F w (.int .i64 (partM (mD bs) s (cl15 k)).1) (partM (mD bs) s (cl15 k)).2) := by
 have HM := mr_bit a
 have HF := mr_fla a
 have UB := Lib.hid ((fun N c up s F w h hk hN => mrbit_any a N bs c up s F w h hk hN))
 have UF := Lib.hid ((fun N up s F w h hk hN => mrflat_any a N bs up s F w h hk hN))
 obtain ⟨v, hv⟩ : ∃ v, cl15 k = v := ⟨_, rfl⟩
 have hvk : max (-15) (min k 15) = v := hv
 rw [hv]
 have hv1 : -15 ≤ v := by omega
 have hv2 : v ≤ 15 := by omega
 have q1 : IntKind.i64.wrap (-v) = -v := by rw [IntKind.wrap_i64]; omega
 obtain ⟨z, hz⟩ : ∃ z, (v.natAbs : Int) - 1 = z := ⟨_, rfl⟩
 have hzm : max v (-v) - 1 = z := by rw [← hz]; omega
 have q2 : IntKind.i64.wrap z = z := by rw [IntKind.wrap_i64]; omega
 have q3 : IntKind.i64.wrap (max v (-v) - 1) = z := by rw [hzm]; exact q2
 obtain ⟨b0, hb0⟩ : ∃ b, decide (v ≠ 0) = b := ⟨_, rfl⟩
 obtain ⟨b1, hb1⟩ : ∃ b, decide (v < 0) = b := ⟨_, rfl⟩
 have d0 : (v != 0) = b0 := by
  rw [← hb0]
  by_cases e : v = 0
  · subst e; rfl
  · rw [decide_eq_true e]; exact bne_iff_ne.2 e
 obtain ⟨⟨V0, s1⟩, e0⟩ : ∃ r, bitM (mD bs) s 6 b0 = r := ⟨_, rfl⟩
 obtain ⟨⟨V1, s2⟩, e1⟩ : ∃ r, flaM (mD bs) s1 b1 = r := ⟨_, rfl⟩
 have k1 := bit_ok (mkD hb) 6 b0 hk
 rw [e0] at k1
 have k2 := fla_ok (mkD hb) b1 k1
 rw [e1] at k2
 have HR := Lib.hid (part_split (M := (mD bs)) (s := s) (v := v) (by rw [hb0, e0]) (by rw [hb1, e1]))
 rw [hz] at HR
 have HK2 := Lib.hid k2
 have U0 := Lib.hid (UB.out N 6 b0 s F w h hk (by omega))
 have U1 := Lib.hid (fun F w' (h : (RdF a bs) w' F s1) => UF.out (N + 4) b1 s1 F w' h k1 (by omega))
 rw [e0] at U0
 rw [e1] at U1
 clear h hk k1 k2 hb0 e0 e1 UF hv hz hzm q2
 go_enter Tryz.func151, Tryz.ntmps151
 go_wp2_with fail
 refine (U0.out).mono ?_; rintro e w1 ⟨rfl, F1, h1, g1⟩
 have H1 := Lib.hid h1
 have G1 := Lib.hid g1
 clear h1 g1
 cases V0
 · go_wp2
   go_ret
   exact ⟨by rw [HR.out]; rfl, F1, by rw [HR.out]; exact H1.out, G1.out⟩
 · go_wp2_with fail
   refine (U1.out _ _ H1.out).mono ?_; rintro e w2 ⟨rfl, F2, h2, g2⟩
   have H2 := Lib.hid h2
   have G2 := Lib.hid (G1.out.trans g2)
   clear h2 g2 H1 G1 U0 U1
   go_wp2_with fail
   go_loopw [7] (fun iv wr => ∃ (n : Nat) (t : Ms Dc) (G : Nat → Prop), n ≤ 14 ∧ iv = .int .i64 (n : Int) ∧ Hid (sizM (mD bs) z 14 0 s2 = sizM (mD bs) z (14 - n) n t) ∧ Hid (okS okDm (N + 4 + 4 + 4 * n) t) ∧ Hid ((RdF a bs) wr G t) ∧ Hid (Step F w G wr)) (fun iv _ => 14 - (intOf iv).toNat)
   case atStart => exact ⟨0, s2, F2, Nat.zero_le _, rfl, rfl, HK2.out, H2.out, G2.out⟩
   case round =>
    clear H2 G2 HK2
    obtain ⟨n, t, G, hn, rfl, HS, HK, HO, HG⟩ := hrel
    by_cases hlt : n < 14
    · obtain ⟨f, hf⟩ : ∃ f, 14 - n = f + 1 := ⟨13 - n, by omega⟩
      have hs := HS.out
      rw [hf] at hs
      obtain ⟨C, hC⟩ : ∃ C : Nat, 7 + min n 6 = C := ⟨_, rfl⟩
      obtain ⟨bz, hbz⟩ : ∃ b, decide ((n : Int) < z) = b := ⟨_, rfl⟩
      obtain ⟨⟨V2, t1⟩, e2⟩ : ∃ r, bitM (mD bs) t ((7 + min n 6 : Nat) : Int) (decide ((n : Int) < z)) = r := ⟨_, rfl⟩
      have HY : Hid (V2 = true → sizM (mD bs) z 14 0 s2 = sizM (mD bs) z (14 - (n + 1)) (n + 1) t1) := fun e => by
       subst e
       rw [hs, siz_yes e2, show 14 - (n + 1) = f by omega]
      have HN : Hid (V2 = false → sizM (mD bs) z 14 0 s2 = (n, t1)) := fun e => by
       subst e
       rw [hs, siz_no e2]
      have k3 := bit_ok (mkD hb) ((7 + min n 6 : Nat) : Int) (decide ((n : Int) < z)) HK.out
      rw [e2] at k3
      have HK3 : Hid (okS okDm (N + 4 + 4 + 4 * (n + 1)) t1) := k3
      have U2 := Lib.hid (UB.out (N + 4 + 4 + 4 * n) ((7 + min n 6 : Nat) : Int) (decide ((n : Int) < z)) t G wr HO.out HK.out (by omega))
      rw [e2, hbz, hC] at U2
      have x1 : (n : Int) < 14 := by omega
      have q4 : IntKind.i64.wrap (7 + min (n : Int) 6) = (C : Int) := by rw [IntKind.wrap_i64]; omega
      have d3 := hbz
      clear hs hf hC hbz e2 k3 HS HK HO
      go_wp2_with fail
      refine (U2.out).mono ?_; rintro e w3 ⟨rfl, G3, h3, g3⟩
      have H3 := Lib.hid h3
      have G3' := Lib.hid (HG.out.trans g3)
      clear h3 g3 HG
      cases V2
      · have HRR := HN.out rfl
        have q5 : IntKind.i64.wrap (-(n : Int)) = -(n : Int) := by rw [IntKind.wrap_i64]; omega
        have q6 : IntKind.i64.wrap (-(n : Int) - 1) = -(n : Int) - 1 := by rw [IntKind.wrap_i64]; omega
        have q7 : IntKind.i64.wrap ((n : Int) + 1) = (n : Int) + 1 := by rw [IntKind.wrap_i64]; omega
        have hr := HR.out
        rw [HRR] at hr
        have HR2 := Lib.hid hr
        clear hr HRR HR HN HY U2 UB
        cases V1
        all_goals (
         go_wp2
         go_ret
         exact ⟨by rw [HR2.out]; rfl, G3, by rw [HR2.out]; exact H3.out, G3'.out⟩)
      · have HS3 := Lib.hid (HY.out rfl)
        clear HN HY U2
        go_wp2
        go_roundw
        case rel => exact ⟨n + 1, t1, G3, by omega, by go_num, HS3.out, HK3.out, H3.out, G3'.out⟩
        case measure => simp [intOf]; omega
    · obtain rfl : n = 14 := by omega
      have x1 : ¬ ((14 : Nat) : Int) < 14 := by omega
      have hr := HR.out
      rw [show sizM (mD bs) z 14 0 s2 = (14, t) from HS.out] at hr
      have HR2 := Lib.hid hr
      clear hr HR HS HK UB
      cases V1
      all_goals (
       go_wp2
       go_ret
       exact ⟨by rw [HR2.out]; rfl, G, by rw [HR2.out]; exact HO.out, HG.out⟩)
end Go.Proofs.YtcekpngkfldgkaaGreatDoor