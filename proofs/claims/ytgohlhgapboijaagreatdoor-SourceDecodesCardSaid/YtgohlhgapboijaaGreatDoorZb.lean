/- Contracts of this seat: Same, Fail, Ints, Fall, Mm, Fr, AnyB, BMath, Copy, WOwn, Push, Blk, Fr2. -/
import Derived.Test.YtgohlhgapboijaaGreatDoorZa
import Derived.Test.YtgohlhgapboijaaGreatDoorErrFacts
import Derived.Test.YtgohlhgapboijaaGreatDoorCards
import Derived.Sort.WalkC
import Derived.Lib.OwnBridge
import Derived.Maps.AppendAt
import Derived.Deep.AppendLies
import Derived.BigRegion
import Derived.BigQuiet
import Derived.Deep.QuietTactic
/- kinsame.Err: an error held against the document's: its contract over this seat's translation. -/
namespace Go.Proofs.YtgohlhgapboijaaGreatDoor
set_option linter.unusedVariables false
set_option linter.unusedSimpArgs false
open Go.RowKit Go.Extern.Stop Go.Stop Go.Extern

theorem Ext.drewN {a w : World} (h : Ext a w) (n : Nat) : Ext a (w.drewN n) := by
  have h' : Below a.heap.size a w := h
  exact ⟨h'.os, h'.tape, h'.output, h'.size, h'.block⟩

/-- a slice value that reads as these cells -/
def Row (w : World) (v : Value) (n : Nat) (cells : List Value) : Prop :=
  ∃ (a : Option Addr) (cap : Nat), v = .slice a n cap ∧ n ≤ cap ∧ cap ≤ maxLen ∧ (0 < n → ∃ g off, a = some ⟨g, off, none⟩) ∧ ∀ g off, a = some ⟨g, off, none⟩ → ∀ j u, cells[j]? = some u → w.cell? ⟨g, off + j, none⟩ = some u
theorem Row.ext {w w' : World} {v : Value} {n : Nat} {cells : List Value} (h : Row w v n cells) (k : Ext w w') : Row w' v n cells := by
  obtain ⟨a, cap, h0, h1, h2, h3, h4⟩ := h
  exact ⟨a, cap, h0, h1, h2, h3, fun g off ha j u hj => k.cell (h4 g off ha j u hj)⟩
theorem Row.nil (w : World) : Row w (.slice none 0 0) 0 [] := ⟨none, 0, rfl, Nat.le_refl _, Nat.zero_le _, fun h => absurd h (Nat.lt_irrefl _), fun _ _ h => by cases h⟩
theorem Row.of_owns {w : World} {base : Nat} {e : TypeId} {size : Nat} {v : Value} {n : Nat} {xs : List Value} (h : w.ownsRow base e size v n xs) : Row w v n xs := by
  obtain ⟨hl, h⟩ := h
  rcases h with ⟨hv, hn⟩ | ⟨g, cap, cur, hv, hb, hg, hnc, hcm, hcs, ht⟩
  · subst hn
    obtain rfl : xs = [] := List.eq_nil_of_length_eq_zero (by simpa using hl)
    subst hv
    exact Row.nil w
  · refine ⟨_, cap, hv, hnc, hcm, fun _ => ⟨g, 0, rfl⟩, fun g' off' ha j u hj => ?_⟩
    simp only [Option.some.injEq, Addr.mk.injEq, and_true] at ha
    obtain ⟨rfl, rfl⟩ := ha
    rw [Nat.zero_add, cell_of_row w g j cur e (0, 0) hg]
    rw [← ht, List.getElem?_take] at hj
    split at hj
    · simpa using hj
    · cases hj
theorem Row.at {w : World} {g off n cap : Nat} {cells : List Value} (h : Row w (.slice (some ⟨g, off, none⟩) n cap) n cells) {j : Nat} {u : Value} (hj : cells[j]? = some u) : w.cell? ⟨g, off + j, none⟩ = some u := by
  obtain ⟨a, cap', h0, _, _, _, h4⟩ := h
  simp only [Value.slice.injEq] at h0
  exact h4 g off h0.1.symm j u hj
theorem Row.some {w : World} {v : Value} {n : Nat} {cells : List Value} (h : Row w v n cells) (hn : 0 < n) : ∃ g off cap, v = .slice (some ⟨g, off, none⟩) n cap ∧ n ≤ cap ∧ cap ≤ maxLen := by
  obtain ⟨a, cap, h0, h1, h2, h3, _⟩ := h
  obtain ⟨g, off, ha⟩ := h3 hn
  subst ha
  exact ⟨g, off, cap, h0, h1, h2⟩
theorem Row.form {w : World} {v : Value} {n : Nat} {cells : List Value} (h : Row w v n cells) : ∃ a cap, v = .slice a n cap := by
  obtain ⟨a, cap, h0, _⟩ := h
  exact ⟨a, cap, h0⟩
theorem stepCells_get (p : List (ByteArray × Int)) (i : Nat) (s : ByteArray) (n : Int) (h : p[i]? = some (s, n)) : (stepCells p)[i * 2]? = some (.string s) ∧ (stepCells p)[i * 2 + 1]? = some (.int .i64 n) := by
  induction p generalizing i with
  | nil => simp at h
  | cons x p ih =>
    obtain ⟨s', n'⟩ := x
    cases i with
    | zero => simp at h; obtain ⟨rfl, rfl⟩ := h; exact ⟨rfl, rfl⟩
    | succ i =>
      have := ih i (by simpa using h)
      rw [show (i + 1) * 2 = i * 2 + 2 from by omega]
      exact this

/-- (kinref.Err).OK -/
theorem ok_any (c : Int) (r : Value) (w : World) :
    Calls Tryz.prog 29 #[.agg #[.int .i64 c, r]] w fun e w' => e = .returned (.bool (c == 0)) ∧ Ext w w' := by
  have E1 : Ext w (w.alloc (.cells #[.int .i64 c, r] 34)) := (Ext.refl w).alloc _
  go_enter Tryz.func29, Tryz.ntmps29
  go_wp2
  go_ret
  exact ⟨rfl, E1⟩

theorem path_nil (w : World) (hg : EtIs w) : Calls Tryz.prog 31 #[.nilIface] w fun e w' => e = .returned (.slice none 0 0) ∧ Ext w w' := by
  have E1 : Ext w (w.alloc (.cells #[.pointer none] 109)) := (Ext.refl w).alloc _
  have nil : ∀ (t : Value) (W : World), Calls Tryz.prog 59 #[.nilIface, t] W fun e w' => e = .returned (.bool false) ∧ W = w' := fun t W => by
    go_enter Tryz.func59, Tryz.ntmps59
    go_wp2
    go_ret
    exact ⟨rfl, rfl⟩
  go_enter Tryz.func31, Tryz.ntmps31
  go_wp2
  refine wp_loop_rounds 1 ?_
  rw [rounds_succ]
  go_wp2_with (go_at_call 59; refine (nil _ _).mono ?_; rintro e w' ⟨rfl, rfl⟩)
  go_ret
  exact ⟨rfl, E1⟩

set_option maxHeartbeats 2000000 in
/-- kinsame.Err: no error, as there is none -/
theorem same_nil (w : World) (hg : EtIs w) :
    Calls Tryz.prog 11 #[.nilIface, .agg #[.int .i64 0, .slice none 0 0]] w fun e w' => e = .returned (.bool true) ∧ Ext w w' := by
  have E1 : Ext w (w.alloc (.cells #[.int .i64 0, .slice none 0 0] 34)) := (Ext.refl w).alloc _
  go_enter Tryz.func11, Tryz.ntmps11
  go_wp2_with fail
  go_region_held3 (fun w' => w'.cell? ⟨w.heap.size, 0, none⟩ = some (.int .i64 0) ∧ w'.cell? ⟨w.heap.size, 1, none⟩ = some (.slice none 0 0) ∧ Ext w w')
    (first | assumption | (exact ⟨by simp, by simp, E1⟩) | (exact ⟨by simp, by simp, E1.drew⟩) | (go_split_ands; exact ⟨hx.cell (by assumption), hx.cell (by assumption), Ext.trans (by assumption) hx⟩))
    (first | (go_at_call 29; refine (ok_any _ _ _).mono ?_; rintro e w' ⟨rfl, hx⟩) | (go_at_call 30; refine (of_nil _).mono ?_; rintro e w' ⟨rfl, hx⟩))
  obtain ⟨_, hc1, hE⟩ : _ ∧ _ ∧ Ext w _ := by assumption
  go_wp2_with (go_at_call 31; refine (path_nil _ (hg.ext hE)).mono ?_; rintro e w' ⟨rfl, hx⟩; have hc2 := hx.cell hc1)
  refine wp_loop_rounds 1 ?_
  rw [rounds_succ]
  go_wp2
  go_ret
  exact ⟨rfl, hE.trans hx⟩

set_option maxHeartbeats 4000000 in
set_option maxRecDepth 100000 in
/-- kinsame.Err: the document's error, a code alone -/
theorem same_code (c : Int) (v rv : Value) (w : World) (hg : EtIs w) (he : IsErr w [] c v) (hr : Row w rv 0 []) (hc : c ≠ 0) :
    Calls Tryz.prog 11 #[v, .agg #[.int .i64 c, rv]] w fun e w' => e = .returned (.bool true) ∧ Ext w w' := by
  obtain ⟨ra, rcap, rfl⟩ := hr.form
  have E1 : Ext w (w.alloc (.cells #[.int .i64 c, .slice ra 0 rcap] 34)) := (Ext.refl w).alloc _
  obtain ⟨tx, vx, hne⟩ := he.ne_nil
  subst hne
  have hc0 : (c == 0) = false := by simpa using hc
  go_enter Tryz.func11, Tryz.ntmps11
  go_wp2_with fail
  go_region_held3 (fun w' => w'.cell? ⟨w.heap.size, 0, none⟩ = some (.int .i64 c) ∧ w'.cell? ⟨w.heap.size, 1, none⟩ = some (.slice ra 0 rcap) ∧ Ext w w')
    (first | assumption | (exact ⟨by simp, by simp, E1⟩) | (exact ⟨by simp, by simp, E1.drew⟩) | (go_split_ands; exact ⟨hx.cell (by assumption), hx.cell (by assumption), Ext.trans (by assumption) hx⟩))
    (first | (go_at_call 29; refine (ok_any _ _ _).mono ?_; rintro e w' ⟨rfl, hx⟩) | (go_at_call 30; obtain ⟨_, _, hE1⟩ : _ ∧ _ ∧ Ext w _ := (by assumption); refine (of_err [] c _ _ (hg.ext hE1) (he.ext hE1)).mono ?_; rintro e w' ⟨rfl, hx⟩))
  obtain ⟨_, hc1, hE⟩ : _ ∧ _ ∧ Ext w _ := by assumption
  go_wp2_with (go_at_call 31; refine (path_err [] c _ _ (hg.ext hE) (he.ext hE) (by simp)).mono ?_; rintro e w' ⟨pu, rfl, hx, hown⟩; have hc2 := hx.cell hc1; obtain ⟨pa, pcap, rfl⟩ := (Row.of_owns hown).form)
  refine wp_loop_rounds 1 ?_
  rw [rounds_succ]
  go_wp2
  go_ret
  exact ⟨rfl, hE.trans hx⟩

set_option maxHeartbeats 4000000 in
set_option maxRecDepth 100000 in
/-- kinsame.Err: the document's error, wrapped -/
theorem same_path (p : List (ByteArray × Int)) (c : Int) (v rv : Value) (w : World) (hg : EtIs w) (he : IsErr w p c v) (hr : Row w rv p.length (stepCells p)) (hc : c ≠ 0) (hp0 : 0 < p.length) (hp : p.length ≤ 1000000) :
    Calls Tryz.prog 11 #[v, .agg #[.int .i64 c, rv]] w fun e w' => e = .returned (.bool true) ∧ Ext w w' := by
  obtain ⟨rg, roff, rcap, rfl, hr1, hr2⟩ := hr.some hp0
  have E1 : Ext w (w.alloc (.cells #[.int .i64 c, .slice (some ⟨rg, roff, none⟩) p.length rcap] 34)) := (Ext.refl w).alloc _
  obtain ⟨tx, vx, hne⟩ := he.ne_nil
  subst hne
  have hc0 : (c == 0) = false := by simpa using hc
  obtain ⟨n, hn⟩ : ∃ n, n = p.length := ⟨_, rfl⟩
  rw [← hn] at hr hr1 hp hp0 ⊢ E1
  have HN := Lib.hid hn
  clear hn
  unfold maxLen at hr2
  go_enter Tryz.func11, Tryz.ntmps11
  go_wp2_with fail
  go_region_held3 (fun w' => w'.cell? ⟨w.heap.size, 0, none⟩ = some (.int .i64 c) ∧ w'.cell? ⟨w.heap.size, 1, none⟩ = some (.slice (some ⟨rg, roff, none⟩) n rcap) ∧ Ext w w')
    (first | assumption | (exact ⟨by simp, by simp, E1⟩) | (exact ⟨by simp, by simp, E1.drew⟩) | (go_split_ands; exact ⟨hx.cell (by assumption), hx.cell (by assumption), Ext.trans (by assumption) hx⟩))
    (first | (go_at_call 29; refine (ok_any _ _ _).mono ?_; rintro e w' ⟨rfl, hx⟩) | (go_at_call 30; obtain ⟨_, _, hE1⟩ : _ ∧ _ ∧ Ext w _ := (by assumption); refine (of_err p c _ _ (hg.ext hE1) (he.ext hE1)).mono ?_; rintro e w' ⟨rfl, hx⟩))
  obtain ⟨_, hc1, hE⟩ : _ ∧ _ ∧ Ext w _ := by assumption
  go_wp2_with (go_at_call 31; refine (path_err p c _ _ (hg.ext hE) (he.ext hE) (by rw [← HN.out]; exact hp)).mono ?_; rintro e w' ⟨pu, rfl, hx, hown⟩; have hc2 := hx.cell hc1; rw [← HN.out] at hown; obtain ⟨pg, poff, pcap, rfl, hp1, hp2⟩ := (Row.of_owns hown).some hp0)
  unfold maxLen at hp2
  have R := Row.of_owns hown
  clear hown
  have hrx := (hr.ext hE).ext hx
  have hEx := hE.trans hx
  clear hE hx hc1 hr hg he E1
  go_loopw [6] (fun i wr => ∃ k : Nat, k ≤ n ∧ i = .int .i64 k ∧ Ext w wr ∧ Row wr (.slice (some ⟨pg, poff, none⟩) n pcap) n (stepCells p) ∧ Row wr (.slice (some ⟨rg, roff, none⟩) n rcap) n (stepCells p) ∧ wr.cell? ⟨w.heap.size, 1, none⟩ = some (.slice (some ⟨rg, roff, none⟩) n rcap)) (fun i _ => n - (intOf i).toNat)
  case atStart => exact ⟨0, Nat.zero_le _, rfl, hEx, R, hrx, hc2⟩
  case round =>
    obtain ⟨k, hk, rfl, hE, R1, R2, hb⟩ := hrel
    by_cases hlt : k < n
    · obtain ⟨⟨s, m⟩, hkx⟩ : ∃ x, p[k]? = some x := ⟨_, List.getElem?_eq_getElem (by rw [← HN.out]; exact hlt)⟩
      obtain ⟨g0, g1⟩ := stepCells_get p k s m hkx
      have p0 := R1.at g0
      have p1 := R1.at g1
      have r0 := R2.at g0
      have r1 := R2.at g1
      rw [← Nat.add_assoc] at p1 r1
      clear hkx g0 g1 R
      go_wp2
      go_quiet (fail)
      go_wp2
      go_roundw
      case rel => exact ⟨k + 1, by omega, by go_num, hE.drewN _, R1, R2, by simpa using hb⟩
      case measure => simp [intOf]; omega
    · go_wp2
      go_ret
      exact ⟨rfl, hE⟩

/-- kinsame.Err: the document's error -/
theorem same_err (p : List (ByteArray × Int)) (c : Int) (v rv : Value) (w : World) (hg : EtIs w) (he : IsErr w p c v) (hr : Row w rv p.length (stepCells p)) (hc : c ≠ 0) (hp : p.length ≤ 1000000) :
    Calls Tryz.prog 11 #[v, .agg #[.int .i64 c, rv]] w fun e w' => e = .returned (.bool true) ∧ Ext w w' := by
  cases p with
  | nil => exact same_code c v rv w hg he hr hc
  | cons x p => exact same_path (x :: p) c v rv w hg he hr hc (by simp) hp
end Go.Proofs.YtgohlhgapboijaaGreatDoor

/- kinref.Fail: its contract over this seat's translation. -/
namespace Go.Proofs.YtgohlhgapboijaaGreatDoor
set_option linter.unusedVariables false
set_option linter.unusedSimpArgs false
open Go.RowKit Go.Extern.Stop Go.Stop Go.Extern
theorem fail_any (c : Int) (w : World) :
    Calls Tryz.prog 22 #[.int .i64 c] w fun e w' => e = .returned (.agg #[.int .i64 c, .slice none 0 0]) ∧ Ext w w' := by
  go_enter Tryz.func22, Tryz.ntmps22
  go_wp2
  exact bodyPost_ret (v := .agg #[.int .i64 c, .slice none 0 0]) (by simp [results, Tryz.results22, go_sem]) rfl ⟨rfl, by repeat (first | exact Ext.refl _ | apply Ext.alloc | apply Ext.setCell (ha := by simp))⟩
end Go.Proofs.YtgohlhgapboijaaGreatDoor

/- Slices of ints that are read: kinref.Ints and kinref.Within, their contracts over this seat's translation. -/
namespace Go.Proofs.YtgohlhgapboijaaGreatDoor
set_option linter.unusedVariables false
set_option linter.unusedSimpArgs false
open Go.RowKit Go.Extern.Stop Go.Stop Go.Extern

/-- a slice value that reads as these ints -/
def Ints (w : World) (v : Value) (zs : List Int) : Prop := Row w v zs.length (zs.map (Value.int .i64)) ∧ zs.length ≤ 4611686018427387903
theorem Ints.ext {w w' : World} {v : Value} {zs : List Int} (h : Ints w v zs) (k : Ext w w') : Ints w' v zs := ⟨h.1.ext k, h.2⟩
theorem Ints.form {w : World} {v : Value} {zs : List Int} (h : Ints w v zs) : ∃ a cap, v = .slice a zs.length cap := h.1.form
theorem Ints.addr {w : World} {v : Value} {zs : List Int} (h : Ints w v zs) (hn : 0 < zs.length) : ∃ g off cap, v = .slice (some ⟨g, off, none⟩) zs.length cap ∧ zs.length ≤ cap ∧ cap ≤ maxLen := h.1.some hn
theorem Ints.len {w : World} {a : Option Addr} {n cap : Nat} {zs : List Int} (h : Ints w (.slice a n cap) zs) : n = zs.length := by
  obtain ⟨a', cap', e⟩ := h.form
  simp only [Value.slice.injEq] at e
  exact e.2.1
theorem Ints.had {w : World} {a : Option Addr} {n cap : Nat} {zs : List Int} (h : Ints w (.slice a n cap) zs) (hn : 0 < n) : ∃ g off, a = some ⟨g, off, none⟩ := by
  obtain ⟨⟨a', cap', e, _, _, h3, _⟩, _⟩ := h
  simp only [Value.slice.injEq] at e
  obtain ⟨rfl, rfl, rfl⟩ := e
  exact h3 hn
theorem Ints.caps {w : World} {a : Option Addr} {n cap : Nat} {zs : List Int} (h : Ints w (.slice a n cap) zs) : n ≤ cap ∧ cap ≤ maxLen := by
  obtain ⟨⟨a', cap', e, h1, h2, _⟩, _⟩ := h
  simp only [Value.slice.injEq] at e
  obtain ⟨rfl, rfl, rfl⟩ := e
  exact ⟨h1, h2⟩
theorem Ints.at {w : World} {g off n cap : Nat} {zs : List Int} (h : Ints w (.slice (some ⟨g, off, none⟩) n cap) zs) {j : Nat} {x : Int} (hj : zs[j]? = some x) : w.cell? ⟨g, off + j, none⟩ = some (.int .i64 x) := by
  obtain ⟨⟨a, cap', h0, _, _, _, h4⟩, _⟩ := h
  simp only [Value.slice.injEq] at h0
  exact h4 g off h0.1.symm j _ (by simp [hj])
theorem Ints.of_owns {w : World} {base : Nat} {v : Value} {n : Nat} {zs : List Int} (h : w.ownsRow base 3 1 v n (zs.map (Value.int .i64))) (hl : zs.length ≤ 4611686018427387903) : Ints w v zs := by
  have hn : n = zs.length := by have := h.1; simp at this; omega
  subst hn
  exact ⟨Row.of_owns h, hl⟩
theorem Ints.nil (w : World) : Ints w (.slice none 0 0) [] := ⟨Row.nil w, by simp⟩

theorem eq_of_gets {xs ys : List Int} (hl : xs.length = ys.length) (h : ∀ j, j < xs.length → xs[j]? = ys[j]?) : xs = ys := by
  apply List.ext_getElem?
  intro j
  by_cases hj : j < xs.length
  · exact h j hj
  · rw [List.getElem?_eq_none (by omega), List.getElem?_eq_none (by omega)]

set_option maxRecDepth 20000 in
set_option maxHeartbeats 1000000 in
theorem ints_same (xs ys : List Int) (va vb : Value) (w : World) (ha : Ints w va xs) (hb : Ints w vb ys) :
    Calls Tryz.prog 60 #[va, vb] w fun e w' => e = .returned (.bool (decide (xs = ys))) ∧ Ext w w' := by
  obtain ⟨n, hn⟩ : ∃ n, n = xs.length := ⟨_, rfl⟩
  obtain ⟨m, hm⟩ : ∃ m, m = ys.length := ⟨_, rfl⟩
  have hle := ha.2
  have hle' := hb.2
  by_cases hnm : n = m
  · by_cases hz : n = 0
    · obtain ⟨a, cap, rfl⟩ := ha.form
      obtain ⟨b, cap', rfl⟩ := hb.form
      obtain rfl : xs = [] := List.eq_nil_of_length_eq_zero (by omega)
      obtain rfl : ys = [] := List.eq_nil_of_length_eq_zero (by omega)
      clear ha hb hnm hz hn hm
      go_enter Tryz.func60, Tryz.ntmps60
      go_wp2
      refine wp_loop_rounds 1 ?_
      rw [rounds_succ]
      go_wp2
      go_ret
      exact ⟨rfl, Ext.refl w⟩
    · obtain ⟨g, off, cap, rfl, c1, c2⟩ := ha.addr (by omega)
      obtain ⟨g', off', cap', rfl, c1', c2'⟩ := hb.addr (by omega)
      rw [← hn] at ha hle c1 ⊢
      rw [← hm, ← hnm] at hb c1' ⊢
      rw [← hnm] at hm
      have HN := Lib.hid hn
      have HM := Lib.hid hm
      unfold maxLen at c2 c2'
      clear hn hm hnm hle' m
      go_enter Tryz.func60, Tryz.ntmps60
      go_wp2
      go_loopw [5] (fun i wr => ∃ k : Nat, k ≤ n ∧ i = .int .i64 k ∧ Ext w wr ∧ Hid (∀ j, j < k → xs[j]? = ys[j]?)) (fun i _ => n - (intOf i).toNat)
      case atStart => exact ⟨0, Nat.zero_le _, rfl, Ext.refl w, fun j hj => absurd hj (Nat.not_lt_zero _)⟩
      case round =>
        obtain ⟨k, hk, rfl, hE, HJ⟩ := hrel
        by_cases hlt : k < n
        · obtain ⟨x, hx⟩ : ∃ x, xs[k]? = some x := ⟨_, List.getElem?_eq_getElem (by rw [← HN.out]; exact hlt)⟩
          obtain ⟨y, hy⟩ : ∃ y, ys[k]? = some y := ⟨_, List.getElem?_eq_getElem (by rw [← HM.out]; exact hlt)⟩
          have cx := hE.cell (ha.at hx)
          have cy := hE.cell (hb.at hy)
          have HX := Lib.hid hx
          have HY := Lib.hid hy
          clear hx hy
          by_cases hxy : x = y
          · subst hxy
            go_wp2
            go_quiet (fail)
            go_wp2
            go_roundw
            case rel => exact ⟨k + 1, by omega, by go_num, hE.drewN _, fun j hj => by
              by_cases hjk : j = k
              · subst hjk; rw [HX.out, HY.out]
              · exact HJ.out j (by omega)⟩
            case measure => simp [intOf]; omega
          · have hne : (x != y) = true := by simpa using hxy
            have hne2 : (x == y) = false := by simpa using hxy
            go_wp2
            go_quiet (fail)
            go_wp2
            go_ret
            refine ⟨?_, hE.drewN _⟩
            have : xs ≠ ys := fun e => by
              have h1 := HX.out
              rw [e, HY.out] at h1
              exact hxy (Option.some.inj h1).symm
            simp [this]
        · go_wp2
          go_ret
          refine ⟨?_, hE⟩
          have : xs = ys := eq_of_gets (by rw [← HN.out, ← HM.out]) (fun j hj => HJ.out j (by rw [← HN.out] at hj; omega))
          simp [this]
  · obtain ⟨a, cap, rfl⟩ := ha.form
    obtain ⟨b, cap', rfl⟩ := hb.form
    have hne : ((xs.length : Int) != (ys.length : Int)) = true := by simp; omega
    have hxy : xs ≠ ys := fun e => hnm (by rw [hn, hm, e])
    have HXY := Lib.hid hxy
    clear hnm hn hm hxy ha hb
    go_enter Tryz.func60, Tryz.ntmps60
    go_wp2
    go_ret
    exact ⟨by simp [HXY.out], Ext.refl w⟩
def within (lo hi : Int) (zs : List Int) : Prop := ∀ x ∈ zs, lo ≤ x ∧ x ≤ hi
instance (lo hi : Int) (zs : List Int) : Decidable (within lo hi zs) := by unfold within; exact inferInstance
theorem within_of_gets {lo hi : Int} {zs : List Int} (h : ∀ j x, j < zs.length → zs[j]? = some x → lo ≤ x ∧ x ≤ hi) : within lo hi zs := fun x hx => by
  obtain ⟨j, hj, e⟩ := List.mem_iff_getElem.1 hx
  exact h j x hj (by rw [List.getElem?_eq_getElem hj, e])
theorem within.at {lo hi : Int} {zs : List Int} (h : within lo hi zs) {j : Nat} {x : Int} (hj : zs[j]? = some x) : lo ≤ x ∧ x ≤ hi := h x (List.mem_of_getElem? hj)

set_option maxRecDepth 20000 in
set_option maxHeartbeats 1000000 in
theorem within_any (zs : List Int) (lo hi : Int) (v : Value) (w : World) (ha : Ints w v zs) :
    Calls Tryz.prog 55 #[v, .int .i64 lo, .int .i64 hi] w fun e w' => e = .returned (.bool (decide (within lo hi zs))) ∧ Ext w w' := by
  obtain ⟨n, hn⟩ : ∃ n, n = zs.length := ⟨_, rfl⟩
  have hle := ha.2
  by_cases hz : n = 0
  · obtain ⟨a, cap, rfl⟩ := ha.form
    obtain rfl : zs = [] := List.eq_nil_of_length_eq_zero (by omega)
    clear ha hz hn
    go_enter Tryz.func55, Tryz.ntmps55
    go_wp2
    refine wp_loop_rounds 1 ?_
    rw [rounds_succ]
    go_wp2
    go_ret
    exact ⟨by simp [within], Ext.refl w⟩
  · obtain ⟨g, off, cap, rfl, c1, c2⟩ := ha.addr (by omega)
    rw [← hn] at ha hle c1 ⊢
    have HN := Lib.hid hn
    unfold maxLen at c2
    clear hn
    go_enter Tryz.func55, Tryz.ntmps55
    go_wp2
    go_loop [7] (fun i => ∃ k : Nat, k ≤ n ∧ i = .int .i64 k ∧ Hid (∀ j x, j < k → zs[j]? = some x → lo ≤ x ∧ x ≤ hi)) (fun i => n - (intOf i).toNat)
    case atStart => exact ⟨0, Nat.zero_le _, rfl, fun j _ hj => absurd hj (Nat.not_lt_zero _)⟩
    case round =>
      obtain ⟨k, hk, rfl, HJ⟩ := hrel
      by_cases hlt : k < n
      · obtain ⟨x, hx⟩ : ∃ x, zs[k]? = some x := ⟨_, List.getElem?_eq_getElem (by rw [← HN.out]; exact hlt)⟩
        have cx := ha.at hx
        have HX := Lib.hid hx
        clear hx
        by_cases h1 : x < lo
        · go_wp2
          go_ret
          refine ⟨?_, Ext.refl w⟩
          have : ¬ within lo hi zs := fun hw => by have := (hw.at HX.out).1; omega
          simp [this]
        · by_cases h2 : hi < x
          · go_wp2
            go_ret
            refine ⟨?_, Ext.refl w⟩
            have : ¬ within lo hi zs := fun hw => by have := (hw.at HX.out).2; omega
            simp [this]
          · go_wp2
            go_round
            case rel => exact ⟨k + 1, by omega, by go_num, fun j y hj hy => by
              by_cases hjk : j = k
              · subst hjk
                have : x = y := Option.some.inj (HX.out.symm.trans hy)
                omega
              · exact HJ.out j y (by omega) hy⟩
            case measure => simp [intOf]; omega
      · go_wp2
        go_ret
        refine ⟨?_, Ext.refl w⟩
        have : within lo hi zs := within_of_gets fun j x hj hx => HJ.out j x (by rw [← HN.out] at hj; omega) hx
        simp [this]
end Go.Proofs.YtgohlhgapboijaaGreatDoor

/- What a call answers beside its value: nothing, or a code behind a path; the program's error and the document's, held against one another. -/
namespace Go.Proofs.YtgohlhgapboijaaGreatDoor
set_option linter.unusedVariables false
set_option linter.unusedSimpArgs false
open Go.RowKit Go.Extern.Stop Go.Stop Go.Extern

/-- none, or a path and a code -/
abbrev Fall := Option (List (ByteArray × Int) × Int)
def Fall.okay : Fall → Prop
  | none => True
  | some (p, c) => c ≠ 0 ∧ p.length ≤ 1000000
def ErrIs (w : World) (f : Fall) (x : Value) : Prop := match f with
  | none => x = .nilIface
  | some (p, c) => IsErr w p c x ∧ c ≠ 0 ∧ p.length ≤ 1000000
def RErrIs (w : World) (f : Fall) (c : Int) (v : Value) : Prop := match f with
  | none => c = 0 ∧ v = .slice none 0 0
  | some (p, k) => c = k ∧ k ≠ 0 ∧ Row w v p.length (stepCells p)
theorem ErrIs.ext {w w' : World} {f : Fall} {x : Value} (h : ErrIs w f x) (k : Ext w w') : ErrIs w' f x := by
  cases f with
  | none => exact h
  | some a => exact ⟨h.1.ext k, h.2⟩
theorem RErrIs.ext {w w' : World} {f : Fall} {c : Int} {x : Value} (h : RErrIs w f c x) (k : Ext w w') : RErrIs w' f c x := by
  cases f with
  | none => exact h
  | some a => exact ⟨h.1, h.2.1, h.2.2.ext k⟩
theorem ErrIs.code {w : World} {c : Int} (h : c ≠ 0) : ErrIs w (some ([], c)) (.iface 31 (.int .i64 c)) := ⟨rfl, h, by simp⟩
theorem RErrIs.code {w : World} {c : Int} (h : c ≠ 0) : RErrIs w (some ([], c)) c (.slice none 0 0) := ⟨rfl, h, Row.nil w⟩
theorem RErrIs.zero {w : World} : RErrIs w none 0 (.slice none 0 0) := ⟨rfl, rfl⟩
theorem ErrIs.ne {w : World} {a : List (ByteArray × Int) × Int} {x : Value} (h : ErrIs w (some a) x) : ∃ t v, x = .iface t v := h.1.ne_nil

/-- kinsame.Err of two that tell the same -/
theorem same_fall (f : Fall) (x v : Value) (c : Int) (w : World) (hg : EtIs w) (h : ErrIs w f x) (k : RErrIs w f c v) :
    Calls Tryz.prog 11 #[x, .agg #[.int .i64 c, v]] w fun e w' => e = .returned (.bool true) ∧ Ext w w' := by
  cases f with
  | none =>
    obtain rfl := h
    obtain ⟨rfl, rfl⟩ := k
    exact same_nil w hg
  | some a =>
    obtain ⟨p, c'⟩ := a
    obtain ⟨h1, h2, h3⟩ := h
    obtain ⟨rfl, -, k3⟩ := k
    exact same_err p c x v w hg h1 k3 h2 h3

/-- an int and an error; the document's -/
def IPost (w : World) (n : Int) (f : Fall) (e : Ending) (w' : World) : Prop := ∃ x, e = .returned (.tuple #[.int .i64 n, x]) ∧ Ext w w' ∧ ErrIs w' f x
def RIPost (w : World) (n : Int) (f : Fall) (e : Ending) (w' : World) : Prop := ∃ c a m k, e = .returned (.tuple #[.int .i64 n, .agg #[.int .i64 c, .slice a m k]]) ∧ Ext w w' ∧ RErrIs w' f c (.slice a m k)
/-- an error alone -/
def EPost (w : World) (f : Fall) (e : Ending) (w' : World) : Prop := ∃ x, e = .returned x ∧ Ext w w' ∧ ErrIs w' f x
def REPost (w : World) (f : Fall) (e : Ending) (w' : World) : Prop := ∃ c a m k, e = .returned (.agg #[.int .i64 c, .slice a m k]) ∧ Ext w w' ∧ RErrIs w' f c (.slice a m k)
/-- ints and an error -/
def ZPost (w : World) (zs : List Int) (f : Fall) (e : Ending) (w' : World) : Prop := ∃ u x, e = .returned (.tuple #[u, x]) ∧ Ext w w' ∧ Ints w' u zs ∧ ErrIs w' f x
def RZPost (w : World) (zs : List Int) (f : Fall) (e : Ending) (w' : World) : Prop := ∃ u c a m k, e = .returned (.tuple #[u, .agg #[.int .i64 c, .slice a m k]]) ∧ Ext w w' ∧ Ints w' u zs ∧ RErrIs w' f c (.slice a m k)
/-- a variable that holds the document's error -/
theorem evar (w : World) (c : Int) (a : Option Addr) (m k : Nat) {W : World} (h : Ext (w.alloc (.cells #[.int .i64 c, .slice a m k] 34)) W) :
    W.cell? ⟨w.heap.size, 0, none⟩ = some (.int .i64 c) ∧ W.cell? ⟨w.heap.size, 1, none⟩ = some (.slice a m k) := ⟨h.cell (by simp), h.cell (by simp)⟩
end Go.Proofs.YtgohlhgapboijaaGreatDoor

/- The builtins max and min of ints, as rules for a walk. -/
namespace Go.Proofs.YtgohlhgapboijaaGreatDoor
set_option linter.unusedVariables false
set_option linter.unusedSimpArgs false
open Go.RowKit

theorem mx2 : ∀ (x y : Int) ts ty W, (Builtin.max_ ts ty #[.int .i64 x, .int .i64 y]).run Tryz.prog W = .ok (.int .i64 (max x y)) W := fun x y ts ty W => by
  have e : max x y = if x < y then y else x := by omega
  simp [Builtin.max_, Builtin.max2, e]
theorem mn2 : ∀ (x y : Int) ts ty W, (Builtin.min_ ts ty #[.int .i64 x, .int .i64 y]).run Tryz.prog W = .ok (.int .i64 (min x y)) W := fun x y ts ty W => by
  have e : min x y = if y < x then y else x := by omega
  simp [Builtin.min_, Builtin.min2, e]
theorem mx3 : ∀ (x y z : Int) ts ty W, (Builtin.max_ ts ty #[.int .i64 x, .int .i64 y, .int .i64 z]).run Tryz.prog W = .ok (.int .i64 (max (max x y) z)) W := fun x y z ts ty W => by
  have e : max (max x y) z = if (if x < y then y else x) < z then z else (if x < y then y else x) := by omega
  simp [Builtin.max_, Builtin.max2, e]
end Go.Proofs.YtgohlhgapboijaaGreatDoor

/- Frames: what they are, which may be; plane.isSide, isSample, Clip, May and the document's: contracts over this seat's translation. -/
namespace Go.Proofs.YtgohlhgapboijaaGreatDoor
set_option linter.unusedVariables false
set_option linter.unusedSimpArgs false
open Go.RowKit Go.Extern.Stop Go.Stop Go.Extern

def sideB (n : Int) : Bool := decide (8 ≤ n) && decide (n ≤ 32) && decide (n % 8 = 0)
/-- may a frame of these sides and samples be? -/
def may (W H : Int) (zs : List Int) : Prop := sideB W = true ∧ sideB H = true ∧ (zs.length : Int) = W * H ∧ within 0 255 zs
instance (W H : Int) (zs : List Int) : Decidable (may W H zs) := by unfold may; exact inferInstance
theorem sideB_true {n : Int} (h : sideB n = true) : 8 ≤ n ∧ n ≤ 32 ∧ n % 8 = 0 := by
  unfold sideB at h
  simp at h
  omega
theorem sideB_cases {n : Int} (h : sideB n = true) : n = 8 ∨ n = 16 ∨ n = 24 ∨ n = 32 := by
  have := sideB_true h
  omega
theorem may_area {W H : Int} {zs : List Int} (h : may W H zs) : 64 ≤ W * H ∧ W * H ≤ 1024 := by
  rcases sideB_cases h.1 with rfl | rfl | rfl | rfl <;> rcases sideB_cases h.2.1 with rfl | rfl | rfl | rfl <;> decide
theorem side_area {W H : Int} (h : sideB W = true) (k : sideB H = true) : 64 ≤ W * H ∧ W * H ≤ 1024 := by
  rcases sideB_cases h with rfl | rfl | rfl | rfl <;> rcases sideB_cases k with rfl | rfl | rfl | rfl <;> decide

theorem side_any (n : Int) (w : World) : Calls Tryz.prog 75 #[.int .i64 n] w fun e w' => e = .returned (.bool (sideB n)) ∧ w = w' := by
  by_cases h1 : 8 ≤ n
  · by_cases h2 : n ≤ 32
    · by_cases h3 : n % 8 = 0
      · have hs : sideB n = true := by unfold sideB; simp [h1, h2, h3]
        have H := Lib.hid hs
        clear hs
        go_enter Tryz.func75, Tryz.ntmps75
        go_wp2
        go_ret
        exact ⟨by rw [H.out]; rfl, rfl⟩
      · have hs : sideB n = false := by unfold sideB; simp [h3]
        have b1 : (n % 8 == 0) = false := by simpa using h3
        have H := Lib.hid hs
        clear hs h3
        go_enter Tryz.func75, Tryz.ntmps75
        go_wp2
        go_ret
        exact ⟨by rw [H.out]; rfl, rfl⟩
    · have hs : sideB n = false := by unfold sideB; simp [h2]
      have H := Lib.hid hs
      clear hs
      go_enter Tryz.func75, Tryz.ntmps75
      go_wp2
      go_ret
      exact ⟨by rw [H.out]; rfl, rfl⟩
  · have hs : sideB n = false := by unfold sideB; simp [h1]
    have H := Lib.hid hs
    clear hs
    go_enter Tryz.func75, Tryz.ntmps75
    go_wp2
    go_ret
    exact ⟨by rw [H.out]; rfl, rfl⟩
theorem rside_any (n : Int) (w : World) : Calls Tryz.prog 54 #[.int .i64 n] w fun e w' => e = .returned (.bool (sideB n)) ∧ w = w' := by
  by_cases h1 : 8 ≤ n
  · by_cases h2 : n ≤ 32
    · by_cases h3 : n % 8 = 0
      · have hs : sideB n = true := by unfold sideB; simp [h1, h2, h3]
        have H := Lib.hid hs
        clear hs
        go_enter Tryz.func54, Tryz.ntmps54
        go_wp2
        go_ret
        exact ⟨by rw [H.out]; rfl, rfl⟩
      · have hs : sideB n = false := by unfold sideB; simp [h3]
        have b1 : (n % 8 == 0) = false := by simpa using h3
        have H := Lib.hid hs
        clear hs h3
        go_enter Tryz.func54, Tryz.ntmps54
        go_wp2
        go_ret
        exact ⟨by rw [H.out]; rfl, rfl⟩
    · have hs : sideB n = false := by unfold sideB; simp [h2]
      have H := Lib.hid hs
      clear hs
      go_enter Tryz.func54, Tryz.ntmps54
      go_wp2
      go_ret
      exact ⟨by rw [H.out]; rfl, rfl⟩
  · have hs : sideB n = false := by unfold sideB; simp [h1]
    have H := Lib.hid hs
    clear hs
    go_enter Tryz.func54, Tryz.ntmps54
    go_wp2
    go_ret
    exact ⟨by rw [H.out]; rfl, rfl⟩
def smpB (n : Int) : Bool := decide (0 ≤ n) && decide (n ≤ 255)
theorem smp_any (n : Int) (w : World) : Calls Tryz.prog 76 #[.int .i64 n] w fun e w' => e = .returned (.bool (smpB n)) ∧ w = w' := by
  by_cases h1 : 0 ≤ n
  · by_cases h2 : n ≤ 255
    · have H : Hid (smpB n = true) := by show _ = _; unfold smpB; simp [h1, h2]
      go_enter Tryz.func76, Tryz.ntmps76
      go_wp2
      go_ret
      exact ⟨by rw [H.out]; rfl, rfl⟩
    · have H : Hid (smpB n = false) := by show _ = _; unfold smpB; simp [h2]
      go_enter Tryz.func76, Tryz.ntmps76
      go_wp2
      go_ret
      exact ⟨by rw [H.out]; rfl, rfl⟩
  · have H : Hid (smpB n = false) := by show _ = _; unfold smpB; simp [h1]
    go_enter Tryz.func76, Tryz.ntmps76
    go_wp2
    go_ret
    exact ⟨by rw [H.out]; rfl, rfl⟩
def clipI (n : Int) : Int := max 0 (min n 255)
theorem clip_any (n : Int) (w : World) : Calls Tryz.prog 66 #[.int .i64 n] w fun e w' => e = .returned (.int .i64 (clipI n)) ∧ w = w' := by
  have r1 := mx2
  have r2 := mn2
  go_enter Tryz.func66, Tryz.ntmps66
  go_wp2
  go_ret
  exact ⟨rfl, rfl⟩
theorem rclip_any (n : Int) (w : World) : Calls Tryz.prog 79 #[.int .i64 n] w fun e w' => e = .returned (.int .i64 (clipI n)) ∧ w = w' := by
  have r1 := mx2
  have r2 := mn2
  have e : min (max n 0) 255 = clipI n := by unfold clipI; omega
  have H := Lib.hid e
  clear e
  go_enter Tryz.func79, Tryz.ntmps79
  go_wp2
  go_ret
  exact ⟨by rw [← H.out]; rfl, rfl⟩
set_option maxRecDepth 20000 in
set_option maxHeartbeats 1000000 in
theorem may_any (W H : Int) (zs : List Int) (a : Option Addr) (n cap : Nat) (w : World) (h : Ints w (.slice a n cap) zs) :
    Calls Tryz.prog 48 #[.agg #[.int .i64 W, .int .i64 H, .slice a n cap]] w fun e w' => e = .returned (.bool (decide (may W H zs))) ∧ Ext w w' := by
  have E1 : Ext w (w.alloc (.cells #[.int .i64 W, .int .i64 H, .slice a n cap] 48)) := (Ext.refl w).alloc _
  have HN := Lib.hid h.len
  cases hs : sideB W with
  | false =>
    have HR : Hid (decide (may W H zs) = false) := by show _ = _; simp [may, hs]
    go_enter Tryz.func48, Tryz.ntmps48
    go_wp2_with (go_at_call 75; refine (side_any _ _).mono ?_; rintro e w' ⟨rfl, rfl⟩)
    go_ret
    exact ⟨by rw [HR.out]; rfl, E1⟩
  | true =>
    cases ht : sideB H with
    | false =>
      have HR : Hid (decide (may W H zs) = false) := by show _ = _; simp [may, ht]
      go_enter Tryz.func48, Tryz.ntmps48
      go_wp2_with (go_at_call 75; refine (side_any _ _).mono ?_; rintro e w' ⟨rfl, rfl⟩)
      go_ret
      exact ⟨by rw [HR.out]; rfl, E1⟩
    | true =>
      obtain ⟨b1, b2⟩ := side_area hs ht
      by_cases hl : (n : Int) = W * H
      · have HL := Lib.hid hl
        have hl2 : ((n : Int) != W * H) = false := by simpa using hl
        have hn0 : 0 < n ∧ n ≤ 1024 := by omega
        clear hl
        obtain ⟨hn0, hn1⟩ := hn0
        have HS : Hid (sideB W = true ∧ sideB H = true) := ⟨hs, ht⟩
        obtain ⟨g, off, rfl⟩ := h.had hn0
        go_enter Tryz.func48, Tryz.ntmps48
        go_wp2_with (go_at_call 75; refine (side_any _ _).mono ?_; rintro e w' ⟨rfl, rfl⟩)
        go_loop [29] (fun i => ∃ k : Nat, k ≤ n ∧ i = .int .i64 k ∧ Hid (∀ j x, j < k → zs[j]? = some x → 0 ≤ x ∧ x ≤ 255)) (fun i => n - (intOf i).toNat)
        case atStart => exact ⟨0, Nat.zero_le _, rfl, fun j _ hj => absurd hj (Nat.not_lt_zero _)⟩
        case round =>
          obtain ⟨k, hk, rfl, HJ⟩ := hrel
          by_cases hlt : k < n
          · obtain ⟨x, hx⟩ : ∃ x, zs[k]? = some x := ⟨_, List.getElem?_eq_getElem (by rw [← HN.out]; exact hlt)⟩
            have cx := E1.cell (h.at hx)
            have HX := Lib.hid hx
            clear hx
            cases hb : smpB x with
            | true =>
              have HB := Lib.hid hb
              go_wp2_with (go_at_call 76; refine (smp_any _ _).mono ?_; rintro e w' ⟨rfl, rfl⟩)
              go_round
              case rel => exact ⟨k + 1, by omega, by go_num, fun j y hj hy => by
                by_cases hjk : j = k
                · subst hjk
                  have : x = y := Option.some.inj (HX.out.symm.trans hy)
                  have h2 := HB.out
                  unfold smpB at h2
                  simp at h2
                  omega
                · exact HJ.out j y (by omega) hy⟩
              case measure => simp [intOf]; omega
            | false =>
              have HB := Lib.hid hb
              go_wp2_with (go_at_call 76; refine (smp_any _ _).mono ?_; rintro e w' ⟨rfl, rfl⟩)
              go_ret
              refine ⟨?_, E1⟩
              have : ¬ may W H zs := fun hm => by
                have h1 := hm.2.2.2.at HX.out
                have h2 := HB.out
                unfold smpB at h2
                simp at h2
                omega
              rw [decide_eq_false this]; rfl
          · go_wp2
            go_ret
            refine ⟨?_, E1⟩
            have : may W H zs := ⟨HS.out.1, HS.out.2, by rw [← HN.out]; exact HL.out, within_of_gets fun j x hj hx => HJ.out j x (by rw [← HN.out] at hj; omega) hx⟩
            rw [decide_eq_true this]; rfl
      · have HR : Hid (decide (may W H zs) = false) := by show _ = _; rw [decide_eq_false (fun hm => hl (by rw [HN.out]; exact hm.2.2.1))]
        have hl2 : ((n : Int) != W * H) = true := by simpa using hl
        clear hl
        go_enter Tryz.func48, Tryz.ntmps48
        go_wp2_with (go_at_call 75; refine (side_any _ _).mono ?_; rintro e w' ⟨rfl, rfl⟩)
        go_ret
        exact ⟨by rw [HR.out]; rfl, E1⟩
end Go.Proofs.YtgohlhgapboijaaGreatDoor

/- slices.ContainsFunc at this seat's predicates: contracts over this seat's translation. -/
namespace Go.Proofs.YtgohlhgapboijaaGreatDoor
set_option linter.unusedVariables false
set_option linter.unusedSimpArgs false
open Go.RowKit Go.Extern.Stop Go.Stop Go.Extern

def IdxPost (w : World) (b : Bool) (e : Ending) (w' : World) : Prop := ∃ i : Int, e = .returned (.int .i64 i) ∧ decide (0 ≤ i) = b ∧ w = w'
def farB (x : Int) : Bool := decide (x < -1048576) || decide (1048576 < x)
def nzB (x : Int) : Bool := decide (x ≠ 0)
def nosmpB (x : Int) : Bool := decide (x < 0) || decide (255 < x)
theorem any_of_get {zs : List Int} {p : Int → Bool} {k : Nat} {x : Int} (h : zs[k]? = some x) (hp : p x = true) : zs.any p = true := List.any_eq_true.2 ⟨x, List.mem_of_getElem? h, hp⟩
theorem any_no {zs : List Int} {p : Int → Bool} (h : ∀ j x, j < zs.length → zs[j]? = some x → p x = false) : zs.any p = false := by
  rw [Bool.eq_false_iff]
  intro ht
  obtain ⟨x, hx, hp⟩ := List.any_eq_true.1 ht
  obtain ⟨j, hj, e⟩ := List.mem_iff_getElem.1 hx
  have := h j x hj (by rw [List.getElem?_eq_getElem hj, e])
  rw [this] at hp
  cases hp

end Go.Proofs.YtgohlhgapboijaaGreatDoor

/- Chapter 7, plain arithmetic: how unlike two rows are, and the zigzag of 4 and 8. -/
namespace Go.Proofs.YtgohlhgapboijaaGreatDoor
set_option linter.unusedVariables false
set_option linter.unusedSimpArgs false

/-- how unlike the first n of two rows are -/
def sadF (f g : Nat → Int) : Nat → Int
  | 0 => 0
  | j + 1 => sadF f g j + max (f j - g j) (g j - f j)
theorem sadF_comm (f g : Nat → Int) (n : Nat) : sadF f g n = sadF g f n := by
  induction n with
  | zero => rfl
  | succ n ih => unfold sadF; omega
theorem sadF_tri (f g h : Nat → Int) (n : Nat) : sadF f h n ≤ sadF f g n + sadF g h n := by
  induction n with
  | zero => simp [sadF]
  | succ n ih => unfold sadF; omega
theorem sadF_pos (f g : Nat → Int) (n : Nat) : 0 ≤ sadF f g n := by
  induction n with
  | zero => simp [sadF]
  | succ n ih => unfold sadF; omega
theorem sadF_zero (f g : Nat → Int) (n : Nat) : sadF f g n = 0 ↔ ∀ j, j < n → f j = g j := by
  induction n with
  | zero => simp [sadF]
  | succ n ih =>
    have hp := sadF_pos f g n
    unfold sadF
    constructor
    · intro h j hj
      by_cases e : j = n
      · subst e; omega
      · exact ih.1 (by omega) j (by omega)
    · intro h
      have h1 := ih.2 (fun j hj => h j (by omega))
      have h2 := h n (by omega)
      omega
theorem sadF_bound {f g : Nat → Int} {B : Int} (hf : ∀ j, -B ≤ f j ∧ f j ≤ B) (hg : ∀ j, -B ≤ g j ∧ g j ≤ B) (n : Nat) : sadF f g n ≤ 2 * B * n := by
  induction n with
  | zero => simp [sadF]
  | succ n ih =>
    have h1 := hf n
    have h2 := hg n
    have e : 2 * B * ((n : Nat) + 1 : Int) = 2 * B * n + 2 * B := by rw [Int.mul_add]; omega
    unfold sadF
    push_cast
    omega
/-- the index that lies i-th on the diagonal s of a square of n, by the landed way: rows from lo to hi -/
def zigLo (n s : Nat) : Nat := s + 1 - n
def zigHi (n s : Nat) : Nat := min s (n - 1)
def zigAt (n s i : Nat) : Nat := let y := if s % 2 = 0 then zigHi n s - (i - zigLo n s) else i; y * n + s - y
def zigDiag (n s k : Nat) : List Nat := (List.range (k - zigLo n s)).map fun i => zigAt n s (zigLo n s + i)
def zigPre (n s : Nat) : List Nat := (List.range s).flatMap fun s => zigDiag n s (zigHi n s + 1)
/-- and by the document's way: rows from 0 to s, those that lie inside -/
def zigY (s i : Nat) : Nat := if s % 2 = 0 then s - i else i
def zigRow (n s k : Nat) : List Nat := ((List.range k).filter fun i => zigY s i < n ∧ s - zigY s i < n).map fun i => zigY s i * n + s - zigY s i
theorem zig_same4 : ∀ s < 7, zigRow 4 s (s + 1) = zigDiag 4 s (zigHi 4 s + 1) := by decide +kernel
theorem zig_same8 : ∀ s < 15, zigRow 8 s (s + 1) = zigDiag 8 s (zigHi 8 s + 1) := by decide +kernel
theorem zig_four : zigPre 4 7 = [0, 1, 4, 8, 5, 2, 3, 6, 9, 12, 13, 10, 7, 11, 14, 15] := by decide +kernel
theorem zig_len : (zigPre 4 7).length = 16 ∧ (zigPre 8 15).length = 64 := by decide +kernel
theorem zig_once : (zigPre 4 7).Nodup ∧ (zigPre 8 15).Nodup ∧ (∀ x ∈ zigPre 4 7, x < 16) ∧ (∀ x ∈ zigPre 8 15, x < 64) := by decide +kernel
theorem zigDiag_succ {n s k : Nat} (h : zigLo n s ≤ k) : zigDiag n s (k + 1) = zigDiag n s k ++ [zigAt n s k] := by
  unfold zigDiag
  rw [show k + 1 - zigLo n s = (k - zigLo n s) + 1 by omega, List.range_succ, List.map_append]
  simp only [List.map_cons, List.map_nil]
  rw [show zigLo n s + (k - zigLo n s) = k by omega]
theorem zigPre_succ (n s : Nat) : zigPre n (s + 1) = zigPre n s ++ zigDiag n s (zigHi n s + 1) := by
  unfold zigPre
  rw [List.range_succ, List.flatMap_append]
  simp
theorem zigRow_succ (n s k : Nat) : zigRow n s (k + 1) = zigRow n s k ++ (if zigY s k < n ∧ s - zigY s k < n then [zigY s k * n + s - zigY s k] else []) := by
  unfold zigRow
  rw [List.range_succ, List.filter_append, List.map_append]
  congr 1
  by_cases h : zigY s k < n ∧ s - zigY s k < n
  · rw [if_pos h]; simp [h]
  · rw [if_neg h]; simp [List.filter_cons, h]
/-- the quarter of an index of 64, and its place there -/
def qOf (i : Nat) : Nat := i / 32 * 2 + i % 8 / 4
def qAt (i : Nat) : Nat := i % 32 / 8 * 4 + i % 4
def qIdx (q k : Nat) : List Nat := (List.range k).filter fun i => qOf i == q
theorem qOf_landed : ∀ i < 64, i / 8 / 4 * 2 + i % 8 / 4 = qOf i ∧ qOf i < 4 ∧ qAt i < 16 := by decide +kernel
theorem qIdx_succ (q k : Nat) : qIdx q (k + 1) = qIdx q k ++ (if qOf k = q then [k] else []) := by
  unfold qIdx
  rw [List.range_succ, List.filter_append]
  congr 1
  by_cases h : qOf k = q
  · rw [if_pos h]; simp [h]
  · rw [if_neg h]; simp [h]
theorem qIdx_count : ∀ i < 64, (qIdx (qOf i) i).length = qAt i := by decide +kernel
theorem qIdx_full : ∀ q < 4, (qIdx q 64).length = 16 := by decide +kernel
theorem qIdx_back : ∀ i < 64, (qIdx (qOf i) 64)[qAt i]? = some i := by decide +kernel
end Go.Proofs.YtgohlhgapboijaaGreatDoor

/- kinref.CopyInts: its contract over this seat's translation; what an append of one int does to a slice of the call's own. -/
namespace Go.Proofs.YtgohlhgapboijaaGreatDoor
set_option linter.unusedVariables false
set_option linter.unusedSimpArgs false
open Go.RowKit Go.Extern.Stop Go.Stop Go.Extern

theorem infoInt : (Tryz.prog.info? 3).map (fun i => (i.zero, i.size, i.bytes)) = some (some (.int .i64 0), 1, 8) := by kernel_rfl

theorem news_of_ints {w : World} {g off n cap : Nat} {zs : List Int} (h : Ints w (.slice (some ⟨g, off, none⟩) n cap) zs) : ∀ j u, (zs.map (Value.int .i64))[j]? = some u → w.cell? ((⟨g, off, none⟩ : Addr).add j) = some u := fun j u hu => by
  have hadd : (⟨g, off, none⟩ : Addr).add j = ⟨g, off + j, none⟩ := by unfold Addr.add; split <;> simp_all
  rw [List.getElem?_map] at hu
  obtain ⟨x, hx, rfl⟩ := Option.map_eq_some_iff.1 hu
  rw [hadd]
  exact h.at hx
theorem ints_one (zs : List Int) : ∀ u ∈ zs.map (Value.int .i64), u.oneCell' = true := fun u hu => by
  obtain ⟨x, _, rfl⟩ := List.mem_map.1 hu
  rfl

set_option maxRecDepth 20000 in
theorem copy_ints (zs : List Int) (v : Value) (w : World) (ha : Ints w v zs) (hl : zs.length ≤ 1000000) :
    Calls Tryz.prog 47 #[v] w fun e w' => ∃ u, e = .returned u ∧ Ints w' u zs ∧ Ext w w' := by
  obtain ⟨i0, hi, hz0, hz1, hz2⟩ := info_parts infoInt
  obtain ⟨n, hn⟩ : ∃ n, n = zs.length := ⟨_, rfl⟩
  have E1 : Ext w (w.alloc (.cells #[] 3)) := (Ext.refl w).alloc _
  have hown : (w.alloc (.cells #[] 3)).ownsRow w.heap.size 3 1 (.slice (some ⟨w.heap.size, 0, none⟩) 0 0) 0 [] := World.ownsRow_made w #[] 0 (Nat.le_refl _) (Nat.zero_le _) rfl
  have fin : ∀ (v' : Value) (w' : World), w'.ownsRow w.heap.size 3 1 v' (0 + n) ([] ++ zs.map (Value.int .i64)) → (w.alloc (.cells #[] 3)).grownBy w' (some w.heap.size) → Ints w' v' zs ∧ Ext w w' := fun v' w' h1 h2 =>
    ⟨Ints.of_owns h1 (by omega), Below.grown E1 h2 (by simp) (fun k hk => by cases hk; exact Nat.le_refl _)⟩
  have FIN := Lib.hid fin
  clear fin
  by_cases hz : n = 0
  · obtain ⟨a, cap, rfl⟩ := ha.form
    obtain rfl : zs = [] := List.eq_nil_of_length_eq_zero (by omega)
    subst hz
    clear ha hn
    cases a with
    | none =>
      go_enter Tryz.func47, Tryz.ntmps47
      go_wp2
      go_ret
      exact ⟨_, rfl, Ints.of_owns (zs := []) hown (by simp), E1⟩
    | some a =>
      go_enter Tryz.func47, Tryz.ntmps47
      go_wp2_with (at_builtin; refine wpList_append_own _ rfl _ _ 46 rfl w.heap.size 3 i0 (.int .i64 0) 1 8 Tryz.underlying46 hi hz0 hz1 hz2 rfl (by decide) _ 0 [] rfl hown a 0 cap [] rfl rfl (by simp) (by simp) (by decide) (by decide) (by simp) ?_; intro v' w' h1 h2 _)
      go_ret
      exact ⟨_, rfl, FIN.out _ _ h1 h2⟩
  · obtain ⟨g, off, cap, rfl, c1, c2⟩ := ha.addr (by omega)
    rw [← hn] at ha hl c1 ⊢
    have hnews := news_of_ints (ha.ext E1)
    have HN := Lib.hid hn
    have HW := Lib.hid hnews
    clear hn hnews
    go_enter Tryz.func47, Tryz.ntmps47
    go_wp2_with (at_builtin; refine wpList_append_own _ rfl _ _ 46 rfl w.heap.size 3 i0 (.int .i64 0) 1 8 Tryz.underlying46 hi hz0 hz1 hz2 rfl (by decide) _ 0 [] rfl hown ⟨g, off, none⟩ n cap (zs.map (Value.int .i64)) rfl (by simp [HN.out]) HW.out (ints_one zs) (by unfold maxLen; omega) (by omega) (by simp) ?_; intro v' w' h1 h2 _)
    go_ret
    exact ⟨_, rfl, FIN.out _ _ h1 h2⟩
theorem one_int (x : Int) : ∀ u ∈ [Value.int .i64 x], u.oneCell' = true := fun u hu => by
  obtain rfl := List.mem_singleton.1 hu
  rfl
theorem drop_of_get {α : Type} {zs : List α} {k : Nat} {x : α} (h : zs[k]? = some x) : zs.drop k = x :: zs.drop (k + 1) := by
  obtain ⟨hk, e⟩ := List.getElem?_eq_some_iff.1 h
  rw [List.drop_eq_getElem_cons hk, e]
theorem take_of_get {α : Type} {zs : List α} {k : Nat} {x : α} (h : zs[k]? = some x) : zs.take (k + 1) = zs.take k ++ [x] := by
  obtain ⟨hk, e⟩ := List.getElem?_eq_some_iff.1 h
  rw [List.take_succ_eq_append_getElem hk, e]
end Go.Proofs.YtgohlhgapboijaaGreatDoor

/- Ints that the call itself made: reading, writing. -/
namespace Go.Proofs.YtgohlhgapboijaaGreatDoor
set_option linter.unusedVariables false
set_option linter.unusedSimpArgs false
open Go.RowKit Go.Sort

def rowA (N : Nat) (f : Nat → Int) : Array Int := Array.ofFn (fun i : Fin N => f i)
theorem rowA_size (N : Nat) (f : Nat → Int) : (rowA N f).size = N := by simp [rowA]
theorem rowA_get {N : Nat} {f : Nat → Int} {j : Nat} (h : j < N) : (rowA N f)[j]! = f j := by
  rw [getElem!_pos _ _ (by rw [rowA_size]; exact h)]
  simp [rowA]
theorem rowA_set {N : Nat} {f : Nat → Int} {i : Nat} {x : Int} : (rowA N f).setIfInBounds i x = rowA N (fun j => if j = i then x else f j) := by
  apply Array.ext_getElem?
  intro j
  rw [Array.getElem?_setIfInBounds]
  by_cases hj : j < N
  · by_cases h : i = j
    · subst h; simp [rowA, hj]
    · have h' : ¬ j = i := fun e => h e.symm
      simp [rowA, hj, h, h']
  · by_cases h : i = j
    · subst h; simp [rowA, hj]
    · simp [rowA, hj, h]
theorem rowA_congr {N : Nat} {f g : Nat → Int} (h : ∀ j, j < N → f j = g j) : rowA N f = rowA N g := by
  apply Array.ext
  · simp [rowA]
  · intro j h1 h2
    simp only [rowA, Array.getElem_ofFn]
    exact h j (by simpa [rowA] using h1)

def rowL (N : Nat) (f : Nat → Int) : List Int := (List.range N).map f
theorem rowL_length (N : Nat) (f : Nat → Int) : (rowL N f).length = N := by simp [rowL]
theorem rowL_get {N : Nat} {f : Nat → Int} {j : Nat} (h : j < N) : (rowL N f)[j]? = some (f j) := by simp [rowL, h]
theorem rowL_arr (N : Nat) (f : Nat → Int) : (rowL N f).toArray = rowA N f := by
  apply Array.ext_getElem?
  intro j
  by_cases h : j < N <;> simp [rowL, rowA, h]
theorem rowL_getD (zs : List Int) : rowL zs.length (fun i => zs.getD i 0) = zs := by
  apply List.ext_getElem?
  intro j
  by_cases h : j < zs.length <;> simp [rowL, h]
/-- ints that the call itself made -/
theorem Ints.of_row {w : World} {base N : Nat} {v : Value} {f : Nat → Int} (h : w.ownsRow base 3 1 v N ((rowL N f).map (Value.int .i64))) (hN : N ≤ 1000000) : Ints w v (rowL N f) := Ints.of_owns h (by rw [rowL_length]; omega)
theorem one_set {w : World} {blk N q k : Nat} {f : Nat → Int} {x : Int} (hk : k < N) :
    ((putRow (Value.int .i64) w blk 0 (rowA N f)).drewN q).setCell ⟨blk, k, none⟩ (.int .i64 x) = (putRow (Value.int .i64) w blk 0 (rowA N (fun i => if i = k then x else f i))).drewN q := by
  have e1 := putRow_set (Value.int .i64) w blk 0 (rowA N f) k x (by rw [rowA_size]; exact hk)
  rw [← rowA_set, ← e1]
  simp only [Nat.zero_add]
  rfl
theorem own_form {w : World} {base N : Nat} {v : Value} {f : Nat → Int} (h : w.ownsRow base 3 1 v N ((rowL N f).map (Value.int .i64))) (hN : 1 ≤ N) : ∃ g cap, v = .slice (some ⟨g, 0, none⟩) N cap ∧ base ≤ g ∧ g < w.heap.size ∧ N ≤ cap ∧ cap ≤ maxLen := by
  obtain ⟨g, cap', e, hg, hgl, hc1, hc2, -, -⟩ := Lib.holds_of_ownsRow (enc := Value.int .i64) h (by
    rintro rfl
    rcases h.2 with ⟨_, h0⟩ | ⟨_, _, _, h0, _⟩
    · omega
    · cases h0)
  exact ⟨g, cap', e, hg, hgl, hc1, hc2⟩
theorem own_holds {w : World} {base g cap N : Nat} {f : Nat → Int} (h : w.ownsRow base 3 1 (.slice (some ⟨g, 0, none⟩) N cap) N ((rowL N f).map (Value.int .i64))) : Holds (Value.int .i64) w g 0 (rowA N f) := by
  obtain ⟨g', cap', e, -, -, -, -, -, hH⟩ := Lib.holds_of_ownsRow (enc := Value.int .i64) h (by intro e; cases e)
  simp only [Value.slice.injEq, Option.some.injEq, Addr.mk.injEq, and_true, true_and] at e
  obtain ⟨rfl, rfl⟩ := e
  rwa [rowL_arr] at hH
theorem own_cell {w : World} {base g cap N k : Nat} {f : Nat → Int} (h : w.ownsRow base 3 1 (.slice (some ⟨g, 0, none⟩) N cap) N ((rowL N f).map (Value.int .i64))) (hk : k < N) : w.cell? ⟨g, k, none⟩ = some (.int .i64 (f k)) ∧ w.frozen? ⟨g, k, none⟩ = false := by
  obtain ⟨ck, fk⟩ := own_holds h k (by rw [rowA_size]; exact hk)
  rw [rowA_get hk] at ck
  exact ⟨by simpa using ck, by simpa using fk⟩
theorem own_set {w : World} {base g cap N k : Nat} {f : Nat → Int} {x : Int} (h : w.ownsRow base 3 1 (.slice (some ⟨g, 0, none⟩) N cap) N ((rowL N f).map (Value.int .i64))) (hk : k < N) :
    (w.setCell ⟨g, k, none⟩ (.int .i64 x)).ownsRow base 3 1 (.slice (some ⟨g, 0, none⟩) N cap) N ((rowL N (fun i => if i = k then x else f i)).map (Value.int .i64)) := by
  have e := one_set (w := w) (blk := g) (q := 0) (f := f) (x := x) hk
  rw [putRow_self _ _ _ _ _ (own_holds h)] at e
  have ho := Lib.ownsRow_putRow (q := 0) (k := N) h (rowL_length N (fun i => if i = k then x else f i)) (Nat.le_refl _)
  rw [List.take_of_length_le (by rw [rowL_length]; exact Nat.le_refl _), rowL_arr] at ho
  rw [show w.setCell ⟨g, k, none⟩ (.int .i64 x) = putRow (Value.int .i64) (Sort.ahead w 0) g 0 (rowA N (fun i => if i = k then x else f i)) from e]
  exact ho
theorem own_ext {w w' : World} {base : Nat} {e : TypeId} {size n : Nat} {v : Value} {xs : List Value} (h : w.ownsRow base e size v n xs) (k : Ext w w') : w'.ownsRow base e size v n xs := by
  obtain ⟨hl, h⟩ := h
  refine ⟨hl, ?_⟩
  rcases h with h | ⟨g, cap, cur, rfl, hb, hg, h⟩
  · exact Or.inl h
  · have hlt : g < w.heap.size := by
      rcases Nat.lt_or_ge g w.heap.size with h' | h'
      · exact h'
      · rw [Array.getElem?_eq_none h'] at hg; cases hg
    exact Or.inr ⟨g, cap, cur, rfl, hb, (k.block hlt).trans hg, h⟩
end Go.Proofs.YtgohlhgapboijaaGreatDoor

/- An append of one int to a slice that the call itself made: the law in the form that the walks of this seat take. -/
namespace Go.Proofs.YtgohlhgapboijaaGreatDoor
set_option linter.unusedVariables false
set_option linter.unusedSimpArgs false
open Go.RowKit

theorem push_int {ops : Array Oper} {rest : List Oper} {o : Oper} {a : Act} {Q : Exit → Act → World → Prop} {W : World} {base : Nat} (hgd : o.guard = none) (s y : Operand) (t : TypeId)
    (ho : o.op = .call { callee := .builtin .append, args := #[s, y], argTypes := #[t, t] }) (ht : Tryz.prog.underlying t = some (.slice 3))
    (v : Value) (n : Nat) (xs : List Value) (x : Int) (hs : a.eval s = v) (hown : W.ownsRow base 3 1 v n xs) (hx : a.eval y = .slice (some ⟨W.heap.size, 0, none⟩) 1 1) (hb : base ≤ W.heap.size) (hn : n ≤ 1000000000000)
    (h : ∀ v' w', w'.ownsRow base 3 1 v' (n + 1) (xs ++ [.int .i64 x]) → Below base W w' → wpList Tryz.prog ops Q rest (a.put o.dst v') w') :
    wpList Tryz.prog ops Q (o :: rest) a (W.alloc (.cells #[.int .i64 x] 3)) := by
  obtain ⟨i0, hi, hz0, hz1, hz2⟩ := info_parts infoInt
  refine wpList_append_own _ hgd s y t ho base 3 i0 (.int .i64 0) 1 8 ht hi hz0 hz1 hz2 rfl (by decide) v n xs hs (hown.alloc _) ⟨W.heap.size, 0, none⟩ 1 1 [.int .i64 x] hx rfl (cell_one_new _ _ _) (one_int _) (by unfold maxLen; omega) (by omega) (by simp; omega) ?_
  intro v' w' h1 h2 _
  exact h v' w' h1 (Below.grown ((Below.refl base W).alloc hb _) h2 (by simp; omega) (fun k hk => (hown.lt k hk).1))
theorem Ext.of_below {w a b : World} {B : Nat} (h : Ext w a) (k : Below B a b) (hB : w.heap.size ≤ B) : Ext w b := Below.trans h (Below.mono k hB)
theorem Below.cellv {B : Nat} {a b : World} (k : Below B a b) {p : Addr} {v : Value} (h : a.cell? p = some v) (hp : p.block < B) : b.cell? p = some v := (Below.cell k hp).trans h
/-- likewise, at a step of a region that draws its order -/
theorem step_push {ops : Array Oper} {o : Oper} {a : Act} {K : Act → World → Prop} {Q : Exit → Act → World → Prop} {E : Prop} {W : World} {base : Nat} (hgd : o.guard = none) (s y : Operand) (t : TypeId)
    (ho : o.op = .call { callee := .builtin .append, args := #[s, y], argTypes := #[t, t] }) (ht : Tryz.prog.underlying t = some (.slice 3))
    (v : Value) (n : Nat) (xs : List Value) (x : Int) (hs : a.eval s = v) (hown : W.ownsRow base 3 1 v n xs) (hx : a.eval y = .slice (some ⟨W.heap.size, 0, none⟩) 1 1) (hb : base ≤ W.heap.size) (hn : n ≤ 1000000000000)
    (h : ∀ g cap w', w'.ownsRow base 3 1 (.slice (some ⟨g, 0, none⟩) (n + 1) cap) (n + 1) (xs ++ [.int .i64 x]) → Below base W w' → W.grownBy w' v.ownBlock → K (a.put o.dst (.slice (some ⟨g, 0, none⟩) (n + 1) cap)) w') :
    if Region.wanted o (yielded ops a.tmps) = true then Oper.wp Tryz.prog o a ((W.alloc (.cells #[.int .i64 x] 3)).drew) K Q else E := by
  obtain ⟨i0, hi, hz0, hz1, hz2⟩ := info_parts infoInt
  have hown' : ((W.alloc (.cells #[.int .i64 x] 3)).drew).ownsRow base 3 1 v n xs := (hown.alloc _).drew
  refine step_append_lies _ hgd s y t ho base 3 i0 (.int .i64 0) 1 8 ht hi hz0 hz1 hz2 rfl (by decide) v n xs hs hown' ⟨W.heap.size, 0, none⟩ 1 1 [.int .i64 x] hx rfl (World.news_of_block (cs := #[.int .i64 x]) (t := 3) (fr := (0, 0)) (heap_alloc_new W _)) (one_int _) (by decide) (by unfold maxLen; omega) (by omega) (by simp; omega) (W.heap.size + 1) (by simp) ?_
  intro g cap w' h1 h2 _ _
  refine h g cap w' h1 (Below.grown (((Below.refl base W).alloc hb _).drew) h2 (by simp; omega) (fun k hk => (hown.lt k hk).1)) ⟨h2.os, h2.tape, h2.output, Nat.le_trans (by simp) h2.size, fun k hk hne => ?_⟩
  exact (h2.block k (by simp; omega) hne).trans (Below.heap_alloc W _ k hk)
end Go.Proofs.YtgohlhgapboijaaGreatDoor

/- block.matched, Sad, Sub, Add, Zero: contracts over this seat's translation. -/
namespace Go.Proofs.YtgohlhgapboijaaGreatDoor
set_option linter.unusedVariables false
set_option linter.unusedSimpArgs false
open Go.RowKit Go.Extern.Stop Go.Stop Go.Extern

def fit : Fall := some ([], 14)
def range : Fall := some ([], 3)
/-- what forbids to hold two lists against one another -/
def matAns (xs ys : List Int) : Fall := if xs.length = ys.length then (if xs.any farB = true ∨ ys.any farB = true then range else none) else fit
theorem farB_no {x : Int} (h : farB x = false) : -1048576 ≤ x ∧ x ≤ 1048576 := by
  unfold farB at h
  simp at h
  omega
theorem any_false {zs : List Int} {p : Int → Bool} (h : zs.any p = false) (j : Nat) (d : Int) (hd : p d = false) : p (zs.getD j d) = false := by
  by_cases hj : j < zs.length
  · have hm : zs.getD j d ∈ zs := by simp [List.getD, hj]
    cases hp : p (zs.getD j d) with
    | false => rfl
    | true => rw [List.any_eq_true.2 ⟨_, hm, hp⟩] at h; cases h
  · simpa [List.getD, List.getElem?_eq_none (Nat.not_lt.1 hj)] using hd
theorem matAns_none {xs ys : List Int} (h : matAns xs ys = none) : xs.length = ys.length ∧ (∀ j, -1048576 ≤ xs.getD j 0 ∧ xs.getD j 0 ≤ 1048576) ∧ ∀ j, -1048576 ≤ ys.getD j 0 ∧ ys.getD j 0 ≤ 1048576 := by
  unfold matAns at h
  split at h
  · rename_i h1
    split at h
    · cases h
    · rename_i h2
      refine ⟨h1, fun j => farB_no (any_false ?_ j 0 rfl), fun j => farB_no (any_false ?_ j 0 rfl)⟩
      · cases hx : xs.any farB with
        | false => rfl
        | true => exact absurd (Or.inl hx) h2
      · cases hx : ys.any farB with
        | false => rfl
        | true => exact absurd (Or.inr hx) h2
  · cases h

/-- how unlike two lists are -/
def sadV (xs ys : List Int) : Int := match matAns xs ys with
  | none => sadF (fun i => xs.getD i 0) (fun i => ys.getD i 0) xs.length
  | some _ => 0
theorem getD_of_get {zs : List Int} {j : Nat} {x : Int} (h : zs[j]? = some x) : zs.getD j 0 = x := by simp [List.getD, h]
theorem get_of_lt {zs : List Int} {j : Nat} (h : j < zs.length) : zs[j]? = some (zs.getD j 0) := by simp [List.getD, h]

end Go.Proofs.YtgohlhgapboijaaGreatDoor

/- plane.matched, Sum, Peak: contracts over this seat's translation. -/
namespace Go.Proofs.YtgohlhgapboijaaGreatDoor
set_option linter.unusedVariables false
set_option linter.unusedSimpArgs false
open Go.RowKit Go.Extern.Stop Go.Stop Go.Extern

def form : Fall := some ([], 2)
/-- what forbids to hold two frames against one another -/
def frAns (W H : Int) (xs : List Int) (W' H' : Int) (ys : List Int) : Fall := if may W H xs ∧ may W' H' ys then (if W = W' ∧ H = H' then none else fit) else form
theorem frAns_none {W H W' H' : Int} {xs ys : List Int} (h : frAns W H xs W' H' ys = none) : may W H xs ∧ may W' H' ys ∧ W = W' ∧ H = H' := by
  unfold frAns at h
  split at h
  · rename_i h1
    split at h
    · rename_i h2
      exact ⟨h1.1, h1.2, h2.1, h2.2⟩
    · cases h
  · cases h
theorem frAns_comm (W H : Int) (xs : List Int) (W' H' : Int) (ys : List Int) : frAns W H xs W' H' ys = frAns W' H' ys W H xs := by
  unfold frAns
  by_cases h : may W H xs ∧ may W' H' ys
  · rw [if_pos h, if_pos h.symm]
    by_cases k : W = W' ∧ H = H'
    · rw [if_pos k, if_pos ⟨k.1.symm, k.2.symm⟩]
    · rw [if_neg k, if_neg (fun e => k ⟨e.1.symm, e.2.symm⟩)]
  · rw [if_neg h, if_neg (fun e => h e.symm)]
theorem may_getD {W H : Int} {zs : List Int} (h : may W H zs) (j : Nat) : 0 ≤ zs.getD j 0 ∧ zs.getD j 0 ≤ 255 := by
  by_cases hj : j < zs.length
  · exact h.2.2.2.at (get_of_lt hj)
  · simp [List.getD, List.getElem?_eq_none (Nat.not_lt.1 hj)]
theorem may_len {W H : Int} {zs : List Int} (h : may W H zs) : zs.length ≤ 1024 := by have := may_area h; have := h.2.2.1; omega
theorem frAns_len {W H W' H' : Int} {xs ys : List Int} (h : frAns W H xs W' H' ys = none) : xs.length = ys.length := by
  obtain ⟨h1, h2, rfl, rfl⟩ := frAns_none h
  have := h1.2.2.1
  have := h2.2.2.1
  omega

def sumV (W H : Int) (xs : List Int) (W' H' : Int) (ys : List Int) : Int := match frAns W H xs W' H' ys with
  | none => sadF (fun i => xs.getD i 0) (fun i => ys.getD i 0) xs.length
  | some _ => 0
def peakF (f g : Nat → Int) : Nat → Int
  | 0 => 0
  | j + 1 => max (peakF f g j) (max (f j - g j) (g j - f j))
def peakV (W H : Int) (xs : List Int) (W' H' : Int) (ys : List Int) : Int := match frAns W H xs W' H' ys with
  | none => peakF (fun i => xs.getD i 0) (fun i => ys.getD i 0) xs.length
  | some _ => 0
def stepOfsum (s x y : Int) : Int := s + max (x - y) (y - x)
def stepOfpeak (s x y : Int) : Int := max s (max (x - y) (y - x))
theorem peakF_pos (f g : Nat → Int) (n : Nat) : 0 ≤ peakF f g n := by
  induction n with
  | zero => simp [peakF]
  | succ n ih => unfold peakF; omega
theorem peakF_le {f g : Nat → Int} (hf : ∀ j, 0 ≤ f j ∧ f j ≤ 255) (hg : ∀ j, 0 ≤ g j ∧ g j ≤ 255) (n : Nat) : peakF f g n ≤ 255 := by
  induction n with
  | zero => simp [peakF]
  | succ n ih => have := hf n; have := hg n; unfold peakF; omega
theorem sadF_le {f g : Nat → Int} (hf : ∀ j, 0 ≤ f j ∧ f j ≤ 255) (hg : ∀ j, 0 ≤ g j ∧ g j ≤ 255) (n : Nat) : sadF f g n ≤ 255 * n := by
  induction n with
  | zero => simp [sadF]
  | succ n ih => have := hf n; have := hg n; unfold sadF; push_cast; omega
end Go.Proofs.YtgohlhgapboijaaGreatDoor
