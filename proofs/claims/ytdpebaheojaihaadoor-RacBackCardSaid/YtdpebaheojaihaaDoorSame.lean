/- kinsame.Err: an error held against the document's: its contract over this seat's translation. -/
import Derived.Test.YtdpebaheojaihaaDoorErr4
namespace Go.Proofs.YtdpebaheojaihaaDoor
set_option linter.unusedVariables false
set_option linter.unusedSimpArgs false
open Go.RowKit Go.Extern.Stop Go.Stop Go.Extern

theorem Ext.drewN {a w : World} (h : Ext a w) (n : Nat) : Ext a (w.drewN n) := by
  have h' : Below a.heap.size a w := h
  exact ⟨h'.os, h'.tape, h'.output, h'.size, h'.block⟩

/-- a slice value that reads as these cells -/
def Row (w : World) (v : Value) (n : Nat) (cells : List Value) : Prop :=
  ∃ (a : Option Addr) (cap : Nat), v = .slice a n cap ∧ n ≤ cap ∧ cap ≤ maxLen ∧ (0 < n → ∃ g off, a = some ⟨g, off, none⟩) ∧ ∀ g off, a = some ⟨g, off, none⟩ → ∀ j u, cells[j]? = some u → w.cell? ⟨g, off + j, none⟩ = some u
theorem Row.ext {w w' : World} {v : Value} {n : Nat} {cells : List Value} (h : Row w v n cells) (k : Ext w w') : Row w' v n cells := by
  obtain ⟨a, cap, h0, h1, h2, h3, h4⟩ := h
  exact ⟨a, cap, h0, h1, h2, h3, fun g off ha j u hj => k.cell (h4 g off ha j u hj)⟩
theorem Row.nil (w : World) : Row w (.slice none 0 0) 0 [] := ⟨none, 0, rfl, Nat.le_refl _, Nat.zero_le _, fun h => absurd h (Nat.lt_irrefl _), fun _ _ h => by cases h⟩
theorem Row.of_owns {w : World} {base : Nat} {e : TypeId} {size : Nat} {v : Value} {n : Nat} {xs : List Value} (h : w.ownsRow base e size v n xs) : Row w v n xs := by
  obtain ⟨hl, h⟩ := h
  rcases h with ⟨hv, hn⟩ | ⟨g, cap, cur, hv, hb, hg, hnc, hcm, hcs, ht⟩
  · subst hn
    obtain rfl : xs = [] := List.eq_nil_of_length_eq_zero (by simpa using hl)
    subst hv
    exact Row.nil w
  · refine ⟨_, cap, hv, hnc, hcm, fun _ => ⟨g, 0, rfl⟩, fun g' off' ha j u hj => ?_⟩
    simp only [Option.some.injEq, Addr.mk.injEq, and_true] at ha
    obtain ⟨rfl, rfl⟩ := ha
    rw [Nat.zero_add, cell_of_row w g j cur e (0, 0) hg]
    rw [← ht, List.getElem?_take] at hj
    split at hj
    · simpa using hj
    · cases hj
theorem Row.at {w : World} {g off n cap : Nat} {cells : List Value} (h : Row w (.slice (some ⟨g, off, none⟩) n cap) n cells) {j : Nat} {u : Value} (hj : cells[j]? = some u) : w.cell? ⟨g, off + j, none⟩ = some u := by
  obtain ⟨a, cap', h0, _, _, _, h4⟩ := h
  simp only [Value.slice.injEq] at h0
  exact h4 g off h0.1.symm j u hj
theorem Row.some {w : World} {v : Value} {n : Nat} {cells : List Value} (h : Row w v n cells) (hn : 0 < n) : ∃ g off cap, v = .slice (some ⟨g, off, none⟩) n cap ∧ n ≤ cap ∧ cap ≤ maxLen := by
  obtain ⟨a, cap, h0, h1, h2, h3, _⟩ := h
  obtain ⟨g, off, ha⟩ := h3 hn
  subst ha
  exact ⟨g, off, cap, h0, h1, h2⟩
theorem Row.form {w : World} {v : Value} {n : Nat} {cells : List Value} (h : Row w v n cells) : ∃ a cap, v = .slice a n cap := by
  obtain ⟨a, cap, h0, _⟩ := h
  exact ⟨a, cap, h0⟩
theorem stepCells_get (p : List (ByteArray × Int)) (i : Nat) (s : ByteArray) (n : Int) (h : p[i]? = some (s, n)) : (stepCells p)[i * 2]? = some (.string s) ∧ (stepCells p)[i * 2 + 1]? = some (.int .i64 n) := by
  induction p generalizing i with
  | nil => simp at h
  | cons x p ih =>
    obtain ⟨s', n'⟩ := x
    cases i with
    | zero => simp at h; obtain ⟨rfl, rfl⟩ := h; exact ⟨rfl, rfl⟩
    | succ i =>
      have := ih i (by simpa using h)
      rw [show (i + 1) * 2 = i * 2 + 2 from by omega]
      exact this

/-- (kinref.Err).OK -/
theorem ok_any (c : Int) (r : Value) (w : World) :
    Calls Tryd.prog 35 #[.agg #[.int .i64 c, r]] w fun e w' => e = .returned (.bool (c == 0)) ∧ Ext w w' := by
  have E1 : Ext w (w.alloc (.cells #[.int .i64 c, r] 38)) := (Ext.refl w).alloc _
  go_enter Tryd.func35, Tryd.ntmps35
  go_wp2
  go_ret
  exact ⟨rfl, E1⟩

theorem path_nil (w : World) (hg : EtIs w) : Calls Tryd.prog 37 #[.nilIface] w fun e w' => e = .returned (.slice none 0 0) ∧ Ext w w' := by
  have E1 : Ext w (w.alloc (.cells #[.pointer none] 85)) := (Ext.refl w).alloc _
  have nil : ∀ (t : Value) (W : World), Calls Tryd.prog 48 #[.nilIface, t] W fun e w' => e = .returned (.bool false) ∧ W = w' := fun t W => by
    go_enter Tryd.func48, Tryd.ntmps48
    go_wp2
    go_ret
    exact ⟨rfl, rfl⟩
  go_enter Tryd.func37, Tryd.ntmps37
  go_wp2
  refine wp_loop_rounds 1 ?_
  rw [rounds_succ]
  go_wp2_with (go_at_call 48; refine (nil _ _).mono ?_; rintro e w' ⟨rfl, rfl⟩)
  go_ret
  exact ⟨rfl, E1⟩

set_option maxHeartbeats 2000000 in
/-- kinsame.Err: no error, as there is none -/
theorem same_nil (w : World) (hg : EtIs w) :
    Calls Tryd.prog 14 #[.nilIface, .agg #[.int .i64 0, .slice none 0 0]] w fun e w' => e = .returned (.bool true) ∧ Ext w w' := by
  have E1 : Ext w (w.alloc (.cells #[.int .i64 0, .slice none 0 0] 38)) := (Ext.refl w).alloc _
  go_enter Tryd.func14, Tryd.ntmps14
  go_wp2_with fail
  go_region_held3 (fun w' => w'.cell? ⟨w.heap.size, 0, none⟩ = some (.int .i64 0) ∧ w'.cell? ⟨w.heap.size, 1, none⟩ = some (.slice none 0 0) ∧ Ext w w')
    (first | assumption | (exact ⟨by simp, by simp, E1⟩) | (exact ⟨by simp, by simp, E1.drew⟩) | (go_split_ands; exact ⟨hx.cell (by assumption), hx.cell (by assumption), Ext.trans (by assumption) hx⟩))
    (first | (go_at_call 35; refine (ok_any _ _ _).mono ?_; rintro e w' ⟨rfl, hx⟩) | (go_at_call 36; refine (of_nil _).mono ?_; rintro e w' ⟨rfl, hx⟩))
  obtain ⟨_, hc1, hE⟩ : _ ∧ _ ∧ Ext w _ := by assumption
  go_wp2_with (go_at_call 37; refine (path_nil _ (hg.ext hE)).mono ?_; rintro e w' ⟨rfl, hx⟩; have hc2 := hx.cell hc1)
  refine wp_loop_rounds 1 ?_
  rw [rounds_succ]
  go_wp2
  go_ret
  exact ⟨rfl, hE.trans hx⟩

set_option maxHeartbeats 4000000 in
set_option maxRecDepth 100000 in
/-- kinsame.Err: the document's error, a code alone -/
theorem same_code (c : Int) (v rv : Value) (w : World) (hg : EtIs w) (he : IsErr w [] c v) (hr : Row w rv 0 []) (hc : c ≠ 0) :
    Calls Tryd.prog 14 #[v, .agg #[.int .i64 c, rv]] w fun e w' => e = .returned (.bool true) ∧ Ext w w' := by
  obtain ⟨ra, rcap, rfl⟩ := hr.form
  have E1 : Ext w (w.alloc (.cells #[.int .i64 c, .slice ra 0 rcap] 38)) := (Ext.refl w).alloc _
  obtain ⟨tx, vx, hne⟩ := he.ne_nil
  subst hne
  have hc0 : (c == 0) = false := by simpa using hc
  go_enter Tryd.func14, Tryd.ntmps14
  go_wp2_with fail
  go_region_held3 (fun w' => w'.cell? ⟨w.heap.size, 0, none⟩ = some (.int .i64 c) ∧ w'.cell? ⟨w.heap.size, 1, none⟩ = some (.slice ra 0 rcap) ∧ Ext w w')
    (first | assumption | (exact ⟨by simp, by simp, E1⟩) | (exact ⟨by simp, by simp, E1.drew⟩) | (go_split_ands; exact ⟨hx.cell (by assumption), hx.cell (by assumption), Ext.trans (by assumption) hx⟩))
    (first | (go_at_call 35; refine (ok_any _ _ _).mono ?_; rintro e w' ⟨rfl, hx⟩) | (go_at_call 36; obtain ⟨_, _, hE1⟩ : _ ∧ _ ∧ Ext w _ := (by assumption); refine (of_err [] c _ _ (hg.ext hE1) (he.ext hE1)).mono ?_; rintro e w' ⟨rfl, hx⟩))
  obtain ⟨_, hc1, hE⟩ : _ ∧ _ ∧ Ext w _ := by assumption
  go_wp2_with (go_at_call 37; refine (path_err [] c _ _ (hg.ext hE) (he.ext hE) (by simp)).mono ?_; rintro e w' ⟨pu, rfl, hx, hown⟩; have hc2 := hx.cell hc1; obtain ⟨pa, pcap, rfl⟩ := (Row.of_owns hown).form)
  refine wp_loop_rounds 1 ?_
  rw [rounds_succ]
  go_wp2
  go_ret
  exact ⟨rfl, hE.trans hx⟩

set_option maxHeartbeats 4000000 in
set_option maxRecDepth 100000 in
/-- kinsame.Err: the document's error, wrapped -/
theorem same_path (p : List (ByteArray × Int)) (c : Int) (v rv : Value) (w : World) (hg : EtIs w) (he : IsErr w p c v) (hr : Row w rv p.length (stepCells p)) (hc : c ≠ 0) (hp0 : 0 < p.length) (hp : p.length ≤ 1000000) :
    Calls Tryd.prog 14 #[v, .agg #[.int .i64 c, rv]] w fun e w' => e = .returned (.bool true) ∧ Ext w w' := by
  obtain ⟨rg, roff, rcap, rfl, hr1, hr2⟩ := hr.some hp0
  have E1 : Ext w (w.alloc (.cells #[.int .i64 c, .slice (some ⟨rg, roff, none⟩) p.length rcap] 38)) := (Ext.refl w).alloc _
  obtain ⟨tx, vx, hne⟩ := he.ne_nil
  subst hne
  have hc0 : (c == 0) = false := by simpa using hc
  obtain ⟨n, hn⟩ : ∃ n, n = p.length := ⟨_, rfl⟩
  rw [← hn] at hr hr1 hp hp0 ⊢ E1
  have HN := Lib.hid hn
  clear hn
  unfold maxLen at hr2
  go_enter Tryd.func14, Tryd.ntmps14
  go_wp2_with fail
  go_region_held3 (fun w' => w'.cell? ⟨w.heap.size, 0, none⟩ = some (.int .i64 c) ∧ w'.cell? ⟨w.heap.size, 1, none⟩ = some (.slice (some ⟨rg, roff, none⟩) n rcap) ∧ Ext w w')
    (first | assumption | (exact ⟨by simp, by simp, E1⟩) | (exact ⟨by simp, by simp, E1.drew⟩) | (go_split_ands; exact ⟨hx.cell (by assumption), hx.cell (by assumption), Ext.trans (by assumption) hx⟩))
    (first | (go_at_call 35; refine (ok_any _ _ _).mono ?_; rintro e w' ⟨rfl, hx⟩) | (go_at_call 36; obtain ⟨_, _, hE1⟩ : _ ∧ _ ∧ Ext w _ := (by assumption); refine (of_err p c _ _ (hg.ext hE1) (he.ext hE1)).mono ?_; rintro e w' ⟨rfl, hx⟩))
  obtain ⟨_, hc1, hE⟩ : _ ∧ _ ∧ Ext w _ := by assumption
  go_wp2_with (go_at_call 37; refine (path_err p c _ _ (hg.ext hE) (he.ext hE) (by rw [← HN.out]; exact hp)).mono ?_; rintro e w' ⟨pu, rfl, hx, hown⟩; have hc2 := hx.cell hc1; rw [← HN.out] at hown; obtain ⟨pg, poff, pcap, rfl, hp1, hp2⟩ := (Row.of_owns hown).some hp0)
  unfold maxLen at hp2
  have R := Row.of_owns hown
  clear hown
  have hrx := (hr.ext hE).ext hx
  have hEx := hE.trans hx
  clear hE hx hc1 hr hg he E1
  go_loopw [6] (fun i wr => ∃ k : Nat, k ≤ n ∧ i = .int .i64 k ∧ Ext w wr ∧ Row wr (.slice (some ⟨pg, poff, none⟩) n pcap) n (stepCells p) ∧ Row wr (.slice (some ⟨rg, roff, none⟩) n rcap) n (stepCells p) ∧ wr.cell? ⟨w.heap.size, 1, none⟩ = some (.slice (some ⟨rg, roff, none⟩) n rcap)) (fun i _ => n - (intOf i).toNat)
  case atStart => exact ⟨0, Nat.zero_le _, rfl, hEx, R, hrx, hc2⟩
  case round =>
    obtain ⟨k, hk, rfl, hE, R1, R2, hb⟩ := hrel
    by_cases hlt : k < n
    · obtain ⟨⟨s, m⟩, hkx⟩ : ∃ x, p[k]? = some x := ⟨_, List.getElem?_eq_getElem (by rw [← HN.out]; exact hlt)⟩
      obtain ⟨g0, g1⟩ := stepCells_get p k s m hkx
      have p0 := R1.at g0
      have p1 := R1.at g1
      have r0 := R2.at g0
      have r1 := R2.at g1
      rw [← Nat.add_assoc] at p1 r1
      clear hkx g0 g1 R
      go_wp2
      go_quiet (fail)
      go_wp2
      go_roundw
      case rel => exact ⟨k + 1, by omega, by go_num, hE.drewN _, R1, R2, by simpa using hb⟩
      case measure => simp [intOf]; omega
    · go_wp2
      go_ret
      exact ⟨rfl, hE⟩

/-- kinsame.Err: the document's error -/
theorem same_err (p : List (ByteArray × Int)) (c : Int) (v rv : Value) (w : World) (hg : EtIs w) (he : IsErr w p c v) (hr : Row w rv p.length (stepCells p)) (hc : c ≠ 0) (hp : p.length ≤ 1000000) :
    Calls Tryd.prog 14 #[v, .agg #[.int .i64 c, rv]] w fun e w' => e = .returned (.bool true) ∧ Ext w w' := by
  cases p with
  | nil => exact same_code c v rv w hg he hr hc
  | cons x p => exact same_path (x :: p) c v rv w hg he hr hc (by simp) hp
end Go.Proofs.YtdpebaheojaihaaDoor
