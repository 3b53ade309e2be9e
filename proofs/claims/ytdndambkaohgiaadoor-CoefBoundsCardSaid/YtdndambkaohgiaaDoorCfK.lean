/- kinsame.Err of an error and the document's, each of one step, the same package: do their places agree? -/
import Derived.Test.YtdndambkaohgiaaDoorZa
namespace Go.Proofs.YtdndambkaohgiaaDoor
set_option linter.unusedVariables false
set_option linter.unusedSimpArgs false
open Go.RowKit Go.Extern.Stop Go.Stop Go.Extern

set_option maxHeartbeats 4000000 in
set_option maxRecDepth 100000 in
theorem same_not (s : ByteArray) (m1 m2 : Int) (hm : m1 ≠ m2) (c : Int) (v rv : Value) (w : World) (hg : EtIs w) (he : IsErr w [(s, m1)] c v) (hr : Row w rv 1 (stepCells [(s, m2)])) (hc : c ≠ 0) :
    Calls Tryd.prog 18 #[v, .agg #[.int .i64 c, rv]] w fun e w' => e = .returned (.bool false) ∧ Ext w w' := by
  obtain ⟨rg, roff, rcap, rfl, hr1, hr2⟩ := hr.some (by decide)
  have E1 : Ext w (w.alloc (.cells #[.int .i64 c, .slice (some ⟨rg, roff, none⟩) 1 rcap] 45)) := (Ext.refl w).alloc _
  obtain ⟨tx, vx, hne⟩ := he.ne_nil
  subst hne
  have hc0 : (c == 0) = false := by simpa using hc
  have hmm : (m1 == m2) = false := by simpa using hm
  obtain ⟨n, hn⟩ : ∃ n, n = 1 := ⟨_, rfl⟩
  rw [← hn] at hr hr1 E1 ⊢
  have HN := Lib.hid hn
  have hp0 : 0 < n := by omega
  have hp : n ≤ 1000000 := by omega
  clear hn
  unfold maxLen at hr2
  go_enter Tryd.func18, Tryd.ntmps18
  go_wp2_with fail
  go_region_held3 (fun w' => w'.cell? ⟨w.heap.size, 0, none⟩ = some (.int .i64 c) ∧ w'.cell? ⟨w.heap.size, 1, none⟩ = some (.slice (some ⟨rg, roff, none⟩) n rcap) ∧ Ext w w')
    (first | assumption | (exact ⟨by simp, by simp, E1⟩) | (exact ⟨by simp, by simp, E1.drew⟩) | (go_split_ands; exact ⟨hx.cell (by assumption), hx.cell (by assumption), Ext.trans (by assumption) hx⟩))
    (first | (go_at_call 48; refine (ok_any _ _ _).mono ?_; rintro e w' ⟨rfl, hx⟩) | (go_at_call 49; obtain ⟨_, _, hE1⟩ : _ ∧ _ ∧ Ext w _ := (by assumption); refine (of_err [(s, m1)] c _ _ (hg.ext hE1) (he.ext hE1)).mono ?_; rintro e w' ⟨rfl, hx⟩))
  obtain ⟨_, hc1, hE⟩ : _ ∧ _ ∧ Ext w _ := by assumption
  go_wp2_with (go_at_call 50; refine (path_err [(s, m1)] c _ _ (hg.ext hE) (he.ext hE) (by simp)).mono ?_; rintro e w' ⟨pu, rfl, hx, hown⟩; have hc2 := hx.cell hc1; rw [show [(s, m1)].length = n from HN.out.symm] at hown; obtain ⟨pg, poff, pcap, rfl, hp1, hp2⟩ := (Row.of_owns hown).some hp0)
  unfold maxLen at hp2
  have R := Row.of_owns hown
  clear hown
  have hrx := (hr.ext hE).ext hx
  have hEx := hE.trans hx
  clear hE hx hc1 hr hg he E1
  go_loopw [6] (fun i wr => i = .int .i64 0 ∧ Ext w wr ∧ Row wr (.slice (some ⟨pg, poff, none⟩) n pcap) n (stepCells [(s, m1)]) ∧ Row wr (.slice (some ⟨rg, roff, none⟩) n rcap) n (stepCells [(s, m2)]) ∧ wr.cell? ⟨w.heap.size, 1, none⟩ = some (.slice (some ⟨rg, roff, none⟩) n rcap)) (fun i _ => n - (intOf i).toNat)
  case atStart => exact ⟨rfl, hEx, R, hrx, hc2⟩
  case round =>
    obtain ⟨rfl, hE, R1, R2, hb⟩ := hrel
    have p0 := R1.at (j := 0) (u := .string s) rfl
    have p1 := R1.at (j := 1) (u := .int .i64 m1) rfl
    have r0 := R2.at (j := 0) (u := .string s) rfl
    have r1 := R2.at (j := 1) (u := .int .i64 m2) rfl
    rw [Nat.add_zero] at p0 r0
    have x2 : (0 : Int) < (n : Int) := by omega
    clear R hp0
    go_wp2
    go_quiet (fail)
    go_wp2
    go_ret
    exact ⟨rfl, hE.drewN _⟩
end Go.Proofs.YtdndambkaohgiaaDoor
