/- block.Quarter: its contract over this seat's translation. -/
import Derived.Test.YtkealkjijfbdoaaDoorMat
import Derived.Test.YtkealkjijfbdoaaDoorBlk2
namespace Go.Proofs.YtkealkjijfbdoaaDoor
set_option linter.unusedVariables false
set_option linter.unusedSimpArgs false
open Go.RowKit Go.Extern.Stop Go.Stop Go.Extern

def quarL (zs : List Int) (k : Nat) (q : Nat) : List Int := (qIdx q k).map fun i => zs.getD i 0
def quarV (zs : List Int) : List (List Int) := if zs.length = 64 then (List.range 4).map (quarL zs 64) else []
def quarF (zs : List Int) : Fall := if zs.length = 64 then none else fit
def MPost (w : World) (L : List (List Int)) (f : Fall) (e : Ending) (w' : World) : Prop := ∃ u x, e = .returned (.tuple #[u, x]) ∧ Ext w w' ∧ Mat w' u L ∧ ErrIs w' f x
theorem quarterOf_any (i : Nat) (w : World) (h : i < 64) : Calls Tryd.prog 79 #[.int .i64 (i : Int)] w fun e w' => e = .returned (.int .i64 (qOf i : Nat)) ∧ w = w' := by
  have HQ : Hid (((qOf i : Nat) : Int) = (i : Int) / 8 / 4 * 2 + (i : Int) % 8 / 4) := by show _ = _; unfold qOf; omega
  go_enter Tryd.func79, Tryd.ntmps79
  go_wp2
  go_ret
  exact ⟨by rw [HQ.out]; rfl, rfl⟩
theorem infoSl : (Tryd.prog.info? 22).map (fun i => (i.zero, i.size, i.bytes)) = some (some (.slice none 0 0), 1, 24) := by kernel_rfl
theorem quarL_succ {zs : List Int} {k q : Nat} : quarL zs (k + 1) q = if qOf k = q then quarL zs k q ++ [zs.getD k 0] else quarL zs k q := by
  unfold quarL
  rw [qIdx_succ]
  by_cases h : qOf k = q
  · rw [if_pos h, if_pos h, List.map_append]; rfl
  · rw [if_neg h, if_neg h, List.append_nil]
theorem quarL_len (zs : List Int) (k q : Nat) : (quarL zs k q).length ≤ k := by
  unfold quarL qIdx
  rw [List.length_map]
  have := List.length_filter_le (fun i => qOf i == q) (List.range k)
  rw [List.length_range] at this
  exact this
theorem RowsAt.congr {w : World} {g m base : Nat} {R : Nat → Value} {Z Z' : Nat → List Int} (h : RowsAt w g m base R Z) (e : ∀ q, q < m → Z q = Z' q) : RowsAt w g m base R Z' := by
  obtain ⟨r1, r2, r3, r4, r5⟩ := h
  exact ⟨r1, r2, r3, fun q hq => by rw [← e q hq]; exact r4 q hq, r5⟩

set_option maxHeartbeats 2000000 in
set_option maxRecDepth 20000 in
theorem quarter_ok (zs : List Int) (v : Value) (w : World) (ha : Ints w v zs) (hN : zs.length = 64) :
    Calls Tryd.prog 46 #[v] w (MPost w (quarV zs) none) := by
  have HV : Hid (quarV zs = (List.range 4).map (quarL zs 64)) := by show _ = _; unfold quarV; rw [if_pos hN]
  obtain ⟨g, off, cap, rfl, -, -⟩ := ha.addr (by omega)
  rw [hN] at ha ⊢
  have HN := Lib.hid hN
  clear hN
  obtain ⟨i0, hi, hz0, hz1, hz2⟩ := info_parts infoSl
  go_enter Tryd.func46, Tryd.ntmps46
  go_wp2_with (at_make; refine wpList_make_row _ rfl _ _ 61 rfl 22 i0 (.slice none 0 0) Tryd.underlying61 hi hz0 hz1 rfl .i64 .i64 4 rfl rfl (by rw [hz2]; omega) (by omega) ?_)
  have R0 : RowsAt (w.alloc (.cells (madeCells #[.slice none 0 0] 4) 22)) w.heap.size 4 (w.heap.size + 1) (fun _ => .slice none 0 0) (quarL zs 0) :=
    ⟨World.rowIs_made w _ 4 _, Nat.lt_succ_self _, by simp, fun q _ => World.ownsRow_nil _ _ _ _, fun _ _ _ _ _ => Or.inl rfl⟩
  have hE : Ext w (w.alloc (.cells (madeCells #[.slice none 0 0] 4) 22)) := (Ext.refl w).alloc _
  clear hi hz0 hz1 hz2
  revert R0 hE
  generalize w.alloc (.cells (madeCells #[.slice none 0 0] 4) 22) = w2
  intro R0 hE
  go_wp2
  go_loopw [15] (fun iv wr => ∃ k : Nat, k ≤ 64 ∧ iv = .int .i64 k ∧ Hid (∃ R, RowsAt wr w.heap.size 4 (w.heap.size + 1) R (quarL zs k)) ∧ Ext w wr) (fun iv _ => 64 - (intOf iv).toNat)
  case atStart => exact ⟨0, by decide, rfl, ⟨_, R0⟩, hE⟩
  case round =>
    clear R0 hE
    obtain ⟨k, hk, rfl, HO, hE⟩ := hrel
    by_cases hlt : k < 64
    · obtain ⟨R, hR⟩ := HO.out
      obtain ⟨q, hq⟩ : ∃ q, q = qOf k := ⟨_, rfl⟩
      have hq4 : q < 4 := by have := (qOf_landed k hlt).2.1; omega
      have HF := Lib.hid (fun W => quarterOf_any k W hlt)
      rw [← hq] at HF
      obtain ⟨x, hx⟩ : ∃ x, zs.getD k 0 = x := ⟨_, rfl⟩
      have cx := hE.cell (ha.at (get_of_lt (by rw [HN.out]; exact hlt)))
      rw [hx] at cx
      have cq := hR.1.cell hq4
      have fq := hR.1.frozen q
      have own := hR.2.2.2.1 q hq4
      have hB : w.heap.size + 1 ≤ wr.heap.size := hR.2.2.1
      obtain ⟨r, hr⟩ : ∃ r, R q = r := ⟨_, rfl⟩
      rw [hr] at cq own
      obtain ⟨ra, rcap, rfl⟩ := (Row.of_owns own).form
      have HR := Lib.hid hR
      have HRQ := Lib.hid hr
      have HX := Lib.hid hx
      have HQ := Lib.hid hq
      have hlen := quarL_len zs k q
      obtain ⟨n, hn⟩ : ∃ n, n = (quarL zs k q).length := ⟨_, rfl⟩
      rw [← hn] at cq own hlen HRQ
      have HNN := Lib.hid hn
      clear hR hr hx hq HO hn
      have gne : some w.heap.size ≠ Value.ownBlock (.slice ra n rcap) := fun e => by have := (own.lt _ e.symm).1; omega
      go_wp2_with fail
      refine (HF.out _).mono ?_; rintro e w3 ⟨rfl, rfl⟩
      go_wp2_with (at_builtin; refine push_at rfl _ _ 22 rfl Tryd.underlying22 _ _ _ _ rfl own (by show Value.slice (some ⟨wr.heap.size, 0, none⟩) 1 1 = _; simp) hB (by omega) ?_; intro v' w7 h1 h2 h3; obtain ⟨na, ncap, rfl⟩ := (Row.of_owns h1).form; have c7 := h2.cell cq gne; have f7 := (h2.frozen_far ⟨w.heap.size, q, none⟩ (by simp; omega) gne).trans fq)
      have HR7 : Hid (RowsAt (w7.setCell ⟨w.heap.size, q, none⟩ (.slice na (n + 1) ncap)) w.heap.size 4 (w.heap.size + 1) (fun j => if j = q then .slice na (n + 1) ncap else R j) (quarL zs (k + 1))) := by
        have h := RowsAt.push (x := x) HR.out hq4 (by rw [← HNN.out]; exact h1) (by rw [HRQ.out]; exact h2) (by rw [HRQ.out]; exact h3)
        refine h.congr (fun j hj => ?_)
        rw [quarL_succ, ← HQ.out, HX.out]
        by_cases e : j = q
        · subst e; simp
        · rw [if_neg e, if_neg (fun h => e h.symm)]
      have hE7 : Ext w (w7.setCell ⟨w.heap.size, q, none⟩ (.slice na (n + 1) ncap)) := Below.setCell (Below.grown hE h2 hE.size (fun j hj => by have := (own.lt _ hj).1; omega)) (Nat.le_refl _) _
      clear h1 h2 h3 own HR HRQ
      go_wp2
      go_roundw
      case rel => exact ⟨k + 1, by omega, by go_num, ⟨_, HR7.out⟩, hE7⟩
      case measure => simp [intOf]; omega
    · obtain rfl : k = 64 := by omega
      go_wp2
      go_ret2
      obtain ⟨R, hR⟩ := HO.out
      refine ⟨_, _, rfl, hE, ?_, rfl⟩
      rw [HV.out]
      exact hR.mat (by decide) (fun q _ => by have := quarL_len zs 64 q; omega)
theorem quarter_no (zs : List Int) (v : Value) (w : World) (ha : Ints w v zs) (hN : zs.length ≠ 64) :
    Calls Tryd.prog 46 #[v] w (MPost w (quarV zs) fit) := by
  have HV : Hid (quarV zs = []) := by show _ = _; unfold quarV; rw [if_neg hN]
  obtain ⟨a, cap, rfl⟩ := ha.form
  have b1 : ((zs.length : Int) != 64) = true := by simp; omega
  clear hN ha
  go_enter Tryd.func46, Tryd.ntmps46
  go_wp2
  go_ret2
  exact ⟨_, _, rfl, Ext.refl w, by rw [HV.out]; exact Mat.nil _, ErrIs.code (by decide)⟩
theorem quarter_any (zs : List Int) (v : Value) (w : World) (ha : Ints w v zs) :
    Calls Tryd.prog 46 #[v] w (MPost w (quarV zs) (quarF zs)) := by
  unfold quarF
  by_cases h : zs.length = 64
  · rw [if_pos h]; exact quarter_ok zs v w ha h
  · rw [if_neg h]; exact quarter_no zs v w ha h
end Go.Proofs.YtkealkjijfbdoaaDoor
