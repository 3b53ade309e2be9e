/- plane.New: its samples are a row of the call's own. -/
import Derived.Test.YtlaedbglclmheaaGreatDoorZk
import Derived.Test.YtlaedbglclmheaaGreatDoorZi
namespace Go.Proofs.YtlaedbglclmheaaGreatDoor
set_option linter.unusedVariables false
set_option linter.unusedSimpArgs false
open Go.RowKit Go.Extern.Stop Go.Stop Go.Extern
set_option maxRecDepth 20000 in
set_option maxHeartbeats 400000 in
theorem pnew_own (W H v : Int) (w : World) (h : newOk W H v = true) :
    Calls Tryz.prog 108 #[.int .i64 W, .int .i64 H, .int .i64 v] w fun e w' => ∃ g n cap, e = .returned (.tuple #[.agg #[.int .i64 W, .int .i64 H, .slice (some ⟨g, 0, none⟩) n cap], .nilIface]) ∧ Ext w w' ∧ n = (W * H).toNat ∧ w'.ownsRow w.heap.size 3 1 (.slice (some ⟨g, 0, none⟩) n cap) n ((rowL (W * H).toNat fun _ => v).map (Value.int .i64)) := by
  unfold newOk at h
  simp only [Bool.and_eq_true] at h
  obtain ⟨⟨s1, s2⟩, s3⟩ := h
  obtain ⟨N, hN, hNs⟩ := new_size s1 s2
  have R := Lib.hid (fun u W' k => rep_sz N hNs v u W' k)
  have HT : Hid ((W * H).toNat = N) := by show _ = _; omega
  have hb := side_area s1 s2
  have e1 : IntKind.i64.wrap (W * H) = (N : Int) := by rw [IntKind.wrap_i64]; omega
  have HNl : Hid (N ≤ 1024) := by show _ ≤ _; omega
  have F0 := Lib.hid (FrAt.new w)
  have A0 : Ext w (w.alloc (.cells #[.int .i64 0, .int .i64 0, .slice none 0 0] 99)) := (Ext.refl w).alloc _
  have L1 : Ints ((w.alloc (.cells #[.int .i64 0, .int .i64 0, .slice none 0 0] 99)).alloc (.cells #[.int .i64 v] 3)) (.slice (some ⟨w.heap.size + 1, 0, none⟩) 1 1) [v] := by
    have := Ints.liti (w.alloc (.cells #[.int .i64 0, .int .i64 0, .slice none 0 0] 99)) [v] (by simp)
    simpa using this
  clear hN hNs hb
  go_enter Tryz.func108, Tryz.ntmps108
  go_wp2_with (first | (go_at_call 135; refine (side_any _ _).mono ?_; rintro e w' ⟨rfl, rfl⟩) | (go_at_call 136; refine (smp_any _ _).mono ?_; rintro e w' ⟨rfl, rfl⟩))
  refine (R.out _ _ L1).mono ?_; rintro e w2 ⟨g, rfl, hx2, ho2, hb2, hs2⟩
  have A2 := (((Ext.refl (w.alloc (.cells #[.int .i64 0, .int .i64 0, .slice none 0 0] 99))).alloc (.cells #[.int .i64 v] 3))).trans hx2
  obtain ⟨⟨r0, r1, r2⟩, f0, f1, f2⟩ := F0.out.ext A2
  have E2 : Ext w w2 := A0.trans A2
  have ho3 := own_mono (b := w.heap.size + 1) ho2 (by simp)
  have ho := ownsRow_setCell_below (ownsRow_setCell_below (ownsRow_setCell_below ho3 (a := ⟨w.heap.size, 0, none⟩) (Nat.lt_succ_self _) (.int .i64 W)) (a := ⟨w.heap.size, 1, none⟩) (Nat.lt_succ_self _) (.int .i64 H)) (a := ⟨w.heap.size, 2, none⟩) (Nat.lt_succ_self _) (.slice (some ⟨g, 0, none⟩) N N)
  have HO := Lib.hid ho
  clear ho ho2 ho3 hx2 A0 A2
  go_wp2
  obtain ⟨g0, g1, g2⟩ := fr_cells W H (.slice (some ⟨g, 0, none⟩) N N) r0 r1 r2
  exact bodyPost_ret (v := .tuple #[.agg #[.int .i64 W, .int .i64 H, .slice (some ⟨g, 0, none⟩) N N], .nilIface]) (by simp [results, Tryz.results108, go_sem, g0, g1, g2]) rfl ⟨_, _, _, rfl, ((E2.setCell (p := ⟨w.heap.size, 0, none⟩) (Nat.le_refl _) _).setCell (p := ⟨w.heap.size, 1, none⟩) (Nat.le_refl _) _).setCell (p := ⟨w.heap.size, 2, none⟩) (Nat.le_refl _) _, HT.out.symm, by rw [HT.out]; exact own_mono HO.out (Nat.le_succ _)⟩
end Go.Proofs.YtlaedbglclmheaaGreatDoor
