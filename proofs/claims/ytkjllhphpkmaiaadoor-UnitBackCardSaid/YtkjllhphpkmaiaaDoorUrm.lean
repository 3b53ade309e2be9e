/- kinref4.Make: its contract over this seat's translation. -/
import Derived.Test.YtkjllhphpkmaiaaDoorUnm
namespace Go.Proofs.YtkjllhphpkmaiaaDoor
set_option linter.unusedVariables false
set_option linter.unusedSimpArgs false
open Go.RowKit Go.Extern.Stop Go.Stop Go.Extern

theorem own_one (W : World) (m : Nat) (hm : W.heap.size = m) (k : Int) : (W.alloc (.cells #[.int .u8 k] 5)).ownsRow m 5 1 (.slice (some ⟨m, 0, none⟩) 1 1) 1 [.int .u8 k] := by
  subst hm
  exact ⟨rfl, .inr ⟨W.heap.size, 1, #[.int .u8 k], rfl, Nat.le_refl _, heap_alloc_new W _, Nat.le_refl _, by decide, rfl, rfl⟩⟩
def RMPost (w : World) (bs : List Nat) (f : Fall) (e : Ending) (w' : World) : Prop := ∃ u c x, e = .returned (.tuple #[u, .agg #[.int .i64 c, x]]) ∧ Bys w' u bs ∧ RErrIs w' f c x ∧ Ext w w'
set_option maxHeartbeats 8000000 in
set_option maxRecDepth 20000 in
theorem rmake_any (kind : Int) (data : List Nat) (v : Value) (w : World) (h : Bys w v data) (hp : Plain v) (hlen : data.length ≤ 1000000) : Calls Tryd.prog 13 #[.int .i64 kind, v] w (RMPost w (ukV kind data) (ukF kind data.length)) := by
  obtain ⟨a, cap, rfl⟩ := h.form
  have HB := Lib.hid h
  have HD := Lib.hid h.2.1
  obtain ⟨n, hn'⟩ : ∃ n, data.length = n := ⟨_, rfl⟩
  have HN := Lib.hid hn'
  have HB2 : Hid (Bys w (.slice a n cap) data) := by show Bys _ _ _; rw [← hn']; exact h
  have HP : Hid (Plain (.slice a n cap)) := by show Plain _; rw [← hn']; exact hp
  rw [hn'] at hlen ⊢
  clear h hn' hp
  by_cases h1 : kind < 0
  · have HF : Hid (ukF kind n = some ([], 13)) := by show _ = _; unfold ukF; rw [if_pos (.inl h1)]
    have HV : Hid (ukV kind data = []) := by show _ = _; unfold ukV; rw [HN.out, HF.out]
    go_enter Tryd.func13, Tryd.ntmps13
    go_wp2_with fail
    refine (fail_any 13 _).mono ?_; rintro e w1 ⟨rfl, hx1⟩
    have R1 := (ResAt.new w).ext hx1
    obtain ⟨g0, g1, g2, g3⟩ := R1
    have E1 := ((Ext.refl w).alloc (.cells #[.int .i64 0, .slice none 0 0] 32)).trans hx1
    have HE2 := Lib.hid ((E1.setCell (p := ⟨w.heap.size, 0, none⟩) (Nat.le_refl _) (.int .i64 13)).setCell (p := ⟨w.heap.size, 1, none⟩) (Nat.le_refl _) (.slice none 0 0))
    clear E1
    go_wp2
    obtain ⟨e0, e1⟩ := res_cells g0 g1 (c := 13) (.slice none 0 0)
    exact bodyPost_ret (v := .tuple #[.slice none 0 0, .agg #[.int .i64 13, .slice none 0 0]]) (by simp [results, Tryd.results13, go_sem, e0, e1]) rfl ⟨.slice none 0 0, 13, .slice none 0 0, rfl, by rw [HV.out]; exact Bys.nil _, by rw [HF.out]; exact RErrIs.code (by decide), HE2.out⟩
  · by_cases h2 : 255 < kind
    · have HF : Hid (ukF kind n = some ([], 13)) := by show _ = _; unfold ukF; rw [if_pos (.inr (.inl h2))]
      have HV : Hid (ukV kind data = []) := by show _ = _; unfold ukV; rw [HN.out, HF.out]
      go_enter Tryd.func13, Tryd.ntmps13
      go_wp2_with fail
      refine (fail_any 13 _).mono ?_; rintro e w1 ⟨rfl, hx1⟩
      have R1 := (ResAt.new w).ext hx1
      obtain ⟨g0, g1, g2, g3⟩ := R1
      have E1 := ((Ext.refl w).alloc (.cells #[.int .i64 0, .slice none 0 0] 32)).trans hx1
      have HE2 := Lib.hid ((E1.setCell (p := ⟨w.heap.size, 0, none⟩) (Nat.le_refl _) (.int .i64 13)).setCell (p := ⟨w.heap.size, 1, none⟩) (Nat.le_refl _) (.slice none 0 0))
      clear E1
      go_wp2
      obtain ⟨e0, e1⟩ := res_cells g0 g1 (c := 13) (.slice none 0 0)
      exact bodyPost_ret (v := .tuple #[.slice none 0 0, .agg #[.int .i64 13, .slice none 0 0]]) (by simp [results, Tryd.results13, go_sem, e0, e1]) rfl ⟨.slice none 0 0, 13, .slice none 0 0, rfl, by rw [HV.out]; exact Bys.nil _, by rw [HF.out]; exact RErrIs.code (by decide), HE2.out⟩
    · by_cases h0 : kind = 0
      · subst h0
        by_cases h3 : 0 < n
        · have HF : Hid (ukF 0 n = some ([], 13)) := by show _ = _; unfold ukF; rw [if_pos (.inr (.inr ⟨rfl, h3⟩))]
          have h3' : (0 : Int) < (n : Int) := by omega
          obtain ⟨kind, hkk⟩ : ∃ kind : Int, kind = 0 := ⟨0, rfl⟩
          rw [← hkk] at HF ⊢
          have k00 : (kind == 0) = true := by rw [hkk]; rfl
          clear hkk
          have h1 : ¬ kind < 0 := by rw [beq_iff_eq] at k00; omega
          have h2 : ¬ 255 < kind := by rw [beq_iff_eq] at k00; omega
          have HV : Hid (ukV kind data = []) := by show _ = _; unfold ukV; rw [HN.out, HF.out]
          go_enter Tryd.func13, Tryd.ntmps13
          go_wp2_with fail
          refine (fail_any 13 _).mono ?_; rintro e w1 ⟨rfl, hx1⟩
          have R1 := (ResAt.new w).ext hx1
          obtain ⟨g0, g1, g2, g3⟩ := R1
          have E1 := ((Ext.refl w).alloc (.cells #[.int .i64 0, .slice none 0 0] 32)).trans hx1
          have HE2 := Lib.hid ((E1.setCell (p := ⟨w.heap.size, 0, none⟩) (Nat.le_refl _) (.int .i64 13)).setCell (p := ⟨w.heap.size, 1, none⟩) (Nat.le_refl _) (.slice none 0 0))
          clear E1
          go_wp2
          obtain ⟨e0, e1⟩ := res_cells g0 g1 (c := 13) (.slice none 0 0)
          exact bodyPost_ret (v := .tuple #[.slice none 0 0, .agg #[.int .i64 13, .slice none 0 0]]) (by simp [results, Tryd.results13, go_sem, e0, e1]) rfl ⟨.slice none 0 0, 13, .slice none 0 0, rfl, by rw [HV.out]; exact Bys.nil _, by rw [HF.out]; exact RErrIs.code (by decide), HE2.out⟩
        · obtain rfl : n = 0 := by omega
          have HF : Hid (ukF 0 0 = none) := by show _ = _; decide
          have HV : Hid (ukV 0 data = [0]) := by show _ = _; unfold ukV; rw [HN.out, HF.out]; rfl
          have A1 : Ext w (w.alloc (.cells #[.int .i64 0, .slice none 0 0] 32)) := (Ext.refl w).alloc _
          have HE2 := Lib.hid (A1.alloc (.cells #[.int .u8 0] 5))
          have HR := Lib.hid (((ResAt.new w).ext ((Ext.refl _).alloc (.cells #[.int .u8 0] 5))))
          have HY := Lib.hid (Bys.of_owns (bs := [0]) (own_one (w.alloc (.cells #[.int .i64 0, .slice none 0 0] 32)) (w.heap.size + 1) (by simp) 0) (by decide) (by decide))
          clear A1
          go_enter Tryd.func13, Tryd.ntmps13
          go_wp2
          obtain ⟨q0, q1, q2, q3⟩ := HR.out
          exact bodyPost_ret (v := .tuple #[.slice (some ⟨w.heap.size + 1, 0, none⟩) 1 1, .agg #[.int .i64 0, .slice none 0 0]]) (by simp [results, Tryd.results13, go_sem, q0, q1]) rfl ⟨_, 0, .slice none 0 0, rfl, by rw [HV.out]; exact HY.out, by rw [HF.out]; exact RErrIs.zero, HE2.out⟩
      · obtain ⟨k, rfl⟩ : ∃ k : Nat, kind = (k : Int) := ⟨kind.toNat, by omega⟩
        have k0 : ((k : Int) == 0) = false := by rw [beq_eq_false_iff_ne]; omega
        by_cases h4 : 65536 < n
        · have HF : Hid (ukF (k : Int) n = some ([], 5)) := by show _ = _; unfold ukF; rw [if_neg (by omega), if_pos h4]
          have h4' : (65536 : Int) < (n : Int) := by omega
          obtain ⟨kind, hkk⟩ : ∃ kind : Int, kind = (k : Int) := ⟨_, rfl⟩
          rw [← hkk] at HF k0 h1 h2 ⊢
          clear hkk h0
          have HV : Hid (ukV kind data = []) := by show _ = _; unfold ukV; rw [HN.out, HF.out]
          go_enter Tryd.func13, Tryd.ntmps13
          go_wp2_with fail
          refine (fail_any 5 _).mono ?_; rintro e w1 ⟨rfl, hx1⟩
          have R1 := (ResAt.new w).ext hx1
          obtain ⟨g0, g1, g2, g3⟩ := R1
          have E1 := ((Ext.refl w).alloc (.cells #[.int .i64 0, .slice none 0 0] 32)).trans hx1
          have HE2 := Lib.hid ((E1.setCell (p := ⟨w.heap.size, 0, none⟩) (Nat.le_refl _) (.int .i64 5)).setCell (p := ⟨w.heap.size, 1, none⟩) (Nat.le_refl _) (.slice none 0 0))
          clear E1
          go_wp2
          obtain ⟨e0, e1⟩ := res_cells g0 g1 (c := 5) (.slice none 0 0)
          exact bodyPost_ret (v := .tuple #[.slice none 0 0, .agg #[.int .i64 5, .slice none 0 0]]) (by simp [results, Tryd.results13, go_sem, e0, e1]) rfl ⟨.slice none 0 0, 5, .slice none 0 0, rfl, by rw [HV.out]; exact Bys.nil _, by rw [HF.out]; exact RErrIs.code (by decide), HE2.out⟩
        · have HF : Hid (ukF (k : Int) n = none) := by show _ = _; unfold ukF; rw [if_neg (by omega), if_neg h4]
          have HV : Hid (ukV (k : Int) data = hdB k data ++ be4 (crc (hdB k data))) := by show _ = _; unfold ukV; rw [HN.out, HF.out]; show encB _ _ = _; unfold encB; rw [if_neg (by omega)]; rfl
          have hhl := hdB_lt (kind := k) (data := data) (by omega) HD.out (by rw [HN.out]; omega)
          have hs := crc_lt hhl
          have HHL := Lib.hid hhl
          have HH : Hid (hdB k data = ([k] ++ dg n 3) ++ data) := by show _ = _; rw [dg3 (by omega)]; unfold hdB; rw [HN.out]; rfl
          have HLN : Hid ((hdB k data).length = n + 4) := by show _ = _; rw [hdB_len, HN.out]
          rw [← dg4 hs] at HV
          obtain ⟨hd, hhd⟩ : ∃ hd, hdB k data = hd := ⟨_, rfl⟩
          rw [hhd] at HV HH HHL HLN hs
          obtain ⟨s, hss⟩ : ∃ s, crc hd = s := ⟨_, rfl⟩
          have HSS := Lib.hid hss
          rw [hss] at hs HV
          have m6 : IntKind.u8.wrap (k : Int) = (k : Int) := by rw [IntKind.wrap_u8]; omega
          have o7 : IntKind.i64.wrap (s : Int) = (s : Int) := by rw [IntKind.wrap_i64]; omega
          have n4 : ¬ (65536 : Int) < (n : Int) := by omega
          have UN3 := Lib.hid (fun w => number_any n 3 w (by omega) (by decide))
          have UN4 := Lib.hid (fun w => number_any s 4 w (by omega) (by decide))
          have HE0 := Lib.hid ((Ext.refl w).alloc (.cells #[.int .i64 0, .slice none 0 0] 32))
          have HR0 := Lib.hid (ResAt.new w)
          have HO1 := Lib.hid (own_one (w.alloc (.cells #[.int .i64 0, .slice none 0 0] 32)) (w.heap.size + 1) (by simp) (k : Int))
          have HW1 := Lib.hid ((Ext.refl (w.alloc (.cells #[.int .i64 0, .slice none 0 0] 32))).alloc (.cells #[.int .u8 (k : Int)] 5))
          have hsz : (w.alloc (.cells #[.int .i64 0, .slice none 0 0] 32)).heap.size = w.heap.size + 1 := by simp
          have HSZ := Lib.hid (Nat.le_of_eq hsz)
          clear hhl hhd hss hsz
          go_enter Tryd.func13, Tryd.ntmps13
          go_wp2_with fail
          refine (UN3.out _).mono ?_; rintro e w2 ⟨u2, rfl, hy2, hp2, hx2⟩
          have HY2 := Lib.hid hy2
          have HP2 := Lib.hid hp2
          have HO2 := Lib.hid (ownsRow_ext HO1.out hx2)
          have HW2 := Lib.hid (HW1.out.trans hx2)
          have hs2 := Nat.le_trans (Nat.le_succ (w.heap.size + 1)) (by have := hx2.size; simpa using this)
          clear hy2 hp2 hx2
          go_wp2_with (first
            | (go_at_call 18; refine (rsum_any hd _ _ HY4.out).mono ?_; rintro e w9 ⟨rfl, rfl⟩; rw [HSS.out])
            | (go_at_call 31; refine (UN4.out _).mono ?_; rintro e w5 ⟨u5, rfl, hy5, hp5, hx5⟩; have HY5 := Lib.hid hy5; have HP5 := Lib.hid hp5; have HO5 := Lib.hid (ownsRow_ext HO4.out hx5); have HW5 := Lib.hid (HW4.out.trans hx5); have hs5 := Nat.le_trans hs4 hx5.size; clear hy5 hp5 hx5)
            | (at_builtin; refine app_bys rfl _ _ 22 rfl Tryd.underlying22 _ 1 [k] (dg n 3) _ rfl HO2.out rfl HY2.out HP2.out hs2 (by decide) (by rw [dg_len]; decide) ?_; rw [dg_len]; intro g3 cap3 w3 h1 h2; have HO3 := Lib.hid h1; have HW3 := Lib.hid (own_grow HO2.out h2 HW2.out HSZ.out); have hs3 := Nat.le_trans hs2 h2.size; clear h1 h2)
            | (at_builtin; refine app_bys rfl _ _ 22 rfl Tryd.underlying22 _ 4 ([k] ++ dg n 3) data _ rfl HO3.out rfl (HB2.out.ext (HE0.out.trans HW3.out)) HP.out hs3 (by decide) (by rw [HN.out]; omega) ?_; rw [HN.out]; intro g4 cap4 w4 h1 h2; have HO4 : Hid (w4.ownsRow (w.heap.size + 1) 5 1 (.slice (some ⟨g4, 0, none⟩) (4 + n) cap4) (4 + n) (byC hd)) := (by show World.ownsRow _ _ _ _ _ _ _; rw [HH.out]; exact h1); have HW4 := Lib.hid (own_grow HO3.out h2 HW3.out HSZ.out); have hs4 := Nat.le_trans hs3 h2.size; have HY4 : Hid (Bys w4 (.slice (some ⟨g4, 0, none⟩) (4 + n) cap4) hd) := Bys.of_owns HO4.out HHL.out (by rw [HLN.out]; omega); clear h1 h2)
            | (at_builtin; refine app_bys rfl _ _ 22 rfl Tryd.underlying22 _ (4 + n) hd (dg s 4) _ rfl HO5.out rfl HY5.out HP5.out hs5 (by omega) (by rw [dg_len]; omega) ?_; rw [dg_len]; intro g6 cap6 w6 h1 h2; have HO6 := Lib.hid h1; have HW6 := Lib.hid (own_grow HO5.out h2 HW5.out HSZ.out); have HR6 := Lib.hid (HR0.out.ext HW6.out); obtain ⟨q0, q1, q2, q3⟩ := HR6.out; clear h1 h2))
          have HE9 := Lib.hid (((HE0.out.trans HW6.out).setCell (p := ⟨w.heap.size, 0, none⟩) (Nat.le_refl _) (.int .i64 0)).setCell (p := ⟨w.heap.size, 1, none⟩) (Nat.le_refl _) (.slice none 0 0))
          obtain ⟨e0, e1⟩ := res_cells q0 q1 (c := 0) (.slice none 0 0)
          refine bodyPost_ret (v := .tuple #[.slice (some ⟨g6, 0, none⟩) (4 + n + 4) cap6, .agg #[.int .i64 0, .slice none 0 0]]) (by simp [results, Tryd.results13, go_sem, e0, e1]) rfl ⟨_, 0, .slice none 0 0, rfl, ?_, by rw [HF.out]; exact RErrIs.zero, HE9.out⟩
          have h6 := own_cell_lt (own_cell_lt HO6.out (p := ⟨w.heap.size, 0, none⟩) (.int .i64 0) (Nat.lt_succ_self _)) (p := ⟨w.heap.size, 1, none⟩) (.slice none 0 0) (Nat.lt_succ_self _)
          rw [HV.out]
          refine Bys.of_owns h6 (fun z hz => ?_) (by rw [List.length_append, HLN.out, dg_len]; omega)
          rcases List.mem_append.1 hz with hz | hz
          · exact HHL.out z hz
          · exact dg_lt s 4 z hz
end Go.Proofs.YtkjllhphpkmaiaaDoor
