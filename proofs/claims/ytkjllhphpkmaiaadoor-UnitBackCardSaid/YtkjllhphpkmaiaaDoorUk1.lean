/- kinlaw4.UnitMakes: the walk. -/
import Derived.Test.YtkjllhphpkmaiaaDoorUrm
namespace Go.Proofs.YtkjllhphpkmaiaaDoor
set_option linter.unusedVariables false
set_option linter.unusedSimpArgs false
open Go.RowKit Go.Extern.Stop Go.Stop Go.Extern

theorem RErrIs.frm {w : World} {f : Fall} {c : Int} {u : Value} (h : RErrIs w f c u) : ∃ a n cap, u = .slice a n cap := by
  cases f with
  | none => exact ⟨none, 0, 0, h.2⟩
  | some p =>
    obtain ⟨a, cap, e⟩ := h.2.2.form
    exact ⟨a, _, cap, e⟩
theorem size_any2 (n : Int) (w : World) (h : -9223372036854775808 ≤ n ∧ n ≤ 4611686018427387904) : Calls Tryd.prog 19 #[.int .i64 n] w fun e w' => e = .returned (.int .i64 (n + 8)) ∧ w = w' := by
  have j1 : IntKind.i64.wrap (n + 4) = n + 4 := by rw [IntKind.wrap_i64]; omega
  have j2 : IntKind.i64.wrap (n + 4 + 4) = n + 8 := by rw [IntKind.wrap_i64]; omega
  go_enter Tryd.func19, Tryd.ntmps19
  go_wp2
  go_ret
  exact ⟨rfl, rfl⟩
set_option maxHeartbeats 8000000 in
set_option maxRecDepth 20000 in
theorem makes_law (kind n : Int) (bs : List Nat) (v : Value) (w : World) (hg : EtIs w) (hnb : NbIs w) (rb : Row w v bs.length (bs.map fun x : Nat => Value.int .u8 (x : Int))) (hb : ∀ x ∈ bs, x < 256) (hp : Plain v) (hn : -9223372036854775808 ≤ n ∧ n ≤ 9223372036854775807) :
    Calls Tryd.prog 3 #[.int .i64 kind, v, .int .i64 n] w fun e w' => e = .returned (.bool true) ∧ Ext w w' := by
  have HG := Lib.hid hg
  have HNB := Lib.hid hnb
  obtain ⟨a, cap, rfl⟩ := rb.form
  obtain ⟨l, hl⟩ : ∃ l, bs.length = l := ⟨_, rfl⟩
  have HN := Lib.hid hl
  rw [hl] at rb hp ⊢
  by_cases h1 : 20000 < l
  · have h1' : (20000 : Int) < (l : Int) := by omega
    clear hg hnb rb hl hp
    go_enter Tryd.func3, Tryd.ntmps3
    go_wp2_with fail
    refine (first4_any _ HG.out HNB.out).mono ?_; rintro e w1 ⟨rfl, hx1⟩
    have HX1 := Lib.hid hx1
    clear hx1
    go_wp2_with fail
    refine (first4_any _ (HG.out.ext HX1.out) (HNB.out.ext HX1.out)).mono ?_; rintro e w2 ⟨rfl, hx2⟩
    have HX2 := Lib.hid hx2
    clear hx2
    go_wp2
    go_ret
    exact ⟨rfl, HX1.out.trans HX2.out⟩
  · have h1' : ¬ (20000 : Int) < (l : Int) := by omega
    have HB : Hid (Bys w (.slice a l cap) bs) := ⟨by rw [hl]; exact rb, hb, by rw [hl]; omega⟩
    have HP := Lib.hid hp
    have HBB := Lib.hid hb
    obtain ⟨F, hF⟩ : ∃ F, ukF kind bs.length = F := ⟨_, rfl⟩
    obtain ⟨V, hV⟩ : ∃ V, ukV kind bs = V := ⟨_, rfl⟩
    have UM : Hid (∀ v w, NbIs w → Bys w v bs → Plain v → Calls Tryd.prog 12 #[.int .i64 kind, v] w (MPost w V F)) := by
      intro v w h1 h2 h3
      have := make_any kind bs v w h1 h2 h3
      rw [hV, hF] at this
      exact this
    have UR : Hid (∀ v w, Bys w v bs → Plain v → Calls Tryd.prog 13 #[.int .i64 kind, v] w (RMPost w V F)) := by
      intro v w h2 h3
      have := rmake_any kind bs v w h2 h3 (by rw [hl]; omega)
      rw [hV, hF] at this
      exact this
    have HVB : Hid ((∀ x ∈ V, x < 256) ∧ V.length ≤ 100000) := by
      show _ ∧ _
      rw [← hV]
      unfold ukV
      cases hf : ukF kind bs.length with
      | some p => exact ⟨by simp, by simp⟩
      | none =>
        have hk : 0 ≤ kind ∧ kind ≤ 255 := by
          unfold ukF at hf
          split at hf
          · cases hf
          · omega
        refine ⟨encB_lt (by omega) hb (by rw [hl]; omega), ?_⟩
        show (encB kind.toNat bs).length ≤ 100000
        rw [encB_len, hl]
        split <;> omega
    obtain ⟨m, hm⟩ : ∃ m : Nat, m = (max 0 (min n 65536)).toNat := ⟨_, rfl⟩
    have UF := Lib.hid (fill_any n)
    rw [← hm] at UF
    obtain ⟨b, hb'⟩ : ∃ b, max n 0 = b := ⟨_, rfl⟩
    have hb2 : min b 65536 = (m : Int) := by omega
    have hm6 : m ≤ 65536 := by omega
    have r1 := mn2
    have r2 := mx2
    clear hg hnb rb hl hp hb hF hV hm
    go_enter Tryd.func3, Tryd.ntmps3
    go_wp2_with fail
    refine (first4_any _ HG.out HNB.out).mono ?_; rintro e w1 ⟨rfl, hx1⟩
    have HX1 := Lib.hid hx1
    clear hx1
    go_wp2_with fail
    refine (cpb_any bs _ _ (HB.out.ext HX1.out)).mono ?_; rintro e w2 ⟨u2, rfl, ho2, hx2⟩
    have HX2 := Lib.hid (HX1.out.trans hx2)
    have HP2 := Lib.hid (Plain.of_owns ho2)
    have HY2 := Lib.hid (Bys.of_owns ho2 HBB.out (by rw [HN.out]; omega))
    obtain ⟨a2, c2, rfl⟩ := own_frm ho2
    clear ho2 hx2
    go_wp2_with fail
    refine (UM.out _ _ (HNB.out.ext HX2.out) HY2.out HP2.out).mono ?_; rintro e w3 ⟨u3, z, rfl, ho3, hz3, hx3⟩
    have HX3 := Lib.hid (HX2.out.trans hx3)
    have HI3 := Lib.hid (HY2.out.ext hx3)
    have HY3 := Lib.hid (Bys.of_owns ho3 HVB.out.1 (by have := HVB.out.2; omega))
    have HZ3 := Lib.hid hz3
    obtain ⟨a3, c3, rfl⟩ := own_frm ho3
    clear ho3 hz3 hx3
    go_wp2_with fail
    refine (UR.out _ _ (HB.out.ext HX3.out) HP.out).mono ?_; rintro e w4 ⟨u4, c, x, rfl, hy4, hz4, hx4⟩
    obtain ⟨xa, xn, xc, rfl⟩ := hz4.frm
    obtain ⟨a4, c4, rfl⟩ := hy4.form
    have E5 := (Ext.refl w4).alloc (.cells #[.int .i64 c, .slice xa xn xc] 32)
    have HX5 := Lib.hid ((HX3.out.trans hx4).trans E5)
    have HI5 := Lib.hid ((HI3.out.ext hx4).ext E5)
    have HY5 := Lib.hid ((HY3.out.ext hx4).ext E5)
    have HZ5 := Lib.hid ((HZ3.out.ext hx4).ext E5)
    have HC5 := Lib.hid (hy4.ext E5)
    have HR5 := Lib.hid (hz4.ext E5)
    clear hy4 hz4 hx4 E5
    go_wp2_with fail
    refine (UF.out _).mono ?_; rintro e w6 ⟨uf, rfl, hof, hx6⟩
    have HX6 := Lib.hid (HX5.out.trans hx6)
    have HI6 := Lib.hid (HI5.out.ext hx6)
    have HY6 := Lib.hid (HY5.out.ext hx6)
    have HZ6 := Lib.hid (HZ5.out.ext hx6)
    have HC6 := Lib.hid (HC5.out.ext hx6)
    have HR6 := Lib.hid (HR5.out.ext hx6)
    have HYF := Lib.hid (Bys.of_owns hof (fun z hz => by rw [List.eq_of_mem_replicate hz]; decide) (by unfold zeroB; rw [List.length_replicate]; omega))
    obtain ⟨af, cf, rfl⟩ := own_frm hof
    have q0 := hx6.cell (p := ⟨w4.heap.size, 0, none⟩) (v := .int .i64 c) (by simp)
    have q1 := hx6.cell (p := ⟨w4.heap.size, 1, none⟩) (v := .slice xa xn xc) (by simp)
    clear hof hx6 HI5 HY5 HZ5 HC5 HR5 HI3 HY3 HZ3
    go_wp2_with fail
    refine (bytes_same V _ _ _ HY6.out HC6.out).mono ?_; rintro e w7 ⟨rfl, rfl⟩
    go_wp2_with fail
    refine (same_fall F _ _ _ _ (HG.out.ext HX6.out) HZ6.out HR6.out).mono ?_; rintro e w8 ⟨rfl, hx8⟩
    have HX8 := Lib.hid (HX6.out.trans hx8)
    have HI8 := Lib.hid (HI6.out.ext hx8)
    have HB8 := Lib.hid (HB.out.ext HX8.out)
    have HYF8 := Lib.hid (HYF.out.ext hx8)
    clear hx8 HI6 HY6 HZ6 HC6 HR6 HYF q0 q1
    go_wp2_with fail
    refine (bytes_same bs _ _ _ HI8.out HB8.out).mono ?_; rintro e wa ⟨rfl, rfl⟩
    go_wp2_with fail
    refine (sum_any bs _ _ (HNB.out.ext HX8.out) HB8.out).mono ?_; rintro e wb ⟨rfl, rfl⟩
    go_wp2_with fail
    refine (rsum_any bs _ _ HB8.out).mono ?_; rintro e wd ⟨rfl, rfl⟩
    have hcc : ((crc bs : Int) == (crc bs : Int)) = true := by simp
    go_wp2_with fail
    go_loop [13, 14] (fun sv iv => ∃ i : Nat, i ≤ m ∧ sv = .bool true ∧ iv = .int .i64 (i : Int)) (fun _ iv => m - (intOf iv).toNat)
    case atStart => exact ⟨0, Nat.zero_le _, rfl, rfl⟩
    case round =>
      obtain ⟨i, hi, rfl, rfl⟩ := hrel
      by_cases hlt : i < m
      · obtain ⟨g, off, rfl⟩ := HYF8.out.had (by omega)
        have cI := HYF8.out.at (j := i) (x := 0) (by unfold zeroB; rw [List.getElem?_replicate, if_pos hlt])
        have x1 : (0 : Int) ≤ (i : Int) := by omega
        have x2 : (i : Int) < (m : Int) := by omega
        go_wp2
        go_roundw
        case rel => exact ⟨i + 1, by omega, rfl, by go_num⟩
        case measure => simp [intOf]; omega
      · obtain rfl : i = m := by omega
        have HX6 := HX8
        have x2 : ¬ (i : Int) < (i : Int) := by omega
        by_cases hbig : 4611686018427387904 < n
        · go_wp2_with (first
            | (go_at_call 10; refine (first4_any _ (HG.out.ext HX6.out) (HNB.out.ext HX6.out)).mono ?_; rintro e w9 ⟨rfl, hx9⟩; have HX9 := Lib.hid (HX6.out.trans hx9); clear hx9)
            | (go_at_call 19; refine (size_any2 n _ (by omega)).mono ?_; rintro e wS ⟨rfl, rfl⟩))
          go_ret
          exact ⟨rfl, HX9.out⟩
        · have m8 : IntKind.i64.wrap (n + 8) = n + 8 := by rw [IntKind.wrap_i64]; omega
          go_wp2_with (first
            | (go_at_call 10; refine (first4_any _ (HG.out.ext HX6.out) (HNB.out.ext HX6.out)).mono ?_; rintro e w9 ⟨rfl, hx9⟩; have HX9 := Lib.hid (HX6.out.trans hx9); clear hx9)
            | (go_at_call 19; refine (size_any2 n _ (by omega)).mono ?_; rintro e wS ⟨rfl, rfl⟩))
          go_ret
          exact ⟨rfl, HX9.out⟩
end Go.Proofs.YtkjllhphpkmaiaaDoor
