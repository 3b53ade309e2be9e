/- kinlaw1.FaultSame: the walk. -/
import Derived.Test.YtgohlhgapboijaaDoorFsm
import Derived.Deep.DeepCutAuto
namespace Go.Proofs.YtgohlhgapboijaaDoor
set_option linter.unusedVariables false
set_option linter.unusedSimpArgs false
open Go.RowKit Go.Extern.Stop Go.Stop Go.Extern

theorem eql_same (s : ByteArray) (m : Int) (w : World) : (binOp .eql 34 (.agg #[.string s, .int .i64 m]) (.agg #[.string s, .int .i64 m])).run Tryd.prog w = .ok (.bool true) w := by
  have hS : Tryd.prog.underlying 34 = some (.struct (Tryd.prog.fieldsOf 34)) := by kernel_rfl
  have hp : Tryd.prog.stoodInHeld 34 = false := by kernel_rfl
  rw [run_eql_struct, show (10000 : Nat) = 9999 + 1 from rfl, run_equalIn_agg w 9999 34 _ _ hS hp]
  simp only [Program.fieldsOf, Tryd.underlying34]
  go_simp
theorem eql_other (s s' : ByteArray) (m m' : Int) (w : World) (h : ¬ (s = s' ∧ m = m')) : (binOp .eql 34 (.agg #[.string s, .int .i64 m]) (.agg #[.string s', .int .i64 m'])).run Tryd.prog w = .ok (.bool false) w := by
  have hS : Tryd.prog.underlying 34 = some (.struct (Tryd.prog.fieldsOf 34)) := by kernel_rfl
  have hp : Tryd.prog.stoodInHeld 34 = false := by kernel_rfl
  have hb := str_eq s s'
  rw [run_eql_struct, show (10000 : Nat) = 9999 + 1 from rfl, run_equalIn_agg w 9999 34 _ _ hS hp]
  simp only [Program.fieldsOf, Tryd.underlying34]
  go_simp
  by_cases h1 : s = s' <;> by_cases h2 : m = m' <;> simp_all
/-- what the loop has found up to i -/
def SmAt (c d : Int) (L M : List (ByteArray × Int)) (i : Nat) (b : Bool) : Prop := b = true ↔ (c = d ∧ L.length = M.length) ∧ ∀ j, j < i → L[j]? = M[j]?
theorem SmAt.step {c d : Int} {L M : List (ByteArray × Int)} {i : Nat} {b : Bool} (h : SmAt c d L M i b) (t : Bool) (ht : t = true ↔ L[i]? = M[i]?) : SmAt c d L M (i + 1) (b && t) := by
  unfold SmAt at *
  rw [Bool.and_eq_true, h, ht]
  constructor
  · rintro ⟨⟨h1, h2⟩, h3⟩
    exact ⟨h1, fun j hj => by
      by_cases e : j = i
      · subst e; exact h3
      · exact h2 j (by omega)⟩
  · rintro ⟨h1, h2⟩
    exact ⟨⟨h1, fun j hj => h2 j (by omega)⟩, h2 i (by omega)⟩
theorem SmAt.done {c d : Int} {L M : List (ByteArray × Int)} {i : Nat} {b : Bool} (h : SmAt c d L M i b) (hi : ¬ (i < L.length ∧ i < M.length)) : b = true ↔ c = d ∧ L = M := by
  unfold SmAt at h
  rw [h]
  constructor
  · rintro ⟨⟨h1, h2⟩, h3⟩
    refine ⟨h1, List.ext_getElem? fun j => ?_⟩
    by_cases hj : j < i
    · exact h3 j hj
    · rw [List.getElem?_eq_none (by omega), List.getElem?_eq_none (by omega)]
  · rintro ⟨rfl, rfl⟩
    exact ⟨⟨rfl, rfl⟩, fun _ _ => rfl⟩
theorem bool_same {P : Prop} {a b : Bool} (ha : a = true ↔ P) (hb : b = true ↔ P) : a = b := by
  cases a <;> cases b <;> simp_all
/-- a slice of steps that are there has an address -/
theorem row_had {w : World} {a : Option Addr} {n cap : Nat} {xs : List Value} (h : Row w (.slice a n cap) n xs) (hn : 0 < n) : ∃ g off, a = some ⟨g, off, none⟩ := by
  obtain ⟨a', cap', e', -, -, h3, -⟩ := h
  simp only [Value.slice.injEq, true_and] at e'
  obtain ⟨g, off, h4⟩ := h3 hn
  exact ⟨g, off, e'.1.trans h4⟩
set_option maxHeartbeats 8000000 in
set_option maxRecDepth 100000 in
/-- the law, where the steps are few -/
theorem same_few (L M : List (ByteArray × Int)) (c d : Int) (va vb : Value) (w : World) (hg : EtIs w) (hT : PwIs w) (ra : Row w va L.length (stepCells L)) (rb : Row w vb M.length (stepCells M)) (fl : L.length ≤ 400) (fm : M.length ≤ 400)
    (FL : ∀ W, Ext w W → Calls Tryd.prog 14 #[va] W fun e w' => e = .returned (.bool true) ∧ W = w') (FM : ∀ W, Ext w W → Calls Tryd.prog 14 #[vb] W fun e w' => e = .returned (.bool true) ∧ W = w') :
    Calls Tryd.prog 6 #[va, vb, .int .i64 c, .int .i64 d] w fun e w' => e = .returned (.bool true) ∧ Ext w w' := by
  have WL := Lib.hid (fun (W : World) (x : Ext w W) (k : Int) => wrapped_any L k va W (ra.ext x) (by omega))
  have WM := Lib.hid (fun (W : World) (x : Ext w W) (k : Int) => wrapped_any M k vb W (rb.ext x) (by omega))
  have HG := Lib.hid hg
  have HT := Lib.hid hT
  have HFL := Lib.hid FL
  have HFM := Lib.hid FM
  have HL0 : Hid (L.length ≤ 1000000) := by show _ ≤ _; omega
  have HM0 : Hid (M.length ≤ 1000000) := by show _ ≤ _; omega
  obtain ⟨n, hn⟩ : ∃ n, L.length = n := ⟨_, rfl⟩
  obtain ⟨m, hm⟩ : ∃ m, M.length = m := ⟨_, rfl⟩
  have HN := Lib.hid hn
  have HM := Lib.hid hm
  rw [hn] at ra fl
  rw [hm] at rb fm
  obtain ⟨a, ca, rfl⟩ := ra.form
  obtain ⟨b, cb, rfl⟩ := rb.form
  have RA := Lib.hid ra
  have RB := Lib.hid rb
  clear hg hT FL FM ra rb hn hm
  obtain ⟨cd, hcd⟩ : ∃ cd, decide (c = d) = cd := ⟨_, rfl⟩
  obtain ⟨nm, hnm⟩ : ∃ nm, decide (n = m) = nm := ⟨_, rfl⟩
  have e1 : (c == d) = cd := by rw [← hcd]; by_cases h : c = d <;> simp [h]
  have e2 : ((n : Int) == (m : Int)) = nm := by rw [← hnm]; by_cases h : n = m <;> simp [h]; omega
  have HS0 : Hid (SmAt c d L M 0 (cd && nm)) := by
    show SmAt _ _ _ _ _ _
    unfold SmAt
    rw [Bool.and_eq_true, ← hcd, ← hnm, decide_eq_true_iff, decide_eq_true_iff, HN.out, HM.out]
    exact ⟨fun h => ⟨h, fun j hj => absurd hj (Nat.not_lt_zero _)⟩, fun h => h.1⟩
  clear hcd hnm
  go_enter Tryd.func6, Tryd.ntmps6
  go_wp2_with fail
  refine (first1_any _ HG.out HT.out).mono ?_; rintro e w1 ⟨rfl, x1⟩
  have HX1 := Lib.hid x1
  clear x1
  go_wp2_with fail
  refine (HFL.out _ HX1.out).mono ?_; rintro e w2 ⟨rfl, rfl⟩
  go_wp2_with fail
  refine (HFM.out _ HX1.out).mono ?_; rintro e w2 ⟨rfl, rfl⟩
  go_upto_region 5 with fail
  go_cut [9] (fun s9 wx => s9 = .bool (cd && nm) ∧ wx = w1)
  case first =>
    cases cd with
    | true =>
      cases nm with
      | true => go_wp2_with fail; go_meet; exact ⟨rfl, rfl⟩
      | false => go_wp2_with fail; go_meet; exact ⟨rfl, rfl⟩
    | false => go_wp2_with fail; go_meet; exact ⟨rfl, rfl⟩
  obtain ⟨rfl, rfl⟩ := hcut
  obtain ⟨b0, hb0⟩ : ∃ b0, (cd && nm) = b0 := ⟨_, rfl⟩
  rw [hb0] at HS0 ⊢
  clear hb0 e1 e2
  go_wp2_with fail
  go_loopw [9, 10] (fun sv iv wr => ∃ (i : Nat) (t : Bool), i ≤ n ∧ i ≤ m ∧ iv = .int .i64 (i : Int) ∧ sv = .bool t ∧ Hid (SmAt c d L M i t) ∧ Hid (Ext w wr)) (fun _ iv _ => n - (intOf iv).toNat)
  case atStart => exact ⟨0, b0, Nat.zero_le _, Nat.zero_le _, rfl, rfl, HS0, HX1⟩
  case round =>
    obtain ⟨i, t, hi, hi2, rfl, rfl, HS, HX⟩ := hrel
    by_cases hlt : i < n
    · by_cases hlt2 : i < m
      · obtain ⟨g, off, rfl⟩ := row_had RA.out (by omega)
        obtain ⟨g', off', rfl⟩ := row_had RB.out (by omega)
        obtain ⟨⟨s, z⟩, hx⟩ : ∃ y, L[i]? = some y := ⟨_, List.getElem?_eq_getElem (by rw [HN.out]; exact hlt)⟩
        obtain ⟨⟨s', z'⟩, hy⟩ : ∃ y, M[i]? = some y := ⟨_, List.getElem?_eq_getElem (by rw [HM.out]; exact hlt2)⟩
        obtain ⟨x0, x1⟩ := stepCells_get L i s z hx
        obtain ⟨y0, y1⟩ := stepCells_get M i s' z' hy
        have p0 := HX.out.cell (RA.out.at x0)
        have p1 := HX.out.cell (RA.out.at x1)
        have q0 := HX.out.cell (RB.out.at y0)
        have q1 := HX.out.cell (RB.out.at y1)
        rw [← Nat.add_assoc] at p1 q1
        have HXY : Hid ((s = s' ∧ z = z') ↔ L[i]? = M[i]?) := by show _ ↔ _; rw [hx, hy]; simp
        have t1 : (0 : Int) ≤ (i : Int) := by omega
        have t2 : (i : Int) < (n : Int) := by omega
        have t3 : (i : Int) < (m : Int) := by omega
        clear hx hy x0 x1 y0 y1
        cases t with
        | false =>
          have HS' : Hid (SmAt c d L M (i + 1) false) := by have h := HS.out.step (decide (L[i]? = M[i]?)) (by simp); exact h
          go_wp2
          go_quiet (fail)
          go_wp2
          exact ⟨⟨i + 1, false, by omega, by omega, by go_num, rfl, HS', HX.out.drewN _⟩, by simp [intOf]; omega⟩
        | true =>
          by_cases hxy : s = s' ∧ z = z'
          · have HS' : Hid (SmAt c d L M (i + 1) true) := by have h := HS.out.step true (by simp [HXY.out.1 hxy]); exact h
            obtain ⟨rfl, rfl⟩ := hxy
            have nq := eql_same s z
            go_wp2
            go_quiet (fail)
            go_wp2
            exact ⟨⟨i + 1, true, by omega, by omega, by go_num, rfl, HS', HX.out.drewN _⟩, by simp [intOf]; omega⟩
          · have nq := fun W => eql_other s s' z z' W hxy
            have HS' : Hid (SmAt c d L M (i + 1) false) := by have h := HS.out.step false (by simp; exact fun e => hxy (HXY.out.2 e)); exact h
            clear hxy
            go_wp2
            go_quiet (fail)
            go_wp2
            exact ⟨⟨i + 1, false, by omega, by omega, by go_num, rfl, HS', HX.out.drewN _⟩, by simp [intOf]; omega⟩
      · have HD := Lib.hid (HS.out.done (by rw [HN.out, HM.out]; exact fun h => hlt2 h.2))
        have t2 : (i : Int) < (n : Int) := by omega
        have t3 : ¬ (i : Int) < (m : Int) := by omega
        go_wp2_with fail
        refine (WL.out _ HX.out c).mono ?_; rintro e w3 ⟨u3, rfl, x3, h3⟩
        have HX3 := Lib.hid (HX.out.trans x3)
        have HE3 := Lib.hid h3
        clear x3 h3
        go_wp2_with fail
        refine (WM.out _ HX3.out d).mono ?_; rintro e w4 ⟨u4, rfl, x4, h4⟩
        have HX4 := Lib.hid (HX3.out.trans x4)
        have SA := Lib.hid (seen_err (HG.out.ext HX4.out) (HE3.out.ext x4) HL0.out)
        have SB := Lib.hid (seen_err (HG.out.ext HX4.out) h4 HM0.out)
        clear x4 h4 HX3 HE3
        go_wp2_with fail
        refine (first1_any _ (HG.out.ext HX4.out) (HT.out.ext HX4.out)).mono ?_; rintro e w5 ⟨rfl, x5⟩
        have HX5 := Lib.hid (HX4.out.trans x5)
        have HZ := Lib.hid x5
        clear x5
        go_wp2_with fail
        refine (fsame_any L M c d _ _ _ (SA.out.ext HZ.out) (SB.out.ext HZ.out) HL0.out).mono ?_; rintro e w6 ⟨b6, rfl, k6, x6⟩
        obtain rfl := bool_same k6 HD.out
        have HX6 := Lib.hid (HX5.out.trans x6)
        have HZ6 := Lib.hid (HZ.out.trans x6)
        clear x6 HZ k6 HX5
        have hbb : (b6 == b6) = true := by simp
        go_wp2_with fail
        refine (fsame_any L L c c _ _ _ (SA.out.ext HZ6.out) (SA.out.ext HZ6.out) HL0.out).mono ?_; rintro e w7 ⟨b7, rfl, k7, x7⟩
        obtain rfl : b7 = true := k7.2 ⟨rfl, rfl⟩
        have HX7 := Lib.hid (HX6.out.trans x7)
        have HZ7 := Lib.hid (HZ6.out.trans x7)
        clear x7 HZ6 k7 HX6
        go_wp2_with fail
        refine (WL.out _ HX7.out c).mono ?_; rintro e w8 ⟨u8, rfl, x8, h8⟩
        have HX8 := Lib.hid (HX7.out.trans x8)
        have HZ8 := Lib.hid (HZ7.out.trans x8)
        have S8 := Lib.hid (seen_err (HG.out.ext HX8.out) h8 HL0.out)
        clear x8 h8 HX7 HZ7
        go_wp2_with fail
        refine (fsame_any L L c c _ _ _ S8.out (SA.out.ext HZ8.out) HL0.out).mono ?_; rintro e w9 ⟨b9, rfl, k9, x9⟩
        obtain rfl : b9 = true := k9.2 ⟨rfl, rfl⟩
        have HX9 := Lib.hid (HX8.out.trans x9)
        have HZ9 := Lib.hid (HZ8.out.trans x9)
        clear x9 HX8 HZ8 k9 S8
        go_wp2_with fail
        refine (fsame_any L [] c 0 _ _ _ (SA.out.ext HZ9.out) (seen_nil (HG.out.ext HX9.out)) HL0.out).mono ?_; rintro e w10 ⟨b10, rfl, k10, x10⟩
        have HX10 := Lib.hid (HX9.out.trans x10)
        have HK10 := Lib.hid k10
        clear x10 HX9 HZ9 k10
        by_cases c0 : c = 0
        · by_cases n0 : n = 0
          · obtain rfl : b10 = true := HK10.out.2 ⟨c0, List.eq_nil_of_length_eq_zero (by rw [HN.out]; exact n0)⟩
            have e1 : (c == 0) = true := by simp [c0]
            have e2 : ((n : Int) == 0) = true := by simp [n0]
            clear c0 n0
            go_wp2_with fail
            refine (fsame_any [] [] 0 0 _ _ _ (seen_nil (HG.out.ext HX10.out)) (seen_nil (HG.out.ext HX10.out)) (by simp)).mono ?_; rintro e w11 ⟨b11, rfl, k11, x11⟩
            obtain rfl : b11 = true := k11.2 ⟨rfl, rfl⟩
            go_wp2
            go_ret
            exact ⟨rfl, HX10.out.trans x11⟩
          · obtain rfl : b10 = false := by
              cases b10 with
              | false => rfl
              | true => exact absurd (by rw [← HN.out, (HK10.out.1 rfl).2]; rfl) n0
            have e1 : (c == 0) = true := by simp [c0]
            have e2 : ((n : Int) == 0) = false := by simp; omega
            clear c0 n0
            go_wp2_with fail
            refine (fsame_any [] [] 0 0 _ _ _ (seen_nil (HG.out.ext HX10.out)) (seen_nil (HG.out.ext HX10.out)) (by simp)).mono ?_; rintro e w11 ⟨b11, rfl, k11, x11⟩
            obtain rfl : b11 = true := k11.2 ⟨rfl, rfl⟩
            go_wp2
            go_ret
            exact ⟨rfl, HX10.out.trans x11⟩
        · obtain rfl : b10 = false := by
            cases b10 with
            | false => rfl
            | true => exact absurd (HK10.out.1 rfl).1 c0
          have e1 : (c == 0) = false := by simp [c0]
          clear c0
          go_wp2_with fail
          refine (fsame_any [] [] 0 0 _ _ _ (seen_nil (HG.out.ext HX10.out)) (seen_nil (HG.out.ext HX10.out)) (by simp)).mono ?_; rintro e w11 ⟨b11, rfl, k11, x11⟩
          obtain rfl : b11 = true := k11.2 ⟨rfl, rfl⟩
          go_wp2
          go_ret
          exact ⟨rfl, HX10.out.trans x11⟩
    · have HD := Lib.hid (HS.out.done (by rw [HN.out, HM.out]; exact fun h => hlt h.1))
      have t3 : ¬ (i : Int) < (n : Int) := by omega
      go_wp2_with fail
      refine (WL.out _ HX.out c).mono ?_; rintro e w3 ⟨u3, rfl, x3, h3⟩
      have HX3 := Lib.hid (HX.out.trans x3)
      have HE3 := Lib.hid h3
      clear x3 h3
      go_wp2_with fail
      refine (WM.out _ HX3.out d).mono ?_; rintro e w4 ⟨u4, rfl, x4, h4⟩
      have HX4 := Lib.hid (HX3.out.trans x4)
      have SA := Lib.hid (seen_err (HG.out.ext HX4.out) (HE3.out.ext x4) HL0.out)
      have SB := Lib.hid (seen_err (HG.out.ext HX4.out) h4 HM0.out)
      clear x4 h4 HX3 HE3
      go_wp2_with fail
      refine (first1_any _ (HG.out.ext HX4.out) (HT.out.ext HX4.out)).mono ?_; rintro e w5 ⟨rfl, x5⟩
      have HX5 := Lib.hid (HX4.out.trans x5)
      have HZ := Lib.hid x5
      clear x5
      go_wp2_with fail
      refine (fsame_any L M c d _ _ _ (SA.out.ext HZ.out) (SB.out.ext HZ.out) HL0.out).mono ?_; rintro e w6 ⟨b6, rfl, k6, x6⟩
      obtain rfl := bool_same k6 HD.out
      have HX6 := Lib.hid (HX5.out.trans x6)
      have HZ6 := Lib.hid (HZ.out.trans x6)
      clear x6 HZ k6 HX5
      have hbb : (b6 == b6) = true := by simp
      go_wp2_with fail
      refine (fsame_any L L c c _ _ _ (SA.out.ext HZ6.out) (SA.out.ext HZ6.out) HL0.out).mono ?_; rintro e w7 ⟨b7, rfl, k7, x7⟩
      obtain rfl : b7 = true := k7.2 ⟨rfl, rfl⟩
      have HX7 := Lib.hid (HX6.out.trans x7)
      have HZ7 := Lib.hid (HZ6.out.trans x7)
      clear x7 HZ6 k7 HX6
      go_wp2_with fail
      refine (WL.out _ HX7.out c).mono ?_; rintro e w8 ⟨u8, rfl, x8, h8⟩
      have HX8 := Lib.hid (HX7.out.trans x8)
      have HZ8 := Lib.hid (HZ7.out.trans x8)
      have S8 := Lib.hid (seen_err (HG.out.ext HX8.out) h8 HL0.out)
      clear x8 h8 HX7 HZ7
      go_wp2_with fail
      refine (fsame_any L L c c _ _ _ S8.out (SA.out.ext HZ8.out) HL0.out).mono ?_; rintro e w9 ⟨b9, rfl, k9, x9⟩
      obtain rfl : b9 = true := k9.2 ⟨rfl, rfl⟩
      have HX9 := Lib.hid (HX8.out.trans x9)
      have HZ9 := Lib.hid (HZ8.out.trans x9)
      clear x9 HX8 HZ8 k9 S8
      go_wp2_with fail
      refine (fsame_any L [] c 0 _ _ _ (SA.out.ext HZ9.out) (seen_nil (HG.out.ext HX9.out)) HL0.out).mono ?_; rintro e w10 ⟨b10, rfl, k10, x10⟩
      have HX10 := Lib.hid (HX9.out.trans x10)
      have HK10 := Lib.hid k10
      clear x10 HX9 HZ9 k10
      by_cases c0 : c = 0
      · by_cases n0 : n = 0
        · obtain rfl : b10 = true := HK10.out.2 ⟨c0, List.eq_nil_of_length_eq_zero (by rw [HN.out]; exact n0)⟩
          have e1 : (c == 0) = true := by simp [c0]
          have e2 : ((n : Int) == 0) = true := by simp [n0]
          clear c0 n0
          go_wp2_with fail
          refine (fsame_any [] [] 0 0 _ _ _ (seen_nil (HG.out.ext HX10.out)) (seen_nil (HG.out.ext HX10.out)) (by simp)).mono ?_; rintro e w11 ⟨b11, rfl, k11, x11⟩
          obtain rfl : b11 = true := k11.2 ⟨rfl, rfl⟩
          go_wp2
          go_ret
          exact ⟨rfl, HX10.out.trans x11⟩
        · obtain rfl : b10 = false := by
            cases b10 with
            | false => rfl
            | true => exact absurd (by rw [← HN.out, (HK10.out.1 rfl).2]; rfl) n0
          have e1 : (c == 0) = true := by simp [c0]
          have e2 : ((n : Int) == 0) = false := by simp; omega
          clear c0 n0
          go_wp2_with fail
          refine (fsame_any [] [] 0 0 _ _ _ (seen_nil (HG.out.ext HX10.out)) (seen_nil (HG.out.ext HX10.out)) (by simp)).mono ?_; rintro e w11 ⟨b11, rfl, k11, x11⟩
          obtain rfl : b11 = true := k11.2 ⟨rfl, rfl⟩
          go_wp2
          go_ret
          exact ⟨rfl, HX10.out.trans x11⟩
      · obtain rfl : b10 = false := by
          cases b10 with
          | false => rfl
          | true => exact absurd (HK10.out.1 rfl).1 c0
        have e1 : (c == 0) = false := by simp [c0]
        clear c0
        go_wp2_with fail
        refine (fsame_any [] [] 0 0 _ _ _ (seen_nil (HG.out.ext HX10.out)) (seen_nil (HG.out.ext HX10.out)) (by simp)).mono ?_; rintro e w11 ⟨b11, rfl, k11, x11⟩
        obtain rfl : b11 = true := k11.2 ⟨rfl, rfl⟩
        go_wp2
        go_ret
        exact ⟨rfl, HX10.out.trans x11⟩
set_option maxHeartbeats 4000000 in
set_option maxRecDepth 100000 in
theorem same_law (L M : List (ByteArray × Int)) (c d : Int) (va vb : Value) (w : World) (hg : EtIs w) (hT : PwIs w) (ra : Row w va L.length (stepCells L)) (rb : Row w vb M.length (stepCells M)) :
    Calls Tryd.prog 6 #[va, vb, .int .i64 c, .int .i64 d] w fun e w' => e = .returned (.bool true) ∧ Ext w w' := by
  by_cases fl : fewP L
  · by_cases fm : fewP M
    · exact same_few L M c d va vb w hg hT ra rb fl.1 fm.1 (few_yes ra fl) (few_yes rb fm)
    · have FL := Lib.hid (few_yes ra fl)
      have FM := Lib.hid (few_no rb fm)
      have HG := Lib.hid hg
      have HT := Lib.hid hT
      clear hg hT ra rb fl fm
      go_enter Tryd.func6, Tryd.ntmps6
      go_wp2_with fail
      refine (first1_any _ HG.out HT.out).mono ?_; rintro e w1 ⟨rfl, x1⟩
      go_wp2_with fail
      refine (FL.out _ x1).mono ?_; rintro e w2 ⟨rfl, rfl⟩
      go_wp2_with fail
      refine (FM.out _ x1).mono ?_; rintro e w2 ⟨rfl, rfl⟩
      go_wp2_with fail
      refine (first1_any _ (HG.out.ext x1) (HT.out.ext x1)).mono ?_; rintro e w3 ⟨rfl, x3⟩
      go_wp2
      go_ret
      exact ⟨rfl, x1.trans x3⟩
  · have FL := Lib.hid (few_no ra fl)
    have HG := Lib.hid hg
    have HT := Lib.hid hT
    clear hg hT ra rb fl
    go_enter Tryd.func6, Tryd.ntmps6
    go_wp2_with fail
    refine (first1_any _ HG.out HT.out).mono ?_; rintro e w1 ⟨rfl, x1⟩
    go_wp2_with fail
    refine (FL.out _ x1).mono ?_; rintro e w2 ⟨rfl, rfl⟩
    go_wp2_with fail
    refine (first1_any _ (HG.out.ext x1) (HT.out.ext x1)).mono ?_; rintro e w3 ⟨rfl, x3⟩
    go_wp2
    go_ret
    exact ⟨rfl, x1.trans x3⟩
end Go.Proofs.YtgohlhgapboijaaDoor
