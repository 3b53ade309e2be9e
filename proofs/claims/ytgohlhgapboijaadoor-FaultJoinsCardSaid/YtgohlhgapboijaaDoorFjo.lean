/- kinlaw1.FaultJoins: the walk. -/
import Derived.Test.YtgohlhgapboijaaDoorFsa
import Derived.Test.YtgohlhgapboijaaDoorOpSt
import Derived.Laws.AppendOwnNone
namespace Go.Proofs.YtgohlhgapboijaaDoor
set_option linter.unusedVariables false
set_option linter.unusedSimpArgs false
open Go.RowKit Go.Extern.Stop Go.Stop Go.Extern Go.ChangeShapes Go.WideShapes Go.ChangeAt Go.Joins Go.Deep

/-- a slice that came in is the nil one or has an address -/
def SrcF (v : Value) : Prop := v = .slice none 0 0 ∨ ∃ ad n cap, v = .slice (some ad) n cap
set_option maxRecDepth 100000 in
theorem steps_src {H : Type} {enc : TypeId × Value → H} {w : World} {r : Reach} {b0 : Nat} {v : Value} {d : DataW H} {p : List MemPlace} (hv : Value.okWide Tryd.prog w r b0 22 v) (h : DataW.Trod enc Tryd.prog w 0 (fun _ => true) true 22 v d p) : SrcF v := by
  obtain ⟨a0, l0, c0, rfl⟩ := okWide_slice Tryd.underlying22 hv
  obtain ⟨fuel, hf⟩ := h
  rcases open_slice Tryd.underlying22 hf with ⟨hc, _⟩ | ⟨a, len, cap, m, n, D, Pl, hc, _, hl, hm, hmm, _, hx⟩
  · exact .inl (by simpa [Value.cells] using hc)
  · exact .inr ⟨a, len, cap, by simpa [Value.cells] using hc⟩
/- an append of steps that came in to a row of the call's own -/
set_option maxRecDepth 100000 in
theorem append_steps {ops : Array Oper} {rest : List Oper} {o : Oper} {a : Act} {Q : Exit → Act → World → Prop} {w : World} (hgd : o.guard = none) (s x : Operand)
    (ho : o.op = .call { callee := .builtin .append, args := #[s, x], argTypes := #[22, 22] })
    (base : Nat) (v : Value) (n : Nat) (xs : List Value) (hs : a.eval s = v) (hown : w.ownsRow base 34 2 v n xs)
    (L : List (ByteArray × Int)) (vx : Value) (hx : a.eval x = vx) (rx : Row w vx L.length (stepCells L)) (sx : SrcF vx) (hn : n ≤ 1000000) (hl : L.length ≤ 1000000) (hbase : base ≤ w.heap.size)
    (h : ∀ v' w', w'.ownsRow base 34 2 v' (n + L.length) (xs ++ stepCells L) → Below base w w' → wpList Tryd.prog ops Q rest (a.put o.dst v') w') : wpList Tryd.prog ops Q (o :: rest) a w := by
  obtain ⟨i0, hi, hz0, hz1, hz2⟩ := info_parts infoStep
  have hlen := stepCells_length L
  rcases sx with rfl | ⟨ad, k, cap, rfl⟩
  · have h0 : L.length = 0 := by
      obtain ⟨a', cap', e', -⟩ := rx
      simp only [Value.slice.injEq] at e'
      exact e'.2.1.symm
    obtain rfl : L = [] := List.eq_nil_of_length_eq_zero h0
    refine wpList_append_own_none hgd s x 22 ho base 34 i0 2 Tryd.underlying22 hi v n xs hs hown hx (h v w (by simpa [stepCells] using hown) (Below.refl base w))
  · have hk : k = L.length := by
      obtain ⟨a', cap', e', -⟩ := rx
      simp only [Value.slice.injEq] at e'
      exact e'.2.1
    subst hk
    refine wpList_append_own _ hgd s x 22 ho base 34 i0 _ 2 24 Tryd.underlying22 hi hz0 hz1 hz2 rfl (by decide) v n xs hs hown ad L.length cap (stepCells L) hx hlen ?_ ?_ (by unfold maxLen; omega) (by omega) hbase ?_
    · intro j u hj
      have hjl := (List.getElem?_eq_some_iff.1 hj).1
      obtain ⟨a', cap', e', -, -, h3, h4⟩ := rx
      simp only [Value.slice.injEq] at e'
      obtain ⟨g, off, h5⟩ := h3 (by omega)
      rw [h5] at e'
      have e1 : ad = ⟨g, off, none⟩ := by simpa using e'.1
      subst e1
      have := h4 g off h5 j u hj
      rw [Go.WideShapes.add_plain]
      exact this
    · intro u hu
      have key : ∀ M : List (ByteArray × Int), ∀ u ∈ stepCells M, u.oneCell' = true := by
        intro M
        induction M with
        | nil => intro u hu; cases hu
        | cons y M ih =>
          obtain ⟨p, q⟩ := y
          intro u hu
          simp only [stepCells, List.mem_cons] at hu
          rcases hu with rfl | rfl | hu
          · rfl
          · rfl
          · exact ih u hu
      exact key L u hu
    · intro v' w' h1 h2 _
      exact h v' w' h1 ((Below.refl base w).grown h2 hbase (fun k hk => (hown.lt k hk).1))
theorem own_new (w : World) : (w.alloc (.cells #[] 34)).ownsRow w.heap.size 34 2 (.slice (some ⟨w.heap.size, 0, none⟩) 0 0) 0 [] :=
  ⟨rfl, .inr ⟨w.heap.size, 0, #[], rfl, Nat.le_refl _, heap_alloc_new w _, Nat.le_refl _, Nat.zero_le _, rfl, rfl⟩⟩
set_option maxHeartbeats 8000000 in
set_option maxRecDepth 100000 in
theorem joins_few (L M : List (ByteArray × Int)) (c : Int) (va vb : Value) (w : World) (hg : EtIs w) (hT : PwIs w) (ra : Row w va L.length (stepCells L)) (rb : Row w vb M.length (stepCells M)) (fl : L.length ≤ 400) (fm : M.length ≤ 400)
    (sa : SrcF va) (sb : SrcF vb)
    (FL : ∀ W, Ext w W → Calls Tryd.prog 14 #[va] W fun e w' => e = .returned (.bool true) ∧ W = w') (FM : ∀ W, Ext w W → Calls Tryd.prog 14 #[vb] W fun e w' => e = .returned (.bool true) ∧ W = w') :
    Calls Tryd.prog 8 #[va, vb, .int .i64 c] w fun e w' => e = .returned (.bool true) ∧ Ext w w' := by
  have WM := Lib.hid (fun (W : World) (x : Ext w W) (k : Int) => wrapped_any M k vb W (rb.ext x) (by omega))
  have HSA := Lib.hid sa
  have HSB := Lib.hid sb
  have HRA0 := Lib.hid ra
  have HRB0 := Lib.hid rb
  have HG := Lib.hid hg
  have HT := Lib.hid hT
  have HFL := Lib.hid FL
  have HFM := Lib.hid FM
  obtain ⟨n, hn⟩ : ∃ n, L.length = n := ⟨_, rfl⟩
  obtain ⟨m, hm⟩ : ∃ m, M.length = m := ⟨_, rfl⟩
  have HN := Lib.hid hn
  have HM := Lib.hid hm
  have HNM : Hid ((L ++ M).length = n + m) := by show _ = _; rw [List.length_append, hn, hm]
  rw [hn] at ra fl
  rw [hm] at rb fm
  obtain ⟨a, ca, rfl⟩ := ra.form
  obtain ⟨b, cb, rfl⟩ := rb.form
  have RA := Lib.hid ra
  have RB := Lib.hid rb
  have m0 : IntKind.i64.wrap ((n : Int) - 1) = (n : Int) - 1 := by rw [IntKind.wrap_i64]; omega
  have m2 : IntKind.i64.wrap ((n : Int) + (m : Int)) = ((n + m : Nat) : Int) := by rw [IntKind.wrap_i64]; omega
  have m3 : (((n + m : Nat) : Int) != ((n + m : Nat) : Int)) = false := by simp
  have m4 : ((m : Int) != (m : Int)) = false := by simp
  have hcc : (c == c) = true := by simp
  clear hg hT FL FM ra rb hn hm sa sb
  go_enter Tryd.func8, Tryd.ntmps8
  go_wp2_with fail
  refine (first1_any _ HG.out HT.out).mono ?_; rintro e w1 ⟨rfl, x1⟩
  have HX1 := Lib.hid x1
  clear x1
  go_wp2_with fail
  refine (HFL.out _ HX1.out).mono ?_; rintro e w2 ⟨rfl, rfl⟩
  go_wp2_with fail
  refine (HFM.out _ HX1.out).mono ?_; rintro e w2 ⟨rfl, rfl⟩
  go_wp2_with fail
  refine (WM.out _ HX1.out c).mono ?_; rintro e w3 ⟨u3, rfl, x3, h3⟩
  have HX3 := Lib.hid (HX1.out.trans x3)
  have HE3 := Lib.hid h3
  clear x3 h3 HX1
  go_wp2_with fail
  go_loopw [8, 9] (fun ev iv wr => ∃ i : Nat, i ≤ n ∧ iv = .int .i64 ((i : Int) - 1) ∧ Hid (IsErr wr (L.drop i ++ M) c ev) ∧ Hid (Ext w3 wr)) (fun _ iv _ => (intOf iv + 1).toNat)
  case atStart => exact ⟨n, Nat.le_refl _, rfl, by show IsErr _ _ _ _; rw [List.drop_of_length_le (by rw [HN.out]; exact Nat.le_refl _)]; exact HE3.out, Ext.refl w3⟩
  case round =>
    obtain ⟨i, hi, rfl, HE, HX⟩ := hrel
    by_cases h0 : i = 0
    · subst h0
      have HE0 : Hid (IsErr wr (L ++ M) c u8) := HE
      have HXW := Lib.hid (HX3.out.trans HX.out)
      have HE3r := Lib.hid (HE3.out.ext HX.out)
      clear HE HX
      have ON := Lib.hid (own_new wr)
      have HXN := Lib.hid (HXW.out.alloc (.cells #[] 34))
      have HXL := Lib.hid ((Ext.refl wr).alloc (.cells #[] 34))
      have hszN : wr.heap.size ≤ (wr.alloc (.cells #[] 34)).heap.size := by simp
      go_wp2_with (at_builtin; refine append_steps rfl _ _ rfl wr.heap.size _ 0 [] rfl ON.out L _ rfl (HRA0.out.ext HXN.out) HSA.out (by omega) (by rw [HN.out]; omega) hszN ?_)
      intro v5 w5 o5 x5
      have HX5 : Hid (Ext w w5) := Below.trans HXN.out (Below.mono x5 HXW.out.size)
      have HR5 : Hid (Ext wr w5) := Below.trans HXL.out x5
      have HO5 : Hid (w5.ownsRow wr.heap.size 34 2 v5 n (stepCells L)) := by show World.ownsRow _ _ _ _ _ _ _; rw [← HN.out]; exact o5
      have hsz5 := HR5.out.size
      obtain ⟨ga, gc, rfl⟩ := (Row.of_owns HO5.out).form
      clear o5 x5 ON HXN HXL hszN
      go_wp2_with (at_builtin; refine append_steps rfl _ _ rfl wr.heap.size _ n (stepCells L) rfl HO5.out M _ rfl (HRB0.out.ext HX5.out) HSB.out (by omega) (by rw [HM.out]; omega) hsz5 ?_)
      intro v6 w6 o6 x6
      have HX6 : Hid (Ext w w6) := Below.trans HX5.out (Below.mono x6 HXW.out.size)
      have HR6 : Hid (Ext wr w6) := Below.trans HR5.out x6
      have HA6 : Hid (Row w6 v6 (L ++ M).length (stepCells (L ++ M))) := by
        show Row _ _ _ _
        rw [List.length_append, stepCells_append, HN.out]
        exact Row.of_owns o6
      have HF6 := Lib.hid (HE0.out.ext HR6.out)
      have HE6 := Lib.hid (HE3r.out.ext HR6.out)
      obtain ⟨ha, hc', rfl⟩ : ∃ a cap, v6 = .slice a (n + m) cap := by
        obtain ⟨a', c', e'⟩ := HA6.out.form
        exact ⟨a', c', by rw [e', HNM.out]⟩
      clear o6 x6 HO5 HX5 HR5 HR6 hsz5 HE0 HE3r HXW
      go_wp2_with fail
      refine (path_err (L ++ M) c _ _ (HG.out.ext HX6.out) HF6.out (by rw [HNM.out]; omega)).mono ?_; rintro e w7 ⟨u7, rfl, x7, o7⟩
      have HX7 := Lib.hid (HX6.out.trans x7)
      have HF7 := Lib.hid (HF6.out.ext x7)
      have HE7 := Lib.hid (HE6.out.ext x7)
      have HA7 := Lib.hid (HA6.out.ext x7)
      have HP7 : Hid (Row w7 u7 (n + m) (stepCells (L ++ M))) := by show Row _ _ _ _; rw [← HNM.out]; exact Row.of_owns o7
      obtain ⟨pa, pc, rfl⟩ := HP7.out.form
      clear x7 o7 HX6 HF6 HE6 HA6
      go_wp2_with fail
      refine (path_err M c _ _ (HG.out.ext HX7.out) HE7.out (by rw [HM.out]; omega)).mono ?_; rintro e w8 ⟨u8', rfl, x8, o8⟩
      have HX8 := Lib.hid (HX7.out.trans x8)
      have HF8 := Lib.hid (HF7.out.ext x8)
      have HE8 := Lib.hid (HE7.out.ext x8)
      have HA8 := Lib.hid (HA7.out.ext x8)
      have HP8 := Lib.hid (HP7.out.ext x8)
      have HQ8 : Hid (Row w8 u8' m (stepCells M)) := by show Row _ _ _ _; rw [← HM.out]; exact Row.of_owns o8
      obtain ⟨qa, qc, rfl⟩ := HQ8.out.form
      clear x8 o8 HX7 HF7 HE7 HA7 HP7
      have WA := Lib.hid (wrapped_any (L ++ M) c (.slice ha (n + m) hc') w8 HA8.out (by rw [HNM.out]; omega))
      go_wp2_with fail
      refine WA.out.mono ?_; rintro e w9 ⟨u9, rfl, x9, h9⟩
      have HX9 := Lib.hid (HX8.out.trans x9)
      have HL9 : Hid ((L ++ M).length ≤ 1000000) := by show _ ≤ _; rw [HNM.out]; omega
      have SF := Lib.hid (seen_err (HG.out.ext HX9.out) (HF8.out.ext x9) HL9.out)
      have SU := Lib.hid (seen_err (HG.out.ext HX9.out) h9 HL9.out)
      have HF9 := Lib.hid (HF8.out.ext x9)
      have HE9 := Lib.hid (HE8.out.ext x9)
      have HP9 := Lib.hid (HP8.out.ext x9)
      have HQ9 := Lib.hid (HQ8.out.ext x9)
      clear x9 h9 HX8 HF8 HE8 HP8 HQ8 HA8 WA
      go_wp2_with fail
      refine (fsame_any (L ++ M) (L ++ M) c c _ _ _ SF.out SU.out HL9.out).mono ?_; rintro e w10 ⟨b10, rfl, k10, x10⟩
      obtain rfl : b10 = true := k10.2 ⟨rfl, rfl⟩
      have HX10 := Lib.hid (HX9.out.trans x10)
      have HF10 := Lib.hid (HF9.out.ext x10)
      have HE10 := Lib.hid (HE9.out.ext x10)
      have HP10 := Lib.hid (HP9.out.ext x10)
      have HQ10 := Lib.hid (HQ9.out.ext x10)
      clear x10 k10 SF SU HX9 HF9 HE9 HP9 HQ9
      go_wp2_with fail
      go_loopw [13] (fun iv wy => ∃ i : Nat, i ≤ m ∧ iv = .int .i64 (i : Int) ∧ Hid (Ext w10 wy)) (fun iv _ => m - (intOf iv).toNat)
      case atStart => exact ⟨0, Nat.zero_le _, rfl, Ext.refl w10⟩
      case round =>
        obtain ⟨i, hi, rfl, HY⟩ := hrel
        by_cases hlt : i < m
        · obtain ⟨g, off, rfl⟩ := row_had HP10.out (by omega)
          obtain ⟨g', off', rfl⟩ := row_had HQ10.out (by omega)
          obtain ⟨⟨s, z⟩, hx⟩ : ∃ y, M[i]? = some y := ⟨_, List.getElem?_eq_getElem (by rw [HM.out]; exact hlt)⟩
          have hx2 : (L ++ M)[n + i]? = some (s, z) := by
            rw [List.getElem?_append_right (by rw [HN.out]; omega), HN.out, Nat.add_sub_cancel_left]
            exact hx
          obtain ⟨x0, x1⟩ := stepCells_get M i s z hx
          obtain ⟨y0, y1⟩ := stepCells_get (L ++ M) (n + i) s z hx2
          have p0 := HY.out.cell (HP10.out.at y0)
          have p1 := HY.out.cell (HP10.out.at y1)
          have q0 := HY.out.cell (HQ10.out.at x0)
          have q1 := HY.out.cell (HQ10.out.at x1)
          rw [← Nat.add_assoc] at p1 q1
          have e5 : IntKind.i64.wrap ((n : Int) + (i : Int)) = ((n + i : Nat) : Int) := by rw [IntKind.wrap_i64]; omega
          have t1 : (0 : Int) ≤ ((n + i : Nat) : Int) := by omega
          have t2 : ((n + i : Nat) : Int) < ((n + m : Nat) : Int) := by omega
          have t3 : (0 : Int) ≤ (i : Int) := by omega
          have t4 : (i : Int) < (m : Int) := by omega
          have nq := neq_same s z
          clear hx hx2 x0 x1 y0 y1
          go_wp2
          go_quiet (fail)
          go_wp2
          exact ⟨⟨i + 1, by omega, by go_num, HY.out.drewN _⟩, by simp [intOf]; omega⟩
        · have t2 : ¬ (i : Int) < (m : Int) := by omega
          have HX11 := Lib.hid (HX10.out.trans HY.out)
          have HF11 := Lib.hid (HF10.out.ext HY.out)
          have HE11 := Lib.hid (HE10.out.ext HY.out)
          go_wp2_with fail
          refine (first1_any _ (HG.out.ext HX11.out) (HT.out.ext HX11.out)).mono ?_; rintro e w12 ⟨rfl, x12⟩
          have HX12 := Lib.hid (HX11.out.trans x12)
          have HF12 := Lib.hid (HF11.out.ext x12)
          have HE12 := Lib.hid (HE11.out.ext x12)
          clear x12 HX11 HF11 HE11
          go_wp2_with fail
          refine (of_err (L ++ M) c _ _ (HG.out.ext HX12.out) HF12.out).mono ?_; rintro e w13 ⟨rfl, x13⟩
          have HX13 := Lib.hid (HX12.out.trans x13)
          have HE13 := Lib.hid (HE12.out.ext x13)
          clear x13 HX12 HF12 HE12
          go_wp2_with fail
          refine (of_err M c _ _ (HG.out.ext HX13.out) HE13.out).mono ?_; rintro e w14 ⟨rfl, x14⟩
          go_wp2
          go_ret
          exact ⟨rfl, HX13.out.trans x14⟩
    · obtain ⟨j, rfl⟩ : ∃ j, i = j + 1 := ⟨i - 1, by omega⟩
      have e1 : ((j + 1 : Nat) : Int) - 1 = (j : Int) := by omega
      rw [e1]
      obtain ⟨⟨s, z⟩, hy⟩ : ∃ y, L[j]? = some y := ⟨_, List.getElem?_eq_getElem (by rw [HN.out]; omega)⟩
      obtain ⟨hc0, hc1⟩ := stepCells_get L j s z hy
      obtain ⟨g, off, rfl⟩ := row_had RA.out (by omega)
      have q0 := HX.out.cell (HX3.out.cell (RA.out.at hc0))
      have q1 := HX.out.cell (HX3.out.cell (RA.out.at hc1))
      rw [← Nat.add_assoc] at q1
      have x1 : (0 : Int) ≤ (j : Int) := by omega
      have x2 : (j : Int) < (n : Int) := by omega
      have HD : Hid (L.drop j ++ M = (s, z) :: (L.drop (j + 1) ++ M)) := by
        show _ = _
        obtain ⟨hj, hy'⟩ := List.getElem?_eq_some_iff.1 hy
        rw [List.drop_eq_getElem_cons hj, hy']
        rfl
      have m1 : IntKind.i64.wrap ((j : Int) - 1) = (j : Int) - 1 := by rw [IntKind.wrap_i64]; omega
      clear hy hc0 hc1 e1
      go_wp2_with fail
      go_still_tail 11, (by kernel_rfl)
      change wpList _ _ _ _ _ wr.drew
      have HEz := Lib.hid (HE.out.ext (Ext.refl wr).drew)
      have HXz := Lib.hid (HX.out.drew)
      clear q0 q1 HE HX
      generalize wr.drew = wz at *
      go_wp2_with fail
      refine (in_err s z _ c _ _ HEz.out).mono ?_; rintro e w2 ⟨u2, rfl, x2, h2⟩
      have HE2 : Hid (IsErr w2 (L.drop j ++ M) c u2) := by show IsErr _ _ _ _; rw [HD.out]; exact h2
      have HX2 := Lib.hid (HXz.out.trans x2)
      clear h2 x2
      go_wp2
      exact ⟨⟨j, by omega, rfl, HE2, HX2⟩, by simp [intOf]⟩
set_option maxHeartbeats 4000000 in
set_option maxRecDepth 100000 in
theorem joins_law (L M : List (ByteArray × Int)) (c : Int) (va vb : Value) (w : World) (hg : EtIs w) (hT : PwIs w) (ra : Row w va L.length (stepCells L)) (rb : Row w vb M.length (stepCells M)) (sa : SrcF va) (sb : SrcF vb) :
    Calls Tryd.prog 8 #[va, vb, .int .i64 c] w fun e w' => e = .returned (.bool true) ∧ Ext w w' := by
  by_cases fl : fewP L
  · by_cases fm : fewP M
    · exact joins_few L M c va vb w hg hT ra rb fl.1 fm.1 sa sb (few_yes ra fl) (few_yes rb fm)
    · have FL := Lib.hid (few_yes ra fl)
      have FM := Lib.hid (few_no rb fm)
      have HG := Lib.hid hg
      have HT := Lib.hid hT
      clear hg hT ra rb fl fm sa sb
      go_enter Tryd.func8, Tryd.ntmps8
      go_wp2_with fail
      refine (first1_any _ HG.out HT.out).mono ?_; rintro e w1 ⟨rfl, x1⟩
      go_wp2_with fail
      refine (FL.out _ x1).mono ?_; rintro e w2 ⟨rfl, rfl⟩
      go_wp2_with fail
      refine (FM.out _ x1).mono ?_; rintro e w2 ⟨rfl, rfl⟩
      go_wp2_with fail
      refine (first1_any _ (HG.out.ext x1) (HT.out.ext x1)).mono ?_; rintro e w3 ⟨rfl, x3⟩
      go_wp2
      go_ret
      exact ⟨rfl, x1.trans x3⟩
  · have FL := Lib.hid (few_no ra fl)
    have HG := Lib.hid hg
    have HT := Lib.hid hT
    clear hg hT ra rb fl sa sb
    go_enter Tryd.func8, Tryd.ntmps8
    go_wp2_with fail
    refine (first1_any _ HG.out HT.out).mono ?_; rintro e w1 ⟨rfl, x1⟩
    go_wp2_with fail
    refine (FL.out _ x1).mono ?_; rintro e w2 ⟨rfl, rfl⟩
    go_wp2_with fail
    refine (first1_any _ (HG.out.ext x1) (HT.out.ext x1)).mono ?_; rintro e w3 ⟨rfl, x3⟩
    go_wp2
    go_ret
    exact ⟨rfl, x1.trans x3⟩
end Go.Proofs.YtgohlhgapboijaaDoor
