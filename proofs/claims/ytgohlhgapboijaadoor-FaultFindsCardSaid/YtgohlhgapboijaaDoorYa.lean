/- Contracts of this seat: F1, F2, Fsm, Fsa, Uw. -/
import Derived.Test.YtgohlhgapboijaaDoorZh
import Derived.Deep.QuietTactic
import Derived.BigQuiet
import Derived.StillTailTactics
import Derived.Laws.StructEq
import Derived.Deep.DeepCutAuto
/- kinlaw1.first. -/
namespace Go.Proofs.YtgohlhgapboijaaDoor
set_option linter.unusedVariables false
set_option linter.unusedSimpArgs false
open Go.RowKit Go.Extern.Stop Go.Stop Go.Extern

def wSource : ByteArray := ⟨#[115, 111, 117, 114, 99, 101]⟩
def wBits : ByteArray := ⟨#[98, 105, 116, 115]⟩
theorem firstT : pathT [(wSource, 2), (wBits, 3)] ++ codeT 1 = [115, 111, 117, 114, 99, 101, 32, 50, 58, 32, 98, 105, 116, 115, 32, 51, 58, 32, 99, 111, 100, 101, 32, 49] := by
  have h2 : Lib.decDigits 2 = [50] := by rw [Lib.decDigits, dif_pos (by omega)]; rfl
  have h3 : Lib.decDigits 3 = [51] := by rw [Lib.decDigits, dif_pos (by omega)]; rfl
  have h1 : Lib.decDigits 1 = [49] := by rw [Lib.decDigits, dif_pos (by omega)]; rfl
  have e2 : Lib.itoa 2 = [50] := h2
  have e3 : Lib.itoa 3 = [51] := h3
  have e1 : codeT 1 = [99, 111, 100, 101, 32] ++ Lib.decDigits 1 := rfl
  rw [e1, h1]
  simp only [pathT, stepT, e2, e3]
  rfl
theorem firstS {s : ByteArray} (h : s.data.toList = pathT [(wSource, 2), (wBits, 3)] ++ codeT 1) : s = ⟨#[115, 111, 117, 114, 99, 101, 32, 50, 58, 32, 98, 105, 116, 115, 32, 51, 58, 32, 99, 111, 100, 101, 32, 49]⟩ := by
  rw [firstT] at h
  obtain ⟨⟨l⟩⟩ := s
  have h : l = _ := h
  subst h
  rfl
set_option maxHeartbeats 4000000 in
set_option maxRecDepth 100000 in
theorem first1_any (w : World) (hg : EtIs w) (hT : PwIs w) : Calls Tryd.prog 13 #[] w fun e w' => e = .returned (.bool true) ∧ Ext w w' := by
  have HG := Lib.hid hg
  have HT := Lib.hid hT
  have UC := Lib.hid (fun (w : World) => (show IsErr w [] 1 (.iface 23 (.int .i64 1)) from rfl))
  clear hg hT
  go_enter Tryd.func13, Tryd.ntmps13
  go_wp2_with fail
  refine (in_err wBits 3 [] 1 _ _ (UC.out _)).mono ?_; rintro e w1 ⟨v1, rfl, x1, h1⟩
  go_wp2_with fail
  refine (in_err wSource 2 _ 1 _ _ h1).mono ?_; rintro e w2 ⟨v2, rfl, x2, h2⟩
  have HX2 := Lib.hid (x1.trans x2)
  have HV2 := Lib.hid h2
  clear h1 x1 h2 x2
  go_wp2_with fail
  refine (path_err _ 1 _ _ (HG.out.ext HX2.out) HV2.out (by decide)).mono ?_; rintro e w3 ⟨u3, rfl, x3, o3⟩
  have HX3 := Lib.hid (HX2.out.trans x3)
  have HV3 := Lib.hid (HV2.out.ext x3)
  have HR3 := Lib.hid (Row.of_owns o3)
  obtain ⟨ua, uc, rfl⟩ := HR3.out.form
  clear x3 o3 HX2 HV2
  go_wp2_with fail
  refine (of_nil _).mono ?_; rintro e w4 ⟨rfl, x4⟩
  have HX4 := Lib.hid (HX3.out.trans x4)
  have HV4 := Lib.hid (HV3.out.ext x4)
  have HR4 := Lib.hid (HR3.out.ext x4)
  clear x4 HX3 HV3 HR3
  go_wp2_with fail
  refine (of_err [] 1 _ _ (HG.out.ext HX4.out) (UC.out _)).mono ?_; rintro e w5 ⟨rfl, x5⟩
  have HX5 := Lib.hid (HX4.out.trans x5)
  have HV5 := Lib.hid (HV4.out.ext x5)
  have HR5 := Lib.hid (HR4.out.ext x5)
  clear x5 HX4 HV4 HR4
  go_wp2_with fail
  refine (of_err _ 1 _ _ (HG.out.ext HX5.out) HV5.out).mono ?_; rintro e w6 ⟨rfl, x6⟩
  have HX6 := Lib.hid (HX5.out.trans x6)
  have HV6 := Lib.hid (HV5.out.ext x6)
  have HR6 := Lib.hid (HR5.out.ext x6)
  clear x6 HX5 HV5 HR5
  go_wp2_with fail
  refine (text_any _ 1 _ _ (HG.out.ext HX6.out) (HT.out.ext HX6.out) HV6.out (by decide) (by
    have h1 : (pathT [(wSource, 2), (wBits, 3)] ++ codeT 1).length = 24 := by rw [firstT]; rfl
    rw [List.length_append] at h1
    omega) (by intro y hy; simp at hy; rcases hy with rfl | rfl <;> decide) (by decide)).mono ?_; rintro e w7 ⟨s7, rfl, hs7, x7⟩
  obtain rfl := firstS hs7
  have HX7 := Lib.hid (HX6.out.trans x7)
  have HR7 := Lib.hid (HR6.out.ext x7)
  obtain ⟨g, off, hua⟩ : ∃ g off, ua = some ⟨g, off, none⟩ := by
    obtain ⟨a', cap', e', -, -, h3, -⟩ := HR7.out
    simp only [Value.slice.injEq, true_and] at e'
    obtain ⟨g, off, h4⟩ := h3 (by decide)
    exact ⟨g, off, e'.1.trans h4⟩
  subst hua
  have q3 := HR7.out.at (j := 3) (u := .int .i64 3) rfl
  clear x7 hs7 HX6 HV6 HR6
  go_wp2_with fail
  refine (in_nil _ _ _).mono ?_; rintro e w8 ⟨rfl, x8⟩
  have HX8 := Lib.hid (HX7.out.trans x8)
  clear x8 HX7
  go_wp2_with fail
  refine (fis_nil 0 _).mono ?_; rintro e w9 ⟨rfl, rfl⟩
  go_wp2_with fail
  refine (fis_any [] 4 0 _ _ rfl).mono ?_; rintro e w9 ⟨rfl, rfl⟩
  go_wp2
  go_ret
  exact ⟨rfl, HX8.out⟩
end Go.Proofs.YtgohlhgapboijaaDoor

/- kinlaw1.few, kinlaw1.wrapped. -/
namespace Go.Proofs.YtgohlhgapboijaaDoor
set_option linter.unusedVariables false
set_option linter.unusedSimpArgs false
open Go.RowKit Go.Extern.Stop Go.Stop Go.Extern

/-- the names of steps, each at most 20001 bytes, of the first i -/
def fewW (L : List (ByteArray × Int)) : Nat := (L.map fun y => min y.1.size 20001).sum
theorem fewW_snoc (L : List (ByteArray × Int)) (y : ByteArray × Int) : fewW (L ++ [y]) = fewW L + min y.1.size 20001 := by simp [fewW]
theorem fewW_take {L : List (ByteArray × Int)} {i : Nat} {y : ByteArray × Int} (h : L[i]? = some y) : fewW (L.take (i + 1)) = fewW (L.take i) + min y.1.size 20001 := by
  rw [List.take_add_one, h]
  exact fewW_snoc _ _
theorem fewW_le (L : List (ByteArray × Int)) : fewW L ≤ 20001 * L.length := by
  induction L with
  | nil => simp [fewW]
  | cons a t ih =>
    have : fewW (a :: t) = min a.1.size 20001 + fewW t := by simp [fewW]
    rw [this, List.length_cons]
    omega
def fewP (L : List (ByteArray × Int)) : Prop := L.length ≤ 400 ∧ fewW (L.take 400) ≤ 20000
def FwPost (L : List (ByteArray × Int)) (w : World) (e : Ending) (w' : World) : Prop := ∃ b : Bool, e = .returned (.bool b) ∧ (b = true ↔ fewP L) ∧ w = w'
set_option maxHeartbeats 4000000 in
set_option maxRecDepth 100000 in
theorem few1_any (L : List (ByteArray × Int)) (v : Value) (w : World) (h : Row w v L.length (stepCells L)) :
    Calls Tryd.prog 14 #[v] w (FwPost L w) := by
  obtain ⟨a, cap, rfl⟩ := h.form
  obtain ⟨n, hn⟩ : ∃ n, L.length = n := ⟨_, rfl⟩
  have HN := Lib.hid hn
  rw [hn] at h ⊢
  have HR := Lib.hid h
  clear h hn
  go_enter Tryd.func14, Tryd.ntmps14
  go_wp2
  go_loop [3, 4] (fun nv iv => ∃ i : Nat, i ≤ n ∧ i ≤ 400 ∧ iv = .int .i64 (i : Int) ∧ nv = .int .i64 (fewW (L.take i) : Int)) (fun _ iv => n - (intOf iv).toNat)
  case atStart => exact ⟨0, Nat.zero_le _, Nat.zero_le _, rfl, rfl⟩
  case round =>
    obtain ⟨i, hi, hi4, rfl, rfl⟩ := hrel
    have hw := fewW_le (L.take i)
    rw [List.length_take, HN.out] at hw
    by_cases hlt : i < n ∧ i < 400
    · obtain ⟨⟨s, m⟩, hy⟩ : ∃ y, L[i]? = some y := ⟨_, List.getElem?_eq_getElem (by rw [HN.out]; exact hlt.1)⟩
      have hT := fewW_take hy
      obtain ⟨hc0, hc1⟩ := stepCells_get L i s m hy
      obtain ⟨g, off, rfl⟩ : ∃ g off, a = some ⟨g, off, none⟩ := by
        obtain ⟨a', cap', e', -, -, h3, -⟩ := HR.out
        simp only [Value.slice.injEq, true_and] at e'
        obtain ⟨g, off, h4⟩ := h3 (by omega)
        exact ⟨g, off, e'.1.trans h4⟩
      have q0 := HR.out.at hc0
      have x1 : (0 : Int) ≤ (i : Int) := by omega
      have x2 : (i : Int) < (n : Int) := by omega
      have x3 : (i : Int) < 400 := by omega
      clear hy hc0 hc1
      have hT' : fewW (L.take (i + 1)) = fewW (L.take i) + min s.size 20001 := hT
      obtain ⟨W, hW⟩ : ∃ W, fewW (L.take i) = W := ⟨_, rfl⟩
      rw [hW] at hT' hw ⊢
      clear hT hW
      go_wp2_with fail
      exact ⟨⟨i + 1, by omega, by omega, by go_num, by rw [hT']; congr 1; omega⟩, by simp [intOf]; omega⟩
    · by_cases hn4 : n ≤ 400
      · obtain rfl : i = n := by omega
        have ht : L.take i = L.take 400 := by rw [List.take_of_length_le (by rw [HN.out]; exact Nat.le_refl _), List.take_of_length_le (by rw [HN.out]; exact hn4)]
        have HP : Hid (fewW (L.take i) ≤ 20000 ↔ fewP L) := ⟨fun h => ⟨by rw [HN.out]; exact hn4, by rw [← ht]; exact h⟩, fun h => by rw [ht]; exact h.2⟩
        obtain ⟨W, hW⟩ : ∃ W, fewW (L.take i) = W := ⟨_, rfl⟩
        rw [hW] at HP ⊢
        have x1 : (i : Int) ≤ 400 := by omega
        clear hW ht
        by_cases hw2 : W ≤ 20000
        · have x2 : (W : Int) ≤ 20000 := by omega
          go_wp2_with fail
          go_ret
          exact ⟨true, rfl, ⟨fun _ => HP.out.1 hw2, fun _ => rfl⟩, rfl⟩
        · have x2 : ¬ (W : Int) ≤ 20000 := by omega
          go_wp2_with fail
          go_ret
          exact ⟨false, rfl, ⟨(fun h => nomatch h), fun h => absurd (HP.out.2 h) hw2⟩, rfl⟩
      · obtain rfl : i = 400 := by omega
        have x1 : ((400 : Nat) : Int) < (n : Int) := by omega
        have x1' : (400 : Int) < (n : Int) := by omega
        have x2 : ¬ (n : Int) ≤ 400 := by omega
        go_wp2_with fail
        go_ret
        exact ⟨false, rfl, ⟨(fun h => nomatch h), fun h => absurd h.1 (by rw [HN.out]; exact hn4)⟩, rfl⟩
theorem few_yes {L : List (ByteArray × Int)} {v : Value} {w : World} (h : Row w v L.length (stepCells L)) (hf : fewP L) (W : World) (x : Ext w W) :
    Calls Tryd.prog 14 #[v] W fun e w' => e = .returned (.bool true) ∧ W = w' :=
  (few1_any L v W (h.ext x)).mono fun e w' ⟨b, h1, h2, h3⟩ => ⟨by rw [h1, h2.2 hf], h3⟩
theorem few_no {L : List (ByteArray × Int)} {v : Value} {w : World} (h : Row w v L.length (stepCells L)) (hf : ¬ fewP L) (W : World) (x : Ext w W) :
    Calls Tryd.prog 14 #[v] W fun e w' => e = .returned (.bool false) ∧ W = w' :=
  (few1_any L v W (h.ext x)).mono fun e w' ⟨b, h1, h2, h3⟩ => ⟨by
    rw [h1]
    cases b with
    | false => rfl
    | true => exact absurd (h2.1 rfl) hf, h3⟩
/-- the texts of few steps -/
theorem few_text {L : List (ByteArray × Int)} (h : fewP L) (hn : ∀ y ∈ L, -9223372036854775808 ≤ y.2 ∧ y.2 ≤ 9223372036854775807) : (pathT L).length ≤ 1000000 := by
  obtain ⟨h1, h2⟩ := h
  rw [List.take_of_length_le h1] at h2
  have key : ∀ M : List (ByteArray × Int), fewW M ≤ 20000 → (∀ y ∈ M, -9223372036854775808 ≤ y.2 ∧ y.2 ≤ 9223372036854775807) → (pathT M).length ≤ fewW M + 24 * M.length := by
    intro M
    induction M with
    | nil => simp [pathT]
    | cons a t ih =>
      intro hw hb
      obtain ⟨s, m⟩ := a
      have e : fewW ((s, m) :: t) = min s.size 20001 + fewW t := by simp [fewW]
      have hm := hb (s, m) (by simp)
      have := Lib.itoa_length_le m hm.1 hm.2
      have hs : s.data.toList.length = s.size := by rw [Array.length_toList]; rfl
      have := ih (by omega) (fun y hy => hb y (by simp [hy]))
      simp only [pathT, stepT, List.length_append, List.length_cons, List.length_nil, hs]
      omega
  have := key L h2 hn
  omega
set_option maxHeartbeats 8000000 in
set_option maxRecDepth 100000 in
theorem wrapped_any (L : List (ByteArray × Int)) (c : Int) (v : Value) (w : World) (h : Row w v L.length (stepCells L)) (hl : L.length ≤ 1000000) :
    Calls Tryd.prog 15 #[v, .int .i64 c] w fun e w' => ∃ u, e = .returned u ∧ Ext w w' ∧ IsErr w' L c u := by
  obtain ⟨a, cap, rfl⟩ := h.form
  obtain ⟨n, hn⟩ : ∃ n, L.length = n := ⟨_, rfl⟩
  have HN := Lib.hid hn
  rw [hn] at h hl ⊢
  have HR := Lib.hid h
  have m0 : IntKind.i64.wrap ((n : Int) - 1) = (n : Int) - 1 := by rw [IntKind.wrap_i64]; omega
  clear h hn
  go_enter Tryd.func15, Tryd.ntmps15
  go_wp2
  go_loopw [5, 6] (fun ev iv wr => ∃ i : Nat, i ≤ n ∧ iv = .int .i64 ((i : Int) - 1) ∧ Hid (IsErr wr (L.drop i) c ev) ∧ Hid (Ext w wr)) (fun _ iv _ => (intOf iv + 1).toNat)
  case atStart => exact ⟨n, Nat.le_refl _, rfl, by show IsErr _ _ _ _; rw [List.drop_of_length_le (by rw [HN.out]; exact Nat.le_refl _)]; rfl, Ext.refl w⟩
  case round =>
    obtain ⟨i, hi, rfl, HE, HX⟩ := hrel
    by_cases h0 : i = 0
    · subst h0
      go_wp2_with fail
      go_ret
      exact ⟨_, rfl, HX.out, HE.out⟩
    · obtain ⟨j, rfl⟩ : ∃ j, i = j + 1 := ⟨i - 1, by omega⟩
      have e1 : ((j + 1 : Nat) : Int) - 1 = (j : Int) := by omega
      rw [e1]
      obtain ⟨⟨s, m⟩, hy⟩ : ∃ y, L[j]? = some y := ⟨_, List.getElem?_eq_getElem (by rw [HN.out]; omega)⟩
      obtain ⟨hc0, hc1⟩ := stepCells_get L j s m hy
      obtain ⟨g, off, rfl⟩ : ∃ g off, a = some ⟨g, off, none⟩ := by
        obtain ⟨a', cap', e', -, -, h3, -⟩ := HR.out
        simp only [Value.slice.injEq, true_and] at e'
        obtain ⟨g, off, h4⟩ := h3 (by omega)
        exact ⟨g, off, e'.1.trans h4⟩
      have q0 := HX.out.cell (HR.out.at hc0)
      have q1 := HX.out.cell (HR.out.at hc1)
      rw [← Nat.add_assoc] at q1
      have x1 : (0 : Int) ≤ (j : Int) := by omega
      have x2 : (j : Int) < (n : Int) := by omega
      have HD : Hid (L.drop j = (s, m) :: L.drop (j + 1)) := by
        show _ = _
        obtain ⟨hj, hy'⟩ := List.getElem?_eq_some_iff.1 hy
        rw [List.drop_eq_getElem_cons hj, hy']
      have m1 : IntKind.i64.wrap ((j : Int) - 1) = (j : Int) - 1 := by rw [IntKind.wrap_i64]; omega
      clear hy hc0 hc1 e1
      go_wp2_with fail
      go_still_tail 11, (by kernel_rfl)
      change wpList _ _ _ _ _ wr.drew
      have HEz := Lib.hid (HE.out.ext (Ext.refl wr).drew)
      have HXz := Lib.hid (HX.out.drew)
      clear q0 q1 HE HX
      generalize wr.drew = wz at *
      go_wp2_with fail
      refine (in_err s m _ c _ _ HEz.out).mono ?_; rintro e w2 ⟨u2, rfl, x2, h2⟩
      have HE2 : Hid (IsErr w2 (L.drop j) c u2) := by show IsErr _ _ _ _; rw [HD.out]; exact h2
      have HX2 := Lib.hid (HXz.out.trans x2)
      clear h2 x2
      go_wp2
      exact ⟨⟨j, by omega, rfl, HE2, HX2⟩, by simp [intOf]⟩
end Go.Proofs.YtgohlhgapboijaaDoor

/- Errors as fault.Of and fault.Path see them; slices.Equal of steps; fault.Same. -/
namespace Go.Proofs.YtgohlhgapboijaaDoor
set_option linter.unusedVariables false
set_option linter.unusedSimpArgs false
open Go.RowKit Go.Extern.Stop Go.Stop Go.Extern

/-- an error, as fault.Of and fault.Path see it from this world on -/
def Seen (w0 : World) (p : List (ByteArray × Int)) (c : Int) (v : Value) : Prop :=
  ∀ W, Ext w0 W → Calls Tryd.prog 17 #[v] W (fun e w' => e = .returned (.int .i64 c) ∧ Ext W w') ∧ Calls Tryd.prog 16 #[v] W (fun e w' => ∃ u, e = .returned u ∧ Ext W w' ∧ Row w' u p.length (stepCells p))
theorem Seen.ext {w w' : World} {p : List (ByteArray × Int)} {c : Int} {v : Value} (h : Seen w p c v) (k : Ext w w') : Seen w' p c v := fun W x => h W (k.trans x)
theorem seen_err {p : List (ByteArray × Int)} {c : Int} {v : Value} {w : World} (hg : EtIs w) (he : IsErr w p c v) (hp : p.length ≤ 1000000) : Seen w p c v := fun W x =>
  ⟨of_err p c v W (hg.ext x) (he.ext x), (path_err p c v W (hg.ext x) (he.ext x) hp).mono fun e w' ⟨u, h1, h2, h3⟩ => ⟨u, h1, h2, Row.of_owns h3⟩⟩
theorem seen_nil {w : World} (hg : EtIs w) : Seen w [] 0 .nilIface := fun W x => ⟨of_nil W, (path_nil W (hg.ext x)).mono fun e w' ⟨h1, h2⟩ => ⟨_, h1, h2, Row.nil w'⟩⟩
/-- a truth that an answer tells -/
def Tells (P : Prop) (w : World) (e : Ending) (w' : World) : Prop := ∃ b : Bool, e = .returned (.bool b) ∧ (b = true ↔ P) ∧ Ext w w'
theorem neq_same (s : ByteArray) (m : Int) (w : World) : (binOp .neq 34 (.agg #[.string s, .int .i64 m]) (.agg #[.string s, .int .i64 m])).run Tryd.prog w = .ok (.bool false) w := by
  have hS : Tryd.prog.underlying 34 = some (.struct (Tryd.prog.fieldsOf 34)) := by kernel_rfl
  have hp : Tryd.prog.stoodInHeld 34 = false := by kernel_rfl
  rw [run_neq_struct, show (10000 : Nat) = 9999 + 1 from rfl, run_equalIn_agg w 9999 34 _ _ hS hp]
  simp only [Program.fieldsOf, Tryd.underlying34]
  go_simp
theorem str_eq (s s' : ByteArray) : (s.toList == s'.toList) = decide (s = s') := by
  rw [ByteArray.toList_eq, ByteArray.toList_eq]
  by_cases h : s = s'
  · subst h; simp
  · rw [decide_eq_false h]
    refine beq_eq_false_iff_ne.2 fun e => h ?_
    obtain ⟨⟨x⟩⟩ := s
    obtain ⟨⟨y⟩⟩ := s'
    simp at e
    rw [e]
theorem neq_other (s s' : ByteArray) (m m' : Int) (w : World) (h : ¬ (s = s' ∧ m = m')) : (binOp .neq 34 (.agg #[.string s, .int .i64 m]) (.agg #[.string s', .int .i64 m'])).run Tryd.prog w = .ok (.bool true) w := by
  have hS : Tryd.prog.underlying 34 = some (.struct (Tryd.prog.fieldsOf 34)) := by kernel_rfl
  have hp : Tryd.prog.stoodInHeld 34 = false := by kernel_rfl
  have hb := str_eq s s'
  rw [run_neq_struct, show (10000 : Nat) = 9999 + 1 from rfl, run_equalIn_agg w 9999 34 _ _ hS hp]
  simp only [Program.fieldsOf, Tryd.underlying34]
  go_simp
  by_cases h1 : s = s' <;> by_cases h2 : m = m' <;> simp_all
set_option maxHeartbeats 4000000 in
set_option maxRecDepth 100000 in
/-- slices.Equal of steps -/
theorem equal_steps (L M : List (ByteArray × Int)) (va vb : Value) (w : World) (ha : Row w va L.length (stepCells L)) (hb : Row w vb M.length (stepCells M)) (hl : L.length ≤ 1000000) :
    Calls Tryd.prog 48 #[va, vb] w (Tells (L = M) w) := by
  obtain ⟨n, hn⟩ : ∃ n, L.length = n := ⟨_, rfl⟩
  obtain ⟨m, hm⟩ : ∃ m, M.length = m := ⟨_, rfl⟩
  have HN := Lib.hid hn
  have HM := Lib.hid hm
  rw [hn] at ha hl
  rw [hm] at hb
  obtain ⟨a, ca, rfl⟩ := ha.form
  obtain ⟨b, cb, rfl⟩ := hb.form
  have HA := Lib.hid ha
  have HB := Lib.hid hb
  clear ha hb hn hm
  by_cases hnm : n = m
  · subst hnm
    go_enter Tryd.func48, Tryd.ntmps48
    go_wp2
    go_loopw [13] (fun i wr => ∃ k : Nat, k ≤ n ∧ i = .int .i64 k ∧ Hid (Ext w wr) ∧ Hid (∀ j, j < k → L[j]? = M[j]?)) (fun i _ => n - (intOf i).toNat)
    case atStart => exact ⟨0, Nat.zero_le _, rfl, Ext.refl w, fun j hj => absurd hj (Nat.not_lt_zero _)⟩
    case round =>
      obtain ⟨k, hk, rfl, HE, HJ⟩ := hrel
      by_cases hlt : k < n
      · obtain ⟨g, off, rfl⟩ : ∃ g off, a = some ⟨g, off, none⟩ := by
          obtain ⟨a', cap', e', -, -, h3, -⟩ := HA.out
          simp only [Value.slice.injEq, true_and] at e'
          obtain ⟨g, off, h4⟩ := h3 (by omega)
          exact ⟨g, off, e'.1.trans h4⟩
        obtain ⟨g', off', rfl⟩ : ∃ g off, b = some ⟨g, off, none⟩ := by
          obtain ⟨a', cap', e', -, -, h3, -⟩ := HB.out
          simp only [Value.slice.injEq, true_and] at e'
          obtain ⟨g, off, h4⟩ := h3 (by omega)
          exact ⟨g, off, e'.1.trans h4⟩
        obtain ⟨⟨s, z⟩, hx⟩ : ∃ y, L[k]? = some y := ⟨_, List.getElem?_eq_getElem (by rw [HN.out]; exact hlt)⟩
        obtain ⟨⟨s', z'⟩, hy⟩ : ∃ y, M[k]? = some y := ⟨_, List.getElem?_eq_getElem (by rw [HM.out]; exact hlt)⟩
        obtain ⟨x0, x1⟩ := stepCells_get L k s z hx
        obtain ⟨y0, y1⟩ := stepCells_get M k s' z' hy
        have p0 := HE.out.cell (HA.out.at x0)
        have p1 := HE.out.cell (HA.out.at x1)
        have q0 := HE.out.cell (HB.out.at y0)
        have q1 := HE.out.cell (HB.out.at y1)
        rw [← Nat.add_assoc] at p1 q1
        have HX := Lib.hid hx
        have HY := Lib.hid hy
        have t1 : (0 : Int) ≤ (k : Int) := by omega
        have t2 : (k : Int) < (n : Int) := by omega
        clear hx hy x0 x1 y0 y1
        by_cases hxy : s = s' ∧ z = z'
        · obtain ⟨rfl, rfl⟩ := hxy
          have nq := neq_same s z
          go_wp2
          go_quiet (fail)
          go_wp2
          go_roundw
          case rel => exact ⟨k + 1, by omega, by go_num, HE.out.drewN _, fun j hj => by
            by_cases hjk : j = k
            · subst hjk; rw [HX.out, HY.out]
            · exact HJ.out j (by omega)⟩
          case measure => simp [intOf]; omega
        · have nq := fun W => neq_other s s' z z' W hxy
          have HXY := Lib.hid hxy
          clear hxy
          go_wp2
          go_quiet (fail)
          go_wp2
          go_ret
          refine ⟨false, rfl, ⟨(fun h => nomatch h), (fun e => ?_)⟩, HE.out.drewN _⟩
          have h1 := HX.out
          rw [e, HY.out] at h1
          simp only [Option.some.injEq, Prod.mk.injEq] at h1
          exact absurd ⟨h1.1.symm, h1.2.symm⟩ HXY.out
      · go_wp2
        go_ret
        refine ⟨true, rfl, ⟨fun _ => ?_, fun _ => rfl⟩, HE.out⟩
        refine List.ext_getElem? fun j => ?_
        by_cases hj : j < n
        · exact HJ.out j (by omega)
        · rw [List.getElem?_eq_none (by rw [HN.out]; omega), List.getElem?_eq_none (by rw [HM.out]; omega)]
  · have hne : ((n : Int) != (m : Int)) = true := by simp; omega
    have HXY : Hid (¬ L = M) := fun e => hnm (by rw [← HN.out, ← HM.out, e])
    go_enter Tryd.func48, Tryd.ntmps48
    go_wp2
    go_ret
    exact ⟨false, rfl, ⟨(fun h => nomatch h), (fun e => absurd e HXY.out)⟩, Ext.refl w⟩
set_option maxHeartbeats 4000000 in
set_option maxRecDepth 100000 in
/-- fault.Same -/
theorem fsame_any (p q : List (ByteArray × Int)) (c d : Int) (a b : Value) (w : World) (ha : Seen w p c a) (hb : Seen w q d b) (hp : p.length ≤ 1000000) :
    Calls Tryd.prog 26 #[a, b] w (Tells (c = d ∧ p = q) w) := by
  have HA := Lib.hid ha
  have HB := Lib.hid hb
  clear ha hb
  by_cases hcd : c = d
  · subst hcd
    go_enter Tryd.func26, Tryd.ntmps26
    go_wp2_with fail
    refine (HA.out _ (Ext.refl _)).1.mono ?_; rintro e w1 ⟨rfl, x1⟩
    go_wp2_with fail
    refine (HB.out _ x1).1.mono ?_; rintro e w2 ⟨rfl, x2⟩
    have X2 := Lib.hid (x1.trans x2)
    clear x1 x2
    have hcc : (c == c) = true := by simp
    go_wp2_with fail
    refine (HA.out _ X2.out).2.mono ?_; rintro e w3 ⟨u3, rfl, x3, r3⟩
    have X3 := Lib.hid (X2.out.trans x3)
    clear X2 x3
    have R3 := Lib.hid r3
    clear r3
    go_wp2_with fail
    refine (HB.out _ X3.out).2.mono ?_; rintro e w4 ⟨u4, rfl, x4, r4⟩
    have X4 := Lib.hid (X3.out.trans x4)
    have R34 := Lib.hid (R3.out.ext x4)
    have R4 := Lib.hid r4
    clear X3 x4 r4 R3
    go_wp2_with fail
    refine (equal_steps p q _ _ _ R34.out R4.out hp).mono ?_; rintro e w5 ⟨t, rfl, ht, x5⟩
    have X5 := Lib.hid (X4.out.trans x5)
    have HT := Lib.hid ht
    clear x5 ht
    cases t with
    | true =>
      go_wp2
      go_ret
      exact ⟨true, rfl, by have h := HT.out; simpa using h, X5.out⟩
    | false =>
      go_wp2
      go_ret
      exact ⟨false, rfl, by have h := HT.out; simpa using h, X5.out⟩
  · have HC := Lib.hid hcd
    have hcc : (c == d) = false := by simpa using hcd
    clear hcd
    go_enter Tryd.func26, Tryd.ntmps26
    go_wp2_with fail
    refine (HA.out _ (Ext.refl _)).1.mono ?_; rintro e w1 ⟨rfl, x1⟩
    go_wp2_with fail
    refine (HB.out _ x1).1.mono ?_; rintro e w2 ⟨rfl, x2⟩
    have X2 := Lib.hid (x1.trans x2)
    clear x1 x2
    go_wp2
    go_ret
    exact ⟨false, rfl, ⟨(fun h => nomatch h), fun h => absurd h.1 HC.out⟩, X2.out⟩
end Go.Proofs.YtgohlhgapboijaaDoor

/- kinlaw1.FaultSame: the walk. -/
namespace Go.Proofs.YtgohlhgapboijaaDoor
set_option linter.unusedVariables false
set_option linter.unusedSimpArgs false
open Go.RowKit Go.Extern.Stop Go.Stop Go.Extern

theorem eql_same (s : ByteArray) (m : Int) (w : World) : (binOp .eql 34 (.agg #[.string s, .int .i64 m]) (.agg #[.string s, .int .i64 m])).run Tryd.prog w = .ok (.bool true) w := by
  have hS : Tryd.prog.underlying 34 = some (.struct (Tryd.prog.fieldsOf 34)) := by kernel_rfl
  have hp : Tryd.prog.stoodInHeld 34 = false := by kernel_rfl
  rw [run_eql_struct, show (10000 : Nat) = 9999 + 1 from rfl, run_equalIn_agg w 9999 34 _ _ hS hp]
  simp only [Program.fieldsOf, Tryd.underlying34]
  go_simp
theorem eql_other (s s' : ByteArray) (m m' : Int) (w : World) (h : ¬ (s = s' ∧ m = m')) : (binOp .eql 34 (.agg #[.string s, .int .i64 m]) (.agg #[.string s', .int .i64 m'])).run Tryd.prog w = .ok (.bool false) w := by
  have hS : Tryd.prog.underlying 34 = some (.struct (Tryd.prog.fieldsOf 34)) := by kernel_rfl
  have hp : Tryd.prog.stoodInHeld 34 = false := by kernel_rfl
  have hb := str_eq s s'
  rw [run_eql_struct, show (10000 : Nat) = 9999 + 1 from rfl, run_equalIn_agg w 9999 34 _ _ hS hp]
  simp only [Program.fieldsOf, Tryd.underlying34]
  go_simp
  by_cases h1 : s = s' <;> by_cases h2 : m = m' <;> simp_all
/-- what the loop has found up to i -/
def SmAt (c d : Int) (L M : List (ByteArray × Int)) (i : Nat) (b : Bool) : Prop := b = true ↔ (c = d ∧ L.length = M.length) ∧ ∀ j, j < i → L[j]? = M[j]?
theorem SmAt.step {c d : Int} {L M : List (ByteArray × Int)} {i : Nat} {b : Bool} (h : SmAt c d L M i b) (t : Bool) (ht : t = true ↔ L[i]? = M[i]?) : SmAt c d L M (i + 1) (b && t) := by
  unfold SmAt at *
  rw [Bool.and_eq_true, h, ht]
  constructor
  · rintro ⟨⟨h1, h2⟩, h3⟩
    exact ⟨h1, fun j hj => by
      by_cases e : j = i
      · subst e; exact h3
      · exact h2 j (by omega)⟩
  · rintro ⟨h1, h2⟩
    exact ⟨⟨h1, fun j hj => h2 j (by omega)⟩, h2 i (by omega)⟩
theorem SmAt.done {c d : Int} {L M : List (ByteArray × Int)} {i : Nat} {b : Bool} (h : SmAt c d L M i b) (hi : ¬ (i < L.length ∧ i < M.length)) : b = true ↔ c = d ∧ L = M := by
  unfold SmAt at h
  rw [h]
  constructor
  · rintro ⟨⟨h1, h2⟩, h3⟩
    refine ⟨h1, List.ext_getElem? fun j => ?_⟩
    by_cases hj : j < i
    · exact h3 j hj
    · rw [List.getElem?_eq_none (by omega), List.getElem?_eq_none (by omega)]
  · rintro ⟨rfl, rfl⟩
    exact ⟨⟨rfl, rfl⟩, fun _ _ => rfl⟩
theorem bool_same {P : Prop} {a b : Bool} (ha : a = true ↔ P) (hb : b = true ↔ P) : a = b := by
  cases a <;> cases b <;> simp_all
/-- a slice of steps that are there has an address -/
theorem row_had {w : World} {a : Option Addr} {n cap : Nat} {xs : List Value} (h : Row w (.slice a n cap) n xs) (hn : 0 < n) : ∃ g off, a = some ⟨g, off, none⟩ := by
  obtain ⟨a', cap', e', -, -, h3, -⟩ := h
  simp only [Value.slice.injEq, true_and] at e'
  obtain ⟨g, off, h4⟩ := h3 hn
  exact ⟨g, off, e'.1.trans h4⟩
set_option maxHeartbeats 8000000 in
set_option maxRecDepth 100000 in
/-- the law, where the steps are few -/
theorem same_few (L M : List (ByteArray × Int)) (c d : Int) (va vb : Value) (w : World) (hg : EtIs w) (hT : PwIs w) (ra : Row w va L.length (stepCells L)) (rb : Row w vb M.length (stepCells M)) (fl : L.length ≤ 400) (fm : M.length ≤ 400)
    (FL : ∀ W, Ext w W → Calls Tryd.prog 14 #[va] W fun e w' => e = .returned (.bool true) ∧ W = w') (FM : ∀ W, Ext w W → Calls Tryd.prog 14 #[vb] W fun e w' => e = .returned (.bool true) ∧ W = w') :
    Calls Tryd.prog 6 #[va, vb, .int .i64 c, .int .i64 d] w fun e w' => e = .returned (.bool true) ∧ Ext w w' := by
  have WL := Lib.hid (fun (W : World) (x : Ext w W) (k : Int) => wrapped_any L k va W (ra.ext x) (by omega))
  have WM := Lib.hid (fun (W : World) (x : Ext w W) (k : Int) => wrapped_any M k vb W (rb.ext x) (by omega))
  have HG := Lib.hid hg
  have HT := Lib.hid hT
  have HFL := Lib.hid FL
  have HFM := Lib.hid FM
  have HL0 : Hid (L.length ≤ 1000000) := by show _ ≤ _; omega
  have HM0 : Hid (M.length ≤ 1000000) := by show _ ≤ _; omega
  obtain ⟨n, hn⟩ : ∃ n, L.length = n := ⟨_, rfl⟩
  obtain ⟨m, hm⟩ : ∃ m, M.length = m := ⟨_, rfl⟩
  have HN := Lib.hid hn
  have HM := Lib.hid hm
  rw [hn] at ra fl
  rw [hm] at rb fm
  obtain ⟨a, ca, rfl⟩ := ra.form
  obtain ⟨b, cb, rfl⟩ := rb.form
  have RA := Lib.hid ra
  have RB := Lib.hid rb
  clear hg hT FL FM ra rb hn hm
  obtain ⟨cd, hcd⟩ : ∃ cd, decide (c = d) = cd := ⟨_, rfl⟩
  obtain ⟨nm, hnm⟩ : ∃ nm, decide (n = m) = nm := ⟨_, rfl⟩
  have e1 : (c == d) = cd := by rw [← hcd]; by_cases h : c = d <;> simp [h]
  have e2 : ((n : Int) == (m : Int)) = nm := by rw [← hnm]; by_cases h : n = m <;> simp [h]; omega
  have HS0 : Hid (SmAt c d L M 0 (cd && nm)) := by
    show SmAt _ _ _ _ _ _
    unfold SmAt
    rw [Bool.and_eq_true, ← hcd, ← hnm, decide_eq_true_iff, decide_eq_true_iff, HN.out, HM.out]
    exact ⟨fun h => ⟨h, fun j hj => absurd hj (Nat.not_lt_zero _)⟩, fun h => h.1⟩
  clear hcd hnm
  go_enter Tryd.func6, Tryd.ntmps6
  go_wp2_with fail
  refine (first1_any _ HG.out HT.out).mono ?_; rintro e w1 ⟨rfl, x1⟩
  have HX1 := Lib.hid x1
  clear x1
  go_wp2_with fail
  refine (HFL.out _ HX1.out).mono ?_; rintro e w2 ⟨rfl, rfl⟩
  go_wp2_with fail
  refine (HFM.out _ HX1.out).mono ?_; rintro e w2 ⟨rfl, rfl⟩
  go_upto_region 5 with fail
  go_cut [9] (fun s9 wx => s9 = .bool (cd && nm) ∧ wx = w1)
  case first =>
    cases cd with
    | true =>
      cases nm with
      | true => go_wp2_with fail; go_meet; exact ⟨rfl, rfl⟩
      | false => go_wp2_with fail; go_meet; exact ⟨rfl, rfl⟩
    | false => go_wp2_with fail; go_meet; exact ⟨rfl, rfl⟩
  obtain ⟨rfl, rfl⟩ := hcut
  obtain ⟨b0, hb0⟩ : ∃ b0, (cd && nm) = b0 := ⟨_, rfl⟩
  rw [hb0] at HS0 ⊢
  clear hb0 e1 e2
  go_wp2_with fail
  go_loopw [9, 10] (fun sv iv wr => ∃ (i : Nat) (t : Bool), i ≤ n ∧ i ≤ m ∧ iv = .int .i64 (i : Int) ∧ sv = .bool t ∧ Hid (SmAt c d L M i t) ∧ Hid (Ext w wr)) (fun _ iv _ => n - (intOf iv).toNat)
  case atStart => exact ⟨0, b0, Nat.zero_le _, Nat.zero_le _, rfl, rfl, HS0, HX1⟩
  case round =>
    obtain ⟨i, t, hi, hi2, rfl, rfl, HS, HX⟩ := hrel
    by_cases hlt : i < n
    · by_cases hlt2 : i < m
      · obtain ⟨g, off, rfl⟩ := row_had RA.out (by omega)
        obtain ⟨g', off', rfl⟩ := row_had RB.out (by omega)
        obtain ⟨⟨s, z⟩, hx⟩ : ∃ y, L[i]? = some y := ⟨_, List.getElem?_eq_getElem (by rw [HN.out]; exact hlt)⟩
        obtain ⟨⟨s', z'⟩, hy⟩ : ∃ y, M[i]? = some y := ⟨_, List.getElem?_eq_getElem (by rw [HM.out]; exact hlt2)⟩
        obtain ⟨x0, x1⟩ := stepCells_get L i s z hx
        obtain ⟨y0, y1⟩ := stepCells_get M i s' z' hy
        have p0 := HX.out.cell (RA.out.at x0)
        have p1 := HX.out.cell (RA.out.at x1)
        have q0 := HX.out.cell (RB.out.at y0)
        have q1 := HX.out.cell (RB.out.at y1)
        rw [← Nat.add_assoc] at p1 q1
        have HXY : Hid ((s = s' ∧ z = z') ↔ L[i]? = M[i]?) := by show _ ↔ _; rw [hx, hy]; simp
        have t1 : (0 : Int) ≤ (i : Int) := by omega
        have t2 : (i : Int) < (n : Int) := by omega
        have t3 : (i : Int) < (m : Int) := by omega
        clear hx hy x0 x1 y0 y1
        cases t with
        | false =>
          have HS' : Hid (SmAt c d L M (i + 1) false) := by have h := HS.out.step (decide (L[i]? = M[i]?)) (by simp); exact h
          go_wp2
          go_quiet (fail)
          go_wp2
          exact ⟨⟨i + 1, false, by omega, by omega, by go_num, rfl, HS', HX.out.drewN _⟩, by simp [intOf]; omega⟩
        | true =>
          by_cases hxy : s = s' ∧ z = z'
          · have HS' : Hid (SmAt c d L M (i + 1) true) := by have h := HS.out.step true (by simp [HXY.out.1 hxy]); exact h
            obtain ⟨rfl, rfl⟩ := hxy
            have nq := eql_same s z
            go_wp2
            go_quiet (fail)
            go_wp2
            exact ⟨⟨i + 1, true, by omega, by omega, by go_num, rfl, HS', HX.out.drewN _⟩, by simp [intOf]; omega⟩
          · have nq := fun W => eql_other s s' z z' W hxy
            have HS' : Hid (SmAt c d L M (i + 1) false) := by have h := HS.out.step false (by simp; exact fun e => hxy (HXY.out.2 e)); exact h
            clear hxy
            go_wp2
            go_quiet (fail)
            go_wp2
            exact ⟨⟨i + 1, false, by omega, by omega, by go_num, rfl, HS', HX.out.drewN _⟩, by simp [intOf]; omega⟩
      · have HD := Lib.hid (HS.out.done (by rw [HN.out, HM.out]; exact fun h => hlt2 h.2))
        have t2 : (i : Int) < (n : Int) := by omega
        have t3 : ¬ (i : Int) < (m : Int) := by omega
        go_wp2_with fail
        refine (WL.out _ HX.out c).mono ?_; rintro e w3 ⟨u3, rfl, x3, h3⟩
        have HX3 := Lib.hid (HX.out.trans x3)
        have HE3 := Lib.hid h3
        clear x3 h3
        go_wp2_with fail
        refine (WM.out _ HX3.out d).mono ?_; rintro e w4 ⟨u4, rfl, x4, h4⟩
        have HX4 := Lib.hid (HX3.out.trans x4)
        have SA := Lib.hid (seen_err (HG.out.ext HX4.out) (HE3.out.ext x4) HL0.out)
        have SB := Lib.hid (seen_err (HG.out.ext HX4.out) h4 HM0.out)
        clear x4 h4 HX3 HE3
        go_wp2_with fail
        refine (first1_any _ (HG.out.ext HX4.out) (HT.out.ext HX4.out)).mono ?_; rintro e w5 ⟨rfl, x5⟩
        have HX5 := Lib.hid (HX4.out.trans x5)
        have HZ := Lib.hid x5
        clear x5
        go_wp2_with fail
        refine (fsame_any L M c d _ _ _ (SA.out.ext HZ.out) (SB.out.ext HZ.out) HL0.out).mono ?_; rintro e w6 ⟨b6, rfl, k6, x6⟩
        obtain rfl := bool_same k6 HD.out
        have HX6 := Lib.hid (HX5.out.trans x6)
        have HZ6 := Lib.hid (HZ.out.trans x6)
        clear x6 HZ k6 HX5
        have hbb : (b6 == b6) = true := by simp
        go_wp2_with fail
        refine (fsame_any L L c c _ _ _ (SA.out.ext HZ6.out) (SA.out.ext HZ6.out) HL0.out).mono ?_; rintro e w7 ⟨b7, rfl, k7, x7⟩
        obtain rfl : b7 = true := k7.2 ⟨rfl, rfl⟩
        have HX7 := Lib.hid (HX6.out.trans x7)
        have HZ7 := Lib.hid (HZ6.out.trans x7)
        clear x7 HZ6 k7 HX6
        go_wp2_with fail
        refine (WL.out _ HX7.out c).mono ?_; rintro e w8 ⟨u8, rfl, x8, h8⟩
        have HX8 := Lib.hid (HX7.out.trans x8)
        have HZ8 := Lib.hid (HZ7.out.trans x8)
        have S8 := Lib.hid (seen_err (HG.out.ext HX8.out) h8 HL0.out)
        clear x8 h8 HX7 HZ7
        go_wp2_with fail
        refine (fsame_any L L c c _ _ _ S8.out (SA.out.ext HZ8.out) HL0.out).mono ?_; rintro e w9 ⟨b9, rfl, k9, x9⟩
        obtain rfl : b9 = true := k9.2 ⟨rfl, rfl⟩
        have HX9 := Lib.hid (HX8.out.trans x9)
        have HZ9 := Lib.hid (HZ8.out.trans x9)
        clear x9 HX8 HZ8 k9 S8
        go_wp2_with fail
        refine (fsame_any L [] c 0 _ _ _ (SA.out.ext HZ9.out) (seen_nil (HG.out.ext HX9.out)) HL0.out).mono ?_; rintro e w10 ⟨b10, rfl, k10, x10⟩
        have HX10 := Lib.hid (HX9.out.trans x10)
        have HK10 := Lib.hid k10
        clear x10 HX9 HZ9 k10
        by_cases c0 : c = 0
        · by_cases n0 : n = 0
          · obtain rfl : b10 = true := HK10.out.2 ⟨c0, List.eq_nil_of_length_eq_zero (by rw [HN.out]; exact n0)⟩
            have e1 : (c == 0) = true := by simp [c0]
            have e2 : ((n : Int) == 0) = true := by simp [n0]
            clear c0 n0
            go_wp2_with fail
            refine (fsame_any [] [] 0 0 _ _ _ (seen_nil (HG.out.ext HX10.out)) (seen_nil (HG.out.ext HX10.out)) (by simp)).mono ?_; rintro e w11 ⟨b11, rfl, k11, x11⟩
            obtain rfl : b11 = true := k11.2 ⟨rfl, rfl⟩
            go_wp2
            go_ret
            exact ⟨rfl, HX10.out.trans x11⟩
          · obtain rfl : b10 = false := by
              cases b10 with
              | false => rfl
              | true => exact absurd (by rw [← HN.out, (HK10.out.1 rfl).2]; rfl) n0
            have e1 : (c == 0) = true := by simp [c0]
            have e2 : ((n : Int) == 0) = false := by simp; omega
            clear c0 n0
            go_wp2_with fail
            refine (fsame_any [] [] 0 0 _ _ _ (seen_nil (HG.out.ext HX10.out)) (seen_nil (HG.out.ext HX10.out)) (by simp)).mono ?_; rintro e w11 ⟨b11, rfl, k11, x11⟩
            obtain rfl : b11 = true := k11.2 ⟨rfl, rfl⟩
            go_wp2
            go_ret
            exact ⟨rfl, HX10.out.trans x11⟩
        · obtain rfl : b10 = false := by
            cases b10 with
            | false => rfl
            | true => exact absurd (HK10.out.1 rfl).1 c0
          have e1 : (c == 0) = false := by simp [c0]
          clear c0
          go_wp2_with fail
          refine (fsame_any [] [] 0 0 _ _ _ (seen_nil (HG.out.ext HX10.out)) (seen_nil (HG.out.ext HX10.out)) (by simp)).mono ?_; rintro e w11 ⟨b11, rfl, k11, x11⟩
          obtain rfl : b11 = true := k11.2 ⟨rfl, rfl⟩
          go_wp2
          go_ret
          exact ⟨rfl, HX10.out.trans x11⟩
    · have HD := Lib.hid (HS.out.done (by rw [HN.out, HM.out]; exact fun h => hlt h.1))
      have t3 : ¬ (i : Int) < (n : Int) := by omega
      go_wp2_with fail
      refine (WL.out _ HX.out c).mono ?_; rintro e w3 ⟨u3, rfl, x3, h3⟩
      have HX3 := Lib.hid (HX.out.trans x3)
      have HE3 := Lib.hid h3
      clear x3 h3
      go_wp2_with fail
      refine (WM.out _ HX3.out d).mono ?_; rintro e w4 ⟨u4, rfl, x4, h4⟩
      have HX4 := Lib.hid (HX3.out.trans x4)
      have SA := Lib.hid (seen_err (HG.out.ext HX4.out) (HE3.out.ext x4) HL0.out)
      have SB := Lib.hid (seen_err (HG.out.ext HX4.out) h4 HM0.out)
      clear x4 h4 HX3 HE3
      go_wp2_with fail
      refine (first1_any _ (HG.out.ext HX4.out) (HT.out.ext HX4.out)).mono ?_; rintro e w5 ⟨rfl, x5⟩
      have HX5 := Lib.hid (HX4.out.trans x5)
      have HZ := Lib.hid x5
      clear x5
      go_wp2_with fail
      refine (fsame_any L M c d _ _ _ (SA.out.ext HZ.out) (SB.out.ext HZ.out) HL0.out).mono ?_; rintro e w6 ⟨b6, rfl, k6, x6⟩
      obtain rfl := bool_same k6 HD.out
      have HX6 := Lib.hid (HX5.out.trans x6)
      have HZ6 := Lib.hid (HZ.out.trans x6)
      clear x6 HZ k6 HX5
      have hbb : (b6 == b6) = true := by simp
      go_wp2_with fail
      refine (fsame_any L L c c _ _ _ (SA.out.ext HZ6.out) (SA.out.ext HZ6.out) HL0.out).mono ?_; rintro e w7 ⟨b7, rfl, k7, x7⟩
      obtain rfl : b7 = true := k7.2 ⟨rfl, rfl⟩
      have HX7 := Lib.hid (HX6.out.trans x7)
      have HZ7 := Lib.hid (HZ6.out.trans x7)
      clear x7 HZ6 k7 HX6
      go_wp2_with fail
      refine (WL.out _ HX7.out c).mono ?_; rintro e w8 ⟨u8, rfl, x8, h8⟩
      have HX8 := Lib.hid (HX7.out.trans x8)
      have HZ8 := Lib.hid (HZ7.out.trans x8)
      have S8 := Lib.hid (seen_err (HG.out.ext HX8.out) h8 HL0.out)
      clear x8 h8 HX7 HZ7
      go_wp2_with fail
      refine (fsame_any L L c c _ _ _ S8.out (SA.out.ext HZ8.out) HL0.out).mono ?_; rintro e w9 ⟨b9, rfl, k9, x9⟩
      obtain rfl : b9 = true := k9.2 ⟨rfl, rfl⟩
      have HX9 := Lib.hid (HX8.out.trans x9)
      have HZ9 := Lib.hid (HZ8.out.trans x9)
      clear x9 HX8 HZ8 k9 S8
      go_wp2_with fail
      refine (fsame_any L [] c 0 _ _ _ (SA.out.ext HZ9.out) (seen_nil (HG.out.ext HX9.out)) HL0.out).mono ?_; rintro e w10 ⟨b10, rfl, k10, x10⟩
      have HX10 := Lib.hid (HX9.out.trans x10)
      have HK10 := Lib.hid k10
      clear x10 HX9 HZ9 k10
      by_cases c0 : c = 0
      · by_cases n0 : n = 0
        · obtain rfl : b10 = true := HK10.out.2 ⟨c0, List.eq_nil_of_length_eq_zero (by rw [HN.out]; exact n0)⟩
          have e1 : (c == 0) = true := by simp [c0]
          have e2 : ((n : Int) == 0) = true := by simp [n0]
          clear c0 n0
          go_wp2_with fail
          refine (fsame_any [] [] 0 0 _ _ _ (seen_nil (HG.out.ext HX10.out)) (seen_nil (HG.out.ext HX10.out)) (by simp)).mono ?_; rintro e w11 ⟨b11, rfl, k11, x11⟩
          obtain rfl : b11 = true := k11.2 ⟨rfl, rfl⟩
          go_wp2
          go_ret
          exact ⟨rfl, HX10.out.trans x11⟩
        · obtain rfl : b10 = false := by
            cases b10 with
            | false => rfl
            | true => exact absurd (by rw [← HN.out, (HK10.out.1 rfl).2]; rfl) n0
          have e1 : (c == 0) = true := by simp [c0]
          have e2 : ((n : Int) == 0) = false := by simp; omega
          clear c0 n0
          go_wp2_with fail
          refine (fsame_any [] [] 0 0 _ _ _ (seen_nil (HG.out.ext HX10.out)) (seen_nil (HG.out.ext HX10.out)) (by simp)).mono ?_; rintro e w11 ⟨b11, rfl, k11, x11⟩
          obtain rfl : b11 = true := k11.2 ⟨rfl, rfl⟩
          go_wp2
          go_ret
          exact ⟨rfl, HX10.out.trans x11⟩
      · obtain rfl : b10 = false := by
          cases b10 with
          | false => rfl
          | true => exact absurd (HK10.out.1 rfl).1 c0
        have e1 : (c == 0) = false := by simp [c0]
        clear c0
        go_wp2_with fail
        refine (fsame_any [] [] 0 0 _ _ _ (seen_nil (HG.out.ext HX10.out)) (seen_nil (HG.out.ext HX10.out)) (by simp)).mono ?_; rintro e w11 ⟨b11, rfl, k11, x11⟩
        obtain rfl : b11 = true := k11.2 ⟨rfl, rfl⟩
        go_wp2
        go_ret
        exact ⟨rfl, HX10.out.trans x11⟩
set_option maxHeartbeats 4000000 in
set_option maxRecDepth 100000 in
theorem same_law (L M : List (ByteArray × Int)) (c d : Int) (va vb : Value) (w : World) (hg : EtIs w) (hT : PwIs w) (ra : Row w va L.length (stepCells L)) (rb : Row w vb M.length (stepCells M)) :
    Calls Tryd.prog 6 #[va, vb, .int .i64 c, .int .i64 d] w fun e w' => e = .returned (.bool true) ∧ Ext w w' := by
  by_cases fl : fewP L
  · by_cases fm : fewP M
    · exact same_few L M c d va vb w hg hT ra rb fl.1 fm.1 (few_yes ra fl) (few_yes rb fm)
    · have FL := Lib.hid (few_yes ra fl)
      have FM := Lib.hid (few_no rb fm)
      have HG := Lib.hid hg
      have HT := Lib.hid hT
      clear hg hT ra rb fl fm
      go_enter Tryd.func6, Tryd.ntmps6
      go_wp2_with fail
      refine (first1_any _ HG.out HT.out).mono ?_; rintro e w1 ⟨rfl, x1⟩
      go_wp2_with fail
      refine (FL.out _ x1).mono ?_; rintro e w2 ⟨rfl, rfl⟩
      go_wp2_with fail
      refine (FM.out _ x1).mono ?_; rintro e w2 ⟨rfl, rfl⟩
      go_wp2_with fail
      refine (first1_any _ (HG.out.ext x1) (HT.out.ext x1)).mono ?_; rintro e w3 ⟨rfl, x3⟩
      go_wp2
      go_ret
      exact ⟨rfl, x1.trans x3⟩
  · have FL := Lib.hid (few_no ra fl)
    have HG := Lib.hid hg
    have HT := Lib.hid hT
    clear hg hT ra rb fl
    go_enter Tryd.func6, Tryd.ntmps6
    go_wp2_with fail
    refine (first1_any _ HG.out HT.out).mono ?_; rintro e w1 ⟨rfl, x1⟩
    go_wp2_with fail
    refine (FL.out _ x1).mono ?_; rintro e w2 ⟨rfl, rfl⟩
    go_wp2_with fail
    refine (first1_any _ (HG.out.ext x1) (HT.out.ext x1)).mono ?_; rintro e w3 ⟨rfl, x3⟩
    go_wp2
    go_ret
    exact ⟨rfl, x1.trans x3⟩
end Go.Proofs.YtgohlhgapboijaaDoor

/- errors.Unwrap. -/
namespace Go.Proofs.YtgohlhgapboijaaDoor
set_option linter.unusedVariables false
set_option linter.unusedSimpArgs false
open Go.RowKit Go.Extern.Stop Go.Stop Go.Extern

/-- errors.Unwrap of a code -/
theorem Unwrap_code (c : Int) (w : World) : Calls Tryd.prog 23 #[.iface 23 (.int .i64 c)] w fun e w' => e = .returned .nilIface ∧ w = w' := by
  have nUC := noUnwrapC
  go_enter Tryd.func23, Tryd.ntmps23
  go_wp2
  go_ret
  exact ⟨rfl, rfl⟩
/-- errors.Unwrap of a Fault -/
theorem Unwrap_fault (b : Nat) (u : Value) (w : World) (h : w.cell? ⟨b, 2, none⟩ = some u) : Calls Tryd.prog 23 #[.iface 38 (.pointer (some ⟨b, 0, none⟩))] w fun e w' => e = .returned u ∧ w = w' := by
  have uF := unwrapF
  have nF := nilAheadF
  have mU := methodUnwrapF
  go_enter Tryd.func23, Tryd.ntmps23
  go_wp2_with (go_at_call 27; refine (unwrap_any b _ _ h).mono ?_; rintro e w' ⟨rfl, rfl⟩)
  go_ret
  exact ⟨rfl, rfl⟩
end Go.Proofs.YtgohlhgapboijaaDoor
