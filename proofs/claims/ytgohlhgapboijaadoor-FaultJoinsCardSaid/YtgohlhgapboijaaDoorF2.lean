/- kinlaw1.few, kinlaw1.wrapped. -/
import Derived.Test.YtgohlhgapboijaaDoorF1
import Derived.Deep.QuietTactic
import Derived.BigQuiet
import Derived.StillTailTactics
namespace Go.Proofs.YtgohlhgapboijaaDoor
set_option linter.unusedVariables false
set_option linter.unusedSimpArgs false
open Go.RowKit Go.Extern.Stop Go.Stop Go.Extern

/-- the names of steps, each at most 20001 bytes, of the first i -/
def fewW (L : List (ByteArray × Int)) : Nat := (L.map fun y => min y.1.size 20001).sum
theorem fewW_snoc (L : List (ByteArray × Int)) (y : ByteArray × Int) : fewW (L ++ [y]) = fewW L + min y.1.size 20001 := by simp [fewW]
theorem fewW_take {L : List (ByteArray × Int)} {i : Nat} {y : ByteArray × Int} (h : L[i]? = some y) : fewW (L.take (i + 1)) = fewW (L.take i) + min y.1.size 20001 := by
  rw [List.take_add_one, h]
  exact fewW_snoc _ _
theorem fewW_le (L : List (ByteArray × Int)) : fewW L ≤ 20001 * L.length := by
  induction L with
  | nil => simp [fewW]
  | cons a t ih =>
    have : fewW (a :: t) = min a.1.size 20001 + fewW t := by simp [fewW]
    rw [this, List.length_cons]
    omega
def fewP (L : List (ByteArray × Int)) : Prop := L.length ≤ 400 ∧ fewW (L.take 400) ≤ 20000
def FwPost (L : List (ByteArray × Int)) (w : World) (e : Ending) (w' : World) : Prop := ∃ b : Bool, e = .returned (.bool b) ∧ (b = true ↔ fewP L) ∧ w = w'
set_option maxHeartbeats 4000000 in
set_option maxRecDepth 100000 in
theorem few1_any (L : List (ByteArray × Int)) (v : Value) (w : World) (h : Row w v L.length (stepCells L)) :
    Calls Tryd.prog 14 #[v] w (FwPost L w) := by
  obtain ⟨a, cap, rfl⟩ := h.form
  obtain ⟨n, hn⟩ : ∃ n, L.length = n := ⟨_, rfl⟩
  have HN := Lib.hid hn
  rw [hn] at h ⊢
  have HR := Lib.hid h
  clear h hn
  go_enter Tryd.func14, Tryd.ntmps14
  go_wp2
  go_loop [3, 4] (fun nv iv => ∃ i : Nat, i ≤ n ∧ i ≤ 400 ∧ iv = .int .i64 (i : Int) ∧ nv = .int .i64 (fewW (L.take i) : Int)) (fun _ iv => n - (intOf iv).toNat)
  case atStart => exact ⟨0, Nat.zero_le _, Nat.zero_le _, rfl, rfl⟩
  case round =>
    obtain ⟨i, hi, hi4, rfl, rfl⟩ := hrel
    have hw := fewW_le (L.take i)
    rw [List.length_take, HN.out] at hw
    by_cases hlt : i < n ∧ i < 400
    · obtain ⟨⟨s, m⟩, hy⟩ : ∃ y, L[i]? = some y := ⟨_, List.getElem?_eq_getElem (by rw [HN.out]; exact hlt.1)⟩
      have hT := fewW_take hy
      obtain ⟨hc0, hc1⟩ := stepCells_get L i s m hy
      obtain ⟨g, off, rfl⟩ : ∃ g off, a = some ⟨g, off, none⟩ := by
        obtain ⟨a', cap', e', -, -, h3, -⟩ := HR.out
        simp only [Value.slice.injEq, true_and] at e'
        obtain ⟨g, off, h4⟩ := h3 (by omega)
        exact ⟨g, off, e'.1.trans h4⟩
      have q0 := HR.out.at hc0
      have x1 : (0 : Int) ≤ (i : Int) := by omega
      have x2 : (i : Int) < (n : Int) := by omega
      have x3 : (i : Int) < 400 := by omega
      clear hy hc0 hc1
      have hT' : fewW (L.take (i + 1)) = fewW (L.take i) + min s.size 20001 := hT
      obtain ⟨W, hW⟩ : ∃ W, fewW (L.take i) = W := ⟨_, rfl⟩
      rw [hW] at hT' hw ⊢
      clear hT hW
      go_wp2_with fail
      exact ⟨⟨i + 1, by omega, by omega, by go_num, by rw [hT']; congr 1; omega⟩, by simp [intOf]; omega⟩
    · by_cases hn4 : n ≤ 400
      · obtain rfl : i = n := by omega
        have ht : L.take i = L.take 400 := by rw [List.take_of_length_le (by rw [HN.out]; exact Nat.le_refl _), List.take_of_length_le (by rw [HN.out]; exact hn4)]
        have HP : Hid (fewW (L.take i) ≤ 20000 ↔ fewP L) := ⟨fun h => ⟨by rw [HN.out]; exact hn4, by rw [← ht]; exact h⟩, fun h => by rw [ht]; exact h.2⟩
        obtain ⟨W, hW⟩ : ∃ W, fewW (L.take i) = W := ⟨_, rfl⟩
        rw [hW] at HP ⊢
        have x1 : (i : Int) ≤ 400 := by omega
        clear hW ht
        by_cases hw2 : W ≤ 20000
        · have x2 : (W : Int) ≤ 20000 := by omega
          go_wp2_with fail
          go_ret
          exact ⟨true, rfl, ⟨fun _ => HP.out.1 hw2, fun _ => rfl⟩, rfl⟩
        · have x2 : ¬ (W : Int) ≤ 20000 := by omega
          go_wp2_with fail
          go_ret
          exact ⟨false, rfl, ⟨(fun h => nomatch h), fun h => absurd (HP.out.2 h) hw2⟩, rfl⟩
      · obtain rfl : i = 400 := by omega
        have x1 : ((400 : Nat) : Int) < (n : Int) := by omega
        have x1' : (400 : Int) < (n : Int) := by omega
        have x2 : ¬ (n : Int) ≤ 400 := by omega
        go_wp2_with fail
        go_ret
        exact ⟨false, rfl, ⟨(fun h => nomatch h), fun h => absurd h.1 (by rw [HN.out]; exact hn4)⟩, rfl⟩
theorem few_yes {L : List (ByteArray × Int)} {v : Value} {w : World} (h : Row w v L.length (stepCells L)) (hf : fewP L) (W : World) (x : Ext w W) :
    Calls Tryd.prog 14 #[v] W fun e w' => e = .returned (.bool true) ∧ W = w' :=
  (few1_any L v W (h.ext x)).mono fun e w' ⟨b, h1, h2, h3⟩ => ⟨by rw [h1, h2.2 hf], h3⟩
theorem few_no {L : List (ByteArray × Int)} {v : Value} {w : World} (h : Row w v L.length (stepCells L)) (hf : ¬ fewP L) (W : World) (x : Ext w W) :
    Calls Tryd.prog 14 #[v] W fun e w' => e = .returned (.bool false) ∧ W = w' :=
  (few1_any L v W (h.ext x)).mono fun e w' ⟨b, h1, h2, h3⟩ => ⟨by
    rw [h1]
    cases b with
    | false => rfl
    | true => exact absurd (h2.1 rfl) hf, h3⟩
/-- the texts of few steps -/
theorem few_text {L : List (ByteArray × Int)} (h : fewP L) (hn : ∀ y ∈ L, -9223372036854775808 ≤ y.2 ∧ y.2 ≤ 9223372036854775807) : (pathT L).length ≤ 1000000 := by
  obtain ⟨h1, h2⟩ := h
  rw [List.take_of_length_le h1] at h2
  have key : ∀ M : List (ByteArray × Int), fewW M ≤ 20000 → (∀ y ∈ M, -9223372036854775808 ≤ y.2 ∧ y.2 ≤ 9223372036854775807) → (pathT M).length ≤ fewW M + 24 * M.length := by
    intro M
    induction M with
    | nil => simp [pathT]
    | cons a t ih =>
      intro hw hb
      obtain ⟨s, m⟩ := a
      have e : fewW ((s, m) :: t) = min s.size 20001 + fewW t := by simp [fewW]
      have hm := hb (s, m) (by simp)
      have := Lib.itoa_length_le m hm.1 hm.2
      have hs : s.data.toList.length = s.size := by rw [Array.length_toList]; rfl
      have := ih (by omega) (fun y hy => hb y (by simp [hy]))
      simp only [pathT, stepT, List.length_append, List.length_cons, List.length_nil, hs]
      omega
  have := key L h2 hn
  omega
set_option maxHeartbeats 8000000 in
set_option maxRecDepth 100000 in
theorem wrapped_any (L : List (ByteArray × Int)) (c : Int) (v : Value) (w : World) (h : Row w v L.length (stepCells L)) (hl : L.length ≤ 1000000) :
    Calls Tryd.prog 15 #[v, .int .i64 c] w fun e w' => ∃ u, e = .returned u ∧ Ext w w' ∧ IsErr w' L c u := by
  obtain ⟨a, cap, rfl⟩ := h.form
  obtain ⟨n, hn⟩ : ∃ n, L.length = n := ⟨_, rfl⟩
  have HN := Lib.hid hn
  rw [hn] at h hl ⊢
  have HR := Lib.hid h
  have m0 : IntKind.i64.wrap ((n : Int) - 1) = (n : Int) - 1 := by rw [IntKind.wrap_i64]; omega
  clear h hn
  go_enter Tryd.func15, Tryd.ntmps15
  go_wp2
  go_loopw [5, 6] (fun ev iv wr => ∃ i : Nat, i ≤ n ∧ iv = .int .i64 ((i : Int) - 1) ∧ Hid (IsErr wr (L.drop i) c ev) ∧ Hid (Ext w wr)) (fun _ iv _ => (intOf iv + 1).toNat)
  case atStart => exact ⟨n, Nat.le_refl _, rfl, by show IsErr _ _ _ _; rw [List.drop_of_length_le (by rw [HN.out]; exact Nat.le_refl _)]; rfl, Ext.refl w⟩
  case round =>
    obtain ⟨i, hi, rfl, HE, HX⟩ := hrel
    by_cases h0 : i = 0
    · subst h0
      go_wp2_with fail
      go_ret
      exact ⟨_, rfl, HX.out, HE.out⟩
    · obtain ⟨j, rfl⟩ : ∃ j, i = j + 1 := ⟨i - 1, by omega⟩
      have e1 : ((j + 1 : Nat) : Int) - 1 = (j : Int) := by omega
      rw [e1]
      obtain ⟨⟨s, m⟩, hy⟩ : ∃ y, L[j]? = some y := ⟨_, List.getElem?_eq_getElem (by rw [HN.out]; omega)⟩
      obtain ⟨hc0, hc1⟩ := stepCells_get L j s m hy
      obtain ⟨g, off, rfl⟩ : ∃ g off, a = some ⟨g, off, none⟩ := by
        obtain ⟨a', cap', e', -, -, h3, -⟩ := HR.out
        simp only [Value.slice.injEq, true_and] at e'
        obtain ⟨g, off, h4⟩ := h3 (by omega)
        exact ⟨g, off, e'.1.trans h4⟩
      have q0 := HX.out.cell (HR.out.at hc0)
      have q1 := HX.out.cell (HR.out.at hc1)
      rw [← Nat.add_assoc] at q1
      have x1 : (0 : Int) ≤ (j : Int) := by omega
      have x2 : (j : Int) < (n : Int) := by omega
      have HD : Hid (L.drop j = (s, m) :: L.drop (j + 1)) := by
        show _ = _
        obtain ⟨hj, hy'⟩ := List.getElem?_eq_some_iff.1 hy
        rw [List.drop_eq_getElem_cons hj, hy']
      have m1 : IntKind.i64.wrap ((j : Int) - 1) = (j : Int) - 1 := by rw [IntKind.wrap_i64]; omega
      clear hy hc0 hc1 e1
      go_wp2_with fail
      go_still_tail 11, (by kernel_rfl)
      change wpList _ _ _ _ _ wr.drew
      have HEz := Lib.hid (HE.out.ext (Ext.refl wr).drew)
      have HXz := Lib.hid (HX.out.drew)
      clear q0 q1 HE HX
      generalize wr.drew = wz at *
      go_wp2_with fail
      refine (in_err s m _ c _ _ HEz.out).mono ?_; rintro e w2 ⟨u2, rfl, x2, h2⟩
      have HE2 : Hid (IsErr w2 (L.drop j) c u2) := by show IsErr _ _ _ _; rw [HD.out]; exact h2
      have HX2 := Lib.hid (HXz.out.trans x2)
      clear h2 x2
      go_wp2
      exact ⟨⟨j, by omega, rfl, HE2, HX2⟩, by simp [intOf]⟩
end Go.Proofs.YtgohlhgapboijaaDoor
