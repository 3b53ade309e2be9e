/- Errors as fault.Of and fault.Path see them; slices.Equal of steps; fault.Same. -/
import Derived.Test.YtgohlhgapboijaaDoorF2
import Derived.Laws.StructEq
namespace Go.Proofs.YtgohlhgapboijaaDoor
set_option linter.unusedVariables false
set_option linter.unusedSimpArgs false
open Go.RowKit Go.Extern.Stop Go.Stop Go.Extern

/-- an error, as fault.Of and fault.Path see it from this world on -/
def Seen (w0 : World) (p : List (ByteArray × Int)) (c : Int) (v : Value) : Prop :=
  ∀ W, Ext w0 W → Calls Tryd.prog 17 #[v] W (fun e w' => e = .returned (.int .i64 c) ∧ Ext W w') ∧ Calls Tryd.prog 16 #[v] W (fun e w' => ∃ u, e = .returned u ∧ Ext W w' ∧ Row w' u p.length (stepCells p))
theorem Seen.ext {w w' : World} {p : List (ByteArray × Int)} {c : Int} {v : Value} (h : Seen w p c v) (k : Ext w w') : Seen w' p c v := fun W x => h W (k.trans x)
theorem seen_err {p : List (ByteArray × Int)} {c : Int} {v : Value} {w : World} (hg : EtIs w) (he : IsErr w p c v) (hp : p.length ≤ 1000000) : Seen w p c v := fun W x =>
  ⟨of_err p c v W (hg.ext x) (he.ext x), (path_err p c v W (hg.ext x) (he.ext x) hp).mono fun e w' ⟨u, h1, h2, h3⟩ => ⟨u, h1, h2, Row.of_owns h3⟩⟩
theorem seen_nil {w : World} (hg : EtIs w) : Seen w [] 0 .nilIface := fun W x => ⟨of_nil W, (path_nil W (hg.ext x)).mono fun e w' ⟨h1, h2⟩ => ⟨_, h1, h2, Row.nil w'⟩⟩
/-- a truth that an answer tells -/
def Tells (P : Prop) (w : World) (e : Ending) (w' : World) : Prop := ∃ b : Bool, e = .returned (.bool b) ∧ (b = true ↔ P) ∧ Ext w w'
theorem neq_same (s : ByteArray) (m : Int) (w : World) : (binOp .neq 34 (.agg #[.string s, .int .i64 m]) (.agg #[.string s, .int .i64 m])).run Tryd.prog w = .ok (.bool false) w := by
  have hS : Tryd.prog.underlying 34 = some (.struct (Tryd.prog.fieldsOf 34)) := by kernel_rfl
  have hp : Tryd.prog.stoodInHeld 34 = false := by kernel_rfl
  rw [run_neq_struct, show (10000 : Nat) = 9999 + 1 from rfl, run_equalIn_agg w 9999 34 _ _ hS hp]
  simp only [Program.fieldsOf, Tryd.underlying34]
  go_simp
theorem str_eq (s s' : ByteArray) : (s.toList == s'.toList) = decide (s = s') := by
  rw [ByteArray.toList_eq, ByteArray.toList_eq]
  by_cases h : s = s'
  · subst h; simp
  · rw [decide_eq_false h]
    refine beq_eq_false_iff_ne.2 fun e => h ?_
    obtain ⟨⟨x⟩⟩ := s
    obtain ⟨⟨y⟩⟩ := s'
    simp at e
    rw [e]
theorem neq_other (s s' : ByteArray) (m m' : Int) (w : World) (h : ¬ (s = s' ∧ m = m')) : (binOp .neq 34 (.agg #[.string s, .int .i64 m]) (.agg #[.string s', .int .i64 m'])).run Tryd.prog w = .ok (.bool true) w := by
  have hS : Tryd.prog.underlying 34 = some (.struct (Tryd.prog.fieldsOf 34)) := by kernel_rfl
  have hp : Tryd.prog.stoodInHeld 34 = false := by kernel_rfl
  have hb := str_eq s s'
  rw [run_neq_struct, show (10000 : Nat) = 9999 + 1 from rfl, run_equalIn_agg w 9999 34 _ _ hS hp]
  simp only [Program.fieldsOf, Tryd.underlying34]
  go_simp
  by_cases h1 : s = s' <;> by_cases h2 : m = m' <;> simp_all
set_option maxHeartbeats 4000000 in
set_option maxRecDepth 100000 in
/-- slices.Equal of steps -/
theorem equal_steps (L M : List (ByteArray × Int)) (va vb : Value) (w : World) (ha : Row w va L.length (stepCells L)) (hb : Row w vb M.length (stepCells M)) (hl : L.length ≤ 1000000) :
    Calls Tryd.prog 48 #[va, vb] w (Tells (L = M) w) := by
  obtain ⟨n, hn⟩ : ∃ n, L.length = n := ⟨_, rfl⟩
  obtain ⟨m, hm⟩ : ∃ m, M.length = m := ⟨_, rfl⟩
  have HN := Lib.hid hn
  have HM := Lib.hid hm
  rw [hn] at ha hl
  rw [hm] at hb
  obtain ⟨a, ca, rfl⟩ := ha.form
  obtain ⟨b, cb, rfl⟩ := hb.form
  have HA := Lib.hid ha
  have HB := Lib.hid hb
  clear ha hb hn hm
  by_cases hnm : n = m
  · subst hnm
    go_enter Tryd.func48, Tryd.ntmps48
    go_wp2
    go_loopw [13] (fun i wr => ∃ k : Nat, k ≤ n ∧ i = .int .i64 k ∧ Hid (Ext w wr) ∧ Hid (∀ j, j < k → L[j]? = M[j]?)) (fun i _ => n - (intOf i).toNat)
    case atStart => exact ⟨0, Nat.zero_le _, rfl, Ext.refl w, fun j hj => absurd hj (Nat.not_lt_zero _)⟩
    case round =>
      obtain ⟨k, hk, rfl, HE, HJ⟩ := hrel
      by_cases hlt : k < n
      · obtain ⟨g, off, rfl⟩ : ∃ g off, a = some ⟨g, off, none⟩ := by
          obtain ⟨a', cap', e', -, -, h3, -⟩ := HA.out
          simp only [Value.slice.injEq, true_and] at e'
          obtain ⟨g, off, h4⟩ := h3 (by omega)
          exact ⟨g, off, e'.1.trans h4⟩
        obtain ⟨g', off', rfl⟩ : ∃ g off, b = some ⟨g, off, none⟩ := by
          obtain ⟨a', cap', e', -, -, h3, -⟩ := HB.out
          simp only [Value.slice.injEq, true_and] at e'
          obtain ⟨g, off, h4⟩ := h3 (by omega)
          exact ⟨g, off, e'.1.trans h4⟩
        obtain ⟨⟨s, z⟩, hx⟩ : ∃ y, L[k]? = some y := ⟨_, List.getElem?_eq_getElem (by rw [HN.out]; exact hlt)⟩
        obtain ⟨⟨s', z'⟩, hy⟩ : ∃ y, M[k]? = some y := ⟨_, List.getElem?_eq_getElem (by rw [HM.out]; exact hlt)⟩
        obtain ⟨x0, x1⟩ := stepCells_get L k s z hx
        obtain ⟨y0, y1⟩ := stepCells_get M k s' z' hy
        have p0 := HE.out.cell (HA.out.at x0)
        have p1 := HE.out.cell (HA.out.at x1)
        have q0 := HE.out.cell (HB.out.at y0)
        have q1 := HE.out.cell (HB.out.at y1)
        rw [← Nat.add_assoc] at p1 q1
        have HX := Lib.hid hx
        have HY := Lib.hid hy
        have t1 : (0 : Int) ≤ (k : Int) := by omega
        have t2 : (k : Int) < (n : Int) := by omega
        clear hx hy x0 x1 y0 y1
        by_cases hxy : s = s' ∧ z = z'
        · obtain ⟨rfl, rfl⟩ := hxy
          have nq := neq_same s z
          go_wp2
          go_quiet (fail)
          go_wp2
          go_roundw
          case rel => exact ⟨k + 1, by omega, by go_num, HE.out.drewN _, fun j hj => by
            by_cases hjk : j = k
            · subst hjk; rw [HX.out, HY.out]
            · exact HJ.out j (by omega)⟩
          case measure => simp [intOf]; omega
        · have nq := fun W => neq_other s s' z z' W hxy
          have HXY := Lib.hid hxy
          clear hxy
          go_wp2
          go_quiet (fail)
          go_wp2
          go_ret
          refine ⟨false, rfl, ⟨(fun h => nomatch h), (fun e => ?_)⟩, HE.out.drewN _⟩
          have h1 := HX.out
          rw [e, HY.out] at h1
          simp only [Option.some.injEq, Prod.mk.injEq] at h1
          exact absurd ⟨h1.1.symm, h1.2.symm⟩ HXY.out
      · go_wp2
        go_ret
        refine ⟨true, rfl, ⟨fun _ => ?_, fun _ => rfl⟩, HE.out⟩
        refine List.ext_getElem? fun j => ?_
        by_cases hj : j < n
        · exact HJ.out j (by omega)
        · rw [List.getElem?_eq_none (by rw [HN.out]; omega), List.getElem?_eq_none (by rw [HM.out]; omega)]
  · have hne : ((n : Int) != (m : Int)) = true := by simp; omega
    have HXY : Hid (¬ L = M) := fun e => hnm (by rw [← HN.out, ← HM.out, e])
    go_enter Tryd.func48, Tryd.ntmps48
    go_wp2
    go_ret
    exact ⟨false, rfl, ⟨(fun h => nomatch h), (fun e => absurd e HXY.out)⟩, Ext.refl w⟩
set_option maxHeartbeats 4000000 in
set_option maxRecDepth 100000 in
/-- fault.Same -/
theorem fsame_any (p q : List (ByteArray × Int)) (c d : Int) (a b : Value) (w : World) (ha : Seen w p c a) (hb : Seen w q d b) (hp : p.length ≤ 1000000) :
    Calls Tryd.prog 26 #[a, b] w (Tells (c = d ∧ p = q) w) := by
  have HA := Lib.hid ha
  have HB := Lib.hid hb
  clear ha hb
  by_cases hcd : c = d
  · subst hcd
    go_enter Tryd.func26, Tryd.ntmps26
    go_wp2_with fail
    refine (HA.out _ (Ext.refl _)).1.mono ?_; rintro e w1 ⟨rfl, x1⟩
    go_wp2_with fail
    refine (HB.out _ x1).1.mono ?_; rintro e w2 ⟨rfl, x2⟩
    have X2 := Lib.hid (x1.trans x2)
    clear x1 x2
    have hcc : (c == c) = true := by simp
    go_wp2_with fail
    refine (HA.out _ X2.out).2.mono ?_; rintro e w3 ⟨u3, rfl, x3, r3⟩
    have X3 := Lib.hid (X2.out.trans x3)
    clear X2 x3
    have R3 := Lib.hid r3
    clear r3
    go_wp2_with fail
    refine (HB.out _ X3.out).2.mono ?_; rintro e w4 ⟨u4, rfl, x4, r4⟩
    have X4 := Lib.hid (X3.out.trans x4)
    have R34 := Lib.hid (R3.out.ext x4)
    have R4 := Lib.hid r4
    clear X3 x4 r4 R3
    go_wp2_with fail
    refine (equal_steps p q _ _ _ R34.out R4.out hp).mono ?_; rintro e w5 ⟨t, rfl, ht, x5⟩
    have X5 := Lib.hid (X4.out.trans x5)
    have HT := Lib.hid ht
    clear x5 ht
    cases t with
    | true =>
      go_wp2
      go_ret
      exact ⟨true, rfl, by have h := HT.out; simpa using h, X5.out⟩
    | false =>
      go_wp2
      go_ret
      exact ⟨false, rfl, by have h := HT.out; simpa using h, X5.out⟩
  · have HC := Lib.hid hcd
    have hcc : (c == d) = false := by simpa using hcd
    clear hcd
    go_enter Tryd.func26, Tryd.ntmps26
    go_wp2_with fail
    refine (HA.out _ (Ext.refl _)).1.mono ?_; rintro e w1 ⟨rfl, x1⟩
    go_wp2_with fail
    refine (HB.out _ x1).1.mono ?_; rintro e w2 ⟨rfl, x2⟩
    have X2 := Lib.hid (x1.trans x2)
    clear x1 x2
    go_wp2
    go_ret
    exact ⟨false, rfl, ⟨(fun h => nomatch h), fun h => absurd h.1 HC.out⟩, X2.out⟩
end Go.Proofs.YtgohlhgapboijaaDoor
