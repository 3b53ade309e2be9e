/- fault.Text of a code wrapped by steps. -/
import Derived.Test.YtgohlhgapboijaaDoorFt2
namespace Go.Proofs.YtgohlhgapboijaaDoor
set_option linter.unusedVariables false
set_option linter.unusedSimpArgs false
open Go.RowKit Go.Extern.Stop Go.Stop Go.Extern Go.Sort

theorem ownsRow_kpb {w w' : World} {b base n sz : Nat} {e : TypeId} {v : Value} {xs : List Value} (h : w.ownsRow base e sz v n xs) (k : KpB b w w') (he : e ≠ 5) (hb : b < base) : w'.ownsRow base e sz v n xs := by
  obtain ⟨h1, h2⟩ := h
  refine ⟨h1, ?_⟩
  rcases h2 with h2 | ⟨g, cap, cur, hv, hg, hh, r⟩
  · exact .inl h2
  · exact .inr ⟨g, cap, cur, hv, hg, k g _ _ _ hh he (by omega), r⟩
theorem codeT_len {c : Int} (hc : -9223372036854775808 ≤ c ∧ c ≤ 9223372036854775807) : (codeT c).length ≤ 26 := by
  unfold codeT
  split
  · decide
  · have := Lib.itoa_length_le c hc.1 hc.2
    unfold Lib.itoa at this
    rw [if_neg (by assumption)] at this
    rw [List.length_append]
    simp only [List.length_cons, List.length_nil]
    omega
theorem BuAt.ext {B b : Nat} {bs : List Value} {w w' : World} (h : BuAt B b bs w) (k : Ext w w') : BuAt B b bs w' := by
  rcases h with ⟨h1, v, h2, h3, h4⟩ | h
  · exact .inl ⟨h1, v, (k.block (Array.getElem?_eq_some_iff.1 h2).1).trans h2, ownsRow_ext h3 k, h4⟩
  · exact .inr (BuU.ext h k)
/-- the texts of a path are so long at the most -/
theorem pathT_take (p : List (ByteArray × Int)) (i : Nat) : (pathT (p.take i)).length ≤ (pathT p).length := by
  induction p generalizing i with
  | nil => simp
  | cons a p ih =>
    obtain ⟨x, y⟩ := a
    cases i with
    | zero => simp [pathT]
    | succ i => have := ih i; simp [pathT]; omega
theorem pathT_at {p : List (ByteArray × Int)} {i : Nat} {s : ByteArray} {n : Int} (h : p[i]? = some (s, n)) : pathT (p.take (i + 1)) = pathT (p.take i) ++ (stepT s n ++ [58, 32]) := by
  rw [List.take_add_one, h]
  exact pathT_snoc _ _ _
set_option maxHeartbeats 8000000 in
set_option maxRecDepth 100000 in
/-- the text of any error, from what Path and Of say of it -/
theorem text_gen (p : List (ByteArray × Int)) (c : Int) (v : Value) (w : World) (hT : PwIs w) (hv : ∃ t x, v = .iface t x)
    (hP : ∀ W, Ext w W → Calls Tryd.prog 16 #[v] W fun e w' => ∃ u, e = .returned u ∧ Ext W w' ∧ w'.ownsRow (W.heap.size + 1) 34 2 u p.length (stepCells p))
    (hO : ∀ W, Ext w W → Calls Tryd.prog 17 #[v] W fun e w' => e = .returned (.int .i64 c) ∧ Ext W w') (hp : p.length ≤ 1000000) (hl : (pathT p).length ≤ 1000000000)
    (hn : ∀ y ∈ p, -9223372036854775808 ≤ y.2 ∧ y.2 ≤ 9223372036854775807) (hc : -9223372036854775808 ≤ c ∧ c ≤ 9223372036854775807) :
    Calls Tryd.prog 18 #[v] w fun e w' => ∃ s : ByteArray, e = .returned (.string s) ∧ s.data.toList = pathT p ++ codeT c ∧ Ext w w' := by
  obtain ⟨ti, xi, rfl⟩ := hv
  have E0 := (Ext.refl w).alloc (.cells #[.pointer none, .slice none 0 0] 72)
  have HE0 := Lib.hid E0
  have HB0 : Hid (BuAt w.heap.size w.heap.size (Lib.byteCells (pathT (p.take 0))) (w.alloc (.cells #[.pointer none, .slice none 0 0] 72))) := by
    show BuAt _ _ _ _
    exact .inl ⟨Nat.le_refl _, _, heap_alloc_new w _, World.ownsRow_nil _ _ _ _, by simp [Value.ownBlock]⟩
  have HI := Lib.hid (hP _ E0)
  have HT := Lib.hid (fun W (x : Below w.heap.size w W) => hT.below (Nat.le_refl _) x)
  have HN := Lib.hid hn
  have HLN := Lib.hid (fun i => Nat.le_trans (pathT_take p i) hl)
  have HI0 := Lib.hid hO
  clear hP hO hT hn E0
  go_enter Tryd.func18, Tryd.ntmps18
  go_wp2_with fail
  refine HI.out.mono ?_; rintro e w1 ⟨u, rfl, x1, ho⟩
  obtain ⟨n, hnn⟩ : ∃ n, p.length = n := ⟨_, rfl⟩
  have HNN := Lib.hid hnn
  rw [hnn] at ho hp
  obtain ⟨ua, uc, rfl⟩ : ∃ a c, u = .slice a n c := by
    rcases ho.2 with ⟨hv, h0⟩ | ⟨g, cap, cur, hv, _⟩
    · exact ⟨none, 0, by rw [hv, h0]⟩
    · exact ⟨_, _, hv⟩
  have hw0 : (w.alloc (.cells #[.pointer none, .slice none 0 0] 72)).heap.size = w.heap.size + 1 := by simp
  rw [hw0] at ho
  have HO := Lib.hid ho
  have HX1 : Hid (Below w.heap.size w w1) := HE0.out.trans x1
  have HB1 := Lib.hid (HB0.out.ext x1)
  clear ho hnn hw0 x1 HB0 HE0 HI
  obtain ⟨b, hb⟩ : ∃ b, w.heap.size = b := ⟨_, rfl⟩
  have HBS := Lib.hid hb
  rw [hb] at HO HX1 HB1 HT ⊢
  clear hb
  go_wp2_with fail
  go_loopw [11] (fun iv wr => ∃ i : Nat, i ≤ n ∧ iv = .int .i64 (i : Int) ∧ Hid (BuAt b b (Lib.byteCells (pathT (p.take i))) wr) ∧ Hid (Below b w wr) ∧ Hid (KpB b w1 wr)) (fun iv _ => n - (intOf iv).toNat)
  case atStart => exact ⟨0, Nat.zero_le _, rfl, HB1, HX1, KpB.refl b w1⟩
  case round =>
    obtain ⟨i, hi, rfl, HA, HX, HK⟩ := hrel
    have hbr : b ≤ wr.heap.size := by rw [← HBS.out]; exact HX.out.size
    by_cases hlt : i < n
    · obtain ⟨⟨s, m⟩, hy⟩ : ∃ y, p[i]? = some y := ⟨_, List.getElem?_eq_getElem (by rw [HNN.out]; exact hlt)⟩
      have hm := HN.out _ (List.mem_of_getElem? hy)
      have HR := ownsRow_kpb HO.out HK.out (by decide) (Nat.lt_succ_of_lt (Nat.lt_succ_self b))
      obtain ⟨hc0, hc1⟩ := stepCells_get p i s m hy
      obtain ⟨g, hg'⟩ : ∃ g, ua = some ⟨g, 0, none⟩ := by
        rcases HR.2 with ⟨hv, h0⟩ | ⟨g, cap, cur, hv, _⟩
        · omega
        · simp only [Value.slice.injEq] at hv
          exact ⟨g, hv.1⟩
      subst hg'
      have q0 := (Row.of_owns HR).at hc0
      have q1 := (Row.of_owns HR).at hc1
      rw [Nat.zero_add] at q0 q1
      have HTA := Lib.hid (pathT_at hy)
      have HL1 := HLN.out i
      have HL2 := HLN.out (i + 1)
      have x1 : (0 : Int) ≤ (i : Int) := by omega
      have x2 : (i : Int) < (n : Int) := by omega
      clear hy hc0 hc1 HR
      have hss : s.size ≤ 1000000000 := by
        rw [HTA.out, List.length_append, List.length_append] at HL2
        have : (stepT s m).length = s.data.toList.length + ((Lib.itoa m).length + 1) := by unfold stepT; rw [List.length_append]; rfl
        have h2 : s.data.toList.length = s.size := by rw [Array.length_toList]; rfl
        omega
      have HA1 := Lib.hid (HA.out.ext ((Ext.refl wr).alloc (.cells #[.string s, .int .i64 m] 34)))
      have HX1' : Hid (Below b w (wr.alloc (.cells #[.string s, .int .i64 m] 34))) := HX.out.alloc hbr _
      have HK1 := Lib.hid (HK.out.trans (KpB.alloc b wr (.cells #[.string s, .int .i64 m] 34)))
      go_wp2_with fail
      revert HA1 HX1' HK1
      generalize wr.alloc _ = w2
      generalize wr.heap.size = B5
      intro HA1 HX2 HK2
      have hb2 : b ≤ w2.heap.size := by rw [← HBS.out]; exact HX2.out.size
      refine (wstep_any b b _ s m _ (fun W x => HT.out W (HX2.out.trans x)) hm HA1.out (by omega) hb2).mono ?_; rintro e w3 ⟨rfl, z1, z2, z3⟩
      have HA3 := Lib.hid z1
      have HX3 := Lib.hid (HX2.out.trans z2)
      have HK3 := Lib.hid (HK2.out.trans z3)
      have hb3 : b ≤ w3.heap.size := by rw [← HBS.out]; exact HX3.out.size
      clear z1 z2 z3
      have hl3 : (pathT (p.take i) ++ stepT s m).length + 2 ≤ 1000000000 := by
        rw [HTA.out, List.length_append, List.length_append] at HL2
        rw [List.length_append]
        simpa [Nat.add_assoc] using HL2
      go_wp2_with fail
      refine (wstr_any b b _ ⟨#[58, 32]⟩ _ (.inr HA3.out) (by rw [Lib.byteCells_length]; show _ + 2 ≤ _; omega) hb3).mono ?_; rintro e w4 ⟨rfl, z1, z2, z3⟩
      have HA4 : Hid (BuAt b b (Lib.byteCells (pathT (p.take (i + 1)))) w4) := by
        show BuAt _ _ _ _
        rw [HTA.out, ← List.append_assoc, ← byteCells_app]
        exact .inr z1
      have HX4 := Lib.hid (HX3.out.trans z2)
      have HK4 := Lib.hid (HK3.out.trans z3)
      clear z1 z2 z3
      go_wp2
      exact ⟨⟨i + 1, by omega, by go_num, HA4, HX4, HK4⟩, by simp [intOf]; omega⟩
    · obtain rfl : i = n := by omega
      have ht : p.take i = p := List.take_of_length_le (by rw [HNN.out]; exact Nat.le_refl _)
      rw [ht] at HA
      have HE : Hid (Ext w wr) := by show Below w.heap.size w wr; rw [HBS.out]; exact HX.out
      go_wp2_with fail
      refine (HI0.out _ HE.out).mono ?_; rintro e w2 ⟨rfl, x2⟩
      have hcl := codeT_len hc
      have HA2 := Lib.hid (HA.out.ext x2)
      have HE2 := Lib.hid (HE.out.trans x2)
      clear x2
      go_wp2_with fail
      refine (cerr_any c _ hc).mono ?_; rintro e w3 ⟨s, rfl, hs, x3⟩
      have HA3 := Lib.hid (HA2.out.ext x3)
      have HE3 := Lib.hid (HE2.out.trans x3)
      have HS := Lib.hid hs
      have hss : s.size ≤ 26 := by
        rw [← HS.out, Array.length_toList] at hcl
        exact hcl
      have hb3 : b ≤ w3.heap.size := by rw [← HBS.out]; exact HE3.out.size
      clear hs x3
      go_wp2_with fail
      refine (wstr_any b b _ s _ HA3.out (by rw [Lib.byteCells_length]; omega) hb3).mono ?_; rintro e w4 ⟨rfl, z1, z2, z3⟩
      have HA4 : Hid (BuAt b b (Lib.byteCells (pathT p ++ codeT c)) w4) := by
        show BuAt _ _ _ _
        rw [← HS.out, ← byteCells_app]
        exact .inr z1
      have HE4 : Hid (Ext w w4) := by show Below _ _ _; rw [HBS.out]; have := HE3.out; exact (show Below b w w3 by rw [← HBS.out]; exact this).trans z2
      have hb4 : b ≤ w4.heap.size := by rw [← HBS.out]; exact HE4.out.size
      clear z1 z2 z3
      go_wp2_with fail
      refine (Tryd.Builder_String_any b b _ _ HA4.out hb4).mono ?_; rintro e w5 ⟨rfl, x5⟩
      have HE5 : Hid (Ext w w5) := by show Below _ _ _; rw [HBS.out]; have := HE4.out; exact (show Below b w w4 by rw [← HBS.out]; exact this).trans x5
      clear x5
      go_wp2
      go_ret
      exact ⟨_, rfl, by simp, HE5.out⟩
theorem text_any (p : List (ByteArray × Int)) (c : Int) (v : Value) (w : World) (hg : EtIs w) (hT : PwIs w) (he : IsErr w p c v) (hp : p.length ≤ 1000000) (hl : (pathT p).length ≤ 1000000000)
    (hn : ∀ y ∈ p, -9223372036854775808 ≤ y.2 ∧ y.2 ≤ 9223372036854775807) (hc : -9223372036854775808 ≤ c ∧ c ≤ 9223372036854775807) :
    Calls Tryd.prog 18 #[v] w fun e w' => ∃ s : ByteArray, e = .returned (.string s) ∧ s.data.toList = pathT p ++ codeT c ∧ Ext w w' :=
  text_gen p c v w hT he.ne_nil (fun W x => path_err p c v W (hg.ext x) (he.ext x) hp) (fun W x => of_err p c v W (hg.ext x) (he.ext x)) hp hl hn hc
/-- the text of a nil error -/
theorem text_nil (w : World) : Calls Tryd.prog 18 #[.nilIface] w fun e w' => e = .returned (.string .empty) ∧ w = w' := by
  go_enter Tryd.func18, Tryd.ntmps18
  go_wp2
  go_ret
  exact ⟨rfl, rfl⟩
end Go.Proofs.YtgohlhgapboijaaDoor
