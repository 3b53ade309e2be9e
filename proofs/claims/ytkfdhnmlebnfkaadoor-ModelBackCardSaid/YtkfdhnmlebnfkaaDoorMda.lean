/- kinlaw13.ModelBack: the walk. -/
import Derived.Test.YtkfdhnmlebnfkaaDoorZj
import Derived.Deep.RegionLaw
namespace Go.Proofs.YtkfdhnmlebnfkaaDoor
set_option linter.unusedVariables false
set_option linter.unusedSimpArgs false
open Go.RowKit Go.Extern.Stop Go.Stop Go.Extern

theorem ws_ok (L : List Mo) : okS okEm (64 * L.length) (wsM L) := by
  have h : ∀ (L : List Mo) (N : Nat) (s : Ms Ec), okS okEm N s → okS okEm (N + 64 * L.length) (L.foldl (fun s o => (askM mE s o).2) s) := by
    intro L
    induction L with
    | nil => intro N s h; exact h
    | cons o L ih =>
      intro N s h
      have := ih (N + 64) _ (ask_ok mkE o h)
      rw [show N + 64 + 64 * L.length = N + 64 * (o :: L).length by rw [List.length_cons]; omega] at this
      exact this
  have := h L 0 _ okn13
  rw [Nat.zero_add] at this
  exact this
theorem rs_ok {L : List Mo} (hb : ∀ x ∈ bsM L, x < 256) (v : Int) (b : Bool) : ∀ m, m ≤ L.length → okS okDm (4 + 64 * m) (rsM L v b m)
  | 0, _ => okd13 hb
  | m + 1, h => by
    have ih := rs_ok hb v b m (by omega)
    obtain ⟨-, h2, -⟩ := rs_o hb v b (List.getElem?_eq_getElem (show m < L.length from h))
    rw [h2]
    exact ask_ok (mkD hb) _ ih
theorem bsM_lt (L : List Mo) : ∀ x ∈ bsM L, x < 256 := fun x hx => all_lt (ws_ok L).2.1 x (trim_mem _ x hx)
/-- what was told of the first -/
def tdM (L : List Mo) (i : Nat) (T : List Int) : Prop := T.length = i ∧ ∀ j o, j < i → L[j]? = some o → T[j]? = some (askM mE (wsM (L.take j)) o).1
theorem tdM.snoc {L : List Mo} {i : Nat} {T : List Int} {o : Mo} (h : tdM L i T) (ho : L[i]? = some o) : tdM L (i + 1) (T ++ [(askM mE (wsM (L.take i)) o).1]) := by
  obtain ⟨h1, h2⟩ := h
  refine ⟨by simp [h1], fun j p hj hp => ?_⟩
  by_cases e : j = i
  · subst e
    rw [ho] at hp
    obtain rfl := Option.some.inj hp
    rw [List.getElem?_append_right (by omega), h1, Nat.sub_self]
    rfl
  · rw [List.getElem?_append_left (by omega)]
    exact h2 j p (by omega) hp
theorem told_cell {σ τ : Type} {A : World → (Nat → Prop) → σ → Prop} {B : World → (Nat → Prop) → τ → Prop} {w0 w : World} {s : σ} {t : τ} {ta : Option Addr} {i tc q : Nat} {T : List Int} {x : Int} (h : Uno (Sep (Sep A TlF) B) w0 w ((s, (.slice ta i tc, T)), t)) (hx : T[q]? = some x) : ∃ g, ta = some ⟨g, 0, none⟩ ∧ w.cell? ⟨g, q, none⟩ = some (.int .i64 x) := by
  obtain ⟨_, _, F2, _, h2, _⟩ := h.l
  obtain ⟨g, cap, e, hc⟩ := h2.cell hx
  simp only [Value.slice.injEq] at e
  exact ⟨g, e.1, hc⟩
theorem told_cell2 {σ τ : Type} {A : World → (Nat → Prop) → σ → Prop} {B : World → (Nat → Prop) → τ → Prop} {w0 w : World} {s : σ} {t : τ} {g i tc q : Nat} {T : List Int} {x : Int} (h : Uno (Sep (Sep A TlF) B) w0 w ((s, (.slice (some ⟨g, 0, none⟩) i tc, T)), t)) (hx : T[q]? = some x) : w.cell? ⟨g, q, none⟩ = some (.int .i64 x) := by
  obtain ⟨g', e, hc⟩ := told_cell h hx
  simp only [Option.some.injEq, Addr.mk.injEq, and_true] at e
  subst e
  exact hc
theorem RdF.ch {a : Nat} {bs : List Nat} {w : World} {F : Nat → Prop} {s : Ms Dc} (h : RdF a bs w F s) : ChAt w a 0 s.ch := by obtain ⟨_, _, _, h, _⟩ := h; exact h
theorem WrF.ch {a : Nat} {w : World} {F : Nat → Prop} {s : Ms Ec} (h : WrF a w F s) : ChAt w a 0 s.ch := by obtain ⟨_, _, _, h, _⟩ := h; exact h
set_option maxHeartbeats 8000000 in
set_option maxRecDepth 20000 in
theorem mback_law (L : List Mo) (v : Value) (x : Int) (b : Bool) (w : World) (hL : Mos w v L) : Calls Tryd.prog 6 #[v, .int .i64 x, .bool b] w fun e w' => e = .returned (.bool true) ∧ Ext w w' := by
  have hm := hL.small
  obtain ⟨la, lc, rfl⟩ := hL.form
  obtain ⟨m, hm'⟩ : ∃ m, L.length = m := ⟨_, rfl⟩
  have HNL := Lib.hid hm'
  have HOT : Hid (Mos w (.slice la m lc) L) := by show Mos _ _ _; rw [← hm']; exact hL
  rw [hm'] at hm ⊢
  unfold maxLen at hm
  clear hL hm'
  go_enter Tryd.func6, Tryd.ntmps6
  go_wp2_with fail
  refine (first13_any _).mono ?_; rintro e w1 ⟨rfl, hx1⟩
  have HE1 := Lib.hid hx1
  clear hx1
  go_wp2_with fail
  refine (mwnew_any _).mono ?_; rintro e w2 ⟨a, F, rfl, hF, hW, hx2⟩
  have HU2 : Hid (Uno (Sep (WrF a) TlF) w w2 (wsM (L.take 0), (.slice none 0 0, []))) := (Uno.first hW (HE1.out.trans hx2) (fun k hk => Nat.le_trans HE1.out.size (hF k hk))).add (WrF.obj a) (Ext.refl w2) (TlF.nil w2) (fun _ h => h.elim)
  clear hF hW hx2 HE1
  go_wp2_with fail
  go_loopw [8, 9] (fun tv iv wr => ∃ (i : Nat) (T : List Int), (i ≤ m ∧ i ≤ 2000) ∧ iv = .int .i64 (i : Int) ∧ Hid (tdM L i T) ∧ Hid (Uno (Sep (WrF a) TlF) w wr (wsM (L.take i), (tv, T)))) (fun _ iv _ => m - (intOf iv).toNat)
  case atStart => exact ⟨0, [], ⟨Nat.zero_le _, Nat.zero_le _⟩, rfl, ⟨rfl, fun j o h => by omega⟩, HU2.out⟩
  case round =>
    clear HU2
    obtain ⟨i, T, ⟨hi, hi2⟩, rfl, HT, HU⟩ := hrel
    obtain ⟨ta, tc, rfl⟩ : ∃ ta tc, u8 = .slice ta i tc := by
      obtain ⟨_, h⟩ := HU.out.r
      obtain ⟨ta, tc, e⟩ := h.form
      exact ⟨ta, tc, by rw [e, HT.out.1]⟩
    by_cases hlt : i < m
    · by_cases hl2 : i < 2000
      · obtain ⟨o, hU⟩ : ∃ o, L[i]? = some o := ⟨_, List.getElem?_eq_getElem (by rw [HNL.out]; exact hlt)⟩
        obtain ⟨g, off, rfl, hq⟩ := HOT.out.had (by rw [HNL.out]; omega)
        have HQ := Lib.hid (hq i _ hU)
        have HE := Lib.hid HU.out.out
        obtain ⟨c0, c1, c2, c3⟩ := HQ.out.ext HE.out
        have x1 : (0 : Int) ≤ (i : Int) := by omega
        have x2 : (i : Int) < (m : Int) := by omega
        have x3 : (i : Int) < 2000 := by omega
        have hN4 : 64 * i ≤ 899000 := by omega
        have HOK : Hid (okS okEm (64 * i) (wsM (L.take i))) := (ws_ok (L.take i)).mono mkE (by rw [List.length_take]; omega)
        have HT2 := Lib.hid (HT.out.snoc hU)
        have HL := Lib.hid HT.out.1
        have HS2 : Hid (wsM (L.take (i + 1)) = (askM mE (wsM (L.take i)) o).2) := by
          obtain ⟨hl, e⟩ := List.getElem?_eq_some_iff.1 hU
          show _ = _
          rw [List.take_succ_eq_append_getElem hl, ws_snoc, e]
        have UA := Lib.hid (HU.out.pl TlF.obj (fun G h => mwask_any a (64 * i) o (wsM (L.take i)) G _ h HOK.out hN4))
        clear hq hU HT HU HE
        go_wp2_with fail
        refine (UA.out).mono ?_; rintro e w3 ⟨rfl, h⟩
        have H3 := Lib.hid h
        clear h UA c0 c1 c2 c3
        go_wp2_with (at_builtin; refine push_tl (WrF.obj a) rfl _ _ 61 rfl Tryd.underlying61 (.slice ta i tc) T i _ _ HL.out (by rfl) H3.out (by rfl) (by omega) ?_; intro g8 c8 w8 h8; have H8 := Lib.hid h8; clear h8)
        go_roundw
        case rel => exact ⟨i + 1, _, ⟨by omega, by omega⟩, by go_num, HT2.out, by show Uno _ _ _ _; rw [HS2.out]; exact H8.out⟩
        case measure => simp [intOf]; omega
      · have x3 : ¬ (i : Int) < 2000 := by omega
        have x2 : (i : Int) < (m : Int) := by omega
        -- in hand: wr, i, ta, tc, T: HU : Uno (Sep (WrF a) TlF) w wr (wsM (L.take i), (.slice ta i tc, T)), HT : tdM L i T
        have hN4 : 64 * i ≤ 899000 := by omega
        have HOK : Hid (okS okEm (64 * i) (wsM (L.take i))) := (ws_ok (L.take i)).mono mkE (by rw [List.length_take]; omega)
        obtain ⟨K, hK⟩ : ∃ K, L.take i = K := ⟨_, rfl⟩
        rw [hK] at HOK
        have HU2 : Hid (Uno (Sep (WrF a) TlF) w wr (wsM K, (.slice ta i tc, T))) := by show Uno _ _ _ _; rw [← hK]; exact HU.out
        have HKL : Hid (K.length = i) := by show _ = _; rw [← hK, List.length_take, HNL.out]; omega
        have HKK := Lib.hid hK
        have HBL := Lib.hid (bsM_lt K)
        have hB9 : (bsM K).length ≤ 900000 := by
          have h1 := trim_le (allE (wsM K).co)
          rw [allE_len] at h1
          have h2 := HOK.out.2.1.1
          have h3 : lenE (wsM K).co ≤ (wsM K).co.done.length + (wsM K).co.run + 5 := by unfold lenE; split <;> omega
          show (trimE (allE (wsM K).co)).length ≤ _
          omega
        obtain ⟨FW, hW⟩ := HU2.out.l
        have UE := Lib.hid (mwend_any a (64 * i) (wsM K) FW wr hW HOK.out (by omega))
        clear hK HU hW
        go_wp2_with fail
        refine (UE.out).mono ?_; rintro e w4 ⟨g4, k4, c4, rfl, hl4, ho4, hx4⟩
        have hy4 := Bys_n ho4 hl4 HBL.out (by rw [← hl4]; exact Nat.le_trans hB9 (by omega))
        have HY4 := Lib.hid hy4
        have HU4 := Lib.hid (HU2.out.ext ((WrF.obj a).sep TlF.obj) hx4)
        clear hy4 ho4 hx4 HU2 UE
        go_wp2_with fail
        refine (mrnew_any _ _ _ HY4.out).mono ?_; rintro e w5 ⟨d, G, rfl, hG, hR, hx5⟩
        have HU5 : Hid (Uno (Sep (Sep (WrF a) TlF) (RdF d (bsM K))) w w5 ((wsM K, (.slice ta i tc, T)), rsM K x b 0)) := HU4.out.add ((WrF.obj a).sep TlF.obj) hx5 hR hG
        have O3 := (WrF.obj a).sep TlF.obj
        clear hG hR hx5 HU4 HY4 hl4
        go_wp2_with fail
        go_loopw [11] (fun iv wr => ∃ j : Nat, j ≤ i ∧ iv = .int .i64 (j : Int) ∧ Hid (Uno (Sep (Sep (WrF a) TlF) (RdF d (bsM K))) w wr ((wsM K, (.slice ta i tc, T)), rsM K x b j))) (fun iv _ => i - (intOf iv).toNat)
        case atStart => exact ⟨0, Nat.zero_le _, rfl, HU5.out⟩
        case round =>
          clear HU5
          obtain ⟨j, hj, rfl, HU⟩ := hrel
          by_cases hlt2 : j < i
          · obtain ⟨o, hoL⟩ : ∃ o, L[j]? = some o := ⟨_, List.getElem?_eq_getElem (by rw [HNL.out]; omega)⟩
            have hoK : K[j]? = some o := by rw [← HKK.out, List.getElem?_take, if_pos hlt2]; exact hoL
            have htd := HT.out.2 j o hlt2 hoL
            have hKj : L.take j = K.take j := by rw [← HKK.out, List.take_take, Nat.min_eq_left hj]
            rw [hKj] at htd
            obtain ⟨r1, r2, r3⟩ := rs_o HBL.out x b hoK
            obtain ⟨V, hV⟩ : ∃ V, (askM mE (wsM (K.take j)) o).1 = V := ⟨_, rfl⟩
            rw [hV] at htd r1
            obtain ⟨g, off, hla, hq⟩ := HOT.out.had (by rw [HNL.out]; omega)
            have HQ := Lib.hid (hq j _ hoL)
            subst hla
            obtain ⟨c0, c1, c2, c3⟩ := HQ.out.ext HU.out.out
            have y1 : (0 : Int) ≤ (j : Int) := by omega
            have y2 : (j : Int) < (m : Int) := by omega
            have y3 : (j : Int) < (i : Int) := by omega
            have HTD := Lib.hid htd
            have HR1 := Lib.hid r1
            have HR2 := Lib.hid r2
            have HRK : Hid (okS okDm (4 + 64 * j) (rsM K x b j)) := rs_ok HBL.out x b j (by rw [HKL.out]; omega)
            clear hoL hoK htd hKj r1 r2 r3 hV hq
            obtain ⟨gt, rfl, t0⟩ := told_cell HU.out HTD.out
            have A := (Ext.refl wr).alloc (.cells #[.int .i64 o.k, .int .i64 o.c, .int .i64 x, .bool b] 53)
            have A2 := A.drew
            have HUd := Lib.hid (HU.out.ext (O3.sep (RdF.obj d (bsM K))) A2)
            have UA := Lib.hid (HUd.out.pr O3 (fun G h => mrask_any d (4 + 64 * j) (bsM K) HBL.out ⟨o.k, o.c, x, b⟩ (rsM K x b j) G _ h HRK.out (by omega)))
            rw [HR1.out, ← HR2.out] at UA
            have t1 := A2.cell t0
            have t2 := A.cell t0
            have d0 : (wr.alloc (.cells #[.int .i64 o.k, .int .i64 o.c, .int .i64 x, .bool b] 53)).drew.cell? ⟨wr.heap.size, 0, none⟩ = some (.int .i64 o.k) := by simp
            have d1 : (wr.alloc (.cells #[.int .i64 o.k, .int .i64 o.c, .int .i64 x, .bool b] 53)).drew.cell? ⟨wr.heap.size, 1, none⟩ = some (.int .i64 o.c) := by simp
            have d2 : (wr.alloc (.cells #[.int .i64 o.k, .int .i64 o.c, .int .i64 x, .bool b] 53)).drew.cell? ⟨wr.heap.size, 2, none⟩ = some (.int .i64 x) := by simp
            have d3 : (wr.alloc (.cells #[.int .i64 o.k, .int .i64 o.c, .int .i64 x, .bool b] 53)).drew.cell? ⟨wr.heap.size, 3, none⟩ = some (.bool b) := by simp
            go_wp2_with fail
            go_region_law (go_simp; go_at_call 28; refine (UA.out).mono ?_; rintro e w5 ⟨rfl, h⟩; have H5 := Lib.hid h; have t5 := told_cell2 h HTD.out; clear h)
            all_goals go_wp2
            all_goals go_roundw
            all_goals first
              | exact ⟨j + 1, by omega, by go_num, H5.out⟩
              | (simp [intOf]; omega)
          · obtain rfl : j = i := by omega
            have y3 : ¬ (j : Int) < (j : Int) := by omega
            have HCH : Hid ((rsM K x b j).ch = (wsM K).ch) := by
              have h1 := (rs_i HBL.out x b j (by rw [HKL.out]; omega)).2.1
              have h2 : K.take j = K := by rw [List.take_of_length_le]; rw [HKL.out]; omega
              rw [h2] at h1
              exact h1
            go_wp2_with fail
            go_loopw [13] (fun iv wi => ∃ c : Nat, c ≤ 64 ∧ iv = .int .i64 (c : Int) ∧ Hid (Uno (Sep (Sep (WrF a) TlF) (RdF d (bsM K))) w wi ((wsM K, (.slice ta j tc, T)), rsM K x b j))) (fun iv _ => 64 - (intOf iv).toNat)
            case atStart => exact ⟨0, Nat.zero_le _, rfl, HU.out⟩
            case round =>
              clear HU
              obtain ⟨c, hc, rfl, HU⟩ := hrel
              by_cases hlt3 : c < 64
              · have z1 : (c : Int) < 64 := by omega
                obtain ⟨G1, hg1⟩ := HU.out.r
                obtain ⟨G2, hg2⟩ := HU.out.l
                have U1 := Lib.hid (mrch_any d (c : Int) _ _ hg1.ch)
                have U2 := Lib.hid (mwch_any a (c : Int) _ _ (WrF.ch hg2.choose_spec.choose_spec.1))
                rw [show ((rsM K x b j).ch) = (wsM K).ch from HCH.out] at U1
                obtain ⟨V, hV⟩ : ∃ V, chV (wsM K).ch (c : Int) = V := ⟨_, rfl⟩
                have U2' : Hid (Calls Tryd.prog 30 #[.pointer (some ⟨a, 0, none⟩), .int .i64 (c : Int)] wr fun e w' => e = .returned (.int .i64 V) ∧ wr = w') := by rw [← hV]; exact U2.out
                rw [hV] at U1
                clear hg1 hg2 U2 hV
                go_wp2_with fail
                refine (U1.out).mono ?_; rintro e w5 ⟨rfl, rfl⟩
                go_wp2_with fail
                refine (U2'.out).mono ?_; rintro e w6 ⟨rfl, rfl⟩
                go_wp2
                go_roundw
                case rel => exact ⟨c + 1, by omega, by go_num, HU.out⟩
                case measure => simp [intOf]; omega
              · have z1 : ¬ (c : Int) < 64 := by omega
                go_wp2_with fail
                refine (first13_any _).mono ?_; rintro e w6 ⟨rfl, hx6⟩
                go_wp2
                go_ret
                exact ⟨rfl, HU.out.out.trans hx6⟩
    · have x2 : ¬ (i : Int) < (m : Int) := by omega
      -- in hand: wr, i, ta, tc, T: HU : Uno (Sep (WrF a) TlF) w wr (wsM (L.take i), (.slice ta i tc, T)), HT : tdM L i T
      have hN4 : 64 * i ≤ 899000 := by omega
      have HOK : Hid (okS okEm (64 * i) (wsM (L.take i))) := (ws_ok (L.take i)).mono mkE (by rw [List.length_take]; omega)
      obtain ⟨K, hK⟩ : ∃ K, L.take i = K := ⟨_, rfl⟩
      rw [hK] at HOK
      have HU2 : Hid (Uno (Sep (WrF a) TlF) w wr (wsM K, (.slice ta i tc, T))) := by show Uno _ _ _ _; rw [← hK]; exact HU.out
      have HKL : Hid (K.length = i) := by show _ = _; rw [← hK, List.length_take, HNL.out]; omega
      have HKK := Lib.hid hK
      have HBL := Lib.hid (bsM_lt K)
      have hB9 : (bsM K).length ≤ 900000 := by
        have h1 := trim_le (allE (wsM K).co)
        rw [allE_len] at h1
        have h2 := HOK.out.2.1.1
        have h3 : lenE (wsM K).co ≤ (wsM K).co.done.length + (wsM K).co.run + 5 := by unfold lenE; split <;> omega
        show (trimE (allE (wsM K).co)).length ≤ _
        omega
      obtain ⟨FW, hW⟩ := HU2.out.l
      have UE := Lib.hid (mwend_any a (64 * i) (wsM K) FW wr hW HOK.out (by omega))
      clear hK HU hW
      go_wp2_with fail
      refine (UE.out).mono ?_; rintro e w4 ⟨g4, k4, c4, rfl, hl4, ho4, hx4⟩
      have hy4 := Bys_n ho4 hl4 HBL.out (by rw [← hl4]; exact Nat.le_trans hB9 (by omega))
      have HY4 := Lib.hid hy4
      have HU4 := Lib.hid (HU2.out.ext ((WrF.obj a).sep TlF.obj) hx4)
      clear hy4 ho4 hx4 HU2 UE
      go_wp2_with fail
      refine (mrnew_any _ _ _ HY4.out).mono ?_; rintro e w5 ⟨d, G, rfl, hG, hR, hx5⟩
      have HU5 : Hid (Uno (Sep (Sep (WrF a) TlF) (RdF d (bsM K))) w w5 ((wsM K, (.slice ta i tc, T)), rsM K x b 0)) := HU4.out.add ((WrF.obj a).sep TlF.obj) hx5 hR hG
      have O3 := (WrF.obj a).sep TlF.obj
      clear hG hR hx5 HU4 HY4 hl4
      go_wp2_with fail
      go_loopw [11] (fun iv wr => ∃ j : Nat, j ≤ i ∧ iv = .int .i64 (j : Int) ∧ Hid (Uno (Sep (Sep (WrF a) TlF) (RdF d (bsM K))) w wr ((wsM K, (.slice ta i tc, T)), rsM K x b j))) (fun iv _ => i - (intOf iv).toNat)
      case atStart => exact ⟨0, Nat.zero_le _, rfl, HU5.out⟩
      case round =>
        clear HU5
        obtain ⟨j, hj, rfl, HU⟩ := hrel
        by_cases hlt2 : j < i
        · obtain ⟨o, hoL⟩ : ∃ o, L[j]? = some o := ⟨_, List.getElem?_eq_getElem (by rw [HNL.out]; omega)⟩
          have hoK : K[j]? = some o := by rw [← HKK.out, List.getElem?_take, if_pos hlt2]; exact hoL
          have htd := HT.out.2 j o hlt2 hoL
          have hKj : L.take j = K.take j := by rw [← HKK.out, List.take_take, Nat.min_eq_left hj]
          rw [hKj] at htd
          obtain ⟨r1, r2, r3⟩ := rs_o HBL.out x b hoK
          obtain ⟨V, hV⟩ : ∃ V, (askM mE (wsM (K.take j)) o).1 = V := ⟨_, rfl⟩
          rw [hV] at htd r1
          obtain ⟨g, off, hla, hq⟩ := HOT.out.had (by rw [HNL.out]; omega)
          have HQ := Lib.hid (hq j _ hoL)
          subst hla
          obtain ⟨c0, c1, c2, c3⟩ := HQ.out.ext HU.out.out
          have y1 : (0 : Int) ≤ (j : Int) := by omega
          have y2 : (j : Int) < (m : Int) := by omega
          have y3 : (j : Int) < (i : Int) := by omega
          have HTD := Lib.hid htd
          have HR1 := Lib.hid r1
          have HR2 := Lib.hid r2
          have HRK : Hid (okS okDm (4 + 64 * j) (rsM K x b j)) := rs_ok HBL.out x b j (by rw [HKL.out]; omega)
          clear hoL hoK htd hKj r1 r2 r3 hV hq
          obtain ⟨gt, rfl, t0⟩ := told_cell HU.out HTD.out
          have A := (Ext.refl wr).alloc (.cells #[.int .i64 o.k, .int .i64 o.c, .int .i64 x, .bool b] 53)
          have A2 := A.drew
          have HUd := Lib.hid (HU.out.ext (O3.sep (RdF.obj d (bsM K))) A2)
          have UA := Lib.hid (HUd.out.pr O3 (fun G h => mrask_any d (4 + 64 * j) (bsM K) HBL.out ⟨o.k, o.c, x, b⟩ (rsM K x b j) G _ h HRK.out (by omega)))
          rw [HR1.out, ← HR2.out] at UA
          have t1 := A2.cell t0
          have t2 := A.cell t0
          have d0 : (wr.alloc (.cells #[.int .i64 o.k, .int .i64 o.c, .int .i64 x, .bool b] 53)).drew.cell? ⟨wr.heap.size, 0, none⟩ = some (.int .i64 o.k) := by simp
          have d1 : (wr.alloc (.cells #[.int .i64 o.k, .int .i64 o.c, .int .i64 x, .bool b] 53)).drew.cell? ⟨wr.heap.size, 1, none⟩ = some (.int .i64 o.c) := by simp
          have d2 : (wr.alloc (.cells #[.int .i64 o.k, .int .i64 o.c, .int .i64 x, .bool b] 53)).drew.cell? ⟨wr.heap.size, 2, none⟩ = some (.int .i64 x) := by simp
          have d3 : (wr.alloc (.cells #[.int .i64 o.k, .int .i64 o.c, .int .i64 x, .bool b] 53)).drew.cell? ⟨wr.heap.size, 3, none⟩ = some (.bool b) := by simp
          go_wp2_with fail
          go_region_law (go_simp; go_at_call 28; refine (UA.out).mono ?_; rintro e w5 ⟨rfl, h⟩; have H5 := Lib.hid h; have t5 := told_cell2 h HTD.out; clear h)
          all_goals go_wp2
          all_goals go_roundw
          all_goals first
            | exact ⟨j + 1, by omega, by go_num, H5.out⟩
            | (simp [intOf]; omega)
        · obtain rfl : j = i := by omega
          have y3 : ¬ (j : Int) < (j : Int) := by omega
          have HCH : Hid ((rsM K x b j).ch = (wsM K).ch) := by
            have h1 := (rs_i HBL.out x b j (by rw [HKL.out]; omega)).2.1
            have h2 : K.take j = K := by rw [List.take_of_length_le]; rw [HKL.out]; omega
            rw [h2] at h1
            exact h1
          go_wp2_with fail
          go_loopw [13] (fun iv wi => ∃ c : Nat, c ≤ 64 ∧ iv = .int .i64 (c : Int) ∧ Hid (Uno (Sep (Sep (WrF a) TlF) (RdF d (bsM K))) w wi ((wsM K, (.slice ta j tc, T)), rsM K x b j))) (fun iv _ => 64 - (intOf iv).toNat)
          case atStart => exact ⟨0, Nat.zero_le _, rfl, HU.out⟩
          case round =>
            clear HU
            obtain ⟨c, hc, rfl, HU⟩ := hrel
            by_cases hlt3 : c < 64
            · have z1 : (c : Int) < 64 := by omega
              obtain ⟨G1, hg1⟩ := HU.out.r
              obtain ⟨G2, hg2⟩ := HU.out.l
              have U1 := Lib.hid (mrch_any d (c : Int) _ _ hg1.ch)
              have U2 := Lib.hid (mwch_any a (c : Int) _ _ (WrF.ch hg2.choose_spec.choose_spec.1))
              rw [show ((rsM K x b j).ch) = (wsM K).ch from HCH.out] at U1
              obtain ⟨V, hV⟩ : ∃ V, chV (wsM K).ch (c : Int) = V := ⟨_, rfl⟩
              have U2' : Hid (Calls Tryd.prog 30 #[.pointer (some ⟨a, 0, none⟩), .int .i64 (c : Int)] wr fun e w' => e = .returned (.int .i64 V) ∧ wr = w') := by rw [← hV]; exact U2.out
              rw [hV] at U1
              clear hg1 hg2 U2 hV
              go_wp2_with fail
              refine (U1.out).mono ?_; rintro e w5 ⟨rfl, rfl⟩
              go_wp2_with fail
              refine (U2'.out).mono ?_; rintro e w6 ⟨rfl, rfl⟩
              go_wp2
              go_roundw
              case rel => exact ⟨c + 1, by omega, by go_num, HU.out⟩
              case measure => simp [intOf]; omega
            · have z1 : ¬ (c : Int) < 64 := by omega
              go_wp2_with fail
              refine (first13_any _).mono ?_; rintro e w6 ⟨rfl, hx6⟩
              go_wp2
              go_ret
              exact ⟨rfl, HU.out.out.trans hx6⟩
end Go.Proofs.YtkfdhnmlebnfkaaDoor
