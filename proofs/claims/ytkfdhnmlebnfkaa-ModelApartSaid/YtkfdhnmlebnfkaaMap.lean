/- kinlaw13.ModelApart: the walk. -/
import Derived.Test.YtkfdhnmlebnfkaaZj
namespace Go.Proofs.Ytkfdhnmlebnfkaa
set_option linter.unusedVariables false
set_option linter.unusedSimpArgs false
open Go.RowKit Go.Extern.Stop Go.Stop Go.Extern

theorem WrF.ch2 {a : Nat} {w : World} {F : Nat → Prop} {s : Ms Ec} (h : WrF a w F s) : ChAt w a 0 s.ch := by obtain ⟨_, _, _, h, _⟩ := h; exact h
theorem two_w {a d : Nat} {w0 w : World} {s t : Ms Ec} (k : Int) (h : Uno (Sep (WrF a) (WrF d)) w0 w (s, t)) :
    (Calls Try.prog 17 #[.pointer (some ⟨a, 0, none⟩), .int .i64 k] w fun e w' => e = .returned (.int .i64 (chV s.ch k)) ∧ w = w') ∧ (Calls Try.prog 17 #[.pointer (some ⟨d, 0, none⟩), .int .i64 k] w fun e w' => e = .returned (.int .i64 (chV t.ch k)) ∧ w = w') := by
  obtain ⟨_, h1⟩ := h.l
  obtain ⟨_, h2⟩ := h.r
  exact ⟨mwch_any a k s.ch w h1.ch2, mwch_any d k t.ch w h2.ch2⟩
/-- what a bit or a flat bit leaves of a chance -/
theorem ask_ch {s : Ms Ec} {o : Mo} {n : Nat} (h : o.k = 1 ∨ (o.k = 0 ∧ o.c ≠ (n : Int))) : (askM mE s o).2.ch n = s.ch n := by
  rcases h with h | ⟨h, hc⟩
  · unfold askM
    rw [if_neg (by omega), if_pos h]
    rfl
  · unfold askM
    rw [if_pos h]
    show (bitM mE s o.c o.b).2.ch n = _
    unfold bitM
    cases e : ctxM o.c
    · rfl
    · show setM s.ch o.c.toNat _ n = _
      have hc' : (decide (0 ≤ o.c) && decide (o.c < 64)) = true := e
      rw [Bool.and_eq_true, decide_eq_true_iff, decide_eq_true_iff] at hc'
      unfold setM
      rw [if_neg (by omega)]
theorem ask_ch0 {s t : Ms Ec} {o : Mo} {n : Nat} (h : o.k = 0) (hc : o.c = (n : Int)) (e : s.ch n = t.ch n) : (askM mE s o).2.ch n = (askM mE t o).2.ch n := by
  have e1 : ∀ u : Ms Ec, (askM mE u o).2 = (bitM mE u (n : Int) o.b).2 := fun u => by
    unfold askM
    rw [if_pos h, hc]
  rw [e1, e1]
  unfold bitM
  cases e2 : ctxM (n : Int)
  · exact e
  · show setM s.ch ((n : Int)).toNat (lrnM (s.ch ((n : Int)).toNat) o.b) n = setM t.ch ((n : Int)).toNat (lrnM (t.ch ((n : Int)).toNat) o.b) n
    rw [Int.toNat_natCast]
    unfold setM
    rw [if_pos rfl, if_pos rfl, e]
set_option maxHeartbeats 8000000 in
set_option maxRecDepth 20000 in
theorem mapart_law (L : List Mo) (v : Value) (x : Int) (w : World) (hL : Mos w v L) (hx : -9223372036854775808 ≤ x ∧ x ≤ 9223372036854775807) : Calls Try.prog 5 #[v, .int .i64 x] w fun e w' => e = .returned (.bool true) ∧ Ext w w' := by
  have hm := hL.small
  obtain ⟨la, lc, rfl⟩ := hL.form
  obtain ⟨m, hm'⟩ : ∃ m, L.length = m := ⟨_, rfl⟩
  have HNL := Lib.hid hm'
  have HOT : Hid (Mos w (.slice la m lc) L) := by show Mos _ _ _; rw [← hm']; exact hL
  rw [hm'] at hm ⊢
  unfold maxLen at hm
  obtain ⟨r, hr⟩ : ∃ r, Int.tmod x 64 = r := ⟨_, rfl⟩
  have hr1 : -64 < r ∧ r < 64 := by
    rw [← hr]
    exact ⟨Int.lt_tmod_of_pos x (by decide), Int.tmod_lt_of_pos x (by decide)⟩
  obtain ⟨n, hn⟩ : ∃ n : Nat, Int.tmod (r + 64) 64 = (n : Int) := ⟨(Int.tmod (r + 64) 64).toNat, by
    have := Int.tmod_nonneg 64 (show 0 ≤ r + 64 by omega)
    omega⟩
  have s1 : IntKind.i64.wrap r = r := by rw [IntKind.wrap_i64]; omega
  have s2 : IntKind.i64.wrap (r + 64) = r + 64 := by rw [IntKind.wrap_i64]; omega
  have hn64 : (n : Int) < 64 := by rw [← hn]; exact Int.tmod_lt_of_pos _ (by decide)
  have s3 : IntKind.i64.wrap (n : Int) = (n : Int) := by rw [IntKind.wrap_i64]; omega
  clear hL hm' hr1 hx
  go_enter Try.func5, Try.ntmps5
  go_wp2_with fail
  refine (first13_any _).mono ?_; rintro e w1 ⟨rfl, hx1⟩
  have HE1 := Lib.hid hx1
  clear hx1
  go_wp2_with fail
  refine (mwnew_any _).mono ?_; rintro e w2 ⟨a, F, rfl, hF, hW, hx2⟩
  have HU2 : Hid (Uno (WrF a) w w2 ⟨ch0, newE⟩) := Uno.first hW (HE1.out.trans hx2) (fun k hk => Nat.le_trans HE1.out.size (hF k hk))
  clear hF hW hx2 HE1
  go_wp2_with fail
  refine (mwnew_any _).mono ?_; rintro e w3 ⟨d, G, rfl, hG, hD, hx3⟩
  have HU3 := Lib.hid (HU2.out.add (WrF.obj a) hx3 hD hG)
  clear hG hD hx3 HU2
  have O1 := WrF.obj a
  have O2 := WrF.obj d
  go_wp2_with fail
  go_loopw [7] (fun iv wr => ∃ (i : Nat) (s t : Ms Ec), (i ≤ m ∧ i ≤ 2000) ∧ iv = .int .i64 (i : Int) ∧ Hid (okS okEm (64 * i) s ∧ okS okEm (64 * i) t ∧ s.ch n = t.ch n) ∧ Hid (Uno (Sep (WrF a) (WrF d)) w wr (s, t))) (fun iv _ => m - (intOf iv).toNat)
  case atStart => exact ⟨0, _, _, ⟨Nat.zero_le _, Nat.zero_le _⟩, rfl, ⟨okn13, okn13, rfl⟩, HU3.out⟩
  case round =>
    clear HU3
    obtain ⟨i, s, t, ⟨hi, hi2⟩, rfl, HJ, HU⟩ := hrel
    by_cases hlt : i < m
    · by_cases hl2 : i < 2000
      · obtain ⟨o, hU⟩ : ∃ o, L[i]? = some o := ⟨_, List.getElem?_eq_getElem (by rw [HNL.out]; exact hlt)⟩
        obtain ⟨g, off, rfl, hq⟩ := HOT.out.had (by rw [HNL.out]; omega)
        have HQ := Lib.hid (hq i _ hU)
        obtain ⟨c0, c1, c2, c3⟩ := HQ.out.ext HU.out.out
        have x1 : (0 : Int) ≤ (i : Int) := by omega
        have x2 : (i : Int) < (m : Int) := by omega
        have x3 : (i : Int) < 2000 := by omega
        have hN4 : 64 * i ≤ 899000 := by omega
        have HJm : Hid (okS okEm (64 * (i + 1)) s ∧ okS okEm (64 * (i + 1)) t ∧ s.ch n = t.ch n) := ⟨HJ.out.1.mono mkE (by omega), HJ.out.2.1.mono mkE (by omega), HJ.out.2.2⟩
        clear hU hq
        by_cases k1 : 1 < o.k
        · have t1 : decide (1 < o.k) = true := decide_eq_true k1
          go_wp2
          go_roundw
          case rel => exact ⟨i + 1, s, t, ⟨by omega, by omega⟩, by go_num, HJm.out, HU.out⟩
          case measure => simp [intOf]; omega
        by_cases k2 : o.k < 0
        · go_wp2
          go_roundw
          case rel => exact ⟨i + 1, s, t, ⟨by omega, by omega⟩, by go_num, HJm.out, HU.out⟩
          case measure => simp [intOf]; omega
        have UA := Lib.hid (HU.out.pl O2 (fun G h => mwask_any a (64 * i) o s G _ h HJ.out.1 hN4))
        obtain ⟨⟨R, s2'⟩, es⟩ : ∃ r, askM mE s o = r := ⟨_, rfl⟩
        have A1 := Lib.hid (ask_ok mkE o HJ.out.1)
        rw [es] at UA A1
        by_cases k0 : o.k = 0
        · have t0 : (o.k == 0) = true := by rw [beq_iff_eq]; exact k0
          by_cases kc : o.c = (n : Int)
          · have tc : (o.c == (n : Int)) = true := by rw [beq_iff_eq]; exact kc
            have HC := Lib.hid (ask_ch0 k0 kc HJ.out.2.2)
            have UB := Lib.hid (fun w' (h : Uno (Sep (WrF a) (WrF d)) w w' (s2', t)) => h.pr O1 (fun G h => mwask_any d (64 * i) o t G _ h HJ.out.2.1 hN4))
            obtain ⟨⟨R2, t2⟩, et⟩ : ∃ r, askM mE t o = r := ⟨_, rfl⟩
            have A2 := Lib.hid (ask_ok mkE o HJ.out.2.1)
            rw [et] at UB A2
            rw [es, et] at HC
            have HJ2 : Hid (okS okEm (64 * (i + 1)) s2' ∧ okS okEm (64 * (i + 1)) t2 ∧ s2'.ch n = t2.ch n) := ⟨A1.out, A2.out, HC.out⟩
            clear es et HJ HU A1 A2 HC k0 kc
            go_wp2_with fail
            refine (UA.out).mono ?_; rintro e w4 ⟨rfl, h⟩
            have H4 := Lib.hid h
            obtain ⟨c0, c1, c2, c3⟩ := HQ.out.ext h.out
            clear h UA
            go_wp2_with fail
            refine (UB.out _ H4.out).mono ?_; rintro e wz ⟨rfl, h⟩
            have HUz : Hid (Uno (Sep (WrF a) (WrF d)) w wz (s2', t2)) := h
            clear h UB H4 c0 c1 c2 c3
            generalize s2' = s2 at HUz HJ2
            -- in hand: wz, s2, t2: HUz : Uno .. w wz (s2, t2), HJ2 : okS .. s2, okS .. t2, s2.ch n = t2.ch n
            obtain ⟨u1, u2⟩ := two_w (n : Int) HUz.out
            have hch : chV t2.ch (n : Int) = chV s2.ch (n : Int) := by
              unfold chV
              rw [Int.toNat_natCast, HJ2.out.2.2]
            rw [hch] at u2
            obtain ⟨V, hV⟩ : ∃ V, chV s2.ch (n : Int) = V := ⟨_, rfl⟩
            rw [hV] at u1 u2
            have U1 := Lib.hid u1
            have U2 := Lib.hid u2
            clear u1 u2 hV hch
            go_wp2_with fail
            refine (U1.out).mono ?_; rintro e w5 ⟨rfl, rfl⟩
            go_wp2_with fail
            refine (U2.out).mono ?_; rintro e w6 ⟨rfl, rfl⟩
            go_wp2
            go_roundw
            case rel => exact ⟨i + 1, s2, t2, ⟨by omega, by omega⟩, by go_num, HJ2.out, HUz.out⟩
            case measure => simp [intOf]; omega
          · have tc : (o.c == (n : Int)) = false := by rw [beq_eq_false_iff_ne]; exact kc
            have HC := Lib.hid (ask_ch (s := s) (o := o) (n := n) (.inr ⟨k0, kc⟩))
            rw [es] at HC
            have HJ2 : Hid (okS okEm (64 * (i + 1)) s2' ∧ okS okEm (64 * (i + 1)) t ∧ s2'.ch n = t.ch n) := ⟨A1.out, HJm.out.2.1, HC.out.trans HJ.out.2.2⟩
            clear es HJ HU A1 HC k0
            go_wp2_with fail
            refine (UA.out).mono ?_; rintro e wz ⟨rfl, h⟩
            have HUz : Hid (Uno (Sep (WrF a) (WrF d)) w wz (s2', t)) := h
            obtain ⟨c0, c1, c2, c3⟩ := HQ.out.ext h.out
            clear h UA HJm
            generalize s2' = s2 at HUz HJ2
            generalize t = t2 at HUz HJ2
            -- in hand: wz, s2, t2: HUz : Uno .. w wz (s2, t2), HJ2 : okS .. s2, okS .. t2, s2.ch n = t2.ch n
            obtain ⟨u1, u2⟩ := two_w (n : Int) HUz.out
            have hch : chV t2.ch (n : Int) = chV s2.ch (n : Int) := by
              unfold chV
              rw [Int.toNat_natCast, HJ2.out.2.2]
            rw [hch] at u2
            obtain ⟨V, hV⟩ : ∃ V, chV s2.ch (n : Int) = V := ⟨_, rfl⟩
            rw [hV] at u1 u2
            have U1 := Lib.hid u1
            have U2 := Lib.hid u2
            clear u1 u2 hV hch
            go_wp2_with fail
            refine (U1.out).mono ?_; rintro e w5 ⟨rfl, rfl⟩
            go_wp2_with fail
            refine (U2.out).mono ?_; rintro e w6 ⟨rfl, rfl⟩
            go_wp2
            go_roundw
            case rel => exact ⟨i + 1, s2, t2, ⟨by omega, by omega⟩, by go_num, HJ2.out, HUz.out⟩
            case measure => simp [intOf]; omega
        · have t0 : (o.k == 0) = false := by rw [beq_eq_false_iff_ne]; exact k0
          have k9 : o.k = 1 := by omega
          have HC := Lib.hid (ask_ch (s := s) (o := o) (n := n) (.inl k9))
          rw [es] at HC
          have HJ2 : Hid (okS okEm (64 * (i + 1)) s2' ∧ okS okEm (64 * (i + 1)) t ∧ s2'.ch n = t.ch n) := ⟨A1.out, HJm.out.2.1, HC.out.trans HJ.out.2.2⟩
          clear es HJ HU A1 HC k9
          go_wp2_with fail
          refine (UA.out).mono ?_; rintro e wz ⟨rfl, h⟩
          have HUz : Hid (Uno (Sep (WrF a) (WrF d)) w wz (s2', t)) := h
          obtain ⟨c0, c1, c2, c3⟩ := HQ.out.ext h.out
          clear h UA HJm
          generalize s2' = s2 at HUz HJ2
          generalize t = t2 at HUz HJ2
          -- in hand: wz, s2, t2: HUz : Uno .. w wz (s2, t2), HJ2 : okS .. s2, okS .. t2, s2.ch n = t2.ch n
          obtain ⟨u1, u2⟩ := two_w (n : Int) HUz.out
          have hch : chV t2.ch (n : Int) = chV s2.ch (n : Int) := by
            unfold chV
            rw [Int.toNat_natCast, HJ2.out.2.2]
          rw [hch] at u2
          obtain ⟨V, hV⟩ : ∃ V, chV s2.ch (n : Int) = V := ⟨_, rfl⟩
          rw [hV] at u1 u2
          have U1 := Lib.hid u1
          have U2 := Lib.hid u2
          clear u1 u2 hV hch
          go_wp2_with fail
          refine (U1.out).mono ?_; rintro e w5 ⟨rfl, rfl⟩
          go_wp2_with fail
          refine (U2.out).mono ?_; rintro e w6 ⟨rfl, rfl⟩
          go_wp2
          go_roundw
          case rel => exact ⟨i + 1, s2, t2, ⟨by omega, by omega⟩, by go_num, HJ2.out, HUz.out⟩
          case measure => simp [intOf]; omega
      · have x3 : ¬ (i : Int) < 2000 := by omega
        have x2 : (i : Int) < (m : Int) := by omega
        go_wp2_with fail
        refine (first13_any _).mono ?_; rintro e w6 ⟨rfl, hx6⟩
        go_wp2
        go_ret
        exact ⟨rfl, HU.out.out.trans hx6⟩
    · have x2 : ¬ (i : Int) < (m : Int) := by omega
      go_wp2_with fail
      refine (first13_any _).mono ?_; rintro e w6 ⟨rfl, hx6⟩
      go_wp2
      go_ret
      exact ⟨rfl, HU.out.out.trans hx6⟩
end Go.Proofs.Ytkfdhnmlebnfkaa
