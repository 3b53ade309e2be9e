/- kinlaw13.ModelBounds: plain, the walk. -/
import Derived.Test.YtkfdhnmlebnfkaaZj
namespace Go.Proofs.Ytkfdhnmlebnfkaa
set_option linter.unusedVariables false
set_option linter.unusedSimpArgs false
open Go.RowKit Go.Extern.Stop Go.Stop Go.Extern

section
variable {σ : Type} {M : Mc σ}
theorem kind_le (s : Ms σ) (k : Int) : (kindM M s k).1 ≤ 3 := by
  unfold kindM
  split
  · split
    · show (if _ then 3 else 2) ≤ 3
      split <;> omega
    · exact (by omega : 1 ≤ 3)
  · exact (by omega : 0 ≤ 3)
theorem mode_le (s : Ms σ) (k : Nat) : (modeM M s k).1 ≤ 3 := by
  unfold modeM
  split
  · show (if _ then 3 else 2) ≤ 3
    split <;> omega
  · show (if _ then 1 else 0) ≤ 3
    split <;> omega
theorem siz_le (z : Int) : ∀ (f n : Nat) (s : Ms σ), (sizM M z f n s).1 ≤ n + f
  | 0, n, s => Nat.le_refl _
  | f + 1, n, s => by
    unfold sizM
    split
    · have := siz_le z f (n + 1) (bitM M s ((7 + min n 6 : Nat) : Int) (decide ((n : Int) < z))).2
      omega
    · exact (by omega : n ≤ n + (f + 1))
theorem part_le (s : Ms σ) (v : Int) : -15 ≤ (partM M s v).1 ∧ (partM M s v).1 ≤ 15 := by
  unfold partM
  split
  · have := siz_le (M := M) ((v.natAbs : Int) - 1) 14 0 (flaM M (bitM M s 6 (decide (v ≠ 0))).2 (decide (v < 0))).2
    generalize (sizM M ((v.natAbs : Int) - 1) 14 0 (flaM M (bitM M s 6 (decide (v ≠ 0))).2 (decide (v < 0))).2).1 = r at *
    generalize (flaM M (bitM M s 6 (decide (v ≠ 0))).2 (decide (v < 0))).1 = q at *
    show -15 ≤ (if q = true then -(r : Int) - 1 else (r : Int) + 1) ∧ (if q = true then -(r : Int) - 1 else (r : Int) + 1) ≤ 15
    split <;> omega
  · exact ⟨(by show (-15 : Int) ≤ 0; decide), (by show (0 : Int) ≤ 15; decide)⟩
end
theorem bit_id (s : Ms Ec) (c : Int) (b : Bool) : (bitM mE s c b).1 = b := by
  unfold bitM
  split <;> rfl
theorem kind_id (s : Ms Ec) (k : Int) : ((kindM mE s k).1 : Int) = min (max k 0) 3 := by
  unfold kindM
  rw [bit_id, bit_id, bit_id]
  by_cases h0 : 0 < k
  · rw [if_pos (decide_eq_true h0)]
    by_cases h1 : 1 < k
    · rw [if_pos (decide_eq_true h1)]
      by_cases h2 : 2 < k
      · show ((if decide (2 < k) = true then 3 else 2 : Nat) : Int) = _
        rw [if_pos (decide_eq_true h2)]; omega
      · show ((if decide (2 < k) = true then 3 else 2 : Nat) : Int) = _
        rw [if_neg (by rw [decide_eq_true_iff]; exact h2)]; omega
    · rw [if_neg (by rw [decide_eq_true_iff]; exact h1)]
      show ((1 : Nat) : Int) = _
      omega
  · rw [if_neg (by rw [decide_eq_true_iff]; exact h0)]
    show ((0 : Nat) : Int) = _
    omega
theorem mode_id (s : Ms Ec) (m : Nat) (h : m ≤ 3) : (modeM mE s m).1 = m := by
  unfold modeM
  rw [bit_id, bit_id, bit_id]
  match m, h with
  | 0, _ => rfl
  | 1, _ => rfl
  | 2, _ => rfl
  | 3, _ => rfl
theorem siz_id (z : Int) : ∀ (f n : Nat) (s : Ms Ec), ((sizM mE z f n s).1 : Int) = if (n : Int) < z then min z ((n + f : Nat) : Int) else (n : Int)
  | 0, n, s => by
    show (n : Int) = _
    split <;> omega
  | f + 1, n, s => by
    unfold sizM
    rw [bit_id]
    by_cases h : (n : Int) < z
    · rw [if_pos (decide_eq_true h), siz_id z f (n + 1), if_pos h]
      split <;> omega
    · rw [if_neg (by rw [decide_eq_true_iff]; exact h), if_neg h]
theorem part_id (s : Ms Ec) (v : Int) (h1 : -15 ≤ v) (h2 : v ≤ 15) : (partM mE s v).1 = v := by
  unfold partM
  rw [bit_id]
  by_cases h0 : v = 0
  · rw [if_neg (by rw [decide_eq_true_iff]; exact fun h => h h0)]
    exact h0.symm
  · rw [if_pos (decide_eq_true h0)]
    have hs := siz_id ((v.natAbs : Int) - 1) 14 0 (flaM mE (bitM mE s 6 (decide (v ≠ 0))).2 (decide (v < 0))).2
    show (if decide (v < 0) = true then _ else _ : Int) = v
    by_cases h3 : v < 0
    · rw [if_pos (decide_eq_true h3), hs]
      split <;> omega
    · rw [if_neg (by rw [decide_eq_true_iff]; exact h3), hs]
      split <;> omega
/-- a variable of the call's own that holds an operation -/
def VrF (p : Nat) (w : World) (F : Nat → Prop) (o : Mo) : Prop := MoIn w p 0 o ∧ ∀ k, F k ↔ k = p
theorem VrF.obj (p : Nat) : Obj (VrF p) := ⟨fun h k hk => by rw [(h.2 k).1 hk]; exact Ext.lt (p := ⟨p, 0, none⟩) h.1.1, fun {w w' F s} h k => by
  have e := k p ((h.2 p).2 rfl)
  exact ⟨⟨(World.cell?_of_block (a := ⟨p, 0, none⟩) e).trans h.1.1, (World.cell?_of_block (a := ⟨p, 0 + 1, none⟩) e).trans h.1.2.1, (World.cell?_of_block (a := ⟨p, 0 + 2, none⟩) e).trans h.1.2.2.1, (World.cell?_of_block (a := ⟨p, 0 + 3, none⟩) e).trans h.1.2.2.2⟩, h.2⟩⟩
theorem Uno.drop {σ τ : Type} {A : World → (Nat → Prop) → σ → Prop} {B : World → (Nat → Prop) → τ → Prop} {w0 w : World} {s : σ} {t : τ} (h : Uno (Sep A B) w0 w (s, t)) : Uno A w0 w s := by
  obtain ⟨F, ⟨F1, F2, h1, h2, h3, h4⟩, h5, h6⟩ := h
  exact ⟨F1, h1, h5, fun k hk => h6 k ((h4 k).2 (.inl hk))⟩
theorem var_c {σ : Type} {A : World → (Nat → Prop) → σ → Prop} {w0 w : World} {s : σ} {o : Mo} {p : Nat} (h : Uno (Sep A (VrF p)) w0 w (s, o)) : MoIn w p 0 o := by obtain ⟨_, h⟩ := h.r; exact h.1
theorem WrF.ch3 {a : Nat} {w : World} {F : Nat → Prop} {s : Ms Ec} (h : WrF a w F s) : ChAt w a 0 s.ch := by obtain ⟨_, _, _, h, _⟩ := h; exact h
set_option maxHeartbeats 8000000 in
set_option maxRecDepth 20000 in
theorem mbounds_law (bs : List Nat) (L : List Mo) (v u : Value) (w : World) (rb : Row w v bs.length (bs.map fun x : Nat => Value.int .u8 (x : Int))) (hb : ∀ x ∈ bs, x < 256) (hL : Mos w u L) : Calls Try.prog 4 #[v, u] w fun e w' => e = .returned (.bool true) ∧ Ext w w' := by
  have hm := hL.small
  obtain ⟨la, lc, rfl⟩ := hL.form
  obtain ⟨ba, bc, rfl⟩ := rb.form
  obtain ⟨m, hm'⟩ : ∃ m, L.length = m := ⟨_, rfl⟩
  obtain ⟨n, hn⟩ : ∃ n, bs.length = n := ⟨_, rfl⟩
  have HNL := Lib.hid hm'
  have HOT : Hid (Mos w (.slice la m lc) L) := by show Mos _ _ _; rw [← hm']; exact hL
  rw [hm'] at hm ⊢
  rw [hn] at rb ⊢
  unfold maxLen at hm
  by_cases h1 : 20000 < n
  · have h1' : (20000 : Int) < (n : Int) := by omega
    clear hL rb hm' hn hb
    go_enter Try.func4, Try.ntmps4
    go_wp2_with fail
    refine (first13_any _).mono ?_; rintro e w1 ⟨rfl, hx1⟩
    go_wp2_with fail
    refine (first13_any _).mono ?_; rintro e w2 ⟨rfl, hx2⟩
    go_wp2
    go_ret
    exact ⟨rfl, hx1.trans hx2⟩
  have h1' : ¬ (20000 : Int) < (n : Int) := by omega
  have HB : Hid (Bys w (.slice ba n bc) bs) := ⟨by rw [hn]; exact rb, hb, by rw [hn]; omega⟩
  have HBB := Lib.hid hb
  have UN := Lib.hid (mrnew_any bs)
  clear hL rb hm' hn hb
  go_enter Try.func4, Try.ntmps4
  go_wp2_with fail
  refine (first13_any _).mono ?_; rintro e w1 ⟨rfl, hx1⟩
  have HE1 := Lib.hid hx1
  clear hx1
  go_wp2_with fail
  refine (UN.out _ _ (HB.out.ext HE1.out)).mono ?_; rintro e w3 ⟨d, F, rfl, hF, hD3, hx3⟩
  have HU0 : Hid (Uno (RdF d bs) w w3 ⟨ch0, newD bs⟩) := Uno.first hD3 (HE1.out.trans hx3) (fun k hk => Nat.le_trans HE1.out.size (hF k hk))
  clear hD3 hx3 hF HE1
  go_wp2_with fail
  refine (mwnew_any _).mono ?_; rintro e w4 ⟨a, G, rfl, hG, hW, hx4⟩
  have O1 := RdF.obj d bs
  have O2 := WrF.obj a
  have O3 := O1.sep O2
  have HU4 := Lib.hid (HU0.out.add O1 hx4 hW hG)
  clear hG hW hx4 HU0
  go_wp2_with fail
  go_loopw [7] (fun iv wr => ∃ (i : Nat) (s : Ms Dc) (t : Ms Ec), (i ≤ m ∧ i ≤ 2000) ∧ iv = .int .i64 (i : Int) ∧ Hid (okS okDm (4 + 64 * i) s ∧ okS okEm (64 * i) t) ∧ Hid (Uno (Sep (RdF d bs) (WrF a)) w wr (s, t))) (fun iv _ => m - (intOf iv).toNat)
  case atStart => exact ⟨0, _, _, ⟨Nat.zero_le _, Nat.zero_le _⟩, rfl, ⟨okd13 HBB.out, okn13⟩, HU4.out⟩
  case round =>
    clear HU4
    obtain ⟨i, s, t, ⟨hi, hi2⟩, rfl, HJ, HU⟩ := hrel
    by_cases hlt : i < m
    · by_cases hl2 : i < 2000
      · obtain ⟨o, hU⟩ : ∃ o, L[i]? = some o := ⟨_, List.getElem?_eq_getElem (by rw [HNL.out]; exact hlt)⟩
        obtain ⟨g, off, rfl, hq⟩ := HOT.out.had (by rw [HNL.out]; omega)
        have HQ := Lib.hid (hq i _ hU)
        obtain ⟨c0, c1, c2, c3⟩ := HQ.out.ext HU.out.out
        have x1 : (0 : Int) ≤ (i : Int) := by omega
        have x2 : (i : Int) < (m : Int) := by omega
        have x3 : (i : Int) < 2000 := by omega
        have hN4 : 4 + 64 * i ≤ 899000 := by omega
        have hN5 : 64 * i ≤ 899000 := by omega
        have A := (Ext.refl wr).alloc (.cells #[.int .i64 o.k, .int .i64 o.c, .int .i64 o.v, .bool o.b] 32)
        have HV : VrF wr.heap.size (wr.alloc (.cells #[.int .i64 o.k, .int .i64 o.c, .int .i64 o.v, .bool o.b] 32)) (fun k => k = wr.heap.size) o := ⟨⟨by simp, by simp, by simp, by simp⟩, fun _ => Iff.rfl⟩
        have HU1 := Lib.hid (HU.out.add O3 A HV (fun k hk => by rw [hk]; exact Nat.le_refl _))
        have O4 := VrF.obj wr.heap.size
        have UA := Lib.hid (HU1.out.pl O4 (fun G h => sep_l O2 h (fun G h => mrask_any d (4 + 64 * i) bs HBB.out o s G _ h HJ.out.1 hN4)))
        have UB := Lib.hid (fun w' s' (h : Uno (Sep (Sep (RdF d bs) (WrF a)) (VrF wr.heap.size)) w w' ((s', t), o)) => h.pl O4 (fun G h => sep_r O1 h (fun G h => mwask_any a (64 * i) o t G _ h HJ.out.2 hN5)))
        obtain ⟨⟨R, s2⟩, es⟩ : ∃ r, askM (mD bs) s o = r := ⟨_, rfl⟩
        obtain ⟨⟨U, t2⟩, et⟩ : ∃ r, askM mE t o = r := ⟨_, rfl⟩
        have HJ2 : Hid (okS okDm (4 + 64 * (i + 1)) s2 ∧ okS okEm (64 * (i + 1)) t2) := ⟨by have := ask_ok (mkD HBB.out) o HJ.out.1; rw [es] at this; exact this, by have := ask_ok mkE o HJ.out.2; rw [et] at this; exact this⟩
        have HCH := Lib.hid HJ.out.2.1
        rw [es] at UA
        rw [et] at UB
        have UB := Lib.hid (fun w' => UB.out w' s2)
        obtain ⟨X1, hX1⟩ : ∃ X, chV t.ch o.c = X := ⟨_, rfl⟩
        obtain ⟨X2, hX2⟩ : ∃ X, chV t2.ch o.c = X := ⟨_, rfl⟩
        have UC : Hid (∀ w' (h : Uno (Sep (Sep (RdF d bs) (WrF a)) (VrF wr.heap.size)) w w' ((s2, t), o)), Calls Try.prog 17 #[.pointer (some ⟨a, 0, none⟩), .int .i64 o.c] w' fun e w'' => e = .returned (.int .i64 X1) ∧ w' = w'') := fun w' h => by
          obtain ⟨_, hr⟩ := h.drop.r
          rw [← hX1]
          exact mwch_any a o.c t.ch w' hr.ch3
        have UD : Hid (∀ w' (h : Uno (Sep (Sep (RdF d bs) (WrF a)) (VrF wr.heap.size)) w w' ((s2, t2), o)), Calls Try.prog 17 #[.pointer (some ⟨a, 0, none⟩), .int .i64 o.c] w' fun e w'' => e = .returned (.int .i64 X2) ∧ w' = w'') := fun w' h => by
          obtain ⟨_, hr⟩ := h.drop.r
          rw [← hX2]
          exact mwch_any a o.c t2.ch w' hr.ch3
        have esR : R = (askM (mD bs) s o).1 := by rw [es]
        have etU : U = (askM mE t o).1 := by rw [et]
        have etT : t2 = (askM mE t o).2 := by rw [et]
        clear hU hq HU HU1 HV A HJ es et
        obtain ⟨k, c, v, b⟩ := o
        by_cases k0 : k = 0
        · have t0 : (k == 0) = true := by rw [beq_iff_eq]; exact k0
          have hA : ∀ (σ : Type) (M : Mc σ) (s : Ms σ), askM M s ⟨k, c, v, b⟩ = (flg (bitM M s c b).1, (bitM M s c b).2) := fun _ _ _ => if_pos k0
          rw [hA] at esR etU etT
          rw [show flg (bitM mE t c b).1 = flg b by rw [bit_id]] at etU
          have HZ := Lib.hid etU.symm
          have r1 : ¬ R < 0 := by rw [esR]; unfold flg; split <;> omega
          have r2 : ¬ 1 < R := by rw [esR]; unfold flg; split <;> omega
          by_cases h3 : c < 0
          · have y1 : ¬ 0 ≤ c := by omega
            clear k0 hA esR etU etT hX1 hX2
            go_wp2_with fail
            refine (UA.out).mono ?_; rintro e w2 ⟨rfl, h⟩
            have H2 := Lib.hid h
            obtain ⟨v0, v1, v2, v3⟩ := var_c h
            rw [Nat.zero_add] at v1 v2 v3
            clear h UA
            go_wp2_with fail
            refine (UC.out _ H2.out).mono ?_; rintro e w3 ⟨rfl, rfl⟩
            go_wp2_with fail
            refine (UB.out _ H2.out).mono ?_; rintro e w4 ⟨rfl, h⟩
            have H4 := Lib.hid h
            obtain ⟨v0, v1, v2, v3⟩ := var_c h
            rw [Nat.zero_add] at v1 v2 v3
            clear h UB H2
            go_wp2_with fail
            refine (UD.out _ H4.out).mono ?_; rintro e w5 ⟨rfl, rfl⟩
            have HUz := Lib.hid H4.out.drop
            go_wp2_with fail
            refine (mflag_any _ _).mono ?_; rintro e w6 ⟨rfl, rfl⟩
            rw [HZ.out]
            go_wp2
            go_roundw
            case rel => exact ⟨i + 1, s2, t2, ⟨by omega, by omega⟩, by go_num, HJ2.out, HUz.out⟩
            case measure => simp [intOf]; omega
          by_cases h4 : 63 < c
          · have y1 : 0 ≤ c := by omega
            have y2 : ¬ c ≤ 63 := by omega
            clear k0 hA esR etU etT hX1 hX2 h3
            go_wp2_with fail
            refine (UA.out).mono ?_; rintro e w2 ⟨rfl, h⟩
            have H2 := Lib.hid h
            obtain ⟨v0, v1, v2, v3⟩ := var_c h
            rw [Nat.zero_add] at v1 v2 v3
            clear h UA
            go_wp2_with fail
            refine (UC.out _ H2.out).mono ?_; rintro e w3 ⟨rfl, rfl⟩
            go_wp2_with fail
            refine (UB.out _ H2.out).mono ?_; rintro e w4 ⟨rfl, h⟩
            have H4 := Lib.hid h
            obtain ⟨v0, v1, v2, v3⟩ := var_c h
            rw [Nat.zero_add] at v1 v2 v3
            clear h UB H2
            go_wp2_with fail
            refine (UD.out _ H4.out).mono ?_; rintro e w5 ⟨rfl, rfl⟩
            have HUz := Lib.hid H4.out.drop
            go_wp2_with fail
            refine (mflag_any _ _).mono ?_; rintro e w6 ⟨rfl, rfl⟩
            rw [HZ.out]
            go_wp2
            go_roundw
            case rel => exact ⟨i + 1, s2, t2, ⟨by omega, by omega⟩, by go_num, HJ2.out, HUz.out⟩
            case measure => simp [intOf]; omega
          have y1 : 0 ≤ c := by omega
          have y2 : c ≤ 63 := by omega
          have hc : ctxM c = true := by unfold ctxM; rw [decide_eq_true y1, decide_eq_true (by omega : c < 64)]; rfl
          obtain ⟨p, hp⟩ : ∃ p, t.ch c.toNat = p := ⟨_, rfl⟩
          obtain ⟨p1, p2⟩ := HCH.out c.toNat
          rw [hp] at p1 p2
          have e1 : X1 = (p : Int) := by rw [← hX1]; unfold chV; rw [hc, if_pos rfl, hp]
          have e2 : X2 = (lrnM p b : Int) := by
            rw [← hX2, etT]
            unfold chV bitM
            rw [hc, if_pos rfl]
            show ((setM t.ch c.toNat (lrnM (t.ch c.toNat) b) c.toNat : Nat) : Int) = _
            unfold setM
            rw [if_pos rfl, hp]
          obtain ⟨l1, l2⟩ := lrnM_ok b p1 p2
          have y3 : ¬ X2 < 31 := by omega
          have y4 : ¬ 2017 < X2 := by omega
          cases b
          · have y5 : ¬ X2 < X1 := by
              have : lrnM p false = p + (2048 - p) / 32 := rfl
              omega
            clear k0 hA esR etU etT hX1 hX2 h3 h4 hc hp p1 p2 e1 e2 l1 l2
            go_wp2_with fail
            refine (UA.out).mono ?_; rintro e w2 ⟨rfl, h⟩
            have H2 := Lib.hid h
            obtain ⟨v0, v1, v2, v3⟩ := var_c h
            rw [Nat.zero_add] at v1 v2 v3
            clear h UA
            go_wp2_with fail
            refine (UC.out _ H2.out).mono ?_; rintro e w3 ⟨rfl, rfl⟩
            go_wp2_with fail
            refine (UB.out _ H2.out).mono ?_; rintro e w4 ⟨rfl, h⟩
            have H4 := Lib.hid h
            obtain ⟨v0, v1, v2, v3⟩ := var_c h
            rw [Nat.zero_add] at v1 v2 v3
            clear h UB H2
            go_wp2_with fail
            refine (UD.out _ H4.out).mono ?_; rintro e w5 ⟨rfl, rfl⟩
            have HUz := Lib.hid H4.out.drop
            go_wp2_with fail
            refine (mflag_any _ _).mono ?_; rintro e w6 ⟨rfl, rfl⟩
            rw [HZ.out]
            go_wp2
            go_roundw
            case rel => exact ⟨i + 1, s2, t2, ⟨by omega, by omega⟩, by go_num, HJ2.out, HUz.out⟩
            case measure => simp [intOf]; omega
          · have y5 : ¬ X1 < X2 := by
              have : lrnM p true = p - p / 32 := rfl
              omega
            clear k0 hA esR etU etT hX1 hX2 h3 h4 hc hp p1 p2 e1 e2 l1 l2
            go_wp2_with fail
            refine (UA.out).mono ?_; rintro e w2 ⟨rfl, h⟩
            have H2 := Lib.hid h
            obtain ⟨v0, v1, v2, v3⟩ := var_c h
            rw [Nat.zero_add] at v1 v2 v3
            clear h UA
            go_wp2_with fail
            refine (UC.out _ H2.out).mono ?_; rintro e w3 ⟨rfl, rfl⟩
            go_wp2_with fail
            refine (UB.out _ H2.out).mono ?_; rintro e w4 ⟨rfl, h⟩
            have H4 := Lib.hid h
            obtain ⟨v0, v1, v2, v3⟩ := var_c h
            rw [Nat.zero_add] at v1 v2 v3
            clear h UB H2
            go_wp2_with fail
            refine (UD.out _ H4.out).mono ?_; rintro e w5 ⟨rfl, rfl⟩
            have HUz := Lib.hid H4.out.drop
            go_wp2_with fail
            refine (mflag_any _ _).mono ?_; rintro e w6 ⟨rfl, rfl⟩
            rw [HZ.out]
            go_wp2
            go_roundw
            case rel => exact ⟨i + 1, s2, t2, ⟨by omega, by omega⟩, by go_num, HJ2.out, HUz.out⟩
            case measure => simp [intOf]; omega
        have t0 : (k == 0) = false := by rw [beq_eq_false_iff_ne]; exact k0
        by_cases k1 : k = 1
        · have t1 : (k == 1) = true := by rw [beq_iff_eq]; exact k1
          have hA : ∀ (σ : Type) (M : Mc σ) (s : Ms σ), askM M s ⟨k, c, v, b⟩ = (flg (flaM M s b).1, (flaM M s b).2) := fun _ _ _ => (if_neg k0).trans (if_pos k1)
          rw [hA] at esR etU etT
          have HZ : Hid (flg b = U) := etU.symm
          have r1 : ¬ R < 0 := by rw [esR]; unfold flg; split <;> omega
          have r2 : ¬ 1 < R := by rw [esR]; unfold flg; split <;> omega
          clear k0 k1 hA esR etU etT hX1 hX2
          go_wp2_with fail
          refine (UA.out).mono ?_; rintro e w2 ⟨rfl, h⟩
          have H2 := Lib.hid h
          obtain ⟨v0, v1, v2, v3⟩ := var_c h
          rw [Nat.zero_add] at v1 v2 v3
          clear h UA
          go_wp2_with fail
          refine (UC.out _ H2.out).mono ?_; rintro e w3 ⟨rfl, rfl⟩
          go_wp2_with fail
          refine (UB.out _ H2.out).mono ?_; rintro e w4 ⟨rfl, h⟩
          have H4 := Lib.hid h
          obtain ⟨v0, v1, v2, v3⟩ := var_c h
          rw [Nat.zero_add] at v1 v2 v3
          clear h UB H2
          go_wp2_with fail
          refine (UD.out _ H4.out).mono ?_; rintro e w5 ⟨rfl, rfl⟩
          have HUz := Lib.hid H4.out.drop
          go_wp2_with fail
          refine (mflag_any _ _).mono ?_; rintro e w6 ⟨rfl, rfl⟩
          rw [HZ.out]
          go_wp2
          go_roundw
          case rel => exact ⟨i + 1, s2, t2, ⟨by omega, by omega⟩, by go_num, HJ2.out, HUz.out⟩
          case measure => simp [intOf]; omega
        have t1 : (k == 1) = false := by rw [beq_eq_false_iff_ne]; exact k1
        by_cases k2 : k = 2
        · have t2' : (k == 2) = true := by rw [beq_iff_eq]; exact k2
          have hA : ∀ (σ : Type) (M : Mc σ) (s : Ms σ), askM M s ⟨k, c, v, b⟩ = (((kindM M s v).1 : Int), (kindM M s v).2) := fun _ _ _ => (if_neg k0).trans ((if_neg k1).trans (if_pos k2))
          rw [hA] at esR etU etT
          have m1 : min (max v 0) 3 = U := by rw [etU, kind_id]
          have r1 : ¬ R < 0 := by rw [esR]; omega
          have r2 : ¬ 3 < R := by rw [esR]; have := kind_le (M := mD bs) s v; omega
          clear k0 k1 k2 hA esR etU etT hX1 hX2
          go_wp2_with fail
          refine (UA.out).mono ?_; rintro e w2 ⟨rfl, h⟩
          have H2 := Lib.hid h
          obtain ⟨v0, v1, v2, v3⟩ := var_c h
          rw [Nat.zero_add] at v1 v2 v3
          clear h UA
          go_wp2_with fail
          refine (UC.out _ H2.out).mono ?_; rintro e w3 ⟨rfl, rfl⟩
          go_wp2_with fail
          refine (UB.out _ H2.out).mono ?_; rintro e w4 ⟨rfl, h⟩
          have H4 := Lib.hid h
          obtain ⟨v0, v1, v2, v3⟩ := var_c h
          rw [Nat.zero_add] at v1 v2 v3
          clear h UB H2
          go_wp2_with fail
          refine (UD.out _ H4.out).mono ?_; rintro e w5 ⟨rfl, rfl⟩
          have HUz := Lib.hid H4.out.drop
          go_wp2
          go_roundw
          case rel => exact ⟨i + 1, s2, t2, ⟨by omega, by omega⟩, by go_num, HJ2.out, HUz.out⟩
          case measure => simp [intOf]; omega
        have t2' : (k == 2) = false := by rw [beq_eq_false_iff_ne]; exact k2
        by_cases k3 : k = 3
        · have t3' : (k == 3) = true := by rw [beq_iff_eq]; exact k3
          have hA : ∀ (σ : Type) (M : Mc σ) (s : Ms σ), askM M s ⟨k, c, v, b⟩ = (((modeM M s (cl3 v)).1 : Int), (modeM M s (cl3 v)).2) := fun _ _ _ => (if_neg k0).trans ((if_neg k1).trans ((if_neg k2).trans (if_pos k3)))
          rw [hA] at esR etU etT
          have m1 : min (max v 0) 3 = U := by
            rw [etU, mode_id _ _ (by unfold cl3; omega)]
            unfold cl3
            omega
          have r1 : ¬ R < 0 := by rw [esR]; omega
          have r2 : ¬ 3 < R := by rw [esR]; have := mode_le (M := mD bs) s (cl3 v); omega
          clear k0 k1 k2 k3 hA esR etU etT hX1 hX2
          go_wp2_with fail
          refine (UA.out).mono ?_; rintro e w2 ⟨rfl, h⟩
          have H2 := Lib.hid h
          obtain ⟨v0, v1, v2, v3⟩ := var_c h
          rw [Nat.zero_add] at v1 v2 v3
          clear h UA
          go_wp2_with fail
          refine (UC.out _ H2.out).mono ?_; rintro e w3 ⟨rfl, rfl⟩
          go_wp2_with fail
          refine (UB.out _ H2.out).mono ?_; rintro e w4 ⟨rfl, h⟩
          have H4 := Lib.hid h
          obtain ⟨v0, v1, v2, v3⟩ := var_c h
          rw [Nat.zero_add] at v1 v2 v3
          clear h UB H2
          go_wp2_with fail
          refine (UD.out _ H4.out).mono ?_; rintro e w5 ⟨rfl, rfl⟩
          have HUz := Lib.hid H4.out.drop
          go_wp2
          go_roundw
          case rel => exact ⟨i + 1, s2, t2, ⟨by omega, by omega⟩, by go_num, HJ2.out, HUz.out⟩
          case measure => simp [intOf]; omega
        have t3' : (k == 3) = false := by rw [beq_eq_false_iff_ne]; exact k3
        have hA : ∀ (σ : Type) (M : Mc σ) (s : Ms σ), askM M s ⟨k, c, v, b⟩ = partM M s (cl15 v) := fun _ _ _ => (if_neg k0).trans ((if_neg k1).trans ((if_neg k2).trans (if_neg k3)))
        rw [hA] at esR etU etT
        have m1 : min (max v (-15)) 15 = U := by
          rw [etU, part_id _ _ (by unfold cl15; omega) (by unfold cl15; omega)]
          unfold cl15
          omega
        obtain ⟨r1', r2'⟩ := part_le (M := mD bs) s (cl15 v)
        have r1 : ¬ R < -15 := by rw [esR]; omega
        have r2 : ¬ 15 < R := by rw [esR]; omega
        clear k0 k1 k2 k3 hA esR etU etT hX1 hX2 r1' r2'
        go_wp2_with fail
        refine (UA.out).mono ?_; rintro e w2 ⟨rfl, h⟩
        have H2 := Lib.hid h
        obtain ⟨v0, v1, v2, v3⟩ := var_c h
        rw [Nat.zero_add] at v1 v2 v3
        clear h UA
        go_wp2_with fail
        refine (UC.out _ H2.out).mono ?_; rintro e w3 ⟨rfl, rfl⟩
        go_wp2_with fail
        refine (UB.out _ H2.out).mono ?_; rintro e w4 ⟨rfl, h⟩
        have H4 := Lib.hid h
        obtain ⟨v0, v1, v2, v3⟩ := var_c h
        rw [Nat.zero_add] at v1 v2 v3
        clear h UB H2
        go_wp2_with fail
        refine (UD.out _ H4.out).mono ?_; rintro e w5 ⟨rfl, rfl⟩
        have HUz := Lib.hid H4.out.drop
        go_wp2
        go_roundw
        case rel => exact ⟨i + 1, s2, t2, ⟨by omega, by omega⟩, by go_num, HJ2.out, HUz.out⟩
        case measure => simp [intOf]; omega
      · have x3 : ¬ (i : Int) < 2000 := by omega
        have x2 : (i : Int) < (m : Int) := by omega
        go_wp2_with fail
        refine (first13_any _).mono ?_; rintro e w6 ⟨rfl, hx6⟩
        go_wp2
        go_ret
        exact ⟨rfl, HU.out.out.trans hx6⟩
    · have x2 : ¬ (i : Int) < (m : Int) := by omega
      go_wp2_with fail
      refine (first13_any _).mono ?_; rintro e w6 ⟨rfl, hx6⟩
      go_wp2
      go_ret
      exact ⟨rfl, HU.out.out.trans hx6⟩
end Go.Proofs.Ytkfdhnmlebnfkaa
