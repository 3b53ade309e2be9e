/- kinlaw14.CoefZeros: the walk. -/
import Derived.Test.YtdndambkaohgiaaDoorCff
import Derived.Test.YtdndambkaohgiaaDoorCfF
import Derived.Test.YtdndambkaohgiaaDoorZb
namespace Go.Proofs.YtdndambkaohgiaaDoor
set_option linter.unusedVariables false
set_option linter.unusedSimpArgs false
open Go.RowKit Go.Extern.Stop Go.Stop Go.Extern

/-- a writer: it codes what may be, and tells it; else it refuses, and stays -/
theorem cod_w {s : Ms Ec} (g : gS s) (xs : List Int) : (((codP xs).run mE s).1 = (none, xs) ∧ (xs.length = 16 ∨ xs.length = 64) ∧ xs.any noLv = false ∧ gS ((codP xs).run mE s).2) ∨ ∃ c, c ≠ 0 ∧ (codP xs).run mE s = ((some ([], c), []), s) := by
  by_cases hn : xs.length = 16 ∨ xs.length = 64
  · cases h : xs.any noLv
    · obtain ⟨h1, h2, -⟩ := Pg.told (p := codP xs) g
      exact .inl ⟨h1.trans (cod_hand hn h), hn, rfl, h2⟩
    · exact .inr ⟨3, by decide, cod_bad hn h⟩
  · exact .inr ⟨14, by decide, cod_no hn⟩
theorem zr_ch {B : Nat} (hB : B < 64) (s : Ms Ec) (j : Nat) : (bitM mE s ((B : Nat) : Int) false).2.ch j = if j = B then s.ch B + (2048 - s.ch B) / 32 else s.ch j := by
  unfold bitM
  rw [if_pos (by unfold ctxM; rw [decide_eq_true (by omega : (0 : Int) ≤ (B : Int)), decide_eq_true (by omega : (B : Int) < 64)]; rfl)]
  show setM s.ch _ (lrnM _ false) j = _
  rw [Int.toNat_natCast]
  rfl
/-- the law's own list of chances -/
def ChF (p : Nat) (w : World) (F : Nat → Prop) (f : Nat → Nat) : Prop := ChAt w p 0 f ∧ ∀ k, F k ↔ k = p
theorem ChF.obj (p : Nat) : Obj (ChF p) := ⟨fun h k hk => by rw [(h.2 k).1 hk]; exact h.1.lt, fun h k => ⟨h.1.same (k p ((h.2 p).2 rfl)), h.2⟩⟩
section
variable {σ τ : Type} {A : World → (Nat → Prop) → σ → Prop} {w0 w : World} {P : World → Prop}
theorem chf_set (oa : Obj A) {p c x : Nat} {s : σ} {f : Nat → Nat} (h : Uno (Sep (Sep A (ChF p)) HoF) w0 w ((s, f), P)) (hc : c < 64) : Uno (Sep (Sep A (ChF p)) HoF) w0 (w.setCell ⟨p, c, none⟩ (.int .i64 (x : Int))) ((s, fun j => if j = c then x else f j), P) := by
  obtain ⟨F, F1, F2, F3, g1, g2, g3, d1, d2, hF, h5, h6⟩ := bag_out h
  have hp : F2 p := (g2.2 p).2 rfl
  have e1 : ∀ i, i ≠ p → (w.setCell ⟨p, c, none⟩ (.int .i64 (x : Int))).heap[i]? = w.heap[i]? := fun i hi => Below.heap_setCell _ _ _ _ hi
  have hs := g2.1.set hc x
  rw [Nat.zero_add] at hs
  refine ⟨F, ⟨fun i => F1 i ∨ F2 i, F3, ⟨F1, F2, oa.same g1 (fun i hi => e1 i (fun e => d1 p hp (by rw [← e]; exact hi))), ⟨hs, g2.2⟩, d1, fun _ => Iff.rfl⟩, HoF.obj.same g3 (fun i hi => e1 i (fun e => (d2 i hi).2 (by rw [e]; exact hp))), fun i hi hf => hf.elim (d2 i hi).1 (d2 i hi).2, fun i => ?_⟩, h5.setCell (h6 p ((hF p).2 (.inr (.inl hp)))) _, h6⟩
  rw [hF i, or_assoc]
theorem chf_at {p c : Nat} {s : σ} {f : Nat → Nat} (h : Uno (Sep (Sep A (ChF p)) HoF) w0 w ((s, f), P)) (hc : c < 64) : w.cell? ⟨p, c, none⟩ = some (.int .i64 (f c : Int)) ∧ w.frozen? ⟨p, c, none⟩ = false := by
  obtain ⟨F, F1, F2, F3, g1, g2, g3, d1, d2, hF, h5, h6⟩ := bag_out h
  have := g2.1 c hc
  rw [Nat.zero_add] at this
  exact this
theorem wrf_ch {a : Nat} {s : Ms Ec} {t : τ} {B : World → (Nat → Prop) → τ → Prop} (h : Uno (Sep (Sep (WrF a) B) HoF) w0 w ((s, t), P)) : ChAt w a 0 s.ch := by
  obtain ⟨F, F1, F2, F3, g1, g2, g3, d1, d2, hF, h5, h6⟩ := bag_out h
  obtain ⟨_, _, _, h, _⟩ := g1
  exact h
end
theorem chv_nat {f : Nat → Nat} {c : Nat} (hc : c < 64) : chV f (c : Int) = (f c : Int) := by
  unfold chV
  rw [if_pos (by unfold ctxM; rw [decide_eq_true (by omega : (0 : Int) ≤ (c : Int)), decide_eq_true (by omega : (c : Int) < 64)]; rfl), Int.toNat_natCast]
theorem few_step {L : List (List Int)} (h : fewCB L = true) {i : Nat} {xs : List Int} (hi : L[i]? = some xs) : (xs.length : Int) + fewC L i = fewC L (i + 1) ∧ fewC L (i + 1) ≤ 5000 := by
  obtain ⟨h1, h2⟩ := fewC_out h
  have hil := (List.getElem?_eq_some_iff.1 hi).1
  have hm := fewC_mono L (show i + 1 ≤ L.length by omega)
  have hb := fewC_bound L i
  have e : fewC L (i + 1) = fewC L i + min ((xs.length : Nat) : Int) 5001 := by
    show fewC L i + min (((L.getD i []).length : Nat) : Int) 5001 = _
    rw [List.getD_eq_getElem?_getD, hi]
    rfl
  omega
/-- how much the first lists may have cost -/
def cstC (L : List (List Int)) (i N : Nat) : Prop := (N : Int) ≤ 172 * fewC L i + 300 * (i : Int)
theorem cst_ok {L : List (List Int)} {i N : Nat} {xs : List Int} {s : Ms Ec} (hf : fewCB L = true) (hx : L[i]? = some xs) (h : cstC L i N) (hk : okS okEm N s) : okS okEm (N + 4 * (43 * xs.length + 1)) ((codP xs).run mE s).2 ∧ cstC L (i + 1) (N + 4 * (43 * xs.length + 1) + 4) ∧ N + 4 * (43 * xs.length + 1) ≤ 3900000 := by
  obtain ⟨h1, h2⟩ := few_step hf hx
  have hil := (List.getElem?_eq_some_iff.1 hx).1
  have hl := (fewC_out hf).1
  have hb := fewC_bound L i
  refine ⟨Pg.ok mkE (cod_dep xs) hk, ?_, ?_⟩
  · unfold cstC at h ⊢
    push_cast
    omega
  · unfold cstC at h
    have := fewC_bound L i
    omega
theorem by4 (w : World) : Calls Tryd.prog 21 #[.int .i64 4] w fun e w' => e = .returned (.int .i64 14) ∧ w = w' := base_4 w
set_option maxHeartbeats 8000000 in
set_option maxRecDepth 20000 in
theorem czeros_law (L : List (List Int)) (large : Bool) (v : Value) (w : World) (hg : EtIs w) (hL : Mat w v L) : Calls Tryd.prog 6 #[v, .bool large] w fun e w' => e = .returned (.bool true) ∧ Ext w w' := by
  have HET := Lib.hid hg
  clear hg
  obtain ⟨i0, hi, hz0, hz1, hz2⟩ := info_parts infoInt
  have HI := Lib.hid (And.intro hi (And.intro hz0 (And.intro hz1 hz2)))
  clear hi hz0 hz1 hz2
  obtain ⟨la, lc, rfl⟩ := hL.form
  obtain ⟨m, hm'⟩ : ∃ m, L.length = m := ⟨_, rfl⟩
  have HNL := Lib.hid hm'
  have HOT : Hid (Mat w (.slice la m lc) L) := by show Mat _ _ _; rw [← hm']; exact hL
  rw [hm']
  have UF := Lib.hid (fun w' (h : Ext w w') => fewC_any L (.slice la m lc) w' (HOT.out.ext h))
  clear hL hm'
  go_enter Tryd.func6, Tryd.ntmps6
  go_wp2_with fail
  refine (first14_any _ HET.out).mono ?_; rintro e w1 ⟨rfl, hx1⟩
  have HE1 := Lib.hid hx1
  clear hx1
  go_wp2_with fail
  refine (mwnew_any _).mono ?_; rintro e w2 ⟨a, F, rfl, hF, hW, hx2⟩
  have HU : Hid (Uno (WrF a) w w2 ⟨ch0, newE⟩) := Uno.first hW (HE1.out.trans hx2) (fun k hk => Nat.le_trans HE1.out.size (hF k hk))
  clear hF hW hx2 HE1
  go_wp2_with fail
  refine (UF.out _ HU.out.out).mono ?_; rintro e w3 ⟨rfl, rfl⟩
  clear UF
  cases hfew : fewCB L
  · go_wp2_with fail
    refine (first14_any _ (HET.out.ext HU.out.out)).mono ?_; rintro e w6 ⟨rfl, hx6⟩
    go_wp2
    go_ret
    exact ⟨rfl, HU.out.out.trans hx6⟩
  have HFW := Lib.hid hfew
  have hm2 : m ≤ 200 := by have := (fewC_out hfew).1; rw [HNL.out] at this; exact this
  clear hfew
  go_wp2_with fail
  go_loopw [6] (fun iv wr => ∃ (i N : Nat) (s : Ms Ec), i ≤ m ∧ iv = .int .i64 (i : Int) ∧ Hid (cstC L i N) ∧ Hid (okS okEm N s) ∧ Hid (gS s) ∧ Hid (Uno (WrF a) w wr s)) (fun iv _ => m - (intOf iv).toNat)
  case atStart => exact ⟨0, 0, _, Nat.zero_le _, rfl, by show ((0 : Nat) : Int) ≤ 172 * 0 + 300 * ((0 : Nat) : Int); decide, okn13, gS_new, HU.out⟩
  case round =>
    clear HU
    obtain ⟨i, N, sA, hi, rfl, HC, HK, HGS, HU⟩ := hrel
    by_cases hlt : i < m
    · obtain ⟨xs, hX⟩ : ∃ xs, L[i]? = some xs := ⟨_, List.getElem?_eq_getElem (by rw [HNL.out]; exact hlt)⟩
      obtain ⟨g, off, rfl⟩ := HOT.out.had (by omega)
      obtain ⟨ra, rc, q0, q1⟩ := HOT.out.row hX
      have HX := Lib.hid hX
      have HQ0 := Lib.hid q0
      have HQ1 := Lib.hid q1
      have x1 : (0 : Int) ≤ (i : Int) := by omega
      have x2 : (i : Int) < (m : Int) := by omega
      clear hX q0 q1
      obtain ⟨wp, hwp⟩ : ∃ x, x = wr := ⟨_, rfl⟩
      subst hwp
      go_wp2_with fail
      generalize hw : World.alloc wp _ = wy
      have hw2 : wy = wp.alloc (.cells mzt.toArray 48) := by rw [← hw]; kernel_rfl
      have HUA : Hid (Uno (Sep (Sep (WrF a) (ChF wp.heap.size)) HoF) w wy ((sA, fun _ => 0), fun _ => True)) := by
        show Uno _ _ _ _
        rw [hw2]
        exact (HU.out.add (WrF.obj a) ((Ext.refl wp).alloc _) (B := ChF wp.heap.size) (t := fun _ => 0) ⟨ChAt.of (heap_alloc_last wp _), fun _ => Iff.rfl⟩ (fun k hk => by rw [hk]; exact Nat.le_refl _)).bag ((WrF.obj a).sep (ChF.obj _)) (fun _ => trivial)
      clear hw hw2 HU
      have OO := Lib.hid ((WrF.obj a).sep (ChF.obj wp.heap.size))
      -- in hand: HU : Uno .. at the world behind, (sA, f0), P
      go_loopw [8] (fun iv wr => ∃ (c : Nat) (f : Nat → Nat), c ≤ 64 ∧ iv = .int .i64 (c : Int) ∧ Hid (∀ j, j < c → f j = sA.ch j) ∧ Hid (Uno (Sep (Sep (WrF a) (ChF wp.heap.size)) HoF) w wr ((sA, f), (fun _ => True)))) (fun iv _ => 64 - (intOf iv).toNat)
      case atStart => exact ⟨0, _, Nat.zero_le _, rfl, fun j hj => absurd hj (Nat.not_lt_zero _), HUA.out⟩
      case round =>
        clear HUA
        obtain ⟨c, f, hc, rfl, HF, HUA⟩ := hrel
        by_cases hc6 : c < 64
        · have y1 : (c : Int) < 64 := by omega
          have y2 : (0 : Int) ≤ (c : Int) := by omega
          have UC := Lib.hid (mwch_any a (c : Int) sA.ch wr (wrf_ch HUA.out))
          rw [chv_nat hc6] at UC
          obtain ⟨c0, c1⟩ := chf_at HUA.out hc6
          obtain ⟨V, hV⟩ : ∃ V, sA.ch c = V := ⟨_, rfl⟩
          rw [hV] at UC
          have HV := Lib.hid hV
          have H9 := Lib.hid (chf_set (x := V) (WrF.obj a) HUA.out hc6)
          clear hV
          go_wp2_with fail
          refine (UC.out).mono ?_; rintro e w5 ⟨rfl, rfl⟩
          go_wp2
          go_roundw
          case rel => exact ⟨c + 1, _, by omega, by go_num, fun j hj => by
                        show (if j = c then V else f j) = _
                        by_cases e : j = c
                        · rw [if_pos e, e]; exact HV.out.symm
                        · rw [if_neg e]; exact HF.out j (by omega), H9.out⟩
          case measure => simp [intOf] <;> omega
        · obtain rfl : c = 64 := by omega
          have y1 : ¬ ((64 : Nat) : Int) < 64 := by decide
          have HFA : Hid (∀ j, j < 64 → f j = sA.ch j) := HF.out
          clear HF
          cases large
          · obtain ⟨hi, hz0, hz1, hz2⟩ := HI.out
            obtain ⟨wm, hwm⟩ : ∃ x, x = wr := ⟨_, rfl⟩
            subst hwm
            go_wp2_with (at_make; refine wpList_make_full _ rfl _ _ 27 rfl wm.heap.size 3 i0 (.int .i64 0) 1 Tryd.underlying27 hi hz0 hz1 .i64 .i64 _ _ 16 rfl rfl rfl rfl (by rw [hz2]; decide) (by decide) (Nat.le_refl _) ?_; intro w5 hown hgrow; have c2 := (HUA.out.out.trans (Below.grown (Ext.refl wm) hgrow (Nat.le_refl _) (fun k hk => by cases hk))).cell HQ0.out)
            have hE := Below.grown (Ext.refl wm) hgrow (Nat.le_refl _) (fun k hk => by cases hk)
            obtain ⟨m1, m2⟩ := ho_made (by decide) hown
            have H5 := Lib.hid (bag_add OO.out HUA.out hE m1 m2)
            clear hE m1 m2 hown hgrow HUA hi hz0 hz1 hz2 c2
            obtain ⟨hl1, hl2⟩ := few_step HFW.out HX.out
            obtain ⟨k1, k2, k3⟩ := cst_ok HFW.out HX.out HC.out HK.out
            have hfb := fewC_bound L i
            have HV1 : Hid (Ints w (.slice ra xs.length rc) xs) := ⟨HQ1.out, by omega⟩
            have UA := Lib.hid (wl_arg (ChF.obj wp.heap.size) H5.out HK.out (by omega) HV1.out)
            clear HV1 hl1 hl2 hfb
            refine (UA.out).mono ?_; rintro e w6 ⟨u6, x6, rfl, h6⟩
            clear UA H5
            rcases cod_w HGS.out xs with ⟨hr1, -, -, hg2⟩ | ⟨cc, hcc, hr⟩
            · rw [hr1] at h6
              obtain ⟨sB, hsB⟩ : ∃ z, ((codP xs).run mE sA).2 = z := ⟨_, rfl⟩
              rw [hsB] at h6 hg2 k1
              obtain rfl : x6 = .nilIface := h6.held.2.2
              obtain ⟨PI, hPI⟩ : ∃ P : World → Prop, P = fun W => Ints W (.slice (some ⟨wm.heap.size, 0, none⟩) 16 16) (zsL 16) := ⟨_, rfl⟩
              have HPI : Hid (∀ W, PI W → Ints W (.slice (some ⟨wm.heap.size, 0, none⟩) 16 16) (zsL 16)) := fun W h => by rw [hPI] at h; exact h
              have HUA : Hid (Uno (Sep (Sep (WrF a) (ChF wp.heap.size)) HoF) w w6 ((sB, f), PI)) := by rw [hPI]; exact bag_imp h6 (fun W h => h.1.2)
              have HK2 := Lib.hid k1
              have HC2 := Lib.hid k2
              have HG2 := Lib.hid hg2
              obtain ⟨N2, hN2⟩ : ∃ z, N + 4 * (43 * xs.length + 1) = z := ⟨_, rfl⟩
              have HK2 : Hid (okS okEm N2 sB) := by rw [← hN2]; exact k1
              have HC2 : Hid (cstC L (i + 1) (N2 + 4)) := by rw [← hN2]; exact k2
              have hN3 : N2 ≤ 3900000 := by omega
              clear hr1 hsB hPI h6 hg2 k1 k2 k3 HK HC HGS HFA hN2
              go_wp2_with fail
              -- in hand: HU : Uno .. at the world behind, (sB, f0), P
              go_loopw [13] (fun iv wr => ∃ (c : Nat) (f : Nat → Nat), c ≤ 64 ∧ iv = .int .i64 (c : Int) ∧ Hid (∀ j, j < c → f j = sB.ch j) ∧ Hid (Uno (Sep (Sep (WrF a) (ChF wp.heap.size)) HoF) w wr ((sB, f), PI))) (fun iv _ => 64 - (intOf iv).toNat)
              case atStart => exact ⟨0, _, Nat.zero_le _, rfl, fun j hj => absurd hj (Nat.not_lt_zero _), HUA.out⟩
              case round =>
                clear HUA
                obtain ⟨c, f, hc, rfl, HF, HUA⟩ := hrel
                by_cases hc6 : c < 64
                · have y1 : (c : Int) < 64 := by omega
                  have y2 : (0 : Int) ≤ (c : Int) := by omega
                  have UC := Lib.hid (mwch_any a (c : Int) sB.ch wr (wrf_ch HUA.out))
                  rw [chv_nat hc6] at UC
                  obtain ⟨c0, c1⟩ := chf_at HUA.out hc6
                  obtain ⟨V, hV⟩ : ∃ V, sB.ch c = V := ⟨_, rfl⟩
                  rw [hV] at UC
                  have HV := Lib.hid hV
                  have H9 := Lib.hid (chf_set (x := V) (WrF.obj a) HUA.out hc6)
                  clear hV
                  go_wp2_with fail
                  refine (UC.out).mono ?_; rintro e w5 ⟨rfl, rfl⟩
                  go_wp2
                  go_roundw
                  case rel => exact ⟨c + 1, _, by omega, by go_num, fun j hj => by
                                show (if j = c then V else f j) = _
                                by_cases e : j = c
                                · rw [if_pos e, e]; exact HV.out.symm
                                · rw [if_neg e]; exact HF.out j (by omega), H9.out⟩
                  case measure => simp [intOf] <;> omega
                · obtain rfl : c = 64 := by omega
                  have y1 : ¬ ((64 : Nat) : Int) < 64 := by decide
                  have HFC : Hid (∀ j, j < 64 → f j ≤ (bitM mE sB ((14 : Nat) : Int) false).2.ch j ∧ (j ≠ 14 → (bitM mE sB ((14 : Nat) : Int) false).2.ch j = f j)) := fun j hj => by
                    rw [HF.out j hj, zr_ch (by decide)]
                    by_cases e : j = 14
                    · rw [if_pos e, e]; exact ⟨Nat.le_add_right _ _, fun h => absurd rfl h⟩
                    · rw [if_neg e]; exact ⟨Nat.le_refl _, fun _ => rfl⟩
                  have HK3 : Hid (okS okEm (N2 + 4) (bitM mE sB ((14 : Nat) : Int) false).2) := bit_ok mkE _ false HK2.out
                  have HG3 : Hid (gS (bitM mE sB ((14 : Nat) : Int) false).2) := (bit_g HG2.out _ false).1
                  have HC3 := HC2
                  have UB := Lib.hid (wl_code (ChF.obj wp.heap.size) HUA.out HK2.out hN3 HPI.out)
                  have HZ : Hid ((codP (zsL 16)).run mE sB = ((none, zsL 16), (bitM mE sB ((14 : Nat) : Int) false).2)) := cod_zeroW (by decide) HG2.out
                  rw [HZ.out] at UB
                  obtain ⟨sC, hsC⟩ : ∃ z, (bitM mE sB ((14 : Nat) : Int) false).2 = z := ⟨_, rfl⟩
                  rw [hsC] at HFC HK3 HG3 UB
                  obtain ⟨N3, hN4⟩ : ∃ z, N2 + 4 = z := ⟨_, rfl⟩
                  rw [hN4] at HK3 HC3
                  clear hsC hN4 HF HUA HPI HZ HK2 HG2 HC2
                  go_wp2_with fail
                  refine (UB.out).mono ?_; rintro e w8 ⟨u8, x8, rfl, h8⟩
                  obtain rfl : x8 = .nilIface := h8.held.2.2
                  have H3 : Hid (Uno (Sep (Sep (WrF a) (ChF wp.heap.size)) HoF) w w8 ((sC, f), fun _ => True)) := bag_imp h8 (fun _ _ => trivial)
                  clear UB h8
                  -- in hand: H3, HFC, HK3, HC3, HG3, sC, f, N3
                  go_wp2_with fail
                  go_loopw [14] (fun iv wr => ∃ c : Nat, c ≤ 64 ∧ iv = .int .i64 (c : Int) ∧ Hid (Uno (Sep (Sep (WrF a) (ChF wp.heap.size)) HoF) w wr ((sC, f), fun _ => True))) (fun iv _ => 64 - (intOf iv).toNat)
                  case atStart => exact ⟨0, Nat.zero_le _, rfl, H3.out⟩
                  case round =>
                    clear H3
                    obtain ⟨c, hc, rfl, H3⟩ := hrel
                    by_cases hc6 : c < 64
                    · have y1 : (c : Int) < 64 := by omega
                      have y2 : (0 : Int) ≤ (c : Int) := by omega
                      have c0 := (chf_at H3.out hc6).1
                      obtain ⟨V, hV⟩ : ∃ V, sC.ch c = V := ⟨_, rfl⟩
                      obtain ⟨U, hU⟩ : ∃ U, f c = U := ⟨_, rfl⟩
                      have hvu := (HFC.out c hc6).1
                      have hve := (HFC.out c hc6).2
                      rw [hV, hU] at hvu hve
                      rw [hU] at c0
                      have HV := Lib.hid hV
                      clear hV hU
                      have UQ : Hid (∀ q, Calls Tryd.prog 20 #[.pointer (some ⟨a, 0, none⟩), .int .i64 (c : Int)] (wr.drewN q) fun e w' => e = .returned (.int .i64 (V : Int)) ∧ w' = wr.drewN q) := fun q => by
                        have := mwch_any a (c : Int) sC.ch (wr.drewN q) (wrf_ch (bag_ext OO.out H3.out ((Ext.refl wr).drewN q)))
                        rw [chv_nat hc6, HV.out] at this
                        exact this.mono fun e w' h => ⟨h.1, h.2.symm⟩
                      have d1 : decide (V < U) = false := decide_eq_false (by omega)
                      by_cases e1 : c = 14
                      · subst e1
                        go_wp2_with fail
                        refine (by4 _).mono ?_; rintro e w6 ⟨rfl, rfl⟩
                        clear hvu hve
                        go_wp2_with fail
                        go_quiet (exact Calls.quiet_of_same (UQ.out _))
                        go_wp2
                        go_roundw
                        case rel => first
                          | exact ⟨c + 1, by omega, by go_num, bag_ext OO.out H3.out ((Ext.refl wr).drewN nq)⟩
                          | exact ⟨15, by decide, by go_num, bag_ext OO.out H3.out ((Ext.refl wr).drewN nq)⟩
                          | exact ⟨40, by decide, by go_num, bag_ext OO.out H3.out ((Ext.refl wr).drewN nq)⟩
                        case measure => simp [intOf] <;> omega
                      · have hve := hve e1
                        obtain rfl : V = U := hve
                        have d2 : ((V : Int) != (V : Int)) = false := by simp
                        by_cases e2 : c = 39
                        · subst e2
                          go_wp2_with fail
                          refine (by4 _).mono ?_; rintro e w6 ⟨rfl, rfl⟩
                          go_wp2_with fail
                          refine (bz14 _).mono ?_; rintro e w7 ⟨rfl, rfl⟩
                          go_wp2_with fail
                          go_quiet (exact Calls.quiet_of_same (UQ.out _))
                          go_wp2
                          go_roundw
                          case rel => first
                            | exact ⟨c + 1, by omega, by go_num, bag_ext OO.out H3.out ((Ext.refl wr).drewN nq)⟩
                            | exact ⟨15, by decide, by go_num, bag_ext OO.out H3.out ((Ext.refl wr).drewN nq)⟩
                            | exact ⟨40, by decide, by go_num, bag_ext OO.out H3.out ((Ext.refl wr).drewN nq)⟩
                          case measure => simp [intOf] <;> omega
                        · have t1 : ((c : Int) == 14) = false := by rw [beq_eq_false_iff_ne]; omega
                          have t2 : ((c : Int) == 39) = false := by rw [beq_eq_false_iff_ne]; omega
                          clear e1 e2
                          go_wp2_with fail
                          refine (by4 _).mono ?_; rintro e w6 ⟨rfl, rfl⟩
                          go_wp2_with fail
                          refine (bz14 _).mono ?_; rintro e w7 ⟨rfl, rfl⟩
                          go_wp2_with fail
                          go_quiet (exact Calls.quiet_of_same (UQ.out _))
                          go_wp2
                          go_roundw
                          case rel => first
                            | exact ⟨c + 1, by omega, by go_num, bag_ext OO.out H3.out ((Ext.refl wr).drewN nq)⟩
                            | exact ⟨15, by decide, by go_num, bag_ext OO.out H3.out ((Ext.refl wr).drewN nq)⟩
                            | exact ⟨40, by decide, by go_num, bag_ext OO.out H3.out ((Ext.refl wr).drewN nq)⟩
                          case measure => simp [intOf] <;> omega
                    · have y1 : ¬ (c : Int) < 64 := by omega
                      have HUn := Lib.hid (H3.out.fst.fst)
                      go_wp2
                      go_roundw
                      case rel => exact ⟨i + 1, N3, sC, by omega, by go_num, HC3.out, HK3.out, HG3.out, HUn.out⟩
                      case measure => simp [intOf] <;> omega
            · rw [hr] at h6 k1
              obtain rfl : x6 = .iface 42 (.int .i64 cc) := h6.held.2.2.1
              have H3 : Hid (Uno (Sep (Sep (WrF a) (ChF wp.heap.size)) HoF) w w6 ((sA, f), fun _ => True)) := bag_imp h6 (fun _ _ => trivial)
              have HFC : Hid (∀ j, j < 64 → f j ≤ sA.ch j ∧ (j ≠ 14 → sA.ch j = f j)) := fun j hj => by rw [HFA.out j hj]; exact ⟨Nat.le_refl _, fun _ => rfl⟩
              obtain ⟨sC, hsC⟩ : ∃ z, z = sA := ⟨_, rfl⟩
              subst hsC
              obtain ⟨N3, hN3⟩ : ∃ z, N + 4 * (43 * xs.length + 1) + 4 = z := ⟨_, rfl⟩
              have HK3 : Hid (okS okEm N3 sC) := by rw [← hN3]; exact k1.mono mkE (by omega)
              have HC3 : Hid (cstC L (i + 1) N3) := by rw [← hN3]; exact k2
              have HG3 := HGS
              clear hr h6 k1 k2 k3 HK HC HGS HFA hN3
              -- in hand: H3, HFC, HK3, HC3, HG3, sC, f, N3
              go_wp2_with fail
              go_loopw [14] (fun iv wr => ∃ c : Nat, c ≤ 64 ∧ iv = .int .i64 (c : Int) ∧ Hid (Uno (Sep (Sep (WrF a) (ChF wp.heap.size)) HoF) w wr ((sC, f), fun _ => True))) (fun iv _ => 64 - (intOf iv).toNat)
              case atStart => exact ⟨0, Nat.zero_le _, rfl, H3.out⟩
              case round =>
                clear H3
                obtain ⟨c, hc, rfl, H3⟩ := hrel
                by_cases hc6 : c < 64
                · have y1 : (c : Int) < 64 := by omega
                  have y2 : (0 : Int) ≤ (c : Int) := by omega
                  have c0 := (chf_at H3.out hc6).1
                  obtain ⟨V, hV⟩ : ∃ V, sC.ch c = V := ⟨_, rfl⟩
                  obtain ⟨U, hU⟩ : ∃ U, f c = U := ⟨_, rfl⟩
                  have hvu := (HFC.out c hc6).1
                  have hve := (HFC.out c hc6).2
                  rw [hV, hU] at hvu hve
                  rw [hU] at c0
                  have HV := Lib.hid hV
                  clear hV hU
                  have UQ : Hid (∀ q, Calls Tryd.prog 20 #[.pointer (some ⟨a, 0, none⟩), .int .i64 (c : Int)] (wr.drewN q) fun e w' => e = .returned (.int .i64 (V : Int)) ∧ w' = wr.drewN q) := fun q => by
                    have := mwch_any a (c : Int) sC.ch (wr.drewN q) (wrf_ch (bag_ext OO.out H3.out ((Ext.refl wr).drewN q)))
                    rw [chv_nat hc6, HV.out] at this
                    exact this.mono fun e w' h => ⟨h.1, h.2.symm⟩
                  have d1 : decide (V < U) = false := decide_eq_false (by omega)
                  by_cases e1 : c = 14
                  · subst e1
                    go_wp2_with fail
                    refine (by4 _).mono ?_; rintro e w6 ⟨rfl, rfl⟩
                    clear hvu hve
                    go_wp2_with fail
                    go_quiet (exact Calls.quiet_of_same (UQ.out _))
                    go_wp2
                    go_roundw
                    case rel => first
                      | exact ⟨c + 1, by omega, by go_num, bag_ext OO.out H3.out ((Ext.refl wr).drewN nq)⟩
                      | exact ⟨15, by decide, by go_num, bag_ext OO.out H3.out ((Ext.refl wr).drewN nq)⟩
                      | exact ⟨40, by decide, by go_num, bag_ext OO.out H3.out ((Ext.refl wr).drewN nq)⟩
                    case measure => simp [intOf] <;> omega
                  · have hve := hve e1
                    obtain rfl : V = U := hve
                    have d2 : ((V : Int) != (V : Int)) = false := by simp
                    by_cases e2 : c = 39
                    · subst e2
                      go_wp2_with fail
                      refine (by4 _).mono ?_; rintro e w6 ⟨rfl, rfl⟩
                      go_wp2_with fail
                      refine (bz14 _).mono ?_; rintro e w7 ⟨rfl, rfl⟩
                      go_wp2_with fail
                      go_quiet (exact Calls.quiet_of_same (UQ.out _))
                      go_wp2
                      go_roundw
                      case rel => first
                        | exact ⟨c + 1, by omega, by go_num, bag_ext OO.out H3.out ((Ext.refl wr).drewN nq)⟩
                        | exact ⟨15, by decide, by go_num, bag_ext OO.out H3.out ((Ext.refl wr).drewN nq)⟩
                        | exact ⟨40, by decide, by go_num, bag_ext OO.out H3.out ((Ext.refl wr).drewN nq)⟩
                      case measure => simp [intOf] <;> omega
                    · have t1 : ((c : Int) == 14) = false := by rw [beq_eq_false_iff_ne]; omega
                      have t2 : ((c : Int) == 39) = false := by rw [beq_eq_false_iff_ne]; omega
                      clear e1 e2
                      go_wp2_with fail
                      refine (by4 _).mono ?_; rintro e w6 ⟨rfl, rfl⟩
                      go_wp2_with fail
                      refine (bz14 _).mono ?_; rintro e w7 ⟨rfl, rfl⟩
                      go_wp2_with fail
                      go_quiet (exact Calls.quiet_of_same (UQ.out _))
                      go_wp2
                      go_roundw
                      case rel => first
                        | exact ⟨c + 1, by omega, by go_num, bag_ext OO.out H3.out ((Ext.refl wr).drewN nq)⟩
                        | exact ⟨15, by decide, by go_num, bag_ext OO.out H3.out ((Ext.refl wr).drewN nq)⟩
                        | exact ⟨40, by decide, by go_num, bag_ext OO.out H3.out ((Ext.refl wr).drewN nq)⟩
                      case measure => simp [intOf] <;> omega
                · have y1 : ¬ (c : Int) < 64 := by omega
                  have HUn := Lib.hid (H3.out.fst.fst)
                  go_wp2
                  go_roundw
                  case rel => exact ⟨i + 1, N3, sC, by omega, by go_num, HC3.out, HK3.out, HG3.out, HUn.out⟩
                  case measure => simp [intOf] <;> omega
          · obtain ⟨hi, hz0, hz1, hz2⟩ := HI.out
            obtain ⟨wm, hwm⟩ : ∃ x, x = wr := ⟨_, rfl⟩
            subst hwm
            go_wp2_with (at_make; refine wpList_make_full _ rfl _ _ 27 rfl wm.heap.size 3 i0 (.int .i64 0) 1 Tryd.underlying27 hi hz0 hz1 .i64 .i64 _ _ 64 rfl rfl rfl rfl (by rw [hz2]; decide) (by decide) (Nat.le_refl _) ?_; intro w5 hown hgrow; have c2 := (HUA.out.out.trans (Below.grown (Ext.refl wm) hgrow (Nat.le_refl _) (fun k hk => by cases hk))).cell HQ0.out)
            have hE := Below.grown (Ext.refl wm) hgrow (Nat.le_refl _) (fun k hk => by cases hk)
            obtain ⟨m1, m2⟩ := ho_made (by decide) hown
            have H5 := Lib.hid (bag_add OO.out HUA.out hE m1 m2)
            clear hE m1 m2 hown hgrow HUA hi hz0 hz1 hz2 c2
            obtain ⟨hl1, hl2⟩ := few_step HFW.out HX.out
            obtain ⟨k1, k2, k3⟩ := cst_ok HFW.out HX.out HC.out HK.out
            have hfb := fewC_bound L i
            have HV1 : Hid (Ints w (.slice ra xs.length rc) xs) := ⟨HQ1.out, by omega⟩
            have UA := Lib.hid (wl_arg (ChF.obj wp.heap.size) H5.out HK.out (by omega) HV1.out)
            clear HV1 hl1 hl2 hfb
            refine (UA.out).mono ?_; rintro e w6 ⟨u6, x6, rfl, h6⟩
            clear UA H5
            rcases cod_w HGS.out xs with ⟨hr1, -, -, hg2⟩ | ⟨cc, hcc, hr⟩
            · rw [hr1] at h6
              obtain ⟨sB, hsB⟩ : ∃ z, ((codP xs).run mE sA).2 = z := ⟨_, rfl⟩
              rw [hsB] at h6 hg2 k1
              obtain rfl : x6 = .nilIface := h6.held.2.2
              obtain ⟨PI, hPI⟩ : ∃ P : World → Prop, P = fun W => Ints W (.slice (some ⟨wm.heap.size, 0, none⟩) 64 64) (zsL 64) := ⟨_, rfl⟩
              have HPI : Hid (∀ W, PI W → Ints W (.slice (some ⟨wm.heap.size, 0, none⟩) 64 64) (zsL 64)) := fun W h => by rw [hPI] at h; exact h
              have HUA : Hid (Uno (Sep (Sep (WrF a) (ChF wp.heap.size)) HoF) w w6 ((sB, f), PI)) := by rw [hPI]; exact bag_imp h6 (fun W h => h.1.2)
              have HK2 := Lib.hid k1
              have HC2 := Lib.hid k2
              have HG2 := Lib.hid hg2
              obtain ⟨N2, hN2⟩ : ∃ z, N + 4 * (43 * xs.length + 1) = z := ⟨_, rfl⟩
              have HK2 : Hid (okS okEm N2 sB) := by rw [← hN2]; exact k1
              have HC2 : Hid (cstC L (i + 1) (N2 + 4)) := by rw [← hN2]; exact k2
              have hN3 : N2 ≤ 3900000 := by omega
              clear hr1 hsB hPI h6 hg2 k1 k2 k3 HK HC HGS HFA hN2
              go_wp2_with fail
              -- in hand: HU : Uno .. at the world behind, (sB, f0), P
              go_loopw [13] (fun iv wr => ∃ (c : Nat) (f : Nat → Nat), c ≤ 64 ∧ iv = .int .i64 (c : Int) ∧ Hid (∀ j, j < c → f j = sB.ch j) ∧ Hid (Uno (Sep (Sep (WrF a) (ChF wp.heap.size)) HoF) w wr ((sB, f), PI))) (fun iv _ => 64 - (intOf iv).toNat)
              case atStart => exact ⟨0, _, Nat.zero_le _, rfl, fun j hj => absurd hj (Nat.not_lt_zero _), HUA.out⟩
              case round =>
                clear HUA
                obtain ⟨c, f, hc, rfl, HF, HUA⟩ := hrel
                by_cases hc6 : c < 64
                · have y1 : (c : Int) < 64 := by omega
                  have y2 : (0 : Int) ≤ (c : Int) := by omega
                  have UC := Lib.hid (mwch_any a (c : Int) sB.ch wr (wrf_ch HUA.out))
                  rw [chv_nat hc6] at UC
                  obtain ⟨c0, c1⟩ := chf_at HUA.out hc6
                  obtain ⟨V, hV⟩ : ∃ V, sB.ch c = V := ⟨_, rfl⟩
                  rw [hV] at UC
                  have HV := Lib.hid hV
                  have H9 := Lib.hid (chf_set (x := V) (WrF.obj a) HUA.out hc6)
                  clear hV
                  go_wp2_with fail
                  refine (UC.out).mono ?_; rintro e w5 ⟨rfl, rfl⟩
                  go_wp2
                  go_roundw
                  case rel => exact ⟨c + 1, _, by omega, by go_num, fun j hj => by
                                show (if j = c then V else f j) = _
                                by_cases e : j = c
                                · rw [if_pos e, e]; exact HV.out.symm
                                · rw [if_neg e]; exact HF.out j (by omega), H9.out⟩
                  case measure => simp [intOf] <;> omega
                · obtain rfl : c = 64 := by omega
                  have y1 : ¬ ((64 : Nat) : Int) < 64 := by decide
                  have HFC : Hid (∀ j, j < 64 → f j ≤ (bitM mE sB ((39 : Nat) : Int) false).2.ch j ∧ (j ≠ 39 → (bitM mE sB ((39 : Nat) : Int) false).2.ch j = f j)) := fun j hj => by
                    rw [HF.out j hj, zr_ch (by decide)]
                    by_cases e : j = 39
                    · rw [if_pos e, e]; exact ⟨Nat.le_add_right _ _, fun h => absurd rfl h⟩
                    · rw [if_neg e]; exact ⟨Nat.le_refl _, fun _ => rfl⟩
                  have HK3 : Hid (okS okEm (N2 + 4) (bitM mE sB ((39 : Nat) : Int) false).2) := bit_ok mkE _ false HK2.out
                  have HG3 : Hid (gS (bitM mE sB ((39 : Nat) : Int) false).2) := (bit_g HG2.out _ false).1
                  have HC3 := HC2
                  have UB := Lib.hid (wl_code (ChF.obj wp.heap.size) HUA.out HK2.out hN3 HPI.out)
                  have HZ : Hid ((codP (zsL 64)).run mE sB = ((none, zsL 64), (bitM mE sB ((39 : Nat) : Int) false).2)) := cod_zeroW (by decide) HG2.out
                  rw [HZ.out] at UB
                  obtain ⟨sC, hsC⟩ : ∃ z, (bitM mE sB ((39 : Nat) : Int) false).2 = z := ⟨_, rfl⟩
                  rw [hsC] at HFC HK3 HG3 UB
                  obtain ⟨N3, hN4⟩ : ∃ z, N2 + 4 = z := ⟨_, rfl⟩
                  rw [hN4] at HK3 HC3
                  clear hsC hN4 HF HUA HPI HZ HK2 HG2 HC2
                  go_wp2_with fail
                  refine (UB.out).mono ?_; rintro e w8 ⟨u8, x8, rfl, h8⟩
                  obtain rfl : x8 = .nilIface := h8.held.2.2
                  have H3 : Hid (Uno (Sep (Sep (WrF a) (ChF wp.heap.size)) HoF) w w8 ((sC, f), fun _ => True)) := bag_imp h8 (fun _ _ => trivial)
                  clear UB h8
                  -- in hand: H3, HFC, HK3, HC3, HG3, sC, f, N3
                  go_wp2_with fail
                  go_loopw [14] (fun iv wr => ∃ c : Nat, c ≤ 64 ∧ iv = .int .i64 (c : Int) ∧ Hid (Uno (Sep (Sep (WrF a) (ChF wp.heap.size)) HoF) w wr ((sC, f), fun _ => True))) (fun iv _ => 64 - (intOf iv).toNat)
                  case atStart => exact ⟨0, Nat.zero_le _, rfl, H3.out⟩
                  case round =>
                    clear H3
                    obtain ⟨c, hc, rfl, H3⟩ := hrel
                    by_cases hc6 : c < 64
                    · have y1 : (c : Int) < 64 := by omega
                      have y2 : (0 : Int) ≤ (c : Int) := by omega
                      have c0 := (chf_at H3.out hc6).1
                      obtain ⟨V, hV⟩ : ∃ V, sC.ch c = V := ⟨_, rfl⟩
                      obtain ⟨U, hU⟩ : ∃ U, f c = U := ⟨_, rfl⟩
                      have hvu := (HFC.out c hc6).1
                      have hve := (HFC.out c hc6).2
                      rw [hV, hU] at hvu hve
                      rw [hU] at c0
                      have HV := Lib.hid hV
                      clear hV hU
                      have UQ : Hid (∀ q, Calls Tryd.prog 20 #[.pointer (some ⟨a, 0, none⟩), .int .i64 (c : Int)] (wr.drewN q) fun e w' => e = .returned (.int .i64 (V : Int)) ∧ w' = wr.drewN q) := fun q => by
                        have := mwch_any a (c : Int) sC.ch (wr.drewN q) (wrf_ch (bag_ext OO.out H3.out ((Ext.refl wr).drewN q)))
                        rw [chv_nat hc6, HV.out] at this
                        exact this.mono fun e w' h => ⟨h.1, h.2.symm⟩
                      have d1 : decide (V < U) = false := decide_eq_false (by omega)
                      by_cases e1 : c = 39
                      · subst e1
                        go_wp2_with fail
                        refine (by4 _).mono ?_; rintro e w6 ⟨rfl, rfl⟩
                        go_wp2_with fail
                        refine (bz14 _).mono ?_; rintro e w7 ⟨rfl, rfl⟩
                        clear hvu hve
                        go_wp2_with fail
                        go_quiet (exact Calls.quiet_of_same (UQ.out _))
                        go_wp2
                        go_roundw
                        case rel => first
                          | exact ⟨c + 1, by omega, by go_num, bag_ext OO.out H3.out ((Ext.refl wr).drewN nq)⟩
                          | exact ⟨15, by decide, by go_num, bag_ext OO.out H3.out ((Ext.refl wr).drewN nq)⟩
                          | exact ⟨40, by decide, by go_num, bag_ext OO.out H3.out ((Ext.refl wr).drewN nq)⟩
                        case measure => simp [intOf] <;> omega
                      · have hve := hve e1
                        obtain rfl : V = U := hve
                        have d2 : ((V : Int) != (V : Int)) = false := by simp
                        by_cases e2 : c = 14
                        · subst e2
                          go_wp2_with fail
                          refine (by4 _).mono ?_; rintro e w6 ⟨rfl, rfl⟩
                          go_wp2_with fail
                          refine (bz14 _).mono ?_; rintro e w7 ⟨rfl, rfl⟩
                          go_wp2_with fail
                          go_quiet (exact Calls.quiet_of_same (UQ.out _))
                          go_wp2
                          go_roundw
                          case rel => first
                            | exact ⟨c + 1, by omega, by go_num, bag_ext OO.out H3.out ((Ext.refl wr).drewN nq)⟩
                            | exact ⟨15, by decide, by go_num, bag_ext OO.out H3.out ((Ext.refl wr).drewN nq)⟩
                            | exact ⟨40, by decide, by go_num, bag_ext OO.out H3.out ((Ext.refl wr).drewN nq)⟩
                          case measure => simp [intOf] <;> omega
                        · have t1 : ((c : Int) == 14) = false := by rw [beq_eq_false_iff_ne]; omega
                          have t2 : ((c : Int) == 39) = false := by rw [beq_eq_false_iff_ne]; omega
                          clear e1 e2
                          go_wp2_with fail
                          refine (by4 _).mono ?_; rintro e w6 ⟨rfl, rfl⟩
                          go_wp2_with fail
                          refine (bz14 _).mono ?_; rintro e w7 ⟨rfl, rfl⟩
                          go_wp2_with fail
                          go_quiet (exact Calls.quiet_of_same (UQ.out _))
                          go_wp2
                          go_roundw
                          case rel => first
                            | exact ⟨c + 1, by omega, by go_num, bag_ext OO.out H3.out ((Ext.refl wr).drewN nq)⟩
                            | exact ⟨15, by decide, by go_num, bag_ext OO.out H3.out ((Ext.refl wr).drewN nq)⟩
                            | exact ⟨40, by decide, by go_num, bag_ext OO.out H3.out ((Ext.refl wr).drewN nq)⟩
                          case measure => simp [intOf] <;> omega
                    · have y1 : ¬ (c : Int) < 64 := by omega
                      have HUn := Lib.hid (H3.out.fst.fst)
                      go_wp2
                      go_roundw
                      case rel => exact ⟨i + 1, N3, sC, by omega, by go_num, HC3.out, HK3.out, HG3.out, HUn.out⟩
                      case measure => simp [intOf] <;> omega
            · rw [hr] at h6 k1
              obtain rfl : x6 = .iface 42 (.int .i64 cc) := h6.held.2.2.1
              have H3 : Hid (Uno (Sep (Sep (WrF a) (ChF wp.heap.size)) HoF) w w6 ((sA, f), fun _ => True)) := bag_imp h6 (fun _ _ => trivial)
              have HFC : Hid (∀ j, j < 64 → f j ≤ sA.ch j ∧ (j ≠ 39 → sA.ch j = f j)) := fun j hj => by rw [HFA.out j hj]; exact ⟨Nat.le_refl _, fun _ => rfl⟩
              obtain ⟨sC, hsC⟩ : ∃ z, z = sA := ⟨_, rfl⟩
              subst hsC
              obtain ⟨N3, hN3⟩ : ∃ z, N + 4 * (43 * xs.length + 1) + 4 = z := ⟨_, rfl⟩
              have HK3 : Hid (okS okEm N3 sC) := by rw [← hN3]; exact k1.mono mkE (by omega)
              have HC3 : Hid (cstC L (i + 1) N3) := by rw [← hN3]; exact k2
              have HG3 := HGS
              clear hr h6 k1 k2 k3 HK HC HGS HFA hN3
              -- in hand: H3, HFC, HK3, HC3, HG3, sC, f, N3
              go_wp2_with fail
              go_loopw [14] (fun iv wr => ∃ c : Nat, c ≤ 64 ∧ iv = .int .i64 (c : Int) ∧ Hid (Uno (Sep (Sep (WrF a) (ChF wp.heap.size)) HoF) w wr ((sC, f), fun _ => True))) (fun iv _ => 64 - (intOf iv).toNat)
              case atStart => exact ⟨0, Nat.zero_le _, rfl, H3.out⟩
              case round =>
                clear H3
                obtain ⟨c, hc, rfl, H3⟩ := hrel
                by_cases hc6 : c < 64
                · have y1 : (c : Int) < 64 := by omega
                  have y2 : (0 : Int) ≤ (c : Int) := by omega
                  have c0 := (chf_at H3.out hc6).1
                  obtain ⟨V, hV⟩ : ∃ V, sC.ch c = V := ⟨_, rfl⟩
                  obtain ⟨U, hU⟩ : ∃ U, f c = U := ⟨_, rfl⟩
                  have hvu := (HFC.out c hc6).1
                  have hve := (HFC.out c hc6).2
                  rw [hV, hU] at hvu hve
                  rw [hU] at c0
                  have HV := Lib.hid hV
                  clear hV hU
                  have UQ : Hid (∀ q, Calls Tryd.prog 20 #[.pointer (some ⟨a, 0, none⟩), .int .i64 (c : Int)] (wr.drewN q) fun e w' => e = .returned (.int .i64 (V : Int)) ∧ w' = wr.drewN q) := fun q => by
                    have := mwch_any a (c : Int) sC.ch (wr.drewN q) (wrf_ch (bag_ext OO.out H3.out ((Ext.refl wr).drewN q)))
                    rw [chv_nat hc6, HV.out] at this
                    exact this.mono fun e w' h => ⟨h.1, h.2.symm⟩
                  have d1 : decide (V < U) = false := decide_eq_false (by omega)
                  by_cases e1 : c = 39
                  · subst e1
                    go_wp2_with fail
                    refine (by4 _).mono ?_; rintro e w6 ⟨rfl, rfl⟩
                    go_wp2_with fail
                    refine (bz14 _).mono ?_; rintro e w7 ⟨rfl, rfl⟩
                    clear hvu hve
                    go_wp2_with fail
                    go_quiet (exact Calls.quiet_of_same (UQ.out _))
                    go_wp2
                    go_roundw
                    case rel => first
                      | exact ⟨c + 1, by omega, by go_num, bag_ext OO.out H3.out ((Ext.refl wr).drewN nq)⟩
                      | exact ⟨15, by decide, by go_num, bag_ext OO.out H3.out ((Ext.refl wr).drewN nq)⟩
                      | exact ⟨40, by decide, by go_num, bag_ext OO.out H3.out ((Ext.refl wr).drewN nq)⟩
                    case measure => simp [intOf] <;> omega
                  · have hve := hve e1
                    obtain rfl : V = U := hve
                    have d2 : ((V : Int) != (V : Int)) = false := by simp
                    by_cases e2 : c = 14
                    · subst e2
                      go_wp2_with fail
                      refine (by4 _).mono ?_; rintro e w6 ⟨rfl, rfl⟩
                      go_wp2_with fail
                      refine (bz14 _).mono ?_; rintro e w7 ⟨rfl, rfl⟩
                      go_wp2_with fail
                      go_quiet (exact Calls.quiet_of_same (UQ.out _))
                      go_wp2
                      go_roundw
                      case rel => first
                        | exact ⟨c + 1, by omega, by go_num, bag_ext OO.out H3.out ((Ext.refl wr).drewN nq)⟩
                        | exact ⟨15, by decide, by go_num, bag_ext OO.out H3.out ((Ext.refl wr).drewN nq)⟩
                        | exact ⟨40, by decide, by go_num, bag_ext OO.out H3.out ((Ext.refl wr).drewN nq)⟩
                      case measure => simp [intOf] <;> omega
                    · have t1 : ((c : Int) == 14) = false := by rw [beq_eq_false_iff_ne]; omega
                      have t2 : ((c : Int) == 39) = false := by rw [beq_eq_false_iff_ne]; omega
                      clear e1 e2
                      go_wp2_with fail
                      refine (by4 _).mono ?_; rintro e w6 ⟨rfl, rfl⟩
                      go_wp2_with fail
                      refine (bz14 _).mono ?_; rintro e w7 ⟨rfl, rfl⟩
                      go_wp2_with fail
                      go_quiet (exact Calls.quiet_of_same (UQ.out _))
                      go_wp2
                      go_roundw
                      case rel => first
                        | exact ⟨c + 1, by omega, by go_num, bag_ext OO.out H3.out ((Ext.refl wr).drewN nq)⟩
                        | exact ⟨15, by decide, by go_num, bag_ext OO.out H3.out ((Ext.refl wr).drewN nq)⟩
                        | exact ⟨40, by decide, by go_num, bag_ext OO.out H3.out ((Ext.refl wr).drewN nq)⟩
                      case measure => simp [intOf] <;> omega
                · have y1 : ¬ (c : Int) < 64 := by omega
                  have HUn := Lib.hid (H3.out.fst.fst)
                  go_wp2
                  go_roundw
                  case rel => exact ⟨i + 1, N3, sC, by omega, by go_num, HC3.out, HK3.out, HG3.out, HUn.out⟩
                  case measure => simp [intOf] <;> omega
    · have x2 : ¬ (i : Int) < (m : Int) := by omega
      go_wp2_with fail
      refine (first14_any _ (HET.out.ext HU.out.out)).mono ?_; rintro e w6 ⟨rfl, hx6⟩
      go_wp2
      go_ret
      exact ⟨rfl, HU.out.out.trans hx6⟩
end Go.Proofs.YtdndambkaohgiaaDoor
