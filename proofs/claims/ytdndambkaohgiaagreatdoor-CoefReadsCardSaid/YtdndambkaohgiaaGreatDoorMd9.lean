/- kinref13: Writer; Kind, Mode, Part, and kinlaw13.wants with a writer: contracts over this seat's translation. -/
import Derived.Test.YtdndambkaohgiaaGreatDoorMd8
import Derived.Test.YtdndambkaohgiaaGreatDoorZj
import Derived.Deep.WholeRow
namespace Go.Proofs.YtdndambkaohgiaaGreatDoor
set_option linter.unusedVariables false
set_option linter.unusedSimpArgs false
open Go.RowKit Go.Extern.Stop Go.Stop Go.Extern

def kinL {σ : Type} (M : Mc σ) (k : Int) : Nat → Nat → Ms σ → Nat × Ms σ
  | 0, n, s => (n, s)
  | f + 1, n, s => if (bitM M s (n : Int) (decide ((n : Int) < k))).1 then kinL M k f (n + 1) (bitM M s (n : Int) (decide ((n : Int) < k))).2 else (n, (bitM M s (n : Int) (decide ((n : Int) < k))).2)
theorem kind_L {σ : Type} (M : Mc σ) (k : Int) (s : Ms σ) : kindM M s k = kinL M k 3 0 s := by
  show kindM M s k = (if (bitM M s 0 (decide (0 < k))).1 = true then (if (bitM M (bitM M s 0 (decide (0 < k))).2 1 (decide (1 < k))).1 = true then (if (bitM M (bitM M (bitM M s 0 (decide (0 < k))).2 1 (decide (1 < k))).2 2 (decide (2 < k))).1 = true then (3, _) else (2, _)) else (1, _)) else (0, _))
  unfold kindM
  split
  · split
    · split <;> rfl
    · rfl
  · rfl
theorem kin_yes {σ : Type} {M : Mc σ} {k : Int} {f n : Nat} {s s1 : Ms σ} (h : bitM M s (n : Int) (decide ((n : Int) < k)) = (true, s1)) : kinL M k (f + 1) n s = kinL M k f (n + 1) s1 := by
  show (if _ = true then _ else _) = _
  rw [h]
  rfl
theorem kin_no {σ : Type} {M : Mc σ} {k : Int} {f n : Nat} {s s1 : Ms σ} (h : bitM M s (n : Int) (decide ((n : Int) < k)) = (false, s1)) : kinL M k (f + 1) n s = (n, s1) := by
  show (if _ = true then _ else _) = _
  rw [h]
  rfl
theorem XnF.new {b g cap : Nat} {w : World} (h : XeBox w b (.slice (some ⟨g, 0, none⟩) 4 cap) 4294967295) (ho : w.ownsRow 0 5 1 (.slice (some ⟨g, 0, none⟩) 4 cap) 4 (byC [0, 0, 0, 0])) (hg : g ≠ b) : XnF b w (fun k => k = b ∨ k = g) newX :=
  ⟨_, h, ho, fun e => hg (Option.some.inj e), fun k => ⟨fun e => e.imp id (fun e => by rw [e]; rfl), fun e => e.imp id (fun e => (Option.some.inj e).symm)⟩⟩
theorem own_zero2 {w : World} {base : Nat} {e : TypeId} {size n : Nat} {v : Value} {xs : List Value} (h : w.ownsRow base e size v n xs) : w.ownsRow 0 e size v n xs := by
  obtain ⟨h1, h2⟩ := h
  refine ⟨h1, ?_⟩
  rcases h2 with h2 | ⟨g, cap, cur, rfl, hg, hh, r⟩
  · exact .inl h2
  · exact .inr ⟨g, cap, cur, rfl, Nat.zero_le _, hh, r⟩
theorem DwF.congr {a : Nat} {w : World} {F : Nat → Prop} {f g : Nat → Nat} {t : Xe} (h : DwF a w F ⟨f, t⟩) (e : ∀ i, i < 64 → f i = g i) : DwF a w F ⟨g, t⟩ := by
  obtain ⟨b, G, h1, h2, h3, h4, h5⟩ := h
  exact ⟨b, G, h1, fun i hi => by show w.cell? ⟨a, 3 + i, none⟩ = some (.int .i64 (g i : Int)) ∧ _; rw [← e i hi]; exact h2 i hi, h3, h4, h5⟩
set_option maxRecDepth 20000 in
set_option maxHeartbeats 4000000 in
theorem dwfresh_any (a : Nat) (f : Nat → Nat) (F : Nat → Prop) (w : World) (h : DwF a w F ⟨f, newX⟩) : Calls Tryz.prog 37 #[.pointer (some ⟨a, 0, none⟩)] w fun e w' => e = .returned (.pointer (some ⟨a, 0, none⟩)) ∧ DwF a w' F ⟨ch0, newX⟩ ∧ Step F w F w' := by
  have H0 : Hid (DwF a w F ⟨fun i => if i < 0 then 1024 else f i, newX⟩) := h.congr (fun i _ => by rw [if_neg (by omega)])
  clear h
  go_enter Tryz.func37, Tryz.ntmps37
  go_wp2_with fail
  go_loopw [3] (fun iv wr => ∃ k : Nat, k ≤ 64 ∧ iv = .int .i64 (k : Int) ∧ Hid (DwF a wr F ⟨fun i => if i < k then 1024 else f i, newX⟩) ∧ Hid (Step F w F wr)) (fun iv _ => 64 - (intOf iv).toNat)
  case atStart => exact ⟨0, Nat.zero_le _, rfl, H0.out, Step.refl F w⟩
  case round =>
    clear H0
    obtain ⟨k, hk, rfl, HD, HS⟩ := hrel
    by_cases hlt : k < 64
    · have x1 : (0 : Int) ≤ (k : Int) := by omega
      have x2 : (k : Int) < 64 := by omega
      have HL := Lib.hid (HD.out.learn (c := k) (p := 1024) hlt)
      have HD2 : Hid (DwF a (wr.setCell ⟨a, 3 + k, none⟩ (.int .i64 1024)) F ⟨fun i => if i < k + 1 then 1024 else f i, newX⟩) := HL.out.1.congr (fun i _ => by
        show setM (fun i => if i < k then 1024 else f i) k 1024 i = if i < k + 1 then 1024 else f i
        unfold setM
        by_cases e1 : i = k
        · rw [if_pos e1, if_pos (by omega)]
        · by_cases e2 : i < k
          · rw [if_neg e1, if_pos (by omega)]
            exact if_pos e2
          · rw [if_neg e1, if_neg (by omega)]
            exact if_neg e2)
      have HS2 := Lib.hid (HS.out.trans HL.out.2)
      obtain ⟨c0, f0⟩ := HD.out.ch k hlt
      clear HL HD HS
      go_wp2
      go_roundw
      case rel => exact ⟨k + 1, by omega, by go_num, HD2.out, HS2.out⟩
      case measure => simp [intOf]; omega
    · obtain rfl : k = 64 := by omega
      have x2 : ¬ ((64 : Nat) : Int) < 64 := by omega
      have HD2 : Hid (DwF a wr F ⟨ch0, newX⟩) := HD.out.congr (fun i hi => if_pos hi)
      clear HD
      go_wp2
      go_ret
      exact ⟨rfl, HD2.out, HS.out⟩
def NdwPost (w : World) (e : Ending) (w' : World) : Prop := ∃ a F, e = .returned (.pointer (some ⟨a, 0, none⟩)) ∧ (∀ k, F k → w.heap.size ≤ k) ∧ DwF a w' F ⟨ch0, newX⟩ ∧ Ext w w'
set_option maxRecDepth 20000 in
theorem dwnew_any (w : World) : Calls Tryz.prog 11 #[] w (NdwPost w) := by
  go_enter Tryz.func11, Tryz.ntmps11
  go_wp2_with fail
  refine (newxe_any _).mono ?_; rintro e w2 ⟨b, g, cap, rfl, hb, hg, hbx, ho, hx2⟩
  have hg1 := (ho.lt g rfl)
  have HX := Lib.hid (XnF.new hbx (own_zero2 ho) hg)
  have HE := Lib.hid hx2
  have hb2 := hbx.lt
  clear hbx ho hx2 hg
  have hO : (Tryz.zeroCells50.setIfInBounds 1 (Value.pointer (some ⟨b, 0, none⟩))) = ([Value.bool false, .pointer (some ⟨b, 0, none⟩), .pointer none] ++ mzt).toArray := by kernel_rfl
  have hh := heap_alloc_last w2 (.cells (Tryz.zeroCells50.setIfInBounds 1 (Value.pointer (some ⟨b, 0, none⟩))) 50)
  have A := (Ext.refl w2).alloc (.cells (Tryz.zeroCells50.setIfInBounds 1 (Value.pointer (some ⟨b, 0, none⟩))) 50)
  have hD : Hid (DwF w2.heap.size (w2.alloc (.cells (Tryz.zeroCells50.setIfInBounds 1 (Value.pointer (some ⟨b, 0, none⟩))) 50)) (fun k => k = w2.heap.size ∨ (k = b ∨ k = g)) ⟨fun _ => 0, newX⟩) := by
    rw [hO] at hh ⊢
    refine ⟨b, _, HX.out.ext (by rw [← hO]; exact A), fun i hi => ⟨?_, fro_of hh⟩, ⟨?_, ?_⟩, ?_, fun _ => Iff.rfl⟩
    · rw [cell_of_row _ _ _ _ _ _ hh, List.getElem?_toArray, List.getElem?_append_right (by simp)]
      rw [show 3 + i - [Value.bool false, .pointer (some ⟨b, 0, none⟩), .pointer none].length = i by simp]
      exact rep_get 64 i _ hi
    · rw [cell_of_row _ _ _ _ _ _ hh]; rfl
    · rw [cell_of_row _ _ _ _ _ _ hh]; rfl
    · rintro (e | e) <;> omega
  have HEA := Lib.hid (HE.out.trans A)
  have UF := Lib.hid (dwfresh_any _ _ _ _ hD.out)
  have hF : ∀ k, (k = w2.heap.size ∨ (k = b ∨ k = g)) → w.heap.size ≤ k := by
    have := HE.out.size
    rintro k (e | e | e) <;> omega
  clear hO hh A HX hD
  go_wp2_with fail
  refine (UF.out).mono ?_; rintro e w5 ⟨rfl, h1, h2⟩
  have HD := Lib.hid h1
  have HS := Lib.hid h2
  have HEF := Lib.hid (h2.out HEA.out hF)
  clear h1 h2
  go_wp2
  go_ret
  exact ⟨_, _, rfl, hF, HD.out, HEF.out.1⟩
set_option maxRecDepth 20000 in
set_option maxHeartbeats 4000000 in
theorem dwkind_any (a N : Nat)  (k : Int) (s : Ms Xe) (F : Nat → Prop) (w : World) (h : (DwF a) w F s) (hk : okS okXm N s) (hN : N ≤ 3999000) : Calls Tryz.prog 99 #[.pointer (some ⟨a, 0, none⟩), .int .i64 k] w (FPost (DwF a) F w (.int .i64 ((kindM mX s k).1 : Int)) (kindM mX s k).2) := by
  have UB := Lib.hid ((fun N c up s F w h hk hN => dwbit_any a N c up s F w h hk hN))
  rw [kind_L]
  have H0 := Lib.hid h
  have HK0 := Lib.hid hk
  clear h hk
  go_enter Tryz.func99, Tryz.ntmps99
  go_wp2_with fail
  go_loopw [5] (fun iv wr => ∃ (n : Nat) (t : Ms Xe) (G : Nat → Prop), n ≤ 3 ∧ iv = .int .i64 (n : Int) ∧ Hid (kinL mX k 3 0 s = kinL mX k (3 - n) n t) ∧ Hid (okS okXm (N + 4 * n) t) ∧ Hid ((DwF a) wr G t) ∧ Hid (Step F w G wr)) (fun iv _ => 3 - (intOf iv).toNat)
  case atStart => exact ⟨0, s, F, Nat.zero_le _, rfl, rfl, HK0.out, H0.out, Step.refl F w⟩
  case round =>
    clear H0 HK0
    obtain ⟨n, t, G, hn, rfl, HS, HK, HO, HG⟩ := hrel
    by_cases hlt : n < 3
    · obtain ⟨f, hf⟩ : ∃ f, 3 - n = f + 1 := ⟨2 - n, by omega⟩
      have hs := HS.out
      rw [hf] at hs
      obtain ⟨bz, hbz⟩ : ∃ b, decide ((n : Int) < k) = b := ⟨_, rfl⟩
      obtain ⟨⟨V2, t1⟩, e2⟩ : ∃ r, bitM mX t (n : Int) (decide ((n : Int) < k)) = r := ⟨_, rfl⟩
      have HY : Hid (V2 = true → kinL mX k 3 0 s = kinL mX k (3 - (n + 1)) (n + 1) t1) := fun e => by
        subst e
        rw [hs, kin_yes e2, show 3 - (n + 1) = f by omega]
      have HN : Hid (V2 = false → kinL mX k 3 0 s = (n, t1)) := fun e => by
        subst e
        rw [hs, kin_no e2]
      have k3 := bit_ok mkX (n : Int) (decide ((n : Int) < k)) HK.out
      rw [e2] at k3
      have HK3 : Hid (okS okXm (N + 4 * (n + 1)) t1) := k3
      have U2 := Lib.hid (UB.out (N + 4 * n) (n : Int) (decide ((n : Int) < k)) t G wr HO.out HK.out (by omega))
      rw [e2, hbz] at U2
      have x1 : (n : Int) < 3 := by omega
      have d3 := hbz
      clear hs hf hbz e2 k3 HS HK HO
      go_wp2_with fail
      refine (U2.out).mono ?_; rintro e w3 ⟨rfl, G3, h3, g3⟩
      have H3 := Lib.hid h3
      have G3' := Lib.hid (HG.out.trans g3)
      clear h3 g3 HG
      cases V2
      · have HRR := Lib.hid (HN.out rfl)
        clear HN HY U2 UB
        go_wp2
        go_ret
        exact ⟨by rw [HRR.out]; rfl, G3, by rw [HRR.out]; exact H3.out, G3'.out⟩
      · have HS3 := Lib.hid (HY.out rfl)
        clear HN HY U2
        go_wp2
        go_roundw
        case rel => exact ⟨n + 1, t1, G3, by omega, by go_num, HS3.out, HK3.out, H3.out, G3'.out⟩
        case measure => simp [intOf]; omega
    · obtain rfl : n = 3 := by omega
      have x1 : ¬ ((3 : Nat) : Int) < 3 := by omega
      have HRR : Hid (kinL mX k 3 0 s = (3, t)) := HS.out
      clear HS HK UB
      go_wp2
      go_ret
      exact ⟨by rw [HRR.out]; rfl, G, by rw [HRR.out]; exact HO.out, HG.out⟩
set_option maxRecDepth 20000 in
set_option maxHeartbeats 4000000 in
theorem dwmode_any (a N : Nat)  (k : Int) (s : Ms Xe) (F : Nat → Prop) (w : World) (h : (DwF a) w F s) (hk : okS okXm N s) (hN : N ≤ 3999000) : Calls Tryz.prog 75 #[.pointer (some ⟨a, 0, none⟩), .int .i64 k] w (FPost (DwF a) F w (.int .i64 ((modeM mX s (cl3 k)).1 : Int)) (modeM mX s (cl3 k)).2) := by
  have UB := Lib.hid ((fun N c up s F w h hk hN => dwbit_any a N c up s F w h hk hN))
  obtain ⟨m, hm⟩ : ∃ m, cl3 k = m := ⟨_, rfl⟩
  have hmk : min (max k 0) 3 = (m : Int) := by rw [← hm]; unfold cl3; omega
  rw [hm]
  have hm4 : m ≤ 3 := by omega
  obtain ⟨r, hr⟩ : ∃ r, m % 2 = r := ⟨_, rfl⟩
  have s1 : Int.tmod (m : Int) 2 = (r : Int) := by rw [← hr, show (2 : Int) = ((2 : Nat) : Int) from rfl, Int.ofNat_tmod]
  obtain ⟨b1, hb1⟩ : ∃ b, decide (1 < m) = b := ⟨_, rfl⟩
  obtain ⟨b2, hb2⟩ : ∃ b, decide (m % 2 = 1) = b := ⟨_, rfl⟩
  have d1 : decide (1 < (m : Int)) = b1 := by rw [← hb1]; exact decide_eq_decide.2 (by omega)
  have d2 : ((r : Int) == 1) = b2 := by
    rw [← hb2]
    by_cases e : m % 2 = 1
    · rw [decide_eq_true e, beq_iff_eq]; omega
    · rw [decide_eq_false e, beq_eq_false_iff_ne]; omega
  obtain ⟨⟨V0, t1⟩, e0⟩ : ∃ r, bitM mX s 3 b1 = r := ⟨_, rfl⟩
  obtain ⟨⟨V1, t2⟩, e1⟩ : ∃ r, bitM mX t1 5 b2 = r := ⟨_, rfl⟩
  obtain ⟨⟨V2, t3⟩, e2⟩ : ∃ r, bitM mX t1 4 b2 = r := ⟨_, rfl⟩
  have k1 := bit_ok mkX 3 b1 hk
  rw [e0] at k1
  have HR : Hid (modeM mX s m = if V0 then (if V1 then 3 else 2, t2) else (if V2 then 1 else 0, t3)) := by
    show _ = _
    unfold modeM
    rw [hb1, hb2, e0]
    show (if V0 = true then (if (bitM mX t1 5 b2).1 = true then 3 else 2, (bitM mX t1 5 b2).2) else (if (bitM mX t1 4 b2).1 = true then 1 else 0, (bitM mX t1 4 b2).2)) = _
    rw [e1, e2]
  have U0 := Lib.hid (UB.out N 3 b1 s F w h hk (by omega))
  have U1 := Lib.hid (fun F w' (h : (DwF a) w' F t1) => UB.out (N + 4) 5 b2 t1 F w' h k1 (by omega))
  have U2 := Lib.hid (fun F w' (h : (DwF a) w' F t1) => UB.out (N + 4) 4 b2 t1 F w' h k1 (by omega))
  rw [e0] at U0
  rw [e1] at U1
  rw [e2] at U2
  clear h hk k1 hb1 hb2 e0 e1 e2 UB hm hr hm4
  go_enter Tryz.func75, Tryz.ntmps75
  go_wp2_with fail
  refine (U0.out).mono ?_; rintro e w1 ⟨rfl, F1, h1, g1⟩
  have H1 := Lib.hid h1
  have G1 := Lib.hid g1
  clear h1 g1
  cases V0
  · go_wp2_with fail
    refine (U2.out _ _ H1.out).mono ?_; rintro e w2 ⟨rfl, F2, h2, g2⟩
    have H2 := Lib.hid h2
    have G2 := Lib.hid (G1.out.trans g2)
    clear h2 g2 H1 G1
    cases V2
    all_goals (
      go_wp2
      go_ret
      exact ⟨by rw [HR.out]; rfl, F2, by rw [HR.out]; exact H2.out, G2.out⟩)
  · go_wp2_with fail
    refine (U1.out _ _ H1.out).mono ?_; rintro e w2 ⟨rfl, F2, h2, g2⟩
    have H2 := Lib.hid h2
    have G2 := Lib.hid (G1.out.trans g2)
    clear h2 g2 H1 G1
    cases V1
    all_goals (
      go_wp2
      go_ret
      exact ⟨by rw [HR.out]; rfl, F2, by rw [HR.out]; exact H2.out, G2.out⟩)
set_option maxRecDepth 20000 in
set_option maxHeartbeats 4000000 in
theorem dwpart_any (a N : Nat)  (k : Int) (s : Ms Xe) (F : Nat → Prop) (w : World) (h : (DwF a) w F s) (hk : okS okXm N s) (hN : N ≤ 3999000) : Calls Tryz.prog 74 #[.pointer (some ⟨a, 0, none⟩), .int .i64 k] w (FPost (DwF a) F w (.int .i64 (partM mX s (cl15 k)).1) (partM mX s (cl15 k)).2) := by
  have UB := Lib.hid ((fun N c up s F w h hk hN => dwbit_any a N c up s F w h hk hN))
  have UF := Lib.hid ((fun N up s F w h hk hN => dwflat_any a N up s F w h hk hN))
  obtain ⟨v, hv⟩ : ∃ v, cl15 k = v := ⟨_, rfl⟩
  have hvk : min (max k (-15)) 15 = v := by rw [← hv]; unfold cl15; omega
  rw [hv]
  have hv1 : -15 ≤ v := by omega
  have hv2 : v ≤ 15 := by omega
  have q1 : IntKind.i64.wrap (-v) = -v := by rw [IntKind.wrap_i64]; omega
  obtain ⟨z, hz⟩ : ∃ z, (v.natAbs : Int) - 1 = z := ⟨_, rfl⟩
  have hzm : max v (-v) - 1 = z := by rw [← hz]; omega
  have q2 : IntKind.i64.wrap z = z := by rw [IntKind.wrap_i64]; omega
  have q3 : IntKind.i64.wrap (max v (-v) - 1) = z := by rw [hzm]; exact q2
  obtain ⟨b0, hb0⟩ : ∃ b, decide (v ≠ 0) = b := ⟨_, rfl⟩
  obtain ⟨b1, hb1⟩ : ∃ b, decide (v < 0) = b := ⟨_, rfl⟩
  have d0 : (v != 0) = b0 := by
    rw [← hb0]
    by_cases e : v = 0
    · subst e; rfl
    · rw [decide_eq_true e]; exact bne_iff_ne.2 e
  obtain ⟨⟨V0, s1⟩, e0⟩ : ∃ r, bitM mX s 6 b0 = r := ⟨_, rfl⟩
  obtain ⟨⟨V1, s2⟩, e1⟩ : ∃ r, flaM mX s1 b1 = r := ⟨_, rfl⟩
  have k1 := bit_ok mkX 6 b0 hk
  rw [e0] at k1
  have k2 := fla_ok mkX b1 k1
  rw [e1] at k2
  have HR := Lib.hid (part_split (M := mX) (s := s) (v := v) (by rw [hb0, e0]) (by rw [hb1, e1]))
  rw [hz] at HR
  have HK2 := Lib.hid k2
  have U0 := Lib.hid (UB.out N 6 b0 s F w h hk (by omega))
  have U1 := Lib.hid (fun F w' (h : (DwF a) w' F s1) => UF.out (N + 4) b1 s1 F w' h k1 (by omega))
  rw [e0] at U0
  rw [e1] at U1
  clear h hk k1 k2 hb0 e0 e1 UF hv hz hzm q2
  go_enter Tryz.func74, Tryz.ntmps74
  go_wp2_with fail
  refine (U0.out).mono ?_; rintro e w1 ⟨rfl, F1, h1, g1⟩
  have H1 := Lib.hid h1
  have G1 := Lib.hid g1
  clear h1 g1
  cases V0
  · go_wp2
    go_ret
    exact ⟨by rw [HR.out]; rfl, F1, by rw [HR.out]; exact H1.out, G1.out⟩
  · go_wp2_with fail
    refine (U1.out _ _ H1.out).mono ?_; rintro e w2 ⟨rfl, F2, h2, g2⟩
    have H2 := Lib.hid h2
    have G2 := Lib.hid (G1.out.trans g2)
    clear h2 g2 H1 G1 U0 U1
    go_wp2_with fail
    go_loopw [7] (fun iv wr => ∃ (n : Nat) (t : Ms Xe) (G : Nat → Prop), n ≤ 14 ∧ iv = .int .i64 (n : Int) ∧ Hid (sizM mX z 14 0 s2 = sizM mX z (14 - n) n t) ∧ Hid (okS okXm (N + 4 + 4 + 4 * n) t) ∧ Hid ((DwF a) wr G t) ∧ Hid (Step F w G wr)) (fun iv _ => 14 - (intOf iv).toNat)
    case atStart => exact ⟨0, s2, F2, Nat.zero_le _, rfl, rfl, HK2.out, H2.out, G2.out⟩
    case round =>
      clear H2 G2 HK2
      obtain ⟨n, t, G, hn, rfl, HS, HK, HO, HG⟩ := hrel
      by_cases hlt : n < 14
      · obtain ⟨f, hf⟩ : ∃ f, 14 - n = f + 1 := ⟨13 - n, by omega⟩
        have hs := HS.out
        rw [hf] at hs
        obtain ⟨C, hC⟩ : ∃ C : Nat, 7 + min n 6 = C := ⟨_, rfl⟩
        obtain ⟨bz, hbz⟩ : ∃ b, decide ((n : Int) < z) = b := ⟨_, rfl⟩
        obtain ⟨⟨V2, t1⟩, e2⟩ : ∃ r, bitM mX t ((7 + min n 6 : Nat) : Int) (decide ((n : Int) < z)) = r := ⟨_, rfl⟩
        have HY : Hid (V2 = true → sizM mX z 14 0 s2 = sizM mX z (14 - (n + 1)) (n + 1) t1) := fun e => by
          subst e
          rw [hs, siz_yes e2, show 14 - (n + 1) = f by omega]
        have HN : Hid (V2 = false → sizM mX z 14 0 s2 = (n, t1)) := fun e => by
          subst e
          rw [hs, siz_no e2]
        have k3 := bit_ok mkX ((7 + min n 6 : Nat) : Int) (decide ((n : Int) < z)) HK.out
        rw [e2] at k3
        have HK3 : Hid (okS okXm (N + 4 + 4 + 4 * (n + 1)) t1) := k3
        have U2 := Lib.hid (UB.out (N + 4 + 4 + 4 * n) ((7 + min n 6 : Nat) : Int) (decide ((n : Int) < z)) t G wr HO.out HK.out (by omega))
        rw [e2, hbz, hC] at U2
        have x1 : (n : Int) < 14 := by omega
        have q4 : IntKind.i64.wrap (7 + min (n : Int) 6) = (C : Int) := by rw [IntKind.wrap_i64]; omega
        have d3 := hbz
        clear hs hf hC hbz e2 k3 HS HK HO
        go_wp2_with fail
        refine (U2.out).mono ?_; rintro e w3 ⟨rfl, G3, h3, g3⟩
        have H3 := Lib.hid h3
        have G3' := Lib.hid (HG.out.trans g3)
        clear h3 g3 HG
        cases V2
        · have HRR := HN.out rfl
          have q5 : IntKind.i64.wrap (-(n : Int)) = -(n : Int) := by rw [IntKind.wrap_i64]; omega
          have q6 : IntKind.i64.wrap (-(n : Int) - 1) = -(n : Int) - 1 := by rw [IntKind.wrap_i64]; omega
          have q7 : IntKind.i64.wrap ((n : Int) + 1) = (n : Int) + 1 := by rw [IntKind.wrap_i64]; omega
          have hr := HR.out
          rw [HRR] at hr
          have HR2 := Lib.hid hr
          clear hr HRR HR HN HY U2 UB
          cases V1
          all_goals (
            go_wp2
            go_ret
            exact ⟨by rw [HR2.out]; rfl, G3, by rw [HR2.out]; exact H3.out, G3'.out⟩)
        · have HS3 := Lib.hid (HY.out rfl)
          clear HN HY U2
          go_wp2
          go_roundw
          case rel => exact ⟨n + 1, t1, G3, by omega, by go_num, HS3.out, HK3.out, H3.out, G3'.out⟩
          case measure => simp [intOf]; omega
      · obtain rfl : n = 14 := by omega
        have x1 : ¬ ((14 : Nat) : Int) < 14 := by omega
        have hr := HR.out
        rw [show sizM mX z 14 0 s2 = (14, t) from HS.out] at hr
        have HR2 := Lib.hid hr
        clear hr HR HS HK UB
        cases V1
        all_goals (
          go_wp2
          go_ret
          exact ⟨by rw [HR2.out]; rfl, G, by rw [HR2.out]; exact HO.out, HG.out⟩)
end Go.Proofs.YtdndambkaohgiaaGreatDoor
