/- coef.Code with a writer and with a reader: contracts over this seat's translation. -/
import Derived.Test.YtcekpngkfldgkaaGreatDoorXTk
import Derived.Test.YtcekpngkfldgkaaGreatDoorXZq
import Derived.StillTailTactics
import Derived.Deep.RegionHeld3
namespace Go.Proofs.YtcekpngkfldgkaaGreatDoor
set_option linter.unusedVariables false
set_option linter.unusedSimpArgs false
open Go.RowKit Go.Extern.Stop Go.Stop Go.Extern
theorem zsL_made (n : Nat) : (madeCells (Value.int .i64 0).cells (n * 1)).toList = (zsL n).map (Value.int .i64) := by
 rw [zeros_rowb]
 congr 1
 unfold rowL zsL
 exact List.eq_replicate_iff.2 ⟨by simp, by simp⟩
theorem nr_bit (a : Nat) (w : World) : (nilAhead 379 122 (.pointer (some ⟨a, 0, none⟩)) "Bit").run Tryz.prog w = .ok (some false) w := by kernel_rfl
theorem sq_len {n : Nat} (h : n = 16 ∨ n = 64) : 1 ≤ n ∧ n ≤ 64 := by rcases h with rfl | rfl <;> decide
set_option maxRecDepth 20000 in
set_option maxHeartbeats 2000000 in
theorem mrcode_no (a N : Nat) (bs : List Nat) (hb : ∀ x ∈ bs, x < 256) (xs : List Int) (v : Value) (X : Nat → Prop) (s : Ms Dc) (F : Nat → Prop) (w : World) (h : (RdF a bs) w F s) (hv : Ints w v xs) (hq : ¬ (xs.length = 16 ∨ xs.length = 64)) : Calls Tryz.prog 153 #[.iface 122 (.pointer (some ⟨a, 0, none⟩)), v] w (QPost (Sep (RdF a bs) HoF) (CodR ((codP xs).run (mD bs) s)) F w) := by
 have HR : Hid ((codP xs).run (mD bs) s = ((fit, []), s)) := cod_no hq
 obtain ⟨va, vc, rfl⟩ := hv.form
 obtain ⟨n, hn⟩ : ∃ n, xs.length = n := ⟨_, rfl⟩
 rw [hn] at hv hq ⊢
 have US := Lib.hid (fun w => side_no (n : Int) (by omega) (by omega) w)
 have HO := Lib.hid h
 clear h hv hn hq
 go_enter Tryz.func153, Tryz.ntmps153
 go_wp2_with fail
 refine (US.out _).mono ?_; rintro e w1 ⟨rfl, rfl⟩
 go_wp2
 go_ret2
 exact CodR.done (P := fun W => Ints W (.slice none 0 0) [] ∧ ErrIs W fit (.iface 40 (.int .i64 14))) HR.out (Sep.pure HO.out (fun W => ⟨Ints.nil W, ErrIs.code (by decide)⟩)) (fun W hW => hW) (Step.refl _ _)
set_option maxRecDepth 20000 in
set_option maxHeartbeats 2000000 in
theorem mrcode_bad (a N : Nat) (bs : List Nat) (hb : ∀ x ∈ bs, x < 256) (xs : List Int) (v : Value) (X : Nat → Prop) (s : Ms Dc) (F : Nat → Prop) (w : World) (h : (RdF a bs) w F s) (hv : Ints w v xs) (hq : xs.length = 16 ∨ xs.length = 64) (hb : xs.any noLv = true) : Calls Tryz.prog 153 #[.iface 122 (.pointer (some ⟨a, 0, none⟩)), v] w (QPost (Sep (RdF a bs) HoF) (CodR ((codP xs).run (mD bs) s)) F w) := by
 have HR : Hid ((codP xs).run (mD bs) s = ((range, []), s)) := cod_bad hq hb
 obtain ⟨va, voff, vc, rfl, c1, c2⟩ := hv.addr (by omega)
 obtain ⟨n, hn⟩ : ∃ n, xs.length = n := ⟨_, rfl⟩
 rw [hn] at hv hq c1 ⊢
 have US := Lib.hid (fun w => side_sq hq w)
 have t0 : (((sqN n : Nat) : Int) == 0) = false := by rcases hq with rfl | rfl <;> rfl
 have UV := Lib.hid (fun j x (h : xs[j]? = some x) => hv.at h)
 have HO := Lib.hid h
 have HN := Lib.hid hn
 have HB := Lib.hid hb
 have hn64 := (sq_len hq).2
 clear h hv hn hb hq
 go_enter Tryz.func153, Tryz.ntmps153
 go_wp2_with fail
 refine (US.out _).mono ?_; rintro e w1 ⟨rfl, rfl⟩
 go_wp2_with fail
 go_loopw [26] (fun iv wr => ∃ k : Nat, k ≤ n ∧ iv = .int .i64 (k : Int) ∧ Hid (∀ j x, j < k → xs[j]? = some x → isLv x = true) ∧ wr = w) (fun iv _ => n - (intOf iv).toNat)
 case atStart => exact ⟨0, Nat.zero_le _, rfl, fun j _ hj => absurd hj (Nat.not_lt_zero _), rfl⟩
 case round =>
  obtain ⟨k, hk, rfl, HJ, rfl⟩ := hrel
  by_cases hlt : k < n
  · obtain ⟨x, hx⟩ : ∃ x, xs[k]? = some x := ⟨_, List.getElem?_eq_getElem (by rw [HN.out]; exact hlt)⟩
    have c0 := UV.out k x hx
    have HX := Lib.hid hx
    have x1 : (0 : Int) ≤ (k : Int) := by omega
    have x2 : (k : Int) < (n : Int) := by omega
    obtain ⟨b, hb⟩ : ∃ b, isLv x = b := ⟨_, rfl⟩
    have UI := Lib.hid (fun w => islv_any x w)
    rw [hb] at UI
    have HBB := Lib.hid hb
    clear hx hb
    go_wp2_with fail
    refine (UI.out _).mono ?_; rintro e w2 ⟨rfl, rfl⟩
    cases b
    · go_wp2
      go_ret2
      exact CodR.done (P := fun W => Ints W (.slice none 0 0) [] ∧ ErrIs W range (.iface 40 (.int .i64 3))) HR.out (Sep.pure HO.out (fun W => ⟨Ints.nil W, ErrIs.code (by decide)⟩)) (fun W hW => hW) (Step.refl _ _)
    · go_wp2
      go_roundw
      case rel => exact ⟨k + 1, by omega, by go_num, fun j y hj hy => by
                   by_cases e : j = k
                   · subst e
                     have := HX.out.symm.trans hy
                     simp only [Option.some.injEq] at this
                     rw [← this]; exact HBB.out
                   · exact HJ.out j y (by omega) hy, by first | rfl | trivial⟩
      case measure => simp [intOf] <;> omega
  · exfalso
    obtain ⟨x, hx, hl⟩ := List.any_eq_true.1 HB.out
    obtain ⟨j, hj⟩ := List.mem_iff_getElem?.1 hx
    have hj2 := (List.getElem?_eq_some_iff.1 hj).1
    have := HJ.out j x (by rw [HN.out] at hj2; omega) hj
    unfold noLv at hl
    rw [this] at hl
    simp at hl
set_option maxRecDepth 20000 in
set_option maxHeartbeats 8000000 in
theorem mrcode_yes (a N : Nat) (bs : List Nat) (hb : ∀ x ∈ bs, x < 256) (xs : List Int) (v : Value) (X : Nat → Prop) (s : Ms Dc) (F : Nat → Prop) (w : World) (h : (RdF a bs) w F s) (hk : okS okDm N s) (hN : N ≤ 3900000) (hv : HoF w X (fun W => Ints W v xs)) (hd : ∀ k, X k → ¬ F k) (hq : xs.length = 16 ∨ xs.length = 64) (hb0 : xs.any noLv = false) : Calls Tryz.prog 153 #[.iface 122 (.pointer (some ⟨a, 0, none⟩)), v] w (QPost (Sep (RdF a bs) HoF) (CodR ((codP xs).run (mD bs) s)) F w) := by
 obtain ⟨i0, hi, hz0, hz1, hz2⟩ := info_parts infoInt
 have HM := mr_bit a
 have HNB := nr_bit a
 have hvw := hv.get
 obtain ⟨va, voff, vc, rfl, c1, c2⟩ := hvw.addr (by omega)
 obtain ⟨n, hn⟩ : ∃ n, xs.length = n := ⟨_, rfl⟩
 obtain ⟨nz, hnz⟩ : ∃ b, xs.any nzB = b := ⟨_, rfl⟩
 obtain ⟨⟨V1, s1⟩, e1⟩ : ∃ r, bitM (mD bs) s ((sqB xs.length : Nat) : Int) (xs.any nzB) = r := ⟨_, rfl⟩
 have HR := Lib.hid (cod_yes hq hb0 e1)
 have k1 := bit_ok (mkD hb) ((sqB xs.length : Nat) : Int) (xs.any nzB) hk
 rw [e1] at k1
 rw [hn] at hv hvw hq c1 e1 HR ⊢
 obtain ⟨B, hB⟩ : ∃ B, sqB n = B := ⟨_, rfl⟩
 have hB9 : B ≤ 40 := by rw [← hB]; unfold sqB; split <;> omega
 have UBA := Lib.hid (fun w => base_sq hq w)
 rw [hB] at e1 HR UBA
 rw [hnz] at e1
 have hn1 := (sq_len hq).1
 have hn64 := (sq_len hq).2
 have US := Lib.hid (fun w => side_sq hq w)
 have t0 : (((sqN n : Nat) : Int) == 0) = false := by rcases hq with rfl | rfl <;> rfl
 have UV := Lib.hid (fun j x (h : xs[j]? = some x) => hvw.at h)
 have HLV := Lib.hid (lv_of_any hb0)
 have UZ := Lib.hid (fun w' (h : Ints w' (.slice (some ⟨va, voff, none⟩) n vc) xs) => zero_any xs _ w' h)
 rw [hnz] at UZ
 have HVW := Lib.hid (fun G w' (st : Step F w G w') => hv.step hd st)
 have UBT := Lib.hid (fun F w' (h : (RdF a bs) w' F s) => ((fun N c up s F w h hk hN => mrbit_any a N bs c up s F w h hk hN)) N ((B : Nat) : Int) nz s F w' h hk (by omega))
 rw [e1] at UBT
 have HO := Lib.hid h
 have HN := Lib.hid hn
 have HK1 := Lib.hid k1
 have HQ := Lib.hid hq
 clear h hv hvw hn hb0 hnz e1 hk k1 hB hd hq
 go_enter Tryz.func153, Tryz.ntmps153
 go_wp2_with fail
 refine (US.out _).mono ?_; rintro e w1 ⟨rfl, rfl⟩
 go_wp2_with fail
 go_loopw [26] (fun iv wr => ∃ k : Nat, k ≤ n ∧ iv = .int .i64 (k : Int) ∧ wr = w) (fun iv _ => n - (intOf iv).toNat)
 case atStart => exact ⟨0, Nat.zero_le _, rfl, rfl⟩
 case round =>
  obtain ⟨k, hk, rfl, rfl⟩ := hrel
  by_cases hlt : k < n
  · obtain ⟨x, hx⟩ : ∃ x, xs[k]? = some x := ⟨_, List.getElem?_eq_getElem (by rw [HN.out]; exact hlt)⟩
    have c0 := UV.out k x hx
    have x1 : (0 : Int) ≤ (k : Int) := by omega
    have x2 : (k : Int) < (n : Int) := by omega
    have UI := Lib.hid (fun w => islv_any x w)
    rw [HLV.out x (List.mem_of_getElem? hx)] at UI
    clear hx
    go_wp2_with fail
    refine (UI.out _).mono ?_; rintro e w2 ⟨rfl, rfl⟩
    go_wp2
    go_roundw
    case rel => exact ⟨k + 1, by omega, by go_num, by first | rfl | trivial⟩
    case measure => simp [intOf] <;> omega
  · have x2 : ¬ (k : Int) < (n : Int) := by omega
    clear UV
    obtain ⟨w0, hw0⟩ : ∃ x, x = wr := ⟨_, rfl⟩
    subst hw0
    go_wp2_with fail
    refine (UBA.out _).mono ?_; rintro e w2 ⟨rfl, rfl⟩
    go_wp2_with (at_make; refine wpList_make_full _ rfl _ _ 22 rfl w0.heap.size 3 i0 (.int .i64 0) 1 Tryz.underlying22 hi hz0 hz1 .i64 .i64 _ _ n rfl rfl rfl rfl (by rw [hz2]; omega) (by unfold maxLen; omega) (Nat.le_refl _) ?_; intro w3 hown hgrow)
    have hE3 : Ext w0 w3 := Below.grown (Ext.refl w0) hgrow (Nat.le_refl _) (fun k hk => by cases hk)
    rw [zsL_made] at hown
    obtain ⟨hT, hTf⟩ := TlF.new (n := n) (by simp [zsL]) hown
    obtain ⟨hS, hSt⟩ := Sep.new (RdF.obj a bs) HO.out hE3 hT hTf
    have HS3 := Lib.hid hS
    have HG3 := Lib.hid hSt
    have HY3 : Hid ((zsL n).length = n) := by show _ = _; simp [zsL]
    clear hS hSt hT hTf hE3 hown hgrow hi hz0 hz1 hz2
    go_wp2_with fail
    have hz := HVW.out _ _ (HG3.out.ext ((Ext.refl w3).drew))
    have UZ2 : Hid (Calls Tryz.prog 168 #[.slice (some ⟨va, voff, none⟩) n vc] w3.drew fun e w' => e = .returned (.bool (!nz)) ∧ w' = w3.drew) := (UZ.out w3.drew hz).mono fun e w' h => ⟨h.1, h.2.symm⟩
    clear hz UZ
    go_still_tail 9, (by kernel_rfl)
    still_call (UZ2.out)
    repeat still_step
    refine wpStill_nil ?_
    change wpList _ _ _ _ _ w3.drew
    have HS4 := Lib.hid (Obj.ext ((RdF.obj a bs).sep TlF.obj) HS3.out ((Ext.refl w3).drew))
    have HG4 := Lib.hid (HG3.out.ext ((Ext.refl w3).drew))
    clear HS3 HG3 UZ2
    generalize w3.drew = w4 at HS4 HG4 ⊢
    have U1 := Lib.hid (sep_l TlF.obj HS4.out (fun G h => UBT.out G w4 h))
    clear UBT
    go_wp2_with fail
    refine (U1.out).mono ?_; rintro e w5 ⟨rfl, G5, h5, g5⟩
    have HS5 := Lib.hid h5
    have HG5 := Lib.hid (HG4.out.trans g5)
    clear h5 g5 HS4 HG4 U1
    cases V1
    · have HRz : Hid ((codP xs).run (mD bs) s = ((none, zsL n), s1)) := by
       have := HR.out
       exact this
      have HSz := HS5
      have HGz := HG5
      have HYz := HY3
      -- in hand: the world wz, HSz, HGz, HRz: the list is told
      go_wp2
      go_ret2
      exact CodR.done HRz.out (HSz.out.imp fun _ h => h.ho (by rw [HYz.out]; omega)) (fun W hW => ⟨hW, rfl⟩) HGz.out
    · go_wp2_with fail
      refine (order_own HQ.out _).mono ?_; rintro e w6 ⟨ou, rfl, hx6, ho6, hf6⟩
      have HS6 := Lib.hid (Obj.ext ((RdF.obj a bs).sep TlF.obj) HS5.out hx6)
      have HG6 := Lib.hid (HG5.out.ext hx6)
      have hdis : ∀ k, ou.ownBlock = some k → ¬ G5 k := fun k hk hg => by
       have h1 := hf6 k hk
       have h2 := ((RdF.obj a bs).sep TlF.obj).lt HS5.out k hg
       omega
      have HOD := Lib.hid (fun G w' (st : Step G5 w6 G w') => ho6.step hdis st)
      have hol : ((sqO n).map fun (x : Nat) => (x : Int)).length = n := by rw [List.length_map]; exact sqO_len HQ.out
      obtain ⟨og, ooff, oc, rfl, oc1, oc2⟩ := ho6.get.addr (by omega)
      rw [hol] at oc1
      have HOD : Hid (∀ G w', Step G5 w6 G w' → Ints w' (.slice (some ⟨og, ooff, none⟩) n oc) ((sqO n).map fun (x : Nat) => (x : Int))) := by
       have := HOD.out
       rw [hol] at this
       exact this
      rw [hol]
      have UL := Lib.hid (last_any (.slice (some ⟨va, voff, none⟩) n vc) (.slice (some ⟨og, ooff, none⟩) n oc) xs (sqO n) (n - 1) w6 (HVW.out _ _ HG6.out) (HOD.out _ _ (Step.refl _ _)) (by rw [sqO_len HQ.out]; omega) (fun i hi => by rw [HN.out]; exact (sqO_all HQ.out).2.1 i hi))
      obtain ⟨fin, hfin⟩ : ∃ fin, lastP xs (sqO n) (n - 1) = fin := ⟨_, rfl⟩
      rw [hfin] at UL
      have HR2 : Hid ((codP xs).run (mD bs) s = (cdR (cdM (mD bs) B xs fin (sqO n) 0 (zsL n) s1).1, (cdM (mD bs) B xs fin (sqO n) 0 (zsL n) s1).2)) := by
       have := HR.out
       rw [hfin] at this
       exact this
      clear hx6 ho6 hf6 hdis hol hfin HR HS5 HG5
      go_wp2_with fail
      refine (UL.out).mono ?_; rintro e w7 ⟨rfl, rfl⟩
      clear UL
      go_wp2_with fail
      go_loopw [59] (fun iv wq => ∃ (i : Nat) (tl : List Nat) (ys : List Int) (t : Ms Dc) (G : Nat → Prop), i + tl.length = n ∧ iv = .int .i64 (i : Int) ∧ Hid ((sqO n).drop i = tl) ∧ Hid (ys.length = n) ∧ Hid ((codP xs).run (mD bs) s = (cdR (cdM (mD bs) B xs fin tl i ys t).1, (cdM (mD bs) B xs fin tl i ys t).2)) ∧ Hid (okS okDm (N + 4 + 172 * i) t) ∧ Hid (Sep (RdF a bs) TlF wq G (t, (.slice (some ⟨w0.heap.size, 0, none⟩) n n, ys))) ∧ Hid (Step G5 w7 G wq)) (fun iv _ => n - (intOf iv).toNat)
      case atStart => exact ⟨0, sqO n, zsL n, s1, G5, by rw [sqO_len HQ.out]; omega, rfl, rfl, HY3.out, HR2.out, HK1.out, HS6.out, Step.refl _ _⟩
      case round =>
       clear HR2 HK1 HS6 HY3
       obtain ⟨i, tl, ys, t, G, hi, rfl, HD, HY, HRc, HK, HS, HG⟩ := hrel
       cases tl with
       | nil =>
         have x2 : ¬ (i : Int) < (n : Int) := by simp only [List.length_nil] at hi; omega
         have HRz : Hid ((codP xs).run (mD bs) s = ((none, ys), t)) := HRc.out
         have HSz := HS
         have HGz := Lib.hid (HG6.out.trans HG.out)
         have HYz := HY
         clear HRc HK HS HG HD
         -- in hand: the world wz, HSz, HGz, HRz: the list is told
         go_wp2
         go_ret2
         exact CodR.done HRz.out (HSz.out.imp fun _ h => h.ho (by rw [HYz.out]; omega)) (fun W hW => ⟨hW, rfl⟩) HGz.out
       | cons k tl =>
         rw [List.length_cons] at hi
         have hk : (sqO n)[i]? = some k := by
          have := HD.out
          have e := congrArg (fun l => l[0]?) this
          simp only [List.getElem?_drop, Nat.add_zero] at e
          exact e
         have hkn : k < n := (sqO_all HQ.out).2.1 k (List.mem_of_getElem? hk)
         obtain ⟨x, hx⟩ : ∃ x, xs[k]? = some x := ⟨_, List.getElem?_eq_getElem (by rw [HN.out]; exact hkn)⟩
         have hxg : xs.getD k 0 = x := by rw [List.getD_eq_getElem?_getD, hx]; rfl
         have hxl := HLV.out x (List.mem_of_getElem? hx)
         unfold isLv at hxl
         rw [Bool.and_eq_true, decide_eq_true_iff, decide_eq_true_iff] at hxl
         have c5 := (HOD.out G _ HG.out).at (j := i) (x := (k : Int)) (by rw [List.getElem?_map, hk]; rfl)
         have HD2 : Hid ((sqO n).drop (i + 1) = tl) := by
          show _ = _
          rw [← List.drop_drop, HD.out]
          rfl
         have x1 : (0 : Int) ≤ (i : Int) := by omega
         have x2 : (i : Int) < (n : Int) := by omega
         have x3 : (0 : Int) ≤ (k : Int) := by omega
         have x4 : (k : Int) < (n : Int) := by omega
         obtain ⟨D, hD⟩ : ∃ D, B + min i 7 = D := ⟨_, rfl⟩
         have q1 : IntKind.i64.wrap ((B : Int) + min (i : Int) 7) = (D : Int) := by rw [IntKind.wrap_i64]; omega
         have q2 : IntKind.i64.wrap ((n : Int) - 1) = (n : Int) - 1 := by rw [IntKind.wrap_i64]; omega
         have q3 : IntKind.i64.wrap ((i : Int) + 1) = (i : Int) + 1 := by rw [IntKind.wrap_i64]; omega
         have q4 : IntKind.i64.wrap ((B : Int) + 17) = ((B + 17 : Nat) : Int) := by rw [IntKind.wrap_i64]; omega
         have HX := Lib.hid hx
         have HXG := Lib.hid hxg
         have HKN := Lib.hid hkn
         clear hk hx hxg hkn HD
         have HKa : Hid (okS okDm (N + 4 + 172 * i + 4) t) := HK.out.mono (mkD hb) (by omega)
         have hi64 : i ≤ 64 := by omega
         by_cases ht : tl = []
         · subst ht
           have ei : i + 1 = n := by simp only [List.length_nil] at hi; omega
           have b1 : ((i : Int) == (n : Int) - 1) = true := by rw [beq_iff_eq]; omega
           have HEI := Lib.hid ei
           obtain ⟨⟨V2, t2⟩, e2⟩ : ∃ r, lvM (mD bs) (B + 17) x t = r := ⟨_, rfl⟩
           have hrl := HRc.out
           rw [cd_end (M := (mD bs)) (B := B) (xs := xs) (fin := fin) (k := k) (i := i) (ys := ys) (s := t) (s1 := t2) (v := V2) (by rw [HXG.out]; exact e2)] at hrl
           have HRb2 : Hid (isLv V2 = false → (codP xs).run (mD bs) s = ((some ([(coefS, (i : Int))], 3), []), t2)) := fun h => by rw [hrl, if_neg (by rw [h]; decide)]; rfl
           have HRg : Hid (isLv V2 = true → (codP xs).run (mD bs) s = ((none, ys.set k V2), t2)) := fun h => by rw [hrl, if_pos h]; rfl
           have HE2 := Lib.hid e2
           have k9 := lv_ok (mkD hb) (C := B + 17) (v := x) HKa.out
           rw [e2] at k9
           have HK9 : Hid (okS okDm (N + 4 + 172 * (i + 1)) t2) := k9.mono (mkD hb) (by omega)
           clear ei e2 hrl k9 HRc HK
           go_wp2_with fail
           go_quiet (fail)
           have HSa := Lib.hid (Obj.ext ((RdF.obj a bs).sep TlF.obj) HS.out ((Ext.refl wr).drewN nq))
           have HGb := Lib.hid (HG.out.ext ((Ext.refl wr).drewN nq))
           have HGa := Lib.hid (HG6.out.trans HGb.out)
           clear HS HG c5
           generalize wr.drewN nq = wz at HSa HGa HGb ⊢
           obtain ⟨ta, hta⟩ : ∃ z, z = t := ⟨_, rfl⟩
           subst hta
           obtain ⟨Ga, hGa⟩ : ∃ z, z = G := ⟨_, rfl⟩
           subst hGa
           -- the level at place i: in hand wz, ta, Ga: HSa : Sep at wz (ta, (cv, ys)), HGa : Step F w0 Ga wz, HGb : Step G5 w7 Ga wz, HKa : okS (N + 4 + 172 * i + 4) ta; e2 : lvM (B + 17) x ta = (V2, t2)
           have c7 := (HVW.out Ga wz HGa.out).at HX.out
           have U4 := Lib.hid (sep_l TlF.obj HSa.out (fun G h => mrlevel_any a (N + 4 + 172 * i + 4) bs hb (B + 17) (by omega) x (by omega) (by omega) ta G wz h HKa.out (by omega)))
           rw [HE2.out] at U4
           go_wp2_with fail
           refine (U4.out).mono ?_; rintro e w6 ⟨rfl, G6, h6, g6⟩
           have HS6 := Lib.hid h6
           have HG6 := Lib.hid (HGa.out.trans g6)
           have HGb6 := Lib.hid (HGb.out.trans g6)
           clear h6 g6 U4 HSa HGa HGb c7
           obtain ⟨b3, hb3⟩ : ∃ b, isLv V2 = b := ⟨_, rfl⟩
           have UI := Lib.hid (fun w => islv_any V2 w)
           rw [hb3] at UI
           have HB3 := Lib.hid hb3
           clear hb3
           go_wp2_with fail
           refine (UI.out _).mono ?_; rintro e w8 ⟨rfl, rfl⟩
           clear UI
           cases b3
           · have HRz : Hid ((codP xs).run (mD bs) s = ((some ([(coefS, (i : Int))], 3), []), t2)) := HRb2.out HB3.out
             clear HRb2
             go_wp2_with fail
             refine (in_new coefS (i : Int) 3 _).mono ?_; rintro e w9 ⟨eu, eb, rfl, hx9, hb9, he9⟩
             obtain ⟨G9, h9, g9⟩ := Sep.other (RdF.obj a bs) HS6.out hx9 he9 (fun k hk => by rw [hk]; exact hb9) HG6.out
             have HS9 := Lib.hid h9
             have HG9 := Lib.hid g9
             clear h9 g9 hx9 hb9 he9 HS6 HG6 HGb6
             go_wp2
             go_ret2
             exact CodR.done HRz.out HS9.out (fun W hW => ⟨Ints.nil W, hW, by simp, by simp⟩) HG9.out
           · obtain ⟨y, hy⟩ : ∃ y, ys[k]? = some y := ⟨_, List.getElem?_eq_getElem (by rw [HY.out]; exact HKN.out)⟩
             obtain ⟨c8, c9⟩ := sep_at HS6.out hy
             obtain ⟨hS, hG⟩ := sep_set (x := V2) (RdF.obj a bs) HS6.out (k := k) (by rw [HY.out]; exact HKN.out)
             have HS9 := Lib.hid hS
             have HG9 := Lib.hid (HG6.out.trans hG)
             have HGb9 := Lib.hid (HGb6.out.trans hG)
             have HY9 : Hid ((ys.set k V2).length = n) := by show _ = _; rw [List.length_set]; exact HY.out
             clear hy hS hG HS6 HG6 HGb6
             go_wp2_with fail
             generalize w6.setCell _ _ = w9 at HS9 HG9 HGb9 ⊢
             have HRz : Hid ((codP xs).run (mD bs) s = (cdR (cdM (mD bs) B xs fin [] (i + 1) (ys.set k V2) t2).1, (cdM (mD bs) B xs fin [] (i + 1) (ys.set k V2) t2).2)) := HRg.out HB3.out
             go_roundw
             case rel => exact ⟨i + 1, [], ys.set k V2, t2, G6, by simp only [List.length_nil]; have := HEI.out; omega, by go_num, HD2.out, HY9.out, HRz.out, HK9.out, HS9.out, HGb9.out⟩
             case measure => simp [intOf] <;> omega
         · have hne : i + 1 < n := by
            have : 0 < tl.length := List.length_pos_iff.2 ht
            omega
           have b1 : ((i : Int) == (n : Int) - 1) = false := by rw [beq_eq_false_iff_ne]; omega
           obtain ⟨bx, hbx⟩ : ∃ b, decide (x ≠ 0) = b := ⟨_, rfl⟩
           have hbx2 : (x != 0) = bx := by
            rw [← hbx]
            by_cases h0 : x = 0
            · rw [decide_eq_false (by simpa using h0), h0]; rfl
            · rw [decide_eq_true h0]; simpa using h0
           obtain ⟨⟨V3, ta⟩, e3⟩ : ∃ r, bitM (mD bs) t ((D + 1 : Nat) : Int) bx = r := ⟨_, rfl⟩
           have q5 : IntKind.i64.wrap ((D : Int) + 1) = ((D + 1 : Nat) : Int) := by rw [IntKind.wrap_i64]; omega
           have q6 : IntKind.i64.wrap ((D : Int) + 9) = ((D + 9 : Nat) : Int) := by rw [IntKind.wrap_i64]; omega
           have k3 := bit_ok (mkD hb) ((D + 1 : Nat) : Int) bx HK.out
           rw [e3] at k3
           have HK3 : Hid (okS okDm (N + 4 + 172 * i + 4) ta) := k3
           have hbit : bitM (mD bs) t ((B + min i 7 + 1 : Nat) : Int) (decide (xs.getD k 0 ≠ 0)) = (V3, ta) := by rw [hD, HXG.out, hbx]; exact e3
           have HRs : Hid (V3 = false → (codP xs).run (mD bs) s = (cdR (cdM (mD bs) B xs fin tl (i + 1) ys ta).1, (cdM (mD bs) B xs fin tl (i + 1) ys ta).2)) := fun h => by
            subst h
            have := HRc.out
            rw [cd_skip ht hbit] at this
            exact this
           obtain ⟨⟨V2, t2⟩, e2⟩ : ∃ r, lvM (mD bs) (B + 17) x ta = r := ⟨_, rfl⟩
           have HRb : Hid (V3 = true → isLv V2 = false → (codP xs).run (mD bs) s = ((some ([(coefS, (i : Int))], 3), []), t2)) := fun h h2 => by
            subst h
            have := HRc.out
            rw [cd_bad ht hbit (by rw [HXG.out]; exact e2) h2] at this
            exact this
           obtain ⟨bf, hbf⟩ : ∃ b, decide (fin ≤ i) = b := ⟨_, rfl⟩
           obtain ⟨⟨V4, t4⟩, e4⟩ : ∃ r, bitM (mD bs) t2 ((D + 9 : Nat) : Int) bf = r := ⟨_, rfl⟩
           have HRg : Hid (V3 = true → isLv V2 = true → (codP xs).run (mD bs) s = if V4 then ((none, ys.set k V2), t4) else (cdR (cdM (mD bs) B xs fin tl (i + 1) (ys.set k V2) t4).1, (cdM (mD bs) B xs fin tl (i + 1) (ys.set k V2) t4).2)) := fun h h2 => by
            subst h
            have := HRc.out
            rw [cd_on ht hbit (by rw [HXG.out]; exact e2) h2 (b := V4) (s3 := t4) (by rw [hD, hbf]; exact e4)] at this
            cases V4
            · exact this
            · exact this
           have HE2 := Lib.hid e2
           have k9 := lv_ok (mkD hb) (C := B + 17) (v := x) k3
           rw [e2] at k9
           have k4 := bit_ok (mkD hb) ((D + 9 : Nat) : Int) bf k9
           rw [e4] at k4
           have HK9 : Hid (okS okDm (N + 4 + 172 * (i + 1)) t4) := k4.mono (mkD hb) (by omega)
           have HK3n : Hid (okS okDm (N + 4 + 172 * (i + 1)) ta) := k3.mono (mkD hb) (by omega)
           have UB1 := Lib.hid (fun w' G' (h : (RdF a bs) w' G' t) => ((fun N c up s F w h hk hN => mrbit_any a N bs c up s F w h hk hN)) (N + 4 + 172 * i) ((D + 1 : Nat) : Int) bx t G' w' h HK.out (by omega))
           rw [e3] at UB1
           have UB2 := Lib.hid (fun w' G' (h : (RdF a bs) w' G' t2) => ((fun N c up s F w h hk hN => mrbit_any a N bs c up s F w h hk hN)) (N + 4 + 172 * i + 4 + 164) ((D + 9 : Nat) : Int) bf t2 G' w' h k9 (by omega))
           rw [e4] at UB2
           have c7 := (HVW.out G wr (HG6.out.trans HG.out)).at HX.out
           have c7d := ((Ext.refl wr).drew).cell c7
           have HI := Lib.hid hi
           clear e2 e3 e4 hbit k3 k4 k9 HRc HK hbx HKa hi hD
           go_wp2_with fail
           go_still_tail 14, (by kernel_rfl)
           change wpList _ _ _ _ _ wr.drew
           have HSd := Lib.hid (Obj.ext ((RdF.obj a bs).sep TlF.obj) HS.out ((Ext.refl wr).drew))
           have HGd := Lib.hid (HG.out.ext ((Ext.refl wr).drew))
           clear HS HG c5 c7 c7d
           generalize wr.drew = wy at HSd HGd ⊢
           have U1 := Lib.hid (sep_l TlF.obj HSd.out (fun G h => UB1.out wy G h))
           clear UB1
           go_wp2_with fail
           refine (U1.out).mono ?_; rintro e wz ⟨rfl, Ga, ha, ga⟩
           have HSa := Lib.hid ha
           have HGb := Lib.hid (HGd.out.trans ga)
           have HGa := Lib.hid (HG6.out.trans HGb.out)
           clear ha ga U1 HSd HGd
           cases V3
           · have HRz := Lib.hid (HRs.out rfl)
             clear HRs HRb HRg UB2
             go_wp2
             go_roundw
             case rel => exact ⟨i + 1, tl, ys, ta, Ga, by have := HI.out; omega, by go_num, HD2.out, HY.out, HRz.out, HK3n.out, HSa.out, HGb.out⟩
             case measure => simp [intOf] <;> omega
           · have HRb2 := Lib.hid (HRb.out rfl)
             have HRg2 := Lib.hid (HRg.out rfl)
             clear HRs HRb HRg
             have HKa := HK3
             -- the level at place i: in hand wz, ta, Ga: HSa : Sep at wz (ta, (cv, ys)), HGa : Step F w0 Ga wz, HGb : Step G5 w7 Ga wz, HKa : okS (N + 4 + 172 * i + 4) ta; e2 : lvM (B + 17) x ta = (V2, t2)
             have c7 := (HVW.out Ga wz HGa.out).at HX.out
             have U4 := Lib.hid (sep_l TlF.obj HSa.out (fun G h => mrlevel_any a (N + 4 + 172 * i + 4) bs hb (B + 17) (by omega) x (by omega) (by omega) ta G wz h HKa.out (by omega)))
             rw [HE2.out] at U4
             go_wp2_with fail
             refine (U4.out).mono ?_; rintro e w6 ⟨rfl, G6, h6, g6⟩
             have HS6 := Lib.hid h6
             have HG6 := Lib.hid (HGa.out.trans g6)
             have HGb6 := Lib.hid (HGb.out.trans g6)
             clear h6 g6 U4 HSa HGa HGb c7
             obtain ⟨b3, hb3⟩ : ∃ b, isLv V2 = b := ⟨_, rfl⟩
             have UI := Lib.hid (fun w => islv_any V2 w)
             rw [hb3] at UI
             have HB3 := Lib.hid hb3
             clear hb3
             go_wp2_with fail
             refine (UI.out _).mono ?_; rintro e w8 ⟨rfl, rfl⟩
             clear UI
             cases b3
             · have HRz : Hid ((codP xs).run (mD bs) s = ((some ([(coefS, (i : Int))], 3), []), t2)) := HRb2.out HB3.out
               clear HRb2
               go_wp2_with fail
               refine (in_new coefS (i : Int) 3 _).mono ?_; rintro e w9 ⟨eu, eb, rfl, hx9, hb9, he9⟩
               obtain ⟨G9, h9, g9⟩ := Sep.other (RdF.obj a bs) HS6.out hx9 he9 (fun k hk => by rw [hk]; exact hb9) HG6.out
               have HS9 := Lib.hid h9
               have HG9 := Lib.hid g9
               clear h9 g9 hx9 hb9 he9 HS6 HG6 HGb6
               go_wp2
               go_ret2
               exact CodR.done HRz.out HS9.out (fun W hW => ⟨Ints.nil W, hW, by simp, by simp⟩) HG9.out
             · obtain ⟨y, hy⟩ : ∃ y, ys[k]? = some y := ⟨_, List.getElem?_eq_getElem (by rw [HY.out]; exact HKN.out)⟩
               obtain ⟨c8, c9⟩ := sep_at HS6.out hy
               obtain ⟨hS, hG⟩ := sep_set (x := V2) (RdF.obj a bs) HS6.out (k := k) (by rw [HY.out]; exact HKN.out)
               have HS9 := Lib.hid hS
               have HG9 := Lib.hid (HG6.out.trans hG)
               have HGb9 := Lib.hid (HGb6.out.trans hG)
               have HY9 : Hid ((ys.set k V2).length = n) := by show _ = _; rw [List.length_set]; exact HY.out
               clear hy hS hG HS6 HG6 HGb6
               go_wp2_with fail
               generalize w6.setCell _ _ = w9 at HS9 HG9 HGb9 ⊢
               have U5 := Lib.hid (sep_l TlF.obj HS9.out (fun G h => UB2.out w9 G h))
               clear UB2 c8 c9
               refine (U5.out).mono ?_; rintro e wv ⟨rfl, Gv, hv, gv⟩
               have HSz := Lib.hid hv
               have HGbz := Lib.hid (HGb9.out.trans gv)
               have HGz := Lib.hid (HG9.out.trans gv)
               clear hv gv U5 HS9 HG9 HGb9
               have HRq := Lib.hid (HRg2.out HB3.out)
               clear HRg2 HRb2
               cases V4
               · have HRz : Hid ((codP xs).run (mD bs) s = (cdR (cdM (mD bs) B xs fin tl (i + 1) (ys.set k V2) t4).1, (cdM (mD bs) B xs fin tl (i + 1) (ys.set k V2) t4).2)) := HRq.out
                 go_wp2
                 go_roundw
                 case rel => exact ⟨i + 1, tl, ys.set k V2, t4, Gv, by have := HI.out; omega, by go_num, HD2.out, HY9.out, HRz.out, HK9.out, HSz.out, HGbz.out⟩
                 case measure => simp [intOf] <;> omega
               · have HRz : Hid ((codP xs).run (mD bs) s = ((none, ys.set k V2), t4)) := HRq.out
                 have HYz := HY9
                 -- in hand: the world wz, HSz, HGz, HRz: the list is told
                 go_wp2
                 go_ret2
                 exact CodR.done HRz.out (HSz.out.imp fun _ h => h.ho (by rw [HYz.out]; omega)) (fun W hW => ⟨hW, rfl⟩) HGz.out
theorem mrcode_any (a N : Nat) (bs : List Nat) (hb : ∀ x ∈ bs, x < 256) (xs : List Int) (v : Value) (X : Nat → Prop) (s : Ms Dc) (F : Nat → Prop) (w : World) (h : (RdF a bs) w F s) (hk : okS okDm N s) (hN : N ≤ 3900000) (hv : HoF w X (fun W => Ints W v xs)) (hd : ∀ k, X k → ¬ F k) : Calls Tryz.prog 153 #[.iface 122 (.pointer (some ⟨a, 0, none⟩)), v] w (QPost (Sep (RdF a bs) HoF) (CodR ((codP xs).run (mD bs) s)) F w) := by
 by_cases hq : xs.length = 16 ∨ xs.length = 64
 · cases hb0 : xs.any noLv
   · exact mrcode_yes a N bs hb xs v X s F w h hk hN hv hd hq hb0
   · exact mrcode_bad a N bs hb xs v X s F w h hv.get hq hb0
 · exact mrcode_no a N bs hb xs v X s F w h hv.get hq
end Go.Proofs.YtcekpngkfldgkaaGreatDoor