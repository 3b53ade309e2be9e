/- decode.checkParts: its parts. -/
import Derived.Test.YtcekpngkfldgkaaGreatDoorXTk
import Derived.Test.YtcekpngkfldgkaaGreatDoorXZs
namespace Go.Proofs.YtcekpngkfldgkaaGreatDoor
set_option linter.unusedVariables false
set_option linter.unusedSimpArgs false
open Go.RowKit Go.Extern.Stop Go.Stop Go.Extern
def lsE (ls : List (List Int)) (n : Nat) : Fall := if ls.all (fun l => l.length == n) then (if ls.any (fun l => l.any noLv) then range else none) else fit
def cpF (q : Sq) : Fall := if ptB q then (if q.k = 1 ∨ q.k = 2 then lsE [q.L] 64 else if q.k = 3 then lsE [q.s0, q.s1, q.s2, q.s3] 16 else none) else range
theorem lsE_one (l : List Int) (n : Nat) : lsE [l] n = lvE l n := by
 unfold lsE lvE
 by_cases h : l.length = n <;> simp [h]
theorem lsE_bad {ls : List (List Int)} {n : Nat} {l : List Int} (h : l ∈ ls) (hl : ¬ l.length = n) : lsE ls n = fit := by
 unfold lsE
 rw [if_neg]
 intro h'
 exact hl (by simpa using List.all_eq_true.1 h' l h)
theorem lsE_good {l0 l1 l2 l3 : List Int} {n : Nat} (h0 : l0.length = n) (h1 : l1.length = n) (h2 : l2.length = n) (h3 : l3.length = n) : lsE [l0, l1, l2, l3] n = if (((l0.any noLv || l1.any noLv) || l2.any noLv) || l3.any noLv) then range else none := by
 unfold lsE
 rw [if_pos (by simp [h0, h1, h2, h3])]
 simp only [List.any_cons, List.any_nil, Bool.or_false, Bool.or_assoc]
theorem cp_call (n : Int) (w : World) : Calls Tryz.prog 91 #[.int .i64 n] w fun e w' => e = .returned (.bool (noLv n)) ∧ w = w' := by
 go_enter Tryz.func91, Tryz.ntmps91
 go_wp2_with fail
 refine (islv_any n _).mono ?_; rintro e w1 ⟨rfl, rfl⟩
 go_wp2
 go_ret
 exact ⟨rfl, rfl⟩
set_option maxRecDepth 20000 in
set_option maxHeartbeats 1000000 in
theorem cp_idx (zs : List Int) (v : Value) (w : World) (ha : Ints w v zs) :
 Calls Tryz.prog 129 #[v, .func (.func 91) #[] #[]] w (IdxPost w (zs.any noLv)) := by
 obtain ⟨a, cap, rfl⟩ := ha.form
 obtain ⟨n, hn⟩ : ∃ n, n = zs.length := ⟨_, rfl⟩
 have hle := ha.2
 rw [← hn] at ha hle ⊢
 have AG := Lib.hid ha.had
 have HN := Lib.hid hn
 clear hn
 go_enter Tryz.func129, Tryz.ntmps129
 go_wp2
 go_loop [8] (fun i => ∃ k : Nat, k ≤ n ∧ i = .int .i64 k ∧ Hid (∀ j x, j < k → zs[j]? = some x → noLv x = false)) (fun i => n - (intOf i).toNat)
 case atStart => exact ⟨0, Nat.zero_le _, rfl, fun j _ hj => absurd hj (Nat.not_lt_zero _)⟩
 case round =>
  obtain ⟨k, hk, rfl, HJ⟩ := hrel
  by_cases hlt : k < n
  · obtain ⟨x, hx⟩ : ∃ x, zs[k]? = some x := ⟨_, List.getElem?_eq_getElem (by rw [← HN.out]; exact hlt)⟩
    obtain ⟨g, off, rfl⟩ := AG.out (by omega)
    have cx := ha.at hx
    have HX := Lib.hid hx
    clear hx
    cases hb : noLv x with
    | true =>
      have HB := Lib.hid hb
      go_wp2_with (go_at_call 91; refine (cp_call _ _).mono ?_; rintro e w' ⟨rfl, rfl⟩)
      go_ret
      exact ⟨_, rfl, by rw [any_of_get HX.out HB.out]; simp, rfl⟩
    | false =>
      have HB := Lib.hid hb
      go_wp2_with (go_at_call 91; refine (cp_call _ _).mono ?_; rintro e w' ⟨rfl, rfl⟩)
      go_round
      case rel => exact ⟨k + 1, by omega, by go_num, fun j y hj hy => by
       by_cases hjk : j = k
       · subst hjk
         obtain rfl : x = y := Option.some.inj (HX.out.symm.trans hy)
         exact HB.out
       · exact HJ.out j y (by omega) hy⟩
      case measure => simp [intOf]; omega
  · go_wp2
    go_ret
    refine ⟨_, rfl, ?_, rfl⟩
    rw [any_no (fun j x hj hx => HJ.out j x (by rw [← HN.out] at hj; omega) hx)]
    rfl
theorem cp_has (zs : List Int) (v : Value) (w : World) (ha : Ints w v zs) :
 Calls Tryz.prog 90 #[v, .func (.func 91) #[] #[]] w fun e w' => e = .returned (.bool (zs.any noLv)) ∧ w = w' := by
 have H := Lib.hid (cp_idx zs v w ha)
 clear ha
 go_enter Tryz.func90, Tryz.ntmps90
 go_wp2_with fail
 refine (H.out).mono ?_; rintro e w1 ⟨i, rfl, hi, rfl⟩
 have HI := Lib.hid hi
 clear hi
 go_wp2
 go_ret
 exact ⟨by rw [← HI.out]; rfl, rfl⟩
theorem isM_ext (n : Int) (w : World) : Calls Tryz.prog 89 #[.int .i64 n] w fun e w' => e = .returned (.bool (isM n)) ∧ Ext w w' := (isM_call n w).mono fun _ _ h => ⟨h.1, h.2 ▸ Ext.refl _⟩
set_option maxRecDepth 20000 in
set_option maxHeartbeats 2000000 in
theorem cp_of1 (f : Fall) (m a b c d x y : Int) (l : List Int) (vL v0 v1 v2 v3 : Value) (w : World) (hf : f = if vec2 x y then lvE l 64 else range) (hL : Ints w vL l) (h0 : SlF v0) (h1 : SlF v1) (h2 : SlF v2) (h3 : SlF v3) : Calls Tryz.prog 59 #[sqV 1 m a b c d x y vL v0 v1 v2 v3] w (KcPost w f) := by
 have HI := Lib.hid hL
 obtain ⟨aL, cL, rfl⟩ := hL.form
 obtain ⟨nL, hn⟩ : ∃ n, l.length = n := ⟨_, rfl⟩
 rw [hn] at HI
 have HN := Lib.hid hn
 obtain ⟨a0, n0, c0, rfl⟩ := h0
 obtain ⟨a1, n1, c1, rfl⟩ := h1
 obtain ⟨a2, n2, c2, rfl⟩ := h2
 obtain ⟨a3, n3, c3, rfl⟩ := h3
 rw [hn]
 clear hL hn
 have B0 := BoxIs.new w #[.int .i64 1, .int .i64 m, .int .i64 a, .int .i64 b, .int .i64 c, .int .i64 d, .int .i64 x, .int .i64 y, .slice aL nL cL, .slice a0 n0 c0, .slice a1 n1 c1, .slice a2 n2 c2, .slice a3 n3 c3] 30
 have E0 := (Ext.refl w).alloc (.cells #[.int .i64 1, .int .i64 m, .int .i64 a, .int .i64 b, .int .i64 c, .int .i64 d, .int .i64 x, .int .i64 y, .slice aL nL cL, .slice a0 n0 c0, .slice a1 n1 c1, .slice a2 n2 c2, .slice a3 n3 c3] 30)
 obtain ⟨u, hu⟩ : ∃ z, w.alloc (.cells #[.int .i64 1, .int .i64 m, .int .i64 a, .int .i64 b, .int .i64 c, .int .i64 d, .int .i64 x, .int .i64 y, .slice aL nL cL, .slice a0 n0 c0, .slice a1 n1 c1, .slice a2 n2 c2, .slice a3 n3 c3] 30) = z := ⟨_, rfl⟩
 rw [hu] at B0 E0
 have HB := Lib.hid B0
 have HE := Lib.hid E0
 have HU := Lib.hid hu
 clear B0 E0 hu
 have U := Lib.hid (fun (W' : World) => isVec_call x y W')
 obtain ⟨V, hV⟩ : ∃ V, vec2 x y = V := ⟨_, rfl⟩
 rw [hV] at U hf
 have HF := Lib.hid hf
 clear hV hf
 obtain ⟨⟨g0, g1, g2, g3, g4, g5, g6, g7, g8, g9, g10, g11, g12⟩, -⟩ := sq_cells HB.out
 unfold sqV
 go_enter Tryz.func59, Tryz.ntmps59
 go_wp2_with fail
 rw [HU.out]
 refine (U.out _).mono ?_; rintro e w1 ⟨rfl, hx1⟩
 clear g0 g1 g2 g3 g4 g5 g6 g7 g8 g9 g10 g11 g12 U HU
 have HB1 := Lib.hid (HB.out.ext hx1)
 have HE1 := Lib.hid (HE.out.trans hx1)
 clear hx1 HB HE
 obtain ⟨⟨g0, g1, g2, g3, g4, g5, g6, g7, g8, g9, g10, g11, g12⟩, -⟩ := sq_cells HB1.out
 cases V
 · go_wp2
   go_ret
   exact KcPost.code HF.out (by decide) (HE1.out.alloc _)
 · have HX : Hid (Ints w1 (.slice aL nL cL) l) := HI.out.ext HE1.out
   by_cases he : nL = 64
   · subst he
     obtain ⟨B, hB⟩ : ∃ B, l.any noLv = B := ⟨_, rfl⟩
     have HG : Hid (f = if B then range else none) := by show _ = _; rw [HF.out, if_pos rfl, lvE, if_pos HN.out, hB]
     have UB := Lib.hid (fun (W' : World) (k : Ext w1 W') => cp_has l _ W' (HX.out.ext k))
     rw [hB] at UB
     clear hB HF
     go_wp2_with fail
     refine wp_loop_rounds 2 ?_
     rw [rounds_succ]
     go_wp2_with fail
     rw [rounds_succ]
     go_wp2_with fail
     refine wp_loop_rounds 2 ?_
     rw [rounds_succ]
     go_wp2_with fail
     refine (UB.out _ ((Ext.refl w1).alloc _)).mono ?_; rintro e w2 ⟨rfl, rfl⟩
     cases B
     · go_wp2_with fail
       rw [rounds_succ]
       go_wp2
       go_ret
       exact KcPost.none HG.out (HE1.out.alloc _)
     · go_wp2
       go_ret
       exact KcPost.code HG.out (by decide) (HE1.out.alloc _)
   · have HG : Hid (f = fit) := by show _ = _; rw [HF.out, if_pos rfl, lvE, if_neg (by rw [HN.out]; exact he)]
     have t : ((nL : Int) != 64) = true := by simp; omega
     clear HF
     go_wp2_with fail
     refine wp_loop_rounds 2 ?_
     rw [rounds_succ]
     go_wp2
     go_ret
     exact KcPost.code HG.out (by decide) (HE1.out.alloc _)
set_option maxRecDepth 20000 in
set_option maxHeartbeats 2000000 in
theorem cp_of2 (f : Fall) (m a b c d x y : Int) (l : List Int) (vL v0 v1 v2 v3 : Value) (w : World) (hf : f = if isM m then lvE l 64 else range) (hL : Ints w vL l) (h0 : SlF v0) (h1 : SlF v1) (h2 : SlF v2) (h3 : SlF v3) : Calls Tryz.prog 59 #[sqV 2 m a b c d x y vL v0 v1 v2 v3] w (KcPost w f) := by
 have HI := Lib.hid hL
 obtain ⟨aL, cL, rfl⟩ := hL.form
 obtain ⟨nL, hn⟩ : ∃ n, l.length = n := ⟨_, rfl⟩
 rw [hn] at HI
 have HN := Lib.hid hn
 obtain ⟨a0, n0, c0, rfl⟩ := h0
 obtain ⟨a1, n1, c1, rfl⟩ := h1
 obtain ⟨a2, n2, c2, rfl⟩ := h2
 obtain ⟨a3, n3, c3, rfl⟩ := h3
 rw [hn]
 clear hL hn
 have B0 := BoxIs.new w #[.int .i64 2, .int .i64 m, .int .i64 a, .int .i64 b, .int .i64 c, .int .i64 d, .int .i64 x, .int .i64 y, .slice aL nL cL, .slice a0 n0 c0, .slice a1 n1 c1, .slice a2 n2 c2, .slice a3 n3 c3] 30
 have E0 := (Ext.refl w).alloc (.cells #[.int .i64 2, .int .i64 m, .int .i64 a, .int .i64 b, .int .i64 c, .int .i64 d, .int .i64 x, .int .i64 y, .slice aL nL cL, .slice a0 n0 c0, .slice a1 n1 c1, .slice a2 n2 c2, .slice a3 n3 c3] 30)
 obtain ⟨u, hu⟩ : ∃ z, w.alloc (.cells #[.int .i64 2, .int .i64 m, .int .i64 a, .int .i64 b, .int .i64 c, .int .i64 d, .int .i64 x, .int .i64 y, .slice aL nL cL, .slice a0 n0 c0, .slice a1 n1 c1, .slice a2 n2 c2, .slice a3 n3 c3] 30) = z := ⟨_, rfl⟩
 rw [hu] at B0 E0
 have HB := Lib.hid B0
 have HE := Lib.hid E0
 have HU := Lib.hid hu
 clear B0 E0 hu
 have U := Lib.hid (fun (W' : World) => isM_ext m W')
 obtain ⟨V, hV⟩ : ∃ V, isM m = V := ⟨_, rfl⟩
 rw [hV] at U hf
 have HF := Lib.hid hf
 clear hV hf
 obtain ⟨⟨g0, g1, g2, g3, g4, g5, g6, g7, g8, g9, g10, g11, g12⟩, -⟩ := sq_cells HB.out
 unfold sqV
 go_enter Tryz.func59, Tryz.ntmps59
 go_wp2_with fail
 rw [HU.out]
 refine (U.out _).mono ?_; rintro e w1 ⟨rfl, hx1⟩
 clear g0 g1 g2 g3 g4 g5 g6 g7 g8 g9 g10 g11 g12 U HU
 have HB1 := Lib.hid (HB.out.ext hx1)
 have HE1 := Lib.hid (HE.out.trans hx1)
 clear hx1 HB HE
 obtain ⟨⟨g0, g1, g2, g3, g4, g5, g6, g7, g8, g9, g10, g11, g12⟩, -⟩ := sq_cells HB1.out
 cases V
 · go_wp2
   go_ret
   exact KcPost.code HF.out (by decide) (HE1.out.alloc _)
 · have HX : Hid (Ints w1 (.slice aL nL cL) l) := HI.out.ext HE1.out
   by_cases he : nL = 64
   · subst he
     obtain ⟨B, hB⟩ : ∃ B, l.any noLv = B := ⟨_, rfl⟩
     have HG : Hid (f = if B then range else none) := by show _ = _; rw [HF.out, if_pos rfl, lvE, if_pos HN.out, hB]
     have UB := Lib.hid (fun (W' : World) (k : Ext w1 W') => cp_has l _ W' (HX.out.ext k))
     rw [hB] at UB
     clear hB HF
     go_wp2_with fail
     refine wp_loop_rounds 2 ?_
     rw [rounds_succ]
     go_wp2_with fail
     rw [rounds_succ]
     go_wp2_with fail
     refine wp_loop_rounds 2 ?_
     rw [rounds_succ]
     go_wp2_with fail
     refine (UB.out _ ((Ext.refl w1).alloc _)).mono ?_; rintro e w2 ⟨rfl, rfl⟩
     cases B
     · go_wp2_with fail
       rw [rounds_succ]
       go_wp2
       go_ret
       exact KcPost.none HG.out (HE1.out.alloc _)
     · go_wp2
       go_ret
       exact KcPost.code HG.out (by decide) (HE1.out.alloc _)
   · have HG : Hid (f = fit) := by show _ = _; rw [HF.out, if_pos rfl, lvE, if_neg (by rw [HN.out]; exact he)]
     have t : ((nL : Int) != 64) = true := by simp; omega
     clear HF
     go_wp2_with fail
     refine wp_loop_rounds 2 ?_
     rw [rounds_succ]
     go_wp2
     go_ret
     exact KcPost.code HG.out (by decide) (HE1.out.alloc _)
set_option maxRecDepth 20000 in
set_option maxHeartbeats 2000000 in
theorem cp_of0 (f : Fall) (m a b c d x y : Int) (vL v0 v1 v2 v3 : Value) (w : World) (hf : f = none) (hL : SlF vL) (h0 : SlF v0) (h1 : SlF v1) (h2 : SlF v2) (h3 : SlF v3) : Calls Tryz.prog 59 #[sqV 0 m a b c d x y vL v0 v1 v2 v3] w (KcPost w f) := by
 have HF := Lib.hid hf
 clear hf
 obtain ⟨aL, nL, cL, rfl⟩ := hL
 obtain ⟨a0, n0, c0, rfl⟩ := h0
 obtain ⟨a1, n1, c1, rfl⟩ := h1
 obtain ⟨a2, n2, c2, rfl⟩ := h2
 obtain ⟨a3, n3, c3, rfl⟩ := h3
 unfold sqV
 go_enter Tryz.func59, Tryz.ntmps59
 go_wp2_with fail
 refine wp_loop_rounds 1 ?_
 rw [rounds_succ]
 go_wp2_with fail
 refine wp_loop_rounds 1 ?_
 rw [rounds_succ]
 go_wp2
 go_ret
 exact KcPost.none HF.out ((Ext.refl w).alloc _)
def mdP (a b c d : Int) : Nat → Bool
 | 0 => true
 | 1 => true && isM a
 | 2 => true && isM a && isM b
 | 3 => true && isM a && isM b && isM c
 | _ => true && isM a && isM b && isM c && isM d
set_option maxRecDepth 20000 in
set_option maxHeartbeats 8000000 in
theorem cp_of3 (f : Fall) (m a b c d x y : Int) (l0 l1 l2 l3 : List Int) (vL v0 v1 v2 v3 : Value) (w : World) (hf : f = if isM a && isM b && isM c && isM d then lsE [l0, l1, l2, l3] 16 else range) (hL : SlF vL) (h0 : Ints w v0 l0) (h1 : Ints w v1 l1) (h2 : Ints w v2 l2) (h3 : Ints w v3 l3) : Calls Tryz.prog 59 #[sqV 3 m a b c d x y vL v0 v1 v2 v3] w (KcPost w f) := by
 obtain ⟨aL, nL, cL, rfl⟩ := hL
 obtain ⟨a0, c0, rfl⟩ := h0.form
 have H0 := Lib.hid h0
 obtain ⟨n0, hn0⟩ : ∃ n, l0.length = n := ⟨_, rfl⟩
 have N0 := Lib.hid hn0
 rw [hn0] at H0 ⊢
 clear h0 hn0
 obtain ⟨a1, c1, rfl⟩ := h1.form
 have H1 := Lib.hid h1
 obtain ⟨n1, hn1⟩ : ∃ n, l1.length = n := ⟨_, rfl⟩
 have N1 := Lib.hid hn1
 rw [hn1] at H1 ⊢
 clear h1 hn1
 obtain ⟨a2, c2, rfl⟩ := h2.form
 have H2 := Lib.hid h2
 obtain ⟨n2, hn2⟩ : ∃ n, l2.length = n := ⟨_, rfl⟩
 have N2 := Lib.hid hn2
 rw [hn2] at H2 ⊢
 clear h2 hn2
 obtain ⟨a3, c3, rfl⟩ := h3.form
 have H3 := Lib.hid h3
 obtain ⟨n3, hn3⟩ : ∃ n, l3.length = n := ⟨_, rfl⟩
 have N3 := Lib.hid hn3
 rw [hn3] at H3 ⊢
 clear h3 hn3
 have B0 := BoxIs.new w #[.int .i64 3, .int .i64 m, .int .i64 a, .int .i64 b, .int .i64 c, .int .i64 d, .int .i64 x, .int .i64 y, .slice aL nL cL, .slice a0 n0 c0, .slice a1 n1 c1, .slice a2 n2 c2, .slice a3 n3 c3] 30
 have E0 := (Ext.refl w).alloc (.cells #[.int .i64 3, .int .i64 m, .int .i64 a, .int .i64 b, .int .i64 c, .int .i64 d, .int .i64 x, .int .i64 y, .slice aL nL cL, .slice a0 n0 c0, .slice a1 n1 c1, .slice a2 n2 c2, .slice a3 n3 c3] 30)
 obtain ⟨u, hu⟩ : ∃ z, w.alloc (.cells #[.int .i64 3, .int .i64 m, .int .i64 a, .int .i64 b, .int .i64 c, .int .i64 d, .int .i64 x, .int .i64 y, .slice aL nL cL, .slice a0 n0 c0, .slice a1 n1 c1, .slice a2 n2 c2, .slice a3 n3 c3] 30) = z := ⟨_, rfl⟩
 rw [hu] at B0 E0
 have HB := Lib.hid B0
 have HE := Lib.hid E0
 have HU := Lib.hid hu
 clear B0 E0 hu
 obtain ⟨⟨g0, g1, g2, g3, g4, g5, g6, g7, g8, g9, g10, g11, g12⟩, -⟩ := sq_cells HB.out
 have HF := Lib.hid hf
 clear hf
 have ix0 : ∀ w : World, (Instr.index 25 (.agg #[.int .i64 a, .int .i64 b, .int .i64 c, .int .i64 d]) (.int .i64 0)).run Tryz.prog w = .ok (.int .i64 a) w := fun _ => by kernel_rfl
 have ix1 : ∀ w : World, (Instr.index 25 (.agg #[.int .i64 a, .int .i64 b, .int .i64 c, .int .i64 d]) (.int .i64 1)).run Tryz.prog w = .ok (.int .i64 b) w := fun _ => by kernel_rfl
 have ix2 : ∀ w : World, (Instr.index 25 (.agg #[.int .i64 a, .int .i64 b, .int .i64 c, .int .i64 d]) (.int .i64 2)).run Tryz.prog w = .ok (.int .i64 c) w := fun _ => by kernel_rfl
 have ix3 : ∀ w : World, (Instr.index 25 (.agg #[.int .i64 a, .int .i64 b, .int .i64 c, .int .i64 d]) (.int .i64 3)).run Tryz.prog w = .ok (.int .i64 d) w := fun _ => by kernel_rfl
 unfold sqV
 go_enter Tryz.func59, Tryz.ntmps59
 go_wp2_with fail
 rw [HU.out]
 clear HU
 go_loop [5, 34] (fun bv iv => ∃ i : Nat, i ≤ 4 ∧ iv = .int .i64 (i : Int) ∧ ∃ B, bv = .bool B ∧ Hid (B = mdP a b c d i)) (fun _ iv => 4 - (intOf iv).toNat)
 case atStart => exact ⟨0, Nat.zero_le _, rfl, true, rfl, rfl⟩
 case round =>
  obtain ⟨i, hi, rfl, B, rfl, HB4⟩ := hrel
  rcases (by omega : i = 0 ∨ i = 1 ∨ i = 2 ∨ i = 3 ∨ i = 4) with rfl | rfl | rfl | rfl | rfl
  · cases B with
    | true =>
      go_wp2_with fail
      refine (isM_call a _).mono ?_; rintro e w1 ⟨rfl, rfl⟩
      go_wp2
      go_round
      case rel => exact ⟨1, by omega, rfl, isM a, rfl, by
       have h : true = mdP a b c d 0 := HB4.out
       show _ = (mdP a b c d 0 && isM a)
       rw [← h]; rfl⟩
      case measure => first | (simp [intOf]; done) | decide
    | false =>
      go_wp2
      go_round
      case rel => exact ⟨1, by omega, rfl, false, rfl, by
       have h : false = mdP a b c d 0 := HB4.out
       show _ = (mdP a b c d 0 && isM a)
       rw [← h]; rfl⟩
      case measure => first | (simp [intOf]; done) | decide
  · cases B with
    | true =>
      go_wp2_with fail
      refine (isM_call b _).mono ?_; rintro e w1 ⟨rfl, rfl⟩
      go_wp2
      go_round
      case rel => exact ⟨2, by omega, rfl, isM b, rfl, by
       have h : true = mdP a b c d 1 := HB4.out
       show _ = (mdP a b c d 1 && isM b)
       rw [← h]; rfl⟩
      case measure => first | (simp [intOf]; done) | decide
    | false =>
      go_wp2
      go_round
      case rel => exact ⟨2, by omega, rfl, false, rfl, by
       have h : false = mdP a b c d 1 := HB4.out
       show _ = (mdP a b c d 1 && isM b)
       rw [← h]; rfl⟩
      case measure => first | (simp [intOf]; done) | decide
  · cases B with
    | true =>
      go_wp2_with fail
      refine (isM_call c _).mono ?_; rintro e w1 ⟨rfl, rfl⟩
      go_wp2
      go_round
      case rel => exact ⟨3, by omega, rfl, isM c, rfl, by
       have h : true = mdP a b c d 2 := HB4.out
       show _ = (mdP a b c d 2 && isM c)
       rw [← h]; rfl⟩
      case measure => first | (simp [intOf]; done) | decide
    | false =>
      go_wp2
      go_round
      case rel => exact ⟨3, by omega, rfl, false, rfl, by
       have h : false = mdP a b c d 2 := HB4.out
       show _ = (mdP a b c d 2 && isM c)
       rw [← h]; rfl⟩
      case measure => first | (simp [intOf]; done) | decide
  · cases B with
    | true =>
      go_wp2_with fail
      refine (isM_call d _).mono ?_; rintro e w1 ⟨rfl, rfl⟩
      go_wp2
      go_round
      case rel => exact ⟨4, by omega, rfl, isM d, rfl, by
       have h : true = mdP a b c d 3 := HB4.out
       show _ = (mdP a b c d 3 && isM d)
       rw [← h]; rfl⟩
      case measure => first | (simp [intOf]; done) | decide
    | false =>
      go_wp2
      go_round
      case rel => exact ⟨4, by omega, rfl, false, rfl, by
       have h : false = mdP a b c d 3 := HB4.out
       show _ = (mdP a b c d 3 && isM d)
       rw [← h]; rfl⟩
      case measure => first | (simp [intOf]; done) | decide
  · have hB : (isM a && isM b && isM c && isM d) = B := by
     rw [show B = mdP a b c d 4 from HB4.out]
     show _ = (true && isM a && isM b && isM c && isM d)
     rw [Bool.true_and]
    rw [hB] at HF
    clear hB HB4 ix0 ix1 ix2 ix3
    cases B with
    | false =>
      go_wp2
      go_ret
      exact KcPost.code HF.out (by decide) HE.out
    | true =>
      have HG0 : Hid (f = lsE [l0, l1, l2, l3] 16) := HF.out
      clear HF
      go_wp2_with fail
      refine wp_loop_rounds 5 ?_
      by_cases e0 : n0 = 16
      rotate_left
      · have HG : Hid (f = fit) := by show _ = _; rw [HG0.out, lsE_bad (l := l0) (by simp) (by rw [N0.out]; exact e0)]
        have t : ((n0 : Int) != 16) = true := by simp; omega
        clear HG0
        rw [rounds_succ]
        go_wp2
        go_ret
        exact KcPost.code HG.out (by decide) HE.out
      subst e0
      rw [rounds_succ]
      go_wp2_with fail
      by_cases e1 : n1 = 16
      rotate_left
      · have HG : Hid (f = fit) := by show _ = _; rw [HG0.out, lsE_bad (l := l1) (by simp) (by rw [N1.out]; exact e1)]
        have t : ((n1 : Int) != 16) = true := by simp; omega
        clear HG0
        rw [rounds_succ]
        go_wp2
        go_ret
        exact KcPost.code HG.out (by decide) HE.out
      subst e1
      rw [rounds_succ]
      go_wp2_with fail
      by_cases e2 : n2 = 16
      rotate_left
      · have HG : Hid (f = fit) := by show _ = _; rw [HG0.out, lsE_bad (l := l2) (by simp) (by rw [N2.out]; exact e2)]
        have t : ((n2 : Int) != 16) = true := by simp; omega
        clear HG0
        rw [rounds_succ]
        go_wp2
        go_ret
        exact KcPost.code HG.out (by decide) HE.out
      subst e2
      rw [rounds_succ]
      go_wp2_with fail
      by_cases e3 : n3 = 16
      rotate_left
      · have HG : Hid (f = fit) := by show _ = _; rw [HG0.out, lsE_bad (l := l3) (by simp) (by rw [N3.out]; exact e3)]
        have t : ((n3 : Int) != 16) = true := by simp; omega
        clear HG0
        rw [rounds_succ]
        go_wp2
        go_ret
        exact KcPost.code HG.out (by decide) HE.out
      subst e3
      rw [rounds_succ]
      go_wp2_with fail
      rw [rounds_succ]
      go_wp2_with fail
      have HG1 : Hid (f = if (((l0.any noLv || l1.any noLv) || l2.any noLv) || l3.any noLv) then range else none) := by show _ = _; rw [HG0.out, lsE_good N0.out N1.out N2.out N3.out]
      clear HG0
      have U0 := Lib.hid (cp_has l0 _ u (H0.out.ext HE.out))
      obtain ⟨B0, hB0⟩ : ∃ B, l0.any noLv = B := ⟨_, rfl⟩
      rw [hB0] at U0 HG1
      clear hB0
      have U1 := Lib.hid (cp_has l1 _ u (H1.out.ext HE.out))
      obtain ⟨B1, hB1⟩ : ∃ B, l1.any noLv = B := ⟨_, rfl⟩
      rw [hB1] at U1 HG1
      clear hB1
      have U2 := Lib.hid (cp_has l2 _ u (H2.out.ext HE.out))
      obtain ⟨B2, hB2⟩ : ∃ B, l2.any noLv = B := ⟨_, rfl⟩
      rw [hB2] at U2 HG1
      clear hB2
      have U3 := Lib.hid (cp_has l3 _ u (H3.out.ext HE.out))
      obtain ⟨B3, hB3⟩ : ∃ B, l3.any noLv = B := ⟨_, rfl⟩
      rw [hB3] at U3 HG1
      clear hB3
      refine wp_loop_rounds 5 ?_
      rw [rounds_succ]
      go_wp2_with fail
      refine U0.out.mono ?_; rintro e w2 ⟨rfl, rfl⟩
      cases B0 with
      | true =>
        go_wp2
        go_ret
        exact KcPost.code (c := 3) (by rw [HG1.out]; simp [range]) (by decide) HE.out
      | false =>
        go_wp2_with fail
        rw [rounds_succ]
        go_wp2_with fail
        refine U1.out.mono ?_; rintro e w2 ⟨rfl, rfl⟩
        cases B1 with
        | true =>
          go_wp2
          go_ret
          exact KcPost.code (c := 3) (by rw [HG1.out]; simp [range]) (by decide) HE.out
        | false =>
          go_wp2_with fail
          rw [rounds_succ]
          go_wp2_with fail
          refine U2.out.mono ?_; rintro e w2 ⟨rfl, rfl⟩
          cases B2 with
          | true =>
            go_wp2
            go_ret
            exact KcPost.code (c := 3) (by rw [HG1.out]; simp [range]) (by decide) HE.out
          | false =>
            go_wp2_with fail
            rw [rounds_succ]
            go_wp2_with fail
            refine U3.out.mono ?_; rintro e w2 ⟨rfl, rfl⟩
            cases B3 with
            | true =>
              go_wp2
              go_ret
              exact KcPost.code (c := 3) (by rw [HG1.out]; simp [range]) (by decide) HE.out
            | false =>
              go_wp2_with fail
              rw [rounds_succ]
              go_wp2
              go_ret
              exact KcPost.none HG1.out HE.out
theorem dparts_any (q : Sq) (L s0 s1 s2 s3 : Value) (w : World) (hk : 0 ≤ q.k ∧ q.k ≤ 3) (h : SqIs w q L s0 s1 s2 s3) : Calls Tryz.prog 59 #[sqQ q L s0 s1 s2 s3] w (KcPost w (cpF q)) := by
 obtain ⟨hL, h0, h1, h2, h3⟩ := h
 obtain ⟨k, m, a, b, c, d, x, y, l, l0, l1, l2, l3⟩ := q
 unfold sqQ
 dsimp only at *
 rcases (by omega : k = 0 ∨ k = 1 ∨ k = 2 ∨ k = 3) with rfl | rfl | rfl | rfl
 · exact cp_of0 _ m a b c d x y _ _ _ _ _ w rfl hL.slf h0.slf h1.slf h2.slf h3.slf
 · refine cp_of1 _ m a b c d x y l _ _ _ _ _ w ?_ hL h0.slf h1.slf h2.slf h3.slf
   rw [← lsE_one]
   rfl
 · refine cp_of2 _ m a b c d x y l _ _ _ _ _ w ?_ hL h0.slf h1.slf h2.slf h3.slf
   rw [← lsE_one]
   rfl
 · exact cp_of3 _ m a b c d x y l0 l1 l2 l3 _ _ _ _ _ w rfl hL.slf h0 h1 h2 h3
end Go.Proofs.YtcekpngkfldgkaaGreatDoor