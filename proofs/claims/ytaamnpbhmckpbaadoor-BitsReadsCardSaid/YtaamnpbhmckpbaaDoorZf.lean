/- Contracts of this seat: Mo18, MoW, Mo19, Mo20, Mo21. -/
import Derived.Test.YtaamnpbhmckpbaaDoorZe
import Derived.BigQuiet
import Derived.Deep.QuietTactic
/- kinlaw11.MotionBest: the walk. -/
namespace Go.Proofs.YtaamnpbhmckpbaaDoor
set_option linter.unusedVariables false
set_option linter.unusedSimpArgs false
open Go.RowKit Go.Extern.Stop Go.Stop Go.Extern

theorem sr2_vec (C : Int → Int → Int) (R : Nat) (hR : R ≤ 7) : vecB (sr2 C R).1 (sr2 C R).2.1 = true := by
  have h := sr2_in C R 9 (Nat.le_refl _)
  change inW (2 * R + 1) (sr2 C R).1 (sr2 C R).2.1 at h
  unfold inW at h
  unfold vecB
  exact decide_eq_true (by omega)
/-- what a search finds, where it finds one -/
theorem sr_none {W H : Int} {zs bs : List Int} {x y reach : Int} (h : srE W H zs bs x y reach = none) : may W H zs ∧ rngOk W H x y reach ∧ bs.length = 64 ∧ bs.any nosmpB = false := by
  unfold srE at h
  split at h
  · rename_i h1
    split at h
    · rename_i h2
      split at h
      · rename_i h3
        split at h
        · cases h
        · rename_i h4
          exact ⟨h1, h2, h3, by cases ha : bs.any nosmpB with | true => exact absurd ha h4 | false => rfl⟩
      · cases h
    · cases h
  · cases h
theorem sr_some {W H : Int} {zs bs : List Int} {x y reach : Int} {f : List (ByteArray × Int) × Int} (h : srE W H zs bs x y reach = some f) : srX W H zs bs x y reach = 0 ∧ srY W H zs bs x y reach = 0 := by
  unfold srX srY
  rw [h]
  exact ⟨rfl, rfl⟩
theorem sr_vals {W H : Int} {zs bs : List Int} {x y : Int} {R : Nat} (h : srE W H zs bs x y R = none) : srX W H zs bs x y R = (sr2 (fun vx vy => scF W H zs bs x y vx vy 64) R).1 ∧ srY W H zs bs x y R = (sr2 (fun vx vy => scF W H zs bs x y vx vy 64) R).2.1 := by
  unfold srX srY
  rw [h]
  exact ⟨rfl, rfl⟩
/-- what the laws ask of a search that finds a vector -/
theorem sr_best {W H : Int} {zs bs : List Int} {x y : Int} {R : Nat} (h : srE W H zs bs x y R = none) (X Y : Int) (hX : srX W H zs bs x y R = X) (hY : srY W H zs bs x y R = Y) :
    vecB X Y = true ∧ scF W H zs bs x y X Y 64 ≤ scF W H zs bs x y 0 0 64 ∧ ∀ p q : Int, -(R : Int) ≤ p → p ≤ R → -(R : Int) ≤ q → q ≤ R → scF W H zs bs x y X Y 64 ≤ scF W H zs bs x y (p * 2) (q * 2) 64 := by
  obtain ⟨-, hr, -, -⟩ := sr_none h
  obtain ⟨e1, e2⟩ := sr_vals h
  rw [hX] at e1
  rw [hY] at e2
  subst e1
  subst e2
  have hR : R ≤ 7 := by unfold rngOk at hr; omega
  have hc := sr2_cost (fun vx vy => scF W H zs bs x y vx vy 64) R
  refine ⟨sr2_vec _ R hR, ?_, fun p q h1 h2 h3 h4 => ?_⟩
  · rw [← hc]; exact sr2_zero _ R
  · rw [← hc, Int.mul_comm p 2, Int.mul_comm q 2]
    exact sr2_whole (fun vx vy => scF W H zs bs x y vx vy 64) R p q ⟨h1, h2, h3, h4⟩
/-- what is moved costs its vector -/
theorem sr_moved {W H : Int} {zs : List Int} {x y : Int} {R : Nat} (hm : may W H zs) (hr : rngOk W H x y R) (p q : Int) (h1 : -(R : Int) ≤ p) (h2 : p ≤ R) (h3 : -(R : Int) ≤ q) (h4 : q ≤ R) :
    vecB (p * 2) (q * 2) = true ∧ srE W H zs (movL W H zs x y 8 (p * 2) (q * 2)) x y R = none ∧ scF W H zs (movL W H zs x y 8 (p * 2) (q * 2)) x y (p * 2) (q * 2) 64 = lenV (p * 2) (q * 2) := by
  have hR : R ≤ 7 := by unfold rngOk at hr; omega
  have hv : vecB (p * 2) (q * 2) = true := by unfold vecB; exact decide_eq_true (by omega)
  have hp : plOk x y 8 := by
    have hW := sideB_true hm.1
    have hH := sideB_true hm.2.1
    unfold rngOk at hr
    exact ⟨.inr rfl, by omega, by omega⟩
  have hM : movL W H zs x y 8 (p * 2) (q * 2) = rowL 64 (mvF W H zs x y (p * 2) (q * 2) 8) := movL_yes hm hp hv
  rw [hM]
  refine ⟨hv, ?_, ?_⟩
  · unfold srE
    rw [if_pos hm, if_pos hr, if_pos (by rw [rowL_length]), if_neg]
    rw [any_no]
    · decide
    · intro j z hj hz
      rw [rowL_length] at hj
      rw [rowL_get hj] at hz
      obtain rfl := Option.some.inj hz
      have : 0 ≤ mvF W H zs x y (p * 2) (q * 2) 8 j ∧ mvF W H zs x y (p * 2) (q * 2) 8 j ≤ 255 := halfV_in hm _ _
      unfold nosmpB
      simp
      omega
  · unfold scF
    rw [(sadF_zero _ _ 64).2 (fun j hj => (getD_of_get (rowL_get hj)).symm)]
    omega
set_option maxHeartbeats 16000000 in
set_option maxRecDepth 20000 in
theorem best_law (W H x y reach X Y : Int) (xs ys : List Int) (va vb : Value) (w : World) (hg : EtIs w) (bX : -9223372036854775808 ≤ X ∧ X ≤ 9223372036854775807) (bY : -9223372036854775808 ≤ Y ∧ Y ≤ 9223372036854775807) (ra : Row w va xs.length (xs.map (Value.int .i64))) (rb : Row w vb ys.length (ys.map (Value.int .i64))) :
    Calls Tryd.prog 13 #[.agg #[.int .i64 W, .int .i64 H, va], vb, .int .i64 x, .int .i64 y, .int .i64 reach, .agg #[.int .i64 X, .int .i64 Y]] w fun e w' => e = .returned (.bool true) ∧ Ext w w' := by
  obtain ⟨a, ca, rfl⟩ := ra.form
  obtain ⟨b, cb, rfl⟩ := rb.form
  obtain ⟨n, hn⟩ : ∃ n, n = xs.length := ⟨_, rfl⟩
  obtain ⟨m, hm⟩ : ∃ m, m = ys.length := ⟨_, rfl⟩
  by_cases h1 : n ≤ 5000
  · by_cases h2 : m ≤ 5000
    · have IA : Ints w (.slice a xs.length ca) xs := ⟨ra, by omega⟩
      have IB : Ints w (.slice b ys.length cb) ys := ⟨rb, by omega⟩
      have US := Lib.hid (fun w h k => search_any W H x y reach xs ys a b n ca m cb w h k)
      rw [← hn] at IA ⊢
      rw [← hm] at IB ⊢
      have HA := Lib.hid IA
      have HB := Lib.hid IB
      have HM := Lib.hid hm
      have t1 : ¬ (5000 : Int) < (n : Int) := by omega
      have t2 : ¬ (5000 : Int) < (m : Int) := by omega
      clear IA IB ra rb hn hm
      cases hs : srE W H xs ys x y reach with
      | some fl =>
        obtain ⟨z1, z2⟩ := sr_some hs
        rw [z1, z2, hs] at US
        clear z1 z2 hs
        have E0 : Ext w ((w.alloc (.cells #[.int .i64 W, .int .i64 H, .slice a n ca] 67)).alloc (.cells #[.int .i64 X, .int .i64 Y] 69)) := (by repeat (first | exact Ext.refl _ | assumption | refine Ext.alloc ?_ _ | refine Ext.drew ?_ | refine Ext.drewN ?_ _ | refine Ext.setCell ?_ (by first | exact Nat.le_refl _ | (simp; done) | omega) _ | refine Ext.trans ?_ (by assumption)))
        obtain ⟨F0, G0⟩ := FrBox.vec w W H X Y (.slice a n ca)
        go_enter Tryd.func13, Tryd.ntmps13
        go_wp2_with fail
        revert E0 F0 G0
        generalize (w.alloc (.cells #[.int .i64 W, .int .i64 H, .slice a n ca] 67)).alloc (.cells #[.int .i64 X, .int .i64 Y] 69) = w0
        intro E0 F0 G0
        refine (first11_any _ (hg.ext E0)).mono ?_; rintro e w1 ⟨rfl, hx1⟩
        have E1 := E0.trans hx1
        have F1 := Lib.hid (F0.ext hx1)
        have G1 := Lib.hid (G0.ext hx1)
        obtain ⟨p0, p1, p2⟩ := F1.out
        clear F0 G0 E0 hx1
        go_wp2_with fail
        refine (US.out _ (HA.out.ext E1) (HB.out.ext E1)).mono ?_; rintro e w2 ⟨x2, rfl, hx2, he2⟩
        obtain ⟨t3, y3, rfl⟩ := he2.ne
        clear he2
        obtain ⟨P, hP⟩ : ∃ P : Int, P = 0 := ⟨_, rfl⟩
        obtain ⟨Q, hQ⟩ : ∃ Q : Int, Q = 0 := ⟨_, rfl⟩
        have A2 : Ext w2 (w2.alloc (.cells #[.int .i64 0, .int .i64 0] 69)) := (Ext.refl w2).alloc _
        have V2 : VcBox (w2.alloc (.cells #[.int .i64 0, .int .i64 0] 69)) w2.heap.size 0 0 := ⟨by simp, by simp⟩
        have X2 := hx2.trans A2
        clear p0 p1 p2 A2
        go_wp2_with fail
        revert V2 X2
        generalize w2.alloc (.cells #[.int .i64 0, .int .i64 0] 69) = w3
        intro V2 X2
        refine (first11_any _ (hg.ext (E1.trans X2))).mono ?_; rintro e w4 ⟨rfl, hx4⟩
        obtain ⟨v0, v1⟩ := V2.ext hx4
        go_wp2
        go_ret
        exact ⟨rfl, (E1.trans X2).trans hx4⟩
      | none =>
        obtain ⟨s1, s2, s3, s4⟩ := sr_none hs
        obtain ⟨R, rfl⟩ : ∃ R : Nat, reach = (R : Int) := ⟨reach.toNat, by unfold rngOk at s2; omega⟩
        obtain ⟨P, hP⟩ : ∃ P, srX W H xs ys x y R = P := ⟨_, rfl⟩
        obtain ⟨Q, hQ⟩ : ∃ Q, srY W H xs ys x y R = Q := ⟨_, rfl⟩
        obtain ⟨hv, hz, hbest⟩ := sr_best hs P Q hP hQ
        have hB := smp_of_any s4
        have hxy : (0 ≤ x ∧ x ≤ 32) ∧ 0 ≤ y ∧ y ≤ 32 := by
          have hW := sideB_true s1.1
          have hH := sideB_true s1.2.1
          unfold rngOk at s2
          omega
        have hR : R ≤ 7 := by unfold rngOk at s2; omega
        rw [hP, hQ, hs] at US
        have UB := Lib.hid (fun vx vy w h => mblock_any W H x y 8 vx vy xs a n ca w h)
        have UC : Hid (∀ (vx vy : Int) (w : World) (u : Value), vecB vx vy = true → Ints w u (movL W H xs x y 8 vx vy) → Ints w (.slice b m cb) ys → Calls Tryd.prog 45 #[u, .slice b m cb, .agg #[.int .i64 vx, .int .i64 vy]] w fun e w' => e = .returned (.tuple #[.int .i64 (scF W H xs ys x y vx vy 64), .nilIface]) ∧ Ext w w') := fun vx vy w u hv h k => by
          obtain ⟨m1, m2⟩ := mov_cost (x := x) (y := y) s1 hxy.1 hxy.2 hv s3 hB
          have := cost_any (movL W H xs x y 8 vx vy) ys vx vy u (.slice b m cb) w h k (by unfold movL; split; (rw [rowL_length]; decide); simp)
          rw [m1, m2] at this
          exact this.mono fun e w' ⟨x, h1, h2, h3⟩ => ⟨by rw [h1]; have : x = .nilIface := h3; rw [this], h2⟩
        have HV1 := Lib.hid hv
        have HBest := Lib.hid hbest
        have S1 := Lib.hid s1
        have S2 := Lib.hid s2
        obtain ⟨L0, hL0⟩ : ∃ L0, scF W H xs ys x y P Q 64 = L0 := ⟨_, rfl⟩
        obtain ⟨N0, hN0⟩ : ∃ N0, scF W H xs ys x y 0 0 64 = N0 := ⟨_, rfl⟩
        rw [hL0, hN0] at hz
        have UC1 := Lib.hid (fun w u h k => by have := UC.out P Q w u HV1.out h k; rwa [hL0] at this)
        have UC0 := Lib.hid (fun w u h k => by have := UC.out 0 0 w u (by decide) h k; rwa [hN0] at this)
        have UB1 := Lib.hid (fun w h => UB.out P Q w h)
        have UB0 := Lib.hid (fun w h => UB.out 0 0 w h)
        have HL0 := Lib.hid hL0
        clear s1 s2 s3 s4 hs hP hQ hv hbest hB hxy hL0 hN0
        have E0 : Ext w ((w.alloc (.cells #[.int .i64 W, .int .i64 H, .slice a n ca] 67)).alloc (.cells #[.int .i64 X, .int .i64 Y] 69)) := (by repeat (first | exact Ext.refl _ | assumption | refine Ext.alloc ?_ _ | refine Ext.drew ?_ | refine Ext.drewN ?_ _ | refine Ext.setCell ?_ (by first | exact Nat.le_refl _ | (simp; done) | omega) _ | refine Ext.trans ?_ (by assumption)))
        obtain ⟨F0, G0⟩ := FrBox.vec w W H X Y (.slice a n ca)
        go_enter Tryd.func13, Tryd.ntmps13
        go_wp2_with fail
        revert E0 F0 G0
        generalize (w.alloc (.cells #[.int .i64 W, .int .i64 H, .slice a n ca] 67)).alloc (.cells #[.int .i64 X, .int .i64 Y] 69) = w0
        intro E0 F0 G0
        refine (first11_any _ (hg.ext E0)).mono ?_; rintro e w1 ⟨rfl, hx1⟩
        have E1 := E0.trans hx1
        have F1 := Lib.hid (F0.ext hx1)
        have G1 := Lib.hid (G0.ext hx1)
        obtain ⟨p0, p1, p2⟩ := F1.out
        clear F0 G0 E0 hx1
        go_wp2_with fail
        refine (US.out _ (HA.out.ext E1) (HB.out.ext E1)).mono ?_; rintro e w2 ⟨x2, rfl, hx2, he2⟩
        obtain rfl : x2 = .nilIface := he2
        have A2 : Ext w2 (w2.alloc (.cells #[.int .i64 P, .int .i64 Q] 69)) := (Ext.refl w2).alloc _
        have V2 : VcBox (w2.alloc (.cells #[.int .i64 P, .int .i64 Q] 69)) w2.heap.size P Q := ⟨by simp, by simp⟩
        have X2 := hx2.trans A2
        clear p0 p1 p2 A2
        have F2 := F1.out.ext X2
        obtain ⟨p0, p1, p2⟩ := F2
        go_wp2_with fail
        clear p0 p1 p2
        revert V2 X2
        generalize w2.alloc (.cells #[.int .i64 P, .int .i64 Q] 69) = w3
        intro V2 X2
        have HV := Lib.hid V2
        have E3 := E1.trans X2
        have F3 := Lib.hid (F1.out.ext X2)
        have G3 := Lib.hid (G1.out.ext X2)
        clear V2 F1 G1 E1 X2 hx2
        obtain ⟨p0, p1, p2⟩ := F3.out
        obtain ⟨v0, v1⟩ := HV.out
        have D3 : Hid (Ext w3 w3.drew) := (Ext.refl w3).drew
        go_region_held3 (fun w' => w'.cell? ⟨w.heap.size, 0, none⟩ = some (.int .i64 W) ∧ w'.cell? ⟨w.heap.size, 1, none⟩ = some (.int .i64 H) ∧ w'.cell? ⟨w.heap.size, 2, none⟩ = some (.slice a n ca) ∧ w'.cell? ⟨w2.heap.size, 0, none⟩ = some (.int .i64 P) ∧ w'.cell? ⟨w2.heap.size, 1, none⟩ = some (.int .i64 Q) ∧ Ext w3 w')
          (first | assumption | (exact ⟨p0, p1, p2, v0, v1, Ext.refl _⟩) | (exact ⟨p0, p1, p2, v0, v1, (Ext.refl _).drew⟩) | (exact ⟨D3.out.cell p0, D3.out.cell p1, D3.out.cell p2, D3.out.cell v0, D3.out.cell v1, D3.out⟩) | (go_split_ands; exact ⟨hx.cell (by assumption), hx.cell (by assumption), hx.cell (by assumption), hx.cell (by assumption), hx.cell (by assumption), Ext.trans (by assumption) hx⟩))
          ((first
            | (go_at_call 42; obtain ⟨_, _, _, _, _, hE1⟩ : _ ∧ _ ∧ _ ∧ _ ∧ _ ∧ Ext w3 _ := (by assumption); refine (UB1.out _ (HA.out.ext (E3.trans hE1))).mono ?_; rintro e w' ⟨u1, rfl, hx, hb1⟩; have HB1 := Lib.hid hb1; clear hE1 hb1)
            | (go_at_call 45; obtain ⟨_, _, _, _, _, hE1⟩ : _ ∧ _ ∧ _ ∧ _ ∧ _ ∧ Ext w3 _ := (by assumption); refine (UC1.out _ _ (HB1.out.ext (by first | exact Ext.refl _ | assumption)) (HB.out.ext (E3.trans hE1))).mono ?_; rintro e w' ⟨rfl, hx⟩; clear hE1)))
        all_goals obtain ⟨q0, q1, q2, _, _, hE1⟩ : _ ∧ _ ∧ _ ∧ _ ∧ _ ∧ Ext w3 _ := by assumption
        have E4 := E3.trans hE1
        have F4 := Lib.hid (F3.out.ext hE1)
        have G4 := Lib.hid (G3.out.ext hE1)
        clear p0 p1 p2 v0 v1
        go_wp2_with fail
        refine (UB0.out _ (HA.out.ext E4)).mono ?_; rintro e w5 ⟨u5, rfl, hx5, hb5⟩
        go_wp2_with fail
        refine (UC0.out _ _ hb5 (HB.out.ext (E4.trans hx5))).mono ?_; rintro e w6 ⟨rfl, hx6⟩
        have E6 := E4.trans (hx5.trans hx6)
        have F6 := Lib.hid (F4.out.ext (hx5.trans hx6))
        have nR : IntKind.i64.wrap (-(R : Int)) = -(R : Int) := by rw [IntKind.wrap_i64]; omega
        clear q0 q1 q2 hb5 hE1
        obtain ⟨p0, p1, p2⟩ := F6.out
        obtain ⟨g0, g1⟩ := G4.out.ext (hx5.trans hx6)
        clear hx5 hx6
        by_cases c1 : (R : Int) < X
        · go_wp2_with fail
          refine (first11_any _ (hg.ext E6)).mono ?_; rintro e w7 ⟨rfl, hx7⟩
          go_wp2
          go_ret
          exact ⟨rfl, E6.trans hx7⟩
        · by_cases c2 : X < -(R : Int)
          · go_wp2_with fail
            refine (first11_any _ (hg.ext E6)).mono ?_; rintro e w7 ⟨rfl, hx7⟩
            go_wp2
            go_ret
            exact ⟨rfl, E6.trans hx7⟩
          · by_cases c3 : (R : Int) < Y
            · go_wp2_with fail
              refine (first11_any _ (hg.ext E6)).mono ?_; rintro e w7 ⟨rfl, hx7⟩
              go_wp2
              go_ret
              exact ⟨rfl, E6.trans hx7⟩
            · by_cases c4 : Y < -(R : Int)
              · go_wp2_with fail
                refine (first11_any _ (hg.ext E6)).mono ?_; rintro e w7 ⟨rfl, hx7⟩
                go_wp2
                go_ret
                exact ⟨rfl, E6.trans hx7⟩
              · have hbe := HBest.out X Y (by omega) (by omega) (by omega) (by omega)
                obtain ⟨m1, m2, m3⟩ := sr_moved S1.out S2.out X Y (by omega) (by omega) (by omega) (by omega)
                obtain ⟨U, hU⟩ : ∃ U, X * 2 = U := ⟨_, rfl⟩
                obtain ⟨V, hV⟩ : ∃ V, Y * 2 = V := ⟨_, rfl⟩
                have e1 : IntKind.i64.wrap (X * 2) = U := by rw [hU, IntKind.wrap_i64]; omega
                have e2 : IntKind.i64.wrap (Y * 2) = V := by rw [hV, IntKind.wrap_i64]; omega
                have bU : -14 ≤ U ∧ U ≤ 14 ∧ -14 ≤ V ∧ V ≤ 14 := by omega
                have HUV : Hid (X * 2 = U ∧ Y * 2 = V) := ⟨hU, hV⟩
                rw [hU, hV] at m1 m2 m3 hbe
                rw [HL0.out] at hbe
                obtain ⟨PL, hPL⟩ : ∃ PL, movL W H xs x y 8 U V = PL := ⟨_, rfl⟩
                rw [hPL] at m2 m3
                obtain ⟨NU, hNU⟩ : ∃ NU, scF W H xs ys x y U V 64 = NU := ⟨_, rfl⟩
                rw [hNU] at hbe
                have UCU := Lib.hid (fun w u (h : Ints w u PL) k => by have := UC.out U V w u m1 (by rw [hPL]; exact h) k; rwa [hNU] at this)
                have UBU := Lib.hid (fun w h => by have := UB.out U V w h; rwa [hPL] at this)
                obtain ⟨s1, s2, s3, s4⟩ := sr_none m2
                obtain ⟨P2, hP2⟩ : ∃ P2, srX W H xs PL x y R = P2 := ⟨_, rfl⟩
                obtain ⟨Q2, hQ2⟩ : ∃ Q2, srY W H xs PL x y R = Q2 := ⟨_, rfl⟩
                obtain ⟨hv2, -, hbest2⟩ := sr_best m2 P2 Q2 hP2 hQ2
                have hmo := hbest2 X Y (by omega) (by omega) (by omega) (by omega)
                rw [hU, hV, m3] at hmo
                have hB2 := smp_of_any s4
                have hxy2 : (0 ≤ x ∧ x ≤ 32) ∧ 0 ≤ y ∧ y ≤ 32 := by
                  have hW := sideB_true s1.1
                  have hH := sideB_true s1.2.1
                  unfold rngOk at s2
                  omega
                obtain ⟨M, hM2⟩ : ∃ M, scF W H xs PL x y P2 Q2 64 = M := ⟨_, rfl⟩
                rw [hM2] at hmo
                have UCZ : Hid (∀ (w : World) (u : Value) (d : Option Addr) (dn dc : Nat), Ints w u (movL W H xs x y 8 P2 Q2) → Ints w (.slice d dn dc) PL → Calls Tryd.prog 45 #[u, .slice d dn dc, .agg #[.int .i64 P2, .int .i64 Q2]] w fun e w' => e = .returned (.tuple #[.int .i64 M, .nilIface]) ∧ Ext w w') := fun w u d dn dc h k => by
                  obtain ⟨m1, m2⟩ := mov_cost (x := x) (y := y) s1 hxy2.1 hxy2.2 hv2 s3 hB2
                  have := cost_any (movL W H xs x y 8 P2 Q2) PL P2 Q2 u (.slice d dn dc) w h k (by unfold movL; split; (rw [rowL_length]; decide); simp)
                  rw [m1, m2, hM2] at this
                  exact this.mono fun e w' ⟨x, h1, h2, h3⟩ => ⟨by rw [h1]; have : x = .nilIface := h3; rw [this], h2⟩
                have UBZ := Lib.hid (fun w h => UB.out P2 Q2 w h)
                have USZ := Lib.hid (fun d dn dc w h k => by have := search_any W H x y R xs PL a d n ca dn dc w h k; rwa [hP2, hQ2, m2] at this)
                have HMO : Hid (M ≤ lenV U V) := hmo
                have r1 := mx2
                obtain ⟨k1, hk1⟩ : ∃ k1, max U (-U) = k1 := ⟨_, rfl⟩
                obtain ⟨k2, hk2⟩ : ∃ k2, max V (-V) = k2 := ⟨_, rfl⟩
                have hkb : M ≤ k1 + k2 := by rw [← hk1, ← hk2]; exact hmo
                have hkr : 0 ≤ k1 ∧ k1 ≤ 14 ∧ 0 ≤ k2 ∧ k2 ≤ 14 := by omega
                obtain ⟨bU1, bU2, bU3, bU4⟩ := bU
                obtain ⟨hkr1, hkr2, hkr3, hkr4⟩ := hkr
                have e3 : IntKind.i64.wrap (-U) = -U := by rw [IntKind.wrap_i64]; omega
                have e4 : IntKind.i64.wrap (-V) = -V := by rw [IntKind.wrap_i64]; omega
                have e5 : IntKind.i64.wrap (k1 + k2) = k1 + k2 := by rw [IntKind.wrap_i64]; omega
                clear hU hV hPL hNU s1 s2 s3 s4 hP2 hQ2 hv2 hbest2 hmo hB2 hxy2 hM2 m1 m2 m3 UC1 UC0 UB1 UB0 US
                have A7 : Ext w6 (w6.alloc (.cells #[.int .i64 U, .int .i64 V] 69)) := (Ext.refl w6).alloc _
                have V7 : VcBox (w6.alloc (.cells #[.int .i64 U, .int .i64 V] 69)) w6.heap.size U V := ⟨by simp, by simp⟩
                obtain ⟨y0, y1, y2⟩ := F6.out.ext A7
                go_wp2_with fail
                clear p0 p1 p2 y0 y1 y2 g0 g1
                have E7 := Lib.hid (E6.trans A7)
                have F7 := Lib.hid (F6.out.ext A7)
                clear A7 F6 E6
                revert V7 E7 F7
                generalize w6.alloc (.cells #[.int .i64 U, .int .i64 V] 69) = w7
                intro V7 E7 F7
                have HV7 := Lib.hid V7
                clear V7
                refine (UBU.out _ (HA.out.ext E7.out)).mono ?_; rintro e w8 ⟨u8, rfl, hx8, hb8⟩
                obtain ⟨d, dc, rfl⟩ := hb8.form
                have HB8 := Lib.hid hb8
                obtain ⟨v0, v1⟩ := HV7.out.ext hx8
                clear hb8
                go_wp2_with fail
                refine (UCU.out _ _ HB8.out (HB.out.ext (E7.out.trans hx8))).mono ?_; rintro e w9 ⟨rfl, hx9⟩
                have X9 := hx8.trans hx9
                obtain ⟨p0, p1, p2⟩ := F7.out.ext X9
                clear v0 v1
                go_wp2_with fail
                refine (USZ.out _ _ _ _ (HA.out.ext (E7.out.trans X9)) (HB8.out.ext hx9)).mono ?_; rintro e wA ⟨xA, rfl, hxA, heA⟩
                obtain rfl : xA = .nilIface := heA
                have AA : Ext wA (wA.alloc (.cells #[.int .i64 P2, .int .i64 Q2] 69)) := (Ext.refl wA).alloc _
                have VA : VcBox (wA.alloc (.cells #[.int .i64 P2, .int .i64 Q2] 69)) wA.heap.size P2 Q2 := ⟨by simp, by simp⟩
                clear p0 p1 p2
                go_wp2_with fail
                have EB := Lib.hid (E7.out.trans (X9.trans (hxA.trans AA)))
                have FB := Lib.hid (F7.out.ext (X9.trans (hxA.trans AA)))
                have UU := Lib.hid (HV7.out.ext (X9.trans (hxA.trans AA)))
                have IB := Lib.hid (HB8.out.ext (hx9.trans (hxA.trans AA)))
                clear X9 hx8 hx9 hxA AA F7 HV7 HB8
                revert VA EB FB UU IB
                generalize wA.alloc (.cells #[.int .i64 P2, .int .i64 Q2] 69) = wB
                intro VA EB FB UU IB
                obtain ⟨p0, p1, p2⟩ := FB.out
                obtain ⟨v0, v1⟩ := VA
                have DB : Hid (Ext wB wB.drew) := (Ext.refl wB).drew
                go_region_held3 (fun w' => w'.cell? ⟨w.heap.size, 0, none⟩ = some (.int .i64 W) ∧ w'.cell? ⟨w.heap.size, 1, none⟩ = some (.int .i64 H) ∧ w'.cell? ⟨w.heap.size, 2, none⟩ = some (.slice a n ca) ∧ w'.cell? ⟨wA.heap.size, 0, none⟩ = some (.int .i64 P2) ∧ w'.cell? ⟨wA.heap.size, 1, none⟩ = some (.int .i64 Q2) ∧ Ext wB w')
                  (first | assumption | (exact ⟨p0, p1, p2, v0, v1, Ext.refl _⟩) | (exact ⟨p0, p1, p2, v0, v1, (Ext.refl _).drew⟩) | (exact ⟨DB.out.cell p0, DB.out.cell p1, DB.out.cell p2, DB.out.cell v0, DB.out.cell v1, DB.out⟩) | (go_split_ands; exact ⟨hx.cell (by assumption), hx.cell (by assumption), hx.cell (by assumption), hx.cell (by assumption), hx.cell (by assumption), Ext.trans (by assumption) hx⟩))
                  ((first
                    | (go_at_call 42; obtain ⟨_, _, _, _, _, hE1⟩ : _ ∧ _ ∧ _ ∧ _ ∧ _ ∧ Ext wB _ := (by assumption); refine (UBZ.out _ (HA.out.ext (EB.out.trans hE1))).mono ?_; rintro e w' ⟨u1, rfl, hx, hb1⟩; have HBZ := Lib.hid hb1; clear hE1 hb1)
                    | (go_at_call 45; obtain ⟨_, _, _, _, _, hE1⟩ : _ ∧ _ ∧ _ ∧ _ ∧ _ ∧ Ext wB _ := (by assumption); refine (UCZ.out _ _ _ _ _ (HBZ.out.ext (by first | exact Ext.refl _ | assumption)) (IB.out.ext hE1)).mono ?_; rintro e w' ⟨rfl, hx⟩; clear hE1)))
                obtain ⟨q0, q1, q2, _, _, hE2⟩ : _ ∧ _ ∧ _ ∧ _ ∧ _ ∧ Ext wB _ := by assumption
                have EC := EB.out.trans hE2
                clear p0 p1 p2 v0 v1
                go_wp2_with fail
                refine (first11_any _ (hg.ext EC)).mono ?_; rintro e wD ⟨rfl, hxD⟩
                obtain ⟨i0, i1⟩ := UU.out.ext (hE2.trans hxD)
                clear q0 q1 q2
                go_wp2
                go_ret
                exact ⟨rfl, EC.trans hxD⟩
    · rw [← hn, ← hm]
      clear ra rb hn hm
      have t1 : ¬ (5000 : Int) < (n : Int) := by omega
      have t2 : (5000 : Int) < (m : Int) := by omega
      have E0 : Ext w ((w.alloc (.cells #[.int .i64 W, .int .i64 H, .slice a n ca] 67)).alloc (.cells #[.int .i64 X, .int .i64 Y] 69)) := (by repeat (first | exact Ext.refl _ | assumption | refine Ext.alloc ?_ _ | refine Ext.drew ?_ | refine Ext.drewN ?_ _ | refine Ext.setCell ?_ (by first | exact Nat.le_refl _ | (simp; done) | omega) _ | refine Ext.trans ?_ (by assumption)))
      obtain ⟨F0, G0⟩ := FrBox.vec w W H X Y (.slice a n ca)
      go_enter Tryd.func13, Tryd.ntmps13
      go_wp2_with fail
      revert E0 F0 G0
      generalize (w.alloc (.cells #[.int .i64 W, .int .i64 H, .slice a n ca] 67)).alloc (.cells #[.int .i64 X, .int .i64 Y] 69) = w0
      intro E0 F0 G0
      refine (first11_any _ (hg.ext E0)).mono ?_; rintro e w1 ⟨rfl, hx1⟩
      have E1 := E0.trans hx1
      have F1 := Lib.hid (F0.ext hx1)
      have G1 := Lib.hid (G0.ext hx1)
      obtain ⟨p0, p1, p2⟩ := F1.out
      clear F0 G0 E0 hx1
      go_wp2_with fail
      refine (first11_any _ (hg.ext E1)).mono ?_; rintro e w2 ⟨rfl, hx2⟩
      go_wp2
      go_ret
      exact ⟨rfl, E1.trans hx2⟩
  · rw [← hn, ← hm]
    clear ra rb hn hm
    have t1 : (5000 : Int) < (n : Int) := by omega
    have E0 : Ext w ((w.alloc (.cells #[.int .i64 W, .int .i64 H, .slice a n ca] 67)).alloc (.cells #[.int .i64 X, .int .i64 Y] 69)) := (by repeat (first | exact Ext.refl _ | assumption | refine Ext.alloc ?_ _ | refine Ext.drew ?_ | refine Ext.drewN ?_ _ | refine Ext.setCell ?_ (by first | exact Nat.le_refl _ | (simp; done) | omega) _ | refine Ext.trans ?_ (by assumption)))
    obtain ⟨F0, G0⟩ := FrBox.vec w W H X Y (.slice a n ca)
    go_enter Tryd.func13, Tryd.ntmps13
    go_wp2_with fail
    revert E0 F0 G0
    generalize (w.alloc (.cells #[.int .i64 W, .int .i64 H, .slice a n ca] 67)).alloc (.cells #[.int .i64 X, .int .i64 Y] 69) = w0
    intro E0 F0 G0
    refine (first11_any _ (hg.ext E0)).mono ?_; rintro e w1 ⟨rfl, hx1⟩
    have E1 := E0.trans hx1
    have F1 := Lib.hid (F0.ext hx1)
    have G1 := Lib.hid (G0.ext hx1)
    obtain ⟨p0, p1, p2⟩ := F1.out
    clear F0 G0 E0 hx1
    go_wp2_with fail
    refine (first11_any _ (hg.ext E1)).mono ?_; rintro e w2 ⟨rfl, hx2⟩
    go_wp2
    go_ret
    exact ⟨rfl, E1.trans hx2⟩
end Go.Proofs.YtaamnpbhmckpbaaDoor

/- kinlaw11.MotionWhole: what lies between; plain. -/
namespace Go.Proofs.YtaamnpbhmckpbaaDoor
set_option linter.unusedVariables false
set_option linter.unusedSimpArgs false
open Go.RowKit Go.Extern.Stop Go.Stop Go.Extern

theorem mid_at {W H : Int} {zs : List Int} (hm : may W H zs) (x y X Y : Int) (N k : Nat) :
    (min (mvF W H zs x y (2 * X) (2 * Y) N k) (mvF W H zs x y (2 * X + 2) (2 * Y) N k) ≤ mvF W H zs x y (2 * X + 1) (2 * Y) N k ∧ mvF W H zs x y (2 * X + 1) (2 * Y) N k ≤ max (mvF W H zs x y (2 * X) (2 * Y) N k) (mvF W H zs x y (2 * X + 2) (2 * Y) N k)) ∧
    (mvF W H zs x y (2 * X) (2 * Y) N k + mvF W H zs x y (2 * X + 2) (2 * Y) N k ≤ 2 * mvF W H zs x y (2 * X + 1) (2 * Y) N k ∧ 2 * mvF W H zs x y (2 * X + 1) (2 * Y) N k ≤ mvF W H zs x y (2 * X) (2 * Y) N k + mvF W H zs x y (2 * X + 2) (2 * Y) N k + 1) ∧
    (0 ≤ mvF W H zs x y (2 * X) (2 * Y) N k ∧ mvF W H zs x y (2 * X) (2 * Y) N k ≤ 255) ∧ (0 ≤ mvF W H zs x y (2 * X + 2) (2 * Y) N k ∧ mvF W H zs x y (2 * X + 2) (2 * Y) N k ≤ 255) ∧ 0 ≤ mvF W H zs x y (2 * X + 1) (2 * Y) N k ∧ mvF W H zs x y (2 * X + 1) (2 * Y) N k ≤ 255 := by
  unfold mvF
  obtain ⟨p, hp⟩ : ∃ p, x + ((k % N : Nat) : Int) + X = p := ⟨_, rfl⟩
  obtain ⟨q, hq⟩ : ∃ q, y + ((k / N : Nat) : Int) + Y = q := ⟨_, rfl⟩
  rw [show 2 * (x + ((k % N : Nat) : Int)) + 2 * X = 2 * p by omega, show 2 * (y + ((k / N : Nat) : Int)) + 2 * Y = 2 * q by omega, show 2 * (x + ((k % N : Nat) : Int)) + (2 * X + 2) = 2 * (p + 1) by omega, show 2 * (x + ((k % N : Nat) : Int)) + (2 * X + 1) = 2 * p + 1 by omega, halfV_even, halfV_even]
  have e : halfV W H zs (2 * p + 1) (2 * q) = (atV W H zs p q + atV W H zs (p + 1) q + 1) / 2 := by
    unfold halfV
    rw [if_pos (by omega), if_neg (by omega), show (2 * p + 1) / 2 = p by omega, show 2 * q / 2 = q by omega]
  rw [e]
  have v0 := atV_in hm p q
  have v1 := atV_in hm (p + 1) q
  generalize atV W H zs p q = α at *
  generalize atV W H zs (p + 1) q = β at *
  omega
def vwOk (X Y : Int) : Prop := (-7 ≤ X ∧ X ≤ 6) ∧ -7 ≤ Y ∧ Y ≤ 7
end Go.Proofs.YtaamnpbhmckpbaaDoor

/- kinlaw11.MotionWhole at squares of 4: the walk. -/
namespace Go.Proofs.YtaamnpbhmckpbaaDoor
set_option linter.unusedVariables false
set_option linter.unusedSimpArgs false
open Go.RowKit Go.Extern.Stop Go.Stop Go.Extern

set_option maxHeartbeats 16000000 in
set_option maxRecDepth 20000 in
theorem whole_4 (W H x y X Y : Int) (xs : List Int) (a : Option Addr) (n ca : Nat) (w : World) (hg : EtIs w) (hA : Ints w (.slice a n ca) xs) (hm : may W H xs) (h1 : n ≤ 5000) (ho : plOk x y 4) (hv : vwOk X Y) :
    Calls Tryd.prog 14 #[.agg #[.int .i64 W, .int .i64 H, .slice a n ca], .int .i64 x, .int .i64 y, .int .i64 4, .agg #[.int .i64 X, .int .i64 Y]] w fun e w' => e = .returned (.bool true) ∧ Ext w w' := by
  have UM := Lib.hid (fun w h => by have := rmay_any W H xs a n ca w h; rwa [decide_eq_true hm] at this)
  have HA := Lib.hid hA
  have t1 : ¬ (5000 : Int) < (n : Int) := by omega
  have hv' := hv
  unfold vwOk at hv'
  have hp := ho.2
  obtain ⟨U, hU⟩ : ∃ U, 2 * X = U := ⟨_, rfl⟩
  obtain ⟨V, hV⟩ : ∃ V, 2 * Y = V := ⟨_, rfl⟩
  have e1 : IntKind.i64.wrap (2 * X) = U := by rw [hU, IntKind.wrap_i64]; omega
  have e2 : IntKind.i64.wrap (2 * Y) = V := by rw [hV, IntKind.wrap_i64]; omega
  have e3 : IntKind.i64.wrap (U + 2) = U + 2 := by rw [IntKind.wrap_i64]; omega
  have e4 : IntKind.i64.wrap (U + 1) = U + 1 := by rw [IntKind.wrap_i64]; omega
  have e5 : IntKind.i64.wrap (x + X) = x + X := by rw [IntKind.wrap_i64]; omega
  have e6 : IntKind.i64.wrap (y + Y) = y + Y := by rw [IntKind.wrap_i64]; omega
  have v1 : vecB U V = true := by unfold vecB; exact decide_eq_true (by omega)
  have v2 : vecB (U + 2) V = true := by unfold vecB; exact decide_eq_true (by omega)
  have v3 : vecB (U + 1) V = true := by unfold vecB; exact decide_eq_true (by omega)
  have hG := mov_get (p := X) (q := Y) hm ho (by rw [hU, hV]; exact v1)
  have HMID := Lib.hid (fun k => mid_at hm x y X Y 4 k)
  rw [hU, hV] at hG HMID
  have m1 : movL W H xs x y 4 U V = rowL 16 (mvF W H xs x y U V 4) := movL_yes hm ho v1
  have m2 : movL W H xs x y 4 (U + 2) V = rowL 16 (mvF W H xs x y (U + 2) V 4) := movL_yes hm ho v2
  have m3 : movL W H xs x y 4 (U + 1) V = rowL 16 (mvF W H xs x y (U + 1) V 4) := movL_yes hm ho v3
  rw [m1] at hG
  have UA := Lib.hid (fun w h => by have := mblock_any W H x y 4 U V xs a n ca w h; rwa [m1] at this)
  have UB := Lib.hid (fun w h => by have := mblock_any W H x y 4 (U + 2) V xs a n ca w h; rwa [m2] at this)
  have UH := Lib.hid (fun w h => by have := mblock_any W H x y 4 (U + 1) V xs a n ca w h; rwa [m3] at this)
  have UG := Lib.hid (fun w h => by have := get_any W H (x + X) (y + Y) 4 xs a n ca w h; rwa [← hG] at this)
  have HLN : ∀ f : Nat → Int, (rowL 16 f).length = 16 := fun f => rowL_length _ _
  have HL := Lib.hid HLN
  generalize mvF W H xs x y U V 4 = fA at *
  generalize mvF W H xs x y (U + 2) V 4 = fB at *
  generalize mvF W H xs x y (U + 1) V 4 = fH at *
  obtain ⟨⟨c1, c2⟩, c3, c4⟩ := hv'
  obtain ⟨⟨c5, c6⟩, c7, c8⟩ := hp
  clear hA hm ho hv v1 v2 v3 hG m1 m2 m3 hU hV HLN
  have E0 : Ext w ((w.alloc (.cells #[.int .i64 W, .int .i64 H, .slice a n ca] 67)).alloc (.cells #[.int .i64 X, .int .i64 Y] 69)) := (by repeat (first | exact Ext.refl _ | assumption | refine Ext.alloc ?_ _ | refine Ext.drew ?_ | refine Ext.drewN ?_ _ | refine Ext.setCell ?_ (by first | exact Nat.le_refl _ | (simp; done) | omega) _ | refine Ext.trans ?_ (by assumption)))
  obtain ⟨F0, G0⟩ := FrBox.vec w W H X Y (.slice a n ca)
  go_enter Tryd.func14, Tryd.ntmps14
  go_wp2_with fail
  revert E0 F0 G0
  generalize (w.alloc (.cells #[.int .i64 W, .int .i64 H, .slice a n ca] 67)).alloc (.cells #[.int .i64 X, .int .i64 Y] 69) = w0
  intro E0 F0 G0
  refine (first11_any _ (hg.ext E0)).mono ?_; rintro e w1 ⟨rfl, hx1⟩
  have E1 := E0.trans hx1
  have F1 := Lib.hid (F0.ext hx1)
  have G1 := Lib.hid (G0.ext hx1)
  obtain ⟨p0, p1, p2⟩ := F1.out
  clear F0 G0 E0 hx1
  go_wp2_with fail
  refine (UM.out _ (HA.out.ext E1)).mono ?_; rintro e w3 ⟨rfl, hx3⟩
  have E1 := E1.trans hx3
  have F1 := Lib.hid (F1.out.ext hx3)
  have G1 := Lib.hid (G1.out.ext hx3)
  clear p0 p1 p2
  obtain ⟨p0, p1, p2⟩ := F1.out
  obtain ⟨q0, q1⟩ := G1.out
  go_wp2_with fail
  refine (UA.out _ (HA.out.ext E1)).mono ?_; rintro e w4 ⟨u4, rfl, hx4, hi4⟩
  obtain ⟨aa, ac, rfl⟩ := hi4.form
  rw [HL.out] at hi4 ⊢
  have I4 := Lib.hid hi4
  clear hi4 p0 p1 p2 q0 q1
  obtain ⟨p0, p1, p2⟩ := F1.out.ext hx4
  obtain ⟨q0, q1⟩ := G1.out.ext hx4
  go_wp2_with fail
  refine (UB.out _ (HA.out.ext (E1.trans hx4))).mono ?_; rintro e w5 ⟨u5, rfl, hx5, hi5⟩
  obtain ⟨ba, bc, rfl⟩ := hi5.form
  rw [HL.out] at hi5 ⊢
  have I5 := Lib.hid hi5
  have X5 := hx4.trans hx5
  clear hi5 p0 p1 p2 q0 q1
  obtain ⟨p0, p1, p2⟩ := F1.out.ext X5
  obtain ⟨q0, q1⟩ := G1.out.ext X5
  go_wp2_with fail
  refine (UH.out _ (HA.out.ext (E1.trans X5))).mono ?_; rintro e w6 ⟨u6, rfl, hx6, hi6⟩
  obtain ⟨ha, hc, rfl⟩ := hi6.form
  rw [HL.out] at hi6 ⊢
  have I6 := Lib.hid hi6
  have X6 := X5.trans hx6
  clear hi6 p0 p1 p2 q0 q1
  obtain ⟨p0, p1, p2⟩ := F1.out.ext X6
  obtain ⟨q0, q1⟩ := G1.out.ext X6
  go_wp2_with fail
  refine (UG.out _ (HA.out.ext (E1.trans X6))).mono ?_; rintro e w7 ⟨u7, rfl, hx7, hi7⟩
  go_wp2_with fail
  refine (ints_same _ _ _ _ _ (I4.out.ext (hx5.trans (hx6.trans hx7))) hi7).mono ?_; rintro e w8 ⟨rfl, hx8⟩
  rw [decide_eq_true (rfl : rowL 16 fA = rowL 16 fA)]
  have J4 := Lib.hid (I4.out.ext (hx5.trans (hx6.trans (hx7.trans hx8))))
  have J5 := Lib.hid (I5.out.ext (hx6.trans (hx7.trans hx8)))
  have J6 := Lib.hid (I6.out.ext (hx7.trans hx8))
  have E8 := E1.trans (X6.trans (hx7.trans hx8))
  clear I4 I5 I6 hi7 hx4 hx5 hx6 hx7 hx8 X5 X6 p0 p1 p2 q0 q1 E1
  obtain ⟨ga, oa, rfl⟩ := J4.out.had (by decide)
  obtain ⟨gb, ob, rfl⟩ := J5.out.had (by decide)
  obtain ⟨gh, oh, rfl⟩ := J6.out.had (by decide)
  go_wp2_with fail
  go_loopw [14] (fun iv wr => ∃ k : Nat, k ≤ 16 ∧ iv = .int .i64 k ∧ Hid (Ext w8 wr)) (fun iv _ => 16 - (intOf iv).toNat)
  case atStart => exact ⟨0, Nat.zero_le _, rfl, Ext.refl _⟩
  case round =>
    obtain ⟨k, hk, rfl, HE⟩ := hrel
    by_cases hlt : k < 16
    · have ca' := (J4.out.ext HE.out).at (rowL_get (f := fA) hlt)
      have cb' := (J5.out.ext HE.out).at (rowL_get (f := fB) hlt)
      have ch' := (J6.out.ext HE.out).at (rowL_get (f := fH) hlt)
      obtain ⟨⟨d1, d2⟩, ⟨d3, d4⟩, ⟨d5, d6⟩, ⟨d7, d8⟩, d9, d10⟩ := HMID.out k
      have r1 := mx2
      have r2 := mn2
      have k1 : (0 : Int) ≤ (k : Int) := by omega
      have k2 : (k : Int) < 16 := by omega
      revert ca' cb' ch' d1 d2 d3 d4 d5 d6 d7 d8 d9 d10
      generalize fA k = A
      generalize fB k = B
      generalize fH k = C
      intro ca' cb' ch' d1 d2 d3 d4 d5 d6 d7 d8 d9 d10
      have f1 : IntKind.i64.wrap (2 * C) = 2 * C := by rw [IntKind.wrap_i64]; omega
      have f2 : IntKind.i64.wrap (A + B) = A + B := by rw [IntKind.wrap_i64]; omega
      have f3 : IntKind.i64.wrap (A + B + 1) = A + B + 1 := by rw [IntKind.wrap_i64]; omega
      obtain ⟨E, hE⟩ : ∃ E, min A B = E := ⟨_, rfl⟩
      obtain ⟨D, hD⟩ : ∃ D, max A B = D := ⟨_, rfl⟩
      have r3 : ∀ ts ty W, (Builtin.min_ ts ty #[.int .i64 A, .int .i64 B]).run Tryd.prog W = .ok (.int .i64 E) W := fun ts ty W => by rw [mn2, hE]
      have r4 : ∀ ts ty W, (Builtin.max_ ts ty #[.int .i64 A, .int .i64 B]).run Tryd.prog W = .ok (.int .i64 D) W := fun ts ty W => by rw [mx2, hD]
      rw [hE] at d1
      rw [hD] at d2
      have l1 : decide (C < E) = false := decide_eq_false (by omega)
      have l2 : decide (D < C) = false := decide_eq_false (by omega)
      have l3 : decide (2 * C < A + B) = false := decide_eq_false (by omega)
      have l4 : decide (A + B + 1 < 2 * C) = false := decide_eq_false (by omega)
      clear hE hD r1 r2
      go_wp2_with fail
      go_quiet (fail)
      go_wp2
      go_roundw
      case rel => exact ⟨k + 1, by omega, by go_num, HE.out.drewN _⟩
      case measure => simp [intOf]; omega
    · obtain rfl : k = 16 := by omega
      go_wp2_with fail
      refine (first11_any _ (hg.ext (E8.trans HE.out))).mono ?_; rintro e w9 ⟨rfl, hx9⟩
      go_wp2
      go_ret
      exact ⟨rfl, (E8.trans HE.out).trans hx9⟩
end Go.Proofs.YtaamnpbhmckpbaaDoor

/- kinlaw11.MotionWhole at squares of 8: the walk. -/
namespace Go.Proofs.YtaamnpbhmckpbaaDoor
set_option linter.unusedVariables false
set_option linter.unusedSimpArgs false
open Go.RowKit Go.Extern.Stop Go.Stop Go.Extern

set_option maxHeartbeats 16000000 in
set_option maxRecDepth 20000 in
theorem whole_8 (W H x y X Y : Int) (xs : List Int) (a : Option Addr) (n ca : Nat) (w : World) (hg : EtIs w) (hA : Ints w (.slice a n ca) xs) (hm : may W H xs) (h1 : n ≤ 5000) (ho : plOk x y 8) (hv : vwOk X Y) :
    Calls Tryd.prog 14 #[.agg #[.int .i64 W, .int .i64 H, .slice a n ca], .int .i64 x, .int .i64 y, .int .i64 8, .agg #[.int .i64 X, .int .i64 Y]] w fun e w' => e = .returned (.bool true) ∧ Ext w w' := by
  have UM := Lib.hid (fun w h => by have := rmay_any W H xs a n ca w h; rwa [decide_eq_true hm] at this)
  have HA := Lib.hid hA
  have t1 : ¬ (5000 : Int) < (n : Int) := by omega
  have hv' := hv
  unfold vwOk at hv'
  have hp := ho.2
  obtain ⟨U, hU⟩ : ∃ U, 2 * X = U := ⟨_, rfl⟩
  obtain ⟨V, hV⟩ : ∃ V, 2 * Y = V := ⟨_, rfl⟩
  have e1 : IntKind.i64.wrap (2 * X) = U := by rw [hU, IntKind.wrap_i64]; omega
  have e2 : IntKind.i64.wrap (2 * Y) = V := by rw [hV, IntKind.wrap_i64]; omega
  have e3 : IntKind.i64.wrap (U + 2) = U + 2 := by rw [IntKind.wrap_i64]; omega
  have e4 : IntKind.i64.wrap (U + 1) = U + 1 := by rw [IntKind.wrap_i64]; omega
  have e5 : IntKind.i64.wrap (x + X) = x + X := by rw [IntKind.wrap_i64]; omega
  have e6 : IntKind.i64.wrap (y + Y) = y + Y := by rw [IntKind.wrap_i64]; omega
  have v1 : vecB U V = true := by unfold vecB; exact decide_eq_true (by omega)
  have v2 : vecB (U + 2) V = true := by unfold vecB; exact decide_eq_true (by omega)
  have v3 : vecB (U + 1) V = true := by unfold vecB; exact decide_eq_true (by omega)
  have hG := mov_get (p := X) (q := Y) hm ho (by rw [hU, hV]; exact v1)
  have HMID := Lib.hid (fun k => mid_at hm x y X Y 8 k)
  rw [hU, hV] at hG HMID
  have m1 : movL W H xs x y 8 U V = rowL 64 (mvF W H xs x y U V 8) := movL_yes hm ho v1
  have m2 : movL W H xs x y 8 (U + 2) V = rowL 64 (mvF W H xs x y (U + 2) V 8) := movL_yes hm ho v2
  have m3 : movL W H xs x y 8 (U + 1) V = rowL 64 (mvF W H xs x y (U + 1) V 8) := movL_yes hm ho v3
  rw [m1] at hG
  have UA := Lib.hid (fun w h => by have := mblock_any W H x y 8 U V xs a n ca w h; rwa [m1] at this)
  have UB := Lib.hid (fun w h => by have := mblock_any W H x y 8 (U + 2) V xs a n ca w h; rwa [m2] at this)
  have UH := Lib.hid (fun w h => by have := mblock_any W H x y 8 (U + 1) V xs a n ca w h; rwa [m3] at this)
  have UG := Lib.hid (fun w h => by have := get_any W H (x + X) (y + Y) 8 xs a n ca w h; rwa [← hG] at this)
  have HLN : ∀ f : Nat → Int, (rowL 64 f).length = 64 := fun f => rowL_length _ _
  have HL := Lib.hid HLN
  generalize mvF W H xs x y U V 8 = fA at *
  generalize mvF W H xs x y (U + 2) V 8 = fB at *
  generalize mvF W H xs x y (U + 1) V 8 = fH at *
  obtain ⟨⟨c1, c2⟩, c3, c4⟩ := hv'
  obtain ⟨⟨c5, c6⟩, c7, c8⟩ := hp
  clear hA hm ho hv v1 v2 v3 hG m1 m2 m3 hU hV HLN
  have E0 : Ext w ((w.alloc (.cells #[.int .i64 W, .int .i64 H, .slice a n ca] 67)).alloc (.cells #[.int .i64 X, .int .i64 Y] 69)) := (by repeat (first | exact Ext.refl _ | assumption | refine Ext.alloc ?_ _ | refine Ext.drew ?_ | refine Ext.drewN ?_ _ | refine Ext.setCell ?_ (by first | exact Nat.le_refl _ | (simp; done) | omega) _ | refine Ext.trans ?_ (by assumption)))
  obtain ⟨F0, G0⟩ := FrBox.vec w W H X Y (.slice a n ca)
  go_enter Tryd.func14, Tryd.ntmps14
  go_wp2_with fail
  revert E0 F0 G0
  generalize (w.alloc (.cells #[.int .i64 W, .int .i64 H, .slice a n ca] 67)).alloc (.cells #[.int .i64 X, .int .i64 Y] 69) = w0
  intro E0 F0 G0
  refine (first11_any _ (hg.ext E0)).mono ?_; rintro e w1 ⟨rfl, hx1⟩
  have E1 := E0.trans hx1
  have F1 := Lib.hid (F0.ext hx1)
  have G1 := Lib.hid (G0.ext hx1)
  obtain ⟨p0, p1, p2⟩ := F1.out
  clear F0 G0 E0 hx1
  go_wp2_with fail
  refine (UM.out _ (HA.out.ext E1)).mono ?_; rintro e w3 ⟨rfl, hx3⟩
  have E1 := E1.trans hx3
  have F1 := Lib.hid (F1.out.ext hx3)
  have G1 := Lib.hid (G1.out.ext hx3)
  clear p0 p1 p2
  obtain ⟨p0, p1, p2⟩ := F1.out
  obtain ⟨q0, q1⟩ := G1.out
  go_wp2_with fail
  refine (UA.out _ (HA.out.ext E1)).mono ?_; rintro e w4 ⟨u4, rfl, hx4, hi4⟩
  obtain ⟨aa, ac, rfl⟩ := hi4.form
  rw [HL.out] at hi4 ⊢
  have I4 := Lib.hid hi4
  clear hi4 p0 p1 p2 q0 q1
  obtain ⟨p0, p1, p2⟩ := F1.out.ext hx4
  obtain ⟨q0, q1⟩ := G1.out.ext hx4
  go_wp2_with fail
  refine (UB.out _ (HA.out.ext (E1.trans hx4))).mono ?_; rintro e w5 ⟨u5, rfl, hx5, hi5⟩
  obtain ⟨ba, bc, rfl⟩ := hi5.form
  rw [HL.out] at hi5 ⊢
  have I5 := Lib.hid hi5
  have X5 := hx4.trans hx5
  clear hi5 p0 p1 p2 q0 q1
  obtain ⟨p0, p1, p2⟩ := F1.out.ext X5
  obtain ⟨q0, q1⟩ := G1.out.ext X5
  go_wp2_with fail
  refine (UH.out _ (HA.out.ext (E1.trans X5))).mono ?_; rintro e w6 ⟨u6, rfl, hx6, hi6⟩
  obtain ⟨ha, hc, rfl⟩ := hi6.form
  rw [HL.out] at hi6 ⊢
  have I6 := Lib.hid hi6
  have X6 := X5.trans hx6
  clear hi6 p0 p1 p2 q0 q1
  obtain ⟨p0, p1, p2⟩ := F1.out.ext X6
  obtain ⟨q0, q1⟩ := G1.out.ext X6
  go_wp2_with fail
  refine (UG.out _ (HA.out.ext (E1.trans X6))).mono ?_; rintro e w7 ⟨u7, rfl, hx7, hi7⟩
  go_wp2_with fail
  refine (ints_same _ _ _ _ _ (I4.out.ext (hx5.trans (hx6.trans hx7))) hi7).mono ?_; rintro e w8 ⟨rfl, hx8⟩
  rw [decide_eq_true (rfl : rowL 64 fA = rowL 64 fA)]
  have J4 := Lib.hid (I4.out.ext (hx5.trans (hx6.trans (hx7.trans hx8))))
  have J5 := Lib.hid (I5.out.ext (hx6.trans (hx7.trans hx8)))
  have J6 := Lib.hid (I6.out.ext (hx7.trans hx8))
  have E8 := E1.trans (X6.trans (hx7.trans hx8))
  clear I4 I5 I6 hi7 hx4 hx5 hx6 hx7 hx8 X5 X6 p0 p1 p2 q0 q1 E1
  obtain ⟨ga, oa, rfl⟩ := J4.out.had (by decide)
  obtain ⟨gb, ob, rfl⟩ := J5.out.had (by decide)
  obtain ⟨gh, oh, rfl⟩ := J6.out.had (by decide)
  go_wp2_with fail
  go_loopw [14] (fun iv wr => ∃ k : Nat, k ≤ 64 ∧ iv = .int .i64 k ∧ Hid (Ext w8 wr)) (fun iv _ => 64 - (intOf iv).toNat)
  case atStart => exact ⟨0, Nat.zero_le _, rfl, Ext.refl _⟩
  case round =>
    obtain ⟨k, hk, rfl, HE⟩ := hrel
    by_cases hlt : k < 64
    · have ca' := (J4.out.ext HE.out).at (rowL_get (f := fA) hlt)
      have cb' := (J5.out.ext HE.out).at (rowL_get (f := fB) hlt)
      have ch' := (J6.out.ext HE.out).at (rowL_get (f := fH) hlt)
      obtain ⟨⟨d1, d2⟩, ⟨d3, d4⟩, ⟨d5, d6⟩, ⟨d7, d8⟩, d9, d10⟩ := HMID.out k
      have r1 := mx2
      have r2 := mn2
      have k1 : (0 : Int) ≤ (k : Int) := by omega
      have k2 : (k : Int) < 64 := by omega
      revert ca' cb' ch' d1 d2 d3 d4 d5 d6 d7 d8 d9 d10
      generalize fA k = A
      generalize fB k = B
      generalize fH k = C
      intro ca' cb' ch' d1 d2 d3 d4 d5 d6 d7 d8 d9 d10
      have f1 : IntKind.i64.wrap (2 * C) = 2 * C := by rw [IntKind.wrap_i64]; omega
      have f2 : IntKind.i64.wrap (A + B) = A + B := by rw [IntKind.wrap_i64]; omega
      have f3 : IntKind.i64.wrap (A + B + 1) = A + B + 1 := by rw [IntKind.wrap_i64]; omega
      obtain ⟨E, hE⟩ : ∃ E, min A B = E := ⟨_, rfl⟩
      obtain ⟨D, hD⟩ : ∃ D, max A B = D := ⟨_, rfl⟩
      have r3 : ∀ ts ty W, (Builtin.min_ ts ty #[.int .i64 A, .int .i64 B]).run Tryd.prog W = .ok (.int .i64 E) W := fun ts ty W => by rw [mn2, hE]
      have r4 : ∀ ts ty W, (Builtin.max_ ts ty #[.int .i64 A, .int .i64 B]).run Tryd.prog W = .ok (.int .i64 D) W := fun ts ty W => by rw [mx2, hD]
      rw [hE] at d1
      rw [hD] at d2
      have l1 : decide (C < E) = false := decide_eq_false (by omega)
      have l2 : decide (D < C) = false := decide_eq_false (by omega)
      have l3 : decide (2 * C < A + B) = false := decide_eq_false (by omega)
      have l4 : decide (A + B + 1 < 2 * C) = false := decide_eq_false (by omega)
      clear hE hD r1 r2
      go_wp2_with fail
      go_quiet (fail)
      go_wp2
      go_roundw
      case rel => exact ⟨k + 1, by omega, by go_num, HE.out.drewN _⟩
      case measure => simp [intOf]; omega
    · obtain rfl : k = 64 := by omega
      go_wp2_with fail
      refine (first11_any _ (hg.ext (E8.trans HE.out))).mono ?_; rintro e w9 ⟨rfl, hx9⟩
      go_wp2
      go_ret
      exact ⟨rfl, (E8.trans HE.out).trans hx9⟩
end Go.Proofs.YtaamnpbhmckpbaaDoor

/- kinlaw11.MotionWhole: the walk. -/
namespace Go.Proofs.YtaamnpbhmckpbaaDoor
set_option linter.unusedVariables false
set_option linter.unusedSimpArgs false
open Go.RowKit Go.Extern.Stop Go.Stop Go.Extern

set_option maxHeartbeats 16000000 in
set_option maxRecDepth 20000 in
theorem whole_law (W H x y i X Y : Int) (xs : List Int) (va : Value) (w : World) (hg : EtIs w) (ra : Row w va xs.length (xs.map (Value.int .i64))) :
    Calls Tryd.prog 14 #[.agg #[.int .i64 W, .int .i64 H, va], .int .i64 x, .int .i64 y, .int .i64 i, .agg #[.int .i64 X, .int .i64 Y]] w fun e w' => e = .returned (.bool true) ∧ Ext w w' := by
  obtain ⟨a, ca, rfl⟩ := ra.form
  obtain ⟨n, hn⟩ : ∃ n, n = xs.length := ⟨_, rfl⟩
  by_cases h1 : n ≤ 5000
  · have IA : Ints w (.slice a xs.length ca) xs := ⟨ra, by omega⟩
    have UM := Lib.hid (fun w h => rmay_any W H xs a n ca w h)
    rw [← hn] at IA ⊢
    have HA := Lib.hid IA
    have t1 : ¬ (5000 : Int) < (n : Int) := by omega
    clear ra hn
    by_cases hm : may W H xs
    · rw [decide_eq_true hm] at UM
      by_cases ho : plOk x y i ∧ vwOk X Y
      · obtain ⟨ho, hv⟩ := ho
        rcases ho.1 with rfl | rfl
        · exact whole_4 W H x y X Y xs a n ca w hg IA hm h1 ho hv
        · exact whole_8 W H x y X Y xs a n ca w hg IA hm h1 ho hv
      · clear IA hm
        by_cases c1 : i = 4 ∨ i = 8
        · have c9 : ¬ (((0 ≤ x ∧ x ≤ 32) ∧ 0 ≤ y ∧ y ≤ 32) ∧ (-7 ≤ X ∧ X ≤ 6) ∧ -7 ≤ Y ∧ Y ≤ 7) := fun ⟨k1, k2⟩ => ho ⟨⟨c1, k1⟩, k2⟩
          clear ho
          rcases c1 with rfl | rfl
          all_goals
            have E0 : Ext w ((w.alloc (.cells #[.int .i64 W, .int .i64 H, .slice a n ca] 67)).alloc (.cells #[.int .i64 X, .int .i64 Y] 69)) := (by repeat (first | exact Ext.refl _ | assumption | refine Ext.alloc ?_ _ | refine Ext.drew ?_ | refine Ext.drewN ?_ _ | refine Ext.setCell ?_ (by first | exact Nat.le_refl _ | (simp; done) | omega) _ | refine Ext.trans ?_ (by assumption)))
            obtain ⟨F0, G0⟩ := FrBox.vec w W H X Y (.slice a n ca)
            go_enter Tryd.func14, Tryd.ntmps14
            go_wp2_with fail
            revert E0 F0 G0
            generalize (w.alloc (.cells #[.int .i64 W, .int .i64 H, .slice a n ca] 67)).alloc (.cells #[.int .i64 X, .int .i64 Y] 69) = w0
            intro E0 F0 G0
            refine (first11_any _ (hg.ext E0)).mono ?_; rintro e w1 ⟨rfl, hx1⟩
            have E1 := E0.trans hx1
            have F1 := Lib.hid (F0.ext hx1)
            have G1 := Lib.hid (G0.ext hx1)
            obtain ⟨p0, p1, p2⟩ := F1.out
            clear F0 G0 E0 hx1
            go_wp2_with fail
            refine (UM.out _ (HA.out.ext E1)).mono ?_; rintro e w3 ⟨rfl, hx3⟩
            have E1 := E1.trans hx3
            have F1 := Lib.hid (F1.out.ext hx3)
            have G1 := Lib.hid (G1.out.ext hx3)
            clear p0 p1 p2
            obtain ⟨p0, p1, p2⟩ := F1.out
            obtain ⟨q0, q1⟩ := G1.out
            by_cases d1 : x < 0
            · clear c9
              go_wp2_with fail
              refine (first11_any _ (hg.ext E1)).mono ?_; rintro e w2 ⟨rfl, hx2⟩
              go_wp2
              go_ret
              exact ⟨rfl, E1.trans hx2⟩
            · by_cases d2 : 32 < x
              · clear c9
                go_wp2_with fail
                refine (first11_any _ (hg.ext E1)).mono ?_; rintro e w2 ⟨rfl, hx2⟩
                go_wp2
                go_ret
                exact ⟨rfl, E1.trans hx2⟩
              · by_cases d3 : y < 0
                · clear c9
                  go_wp2_with fail
                  refine (first11_any _ (hg.ext E1)).mono ?_; rintro e w2 ⟨rfl, hx2⟩
                  go_wp2
                  go_ret
                  exact ⟨rfl, E1.trans hx2⟩
                · by_cases d4 : 32 < y
                  · clear c9
                    go_wp2_with fail
                    refine (first11_any _ (hg.ext E1)).mono ?_; rintro e w2 ⟨rfl, hx2⟩
                    go_wp2
                    go_ret
                    exact ⟨rfl, E1.trans hx2⟩
                  · by_cases d5 : X < -7
                    · clear c9
                      go_wp2_with fail
                      refine (first11_any _ (hg.ext E1)).mono ?_; rintro e w2 ⟨rfl, hx2⟩
                      go_wp2
                      go_ret
                      exact ⟨rfl, E1.trans hx2⟩
                    · by_cases d6 : 6 < X
                      · clear c9
                        go_wp2_with fail
                        refine (first11_any _ (hg.ext E1)).mono ?_; rintro e w2 ⟨rfl, hx2⟩
                        go_wp2
                        go_ret
                        exact ⟨rfl, E1.trans hx2⟩
                      · by_cases d7 : Y < -7
                        · clear c9
                          go_wp2_with fail
                          refine (first11_any _ (hg.ext E1)).mono ?_; rintro e w2 ⟨rfl, hx2⟩
                          go_wp2
                          go_ret
                          exact ⟨rfl, E1.trans hx2⟩
                        · have d8 : 7 < Y := by omega
                          clear c9
                          go_wp2_with fail
                          refine (first11_any _ (hg.ext E1)).mono ?_; rintro e w2 ⟨rfl, hx2⟩
                          go_wp2
                          go_ret
                          exact ⟨rfl, E1.trans hx2⟩
        · have b1 : (i != 4) = true := by rw [bne_iff_ne]; omega
          have b2 : (i != 8) = true := by rw [bne_iff_ne]; omega
          clear ho c1
          have E0 : Ext w ((w.alloc (.cells #[.int .i64 W, .int .i64 H, .slice a n ca] 67)).alloc (.cells #[.int .i64 X, .int .i64 Y] 69)) := (by repeat (first | exact Ext.refl _ | assumption | refine Ext.alloc ?_ _ | refine Ext.drew ?_ | refine Ext.drewN ?_ _ | refine Ext.setCell ?_ (by first | exact Nat.le_refl _ | (simp; done) | omega) _ | refine Ext.trans ?_ (by assumption)))
          obtain ⟨F0, G0⟩ := FrBox.vec w W H X Y (.slice a n ca)
          go_enter Tryd.func14, Tryd.ntmps14
          go_wp2_with fail
          revert E0 F0 G0
          generalize (w.alloc (.cells #[.int .i64 W, .int .i64 H, .slice a n ca] 67)).alloc (.cells #[.int .i64 X, .int .i64 Y] 69) = w0
          intro E0 F0 G0
          refine (first11_any _ (hg.ext E0)).mono ?_; rintro e w1 ⟨rfl, hx1⟩
          have E1 := E0.trans hx1
          have F1 := Lib.hid (F0.ext hx1)
          have G1 := Lib.hid (G0.ext hx1)
          obtain ⟨p0, p1, p2⟩ := F1.out
          clear F0 G0 E0 hx1
          go_wp2_with fail
          refine (UM.out _ (HA.out.ext E1)).mono ?_; rintro e w3 ⟨rfl, hx3⟩
          have E1 := E1.trans hx3
          have F1 := Lib.hid (F1.out.ext hx3)
          have G1 := Lib.hid (G1.out.ext hx3)
          clear p0 p1 p2
          obtain ⟨p0, p1, p2⟩ := F1.out
          obtain ⟨q0, q1⟩ := G1.out
          go_wp2_with fail
          refine (first11_any _ (hg.ext E1)).mono ?_; rintro e w2 ⟨rfl, hx2⟩
          go_wp2
          go_ret
          exact ⟨rfl, E1.trans hx2⟩
    · rw [decide_eq_false hm] at UM
      clear IA hm
      have E0 : Ext w ((w.alloc (.cells #[.int .i64 W, .int .i64 H, .slice a n ca] 67)).alloc (.cells #[.int .i64 X, .int .i64 Y] 69)) := (by repeat (first | exact Ext.refl _ | assumption | refine Ext.alloc ?_ _ | refine Ext.drew ?_ | refine Ext.drewN ?_ _ | refine Ext.setCell ?_ (by first | exact Nat.le_refl _ | (simp; done) | omega) _ | refine Ext.trans ?_ (by assumption)))
      obtain ⟨F0, G0⟩ := FrBox.vec w W H X Y (.slice a n ca)
      go_enter Tryd.func14, Tryd.ntmps14
      go_wp2_with fail
      revert E0 F0 G0
      generalize (w.alloc (.cells #[.int .i64 W, .int .i64 H, .slice a n ca] 67)).alloc (.cells #[.int .i64 X, .int .i64 Y] 69) = w0
      intro E0 F0 G0
      refine (first11_any _ (hg.ext E0)).mono ?_; rintro e w1 ⟨rfl, hx1⟩
      have E1 := E0.trans hx1
      have F1 := Lib.hid (F0.ext hx1)
      have G1 := Lib.hid (G0.ext hx1)
      obtain ⟨p0, p1, p2⟩ := F1.out
      clear F0 G0 E0 hx1
      go_wp2_with fail
      refine (UM.out _ (HA.out.ext E1)).mono ?_; rintro e w3 ⟨rfl, hx3⟩
      have E1 := E1.trans hx3
      have F1 := Lib.hid (F1.out.ext hx3)
      have G1 := Lib.hid (G1.out.ext hx3)
      clear p0 p1 p2
      obtain ⟨p0, p1, p2⟩ := F1.out
      obtain ⟨q0, q1⟩ := G1.out
      go_wp2_with fail
      refine (first11_any _ (hg.ext E1)).mono ?_; rintro e w2 ⟨rfl, hx2⟩
      go_wp2
      go_ret
      exact ⟨rfl, E1.trans hx2⟩
  · rw [← hn]
    clear ra hn
    have t1 : (5000 : Int) < (n : Int) := by omega
    have E0 : Ext w ((w.alloc (.cells #[.int .i64 W, .int .i64 H, .slice a n ca] 67)).alloc (.cells #[.int .i64 X, .int .i64 Y] 69)) := (by repeat (first | exact Ext.refl _ | assumption | refine Ext.alloc ?_ _ | refine Ext.drew ?_ | refine Ext.drewN ?_ _ | refine Ext.setCell ?_ (by first | exact Nat.le_refl _ | (simp; done) | omega) _ | refine Ext.trans ?_ (by assumption)))
    obtain ⟨F0, G0⟩ := FrBox.vec w W H X Y (.slice a n ca)
    go_enter Tryd.func14, Tryd.ntmps14
    go_wp2_with fail
    revert E0 F0 G0
    generalize (w.alloc (.cells #[.int .i64 W, .int .i64 H, .slice a n ca] 67)).alloc (.cells #[.int .i64 X, .int .i64 Y] 69) = w0
    intro E0 F0 G0
    refine (first11_any _ (hg.ext E0)).mono ?_; rintro e w1 ⟨rfl, hx1⟩
    have E1 := E0.trans hx1
    have F1 := Lib.hid (F0.ext hx1)
    have G1 := Lib.hid (G0.ext hx1)
    obtain ⟨p0, p1, p2⟩ := F1.out
    clear F0 G0 E0 hx1
    go_wp2_with fail
    refine (first11_any _ (hg.ext E1)).mono ?_; rintro e w2 ⟨rfl, hx2⟩
    go_wp2
    go_ret
    exact ⟨rfl, E1.trans hx2⟩
end Go.Proofs.YtaamnpbhmckpbaaDoor
