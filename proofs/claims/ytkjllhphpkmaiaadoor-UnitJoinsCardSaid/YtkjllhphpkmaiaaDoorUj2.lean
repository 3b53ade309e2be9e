/- kinlaw4.UnitJoins: the walk. -/
import Derived.Test.YtkjllhphpkmaiaaDoorUj1
import Derived.BigRegion
namespace Go.Proofs.YtkjllhphpkmaiaaDoor
set_option linter.unusedVariables false
set_option linter.unusedSimpArgs false
open Go.RowKit Go.Extern.Stop Go.Stop Go.Extern

def codeF : Fall → Int
  | none => 0
  | some (_, c) => c
theorem code_sh (n : Nat) (F : Fall) : codeF (shF n F) = codeF F := by
  cases F with
  | none => rfl
  | some a => rfl
theorem of_fall (F : Fall) (x : Value) (w : World) (hg : EtIs w) (h : ErrIs w F x) : Calls Tryd.prog 30 #[x] w fun e w' => e = .returned (.int .i64 (codeF F)) ∧ Ext w w' := by
  cases F with
  | none =>
    obtain rfl : x = .nilIface := h
    exact of_nil w
  | some a =>
    obtain ⟨p, c⟩ := a
    exact of_err p c x w hg h.1
set_option maxHeartbeats 8000000 in
set_option maxRecDepth 20000 in
theorem joins_law (az bs : List Nat) (v u : Value) (w : World) (hg : EtIs w) (hnb : NbIs w) (ra : Row w v az.length (az.map fun x : Nat => Value.int .u8 (x : Int))) (ha : ∀ x ∈ az, x < 256) (rb : Row w u bs.length (bs.map fun x : Nat => Value.int .u8 (x : Int))) (hb : ∀ x ∈ bs, x < 256) (hp : Plain u) :
    Calls Tryd.prog 9 #[v, u] w fun e w' => e = .returned (.bool true) ∧ Ext w w' := by
  have HG := Lib.hid hg
  have HNB := Lib.hid hnb
  obtain ⟨a, cap, rfl⟩ := ra.form
  obtain ⟨b, cbp, rfl⟩ := rb.form
  obtain ⟨l, hl⟩ : ∃ l, az.length = l := ⟨_, rfl⟩
  obtain ⟨k, hk⟩ : ∃ k, bs.length = k := ⟨_, rfl⟩
  rw [hl] at ra ⊢
  rw [hk] at rb hp ⊢
  by_cases h1 : 20000 < l
  · have h1' : (20000 : Int) < (l : Int) := by omega
    clear hg hnb ra rb hl hk hp
    go_enter Tryd.func9, Tryd.ntmps9
    go_wp2_with fail
    refine (first4_any _ HG.out HNB.out).mono ?_; rintro e w1 ⟨rfl, hx1⟩
    have HX1 := Lib.hid hx1
    clear hx1
    go_wp2_with fail
    refine (first4_any _ (HG.out.ext HX1.out) (HNB.out.ext HX1.out)).mono ?_; rintro e w2 ⟨rfl, hx2⟩
    have HX2 := Lib.hid hx2
    clear hx2
    go_wp2
    go_ret
    exact ⟨rfl, HX1.out.trans HX2.out⟩
  have h1' : ¬ (20000 : Int) < (l : Int) := by omega
  by_cases h2 : 20000 < k
  · have h2' : (20000 : Int) < (k : Int) := by omega
    clear hg hnb ra rb hl hk hp
    go_enter Tryd.func9, Tryd.ntmps9
    go_wp2_with fail
    refine (first4_any _ HG.out HNB.out).mono ?_; rintro e w1 ⟨rfl, hx1⟩
    have HX1 := Lib.hid hx1
    clear hx1
    go_wp2_with fail
    refine (first4_any _ (HG.out.ext HX1.out) (HNB.out.ext HX1.out)).mono ?_; rintro e w2 ⟨rfl, hx2⟩
    have HX2 := Lib.hid hx2
    clear hx2
    go_wp2
    go_ret
    exact ⟨rfl, HX1.out.trans HX2.out⟩
  have h2' : ¬ (20000 : Int) < (k : Int) := by omega
  have HA : Hid (Bys w (.slice a l cap) az) := ⟨by rw [hl]; exact ra, ha, by rw [hl]; omega⟩
  have HB : Hid (Bys w (.slice b k cbp) bs) := ⟨by rw [hk]; exact rb, hb, by rw [hk]; omega⟩
  have HAB := Lib.hid ha
  have HBB := Lib.hid hb
  have HP := Lib.hid hp
  have HNA := Lib.hid hl
  have HNK := Lib.hid hk
  obtain ⟨⟨Fa, L⟩, hRa⟩ : ∃ R, spU az 0 = R := ⟨_, rfl⟩
  obtain ⟨⟨F, M⟩, hRb⟩ : ∃ R, spU bs 0 = R := ⟨_, rfl⟩
  have UA := Lib.hid (fun v w h k => split_any az v w h k (by rw [hl]; omega))
  have UB := Lib.hid (fun v w h k' => split_any bs v w h k' (by rw [hk]; omega))
  have UJ := Lib.hid (fun v w h k' => split_any (az ++ bs) v w h k' (by rw [List.length_append, hl, hk]; omega))
  have HJ : Hid (Fa = none → spU (az ++ bs) 0 = (shF l F, L ++ M.map (shU l))) := by
    intro e
    rw [e] at hRa
    rw [← hl]
    exact sp_join hRa hRb
  have hLc : L.length ≤ l := by
    have := sp_count az (l + 1) 0 (by omega)
    rw [hRa, hl] at this
    exact this
  have hMc : M.length ≤ k := by
    have := sp_count bs (k + 1) 0 (by omega)
    rw [hRb, hk] at this
    exact this
  have HMB : Hid (∀ u ∈ M, (0 ≤ u.2.2.1 ∧ u.2.2.1 ≤ (k : Int)) ∧ (0 ≤ u.2.2.2 ∧ u.2.2.2 ≤ (k : Int))) := by
    have := sp_bound bs (k + 1) 0 (by omega)
    rw [hRb, hk] at this
    exact this
  rw [hRa] at UA
  rw [hRb] at UB
  obtain ⟨m, hm⟩ : ∃ m, L.length = m := ⟨_, rfl⟩
  obtain ⟨t, ht⟩ : ∃ t, M.length = t := ⟨_, rfl⟩
  have HLm := Lib.hid hm
  have HMt := Lib.hid ht
  have hm2 : m ≤ 20000 := by omega
  have ht2 : t ≤ 20000 := by omega
  clear hg hnb ra rb hl hk ha hb hRa hRb hLc hMc hm ht hp
  go_enter Tryd.func9, Tryd.ntmps9
  go_wp2_with fail
  refine (first4_any _ HG.out HNB.out).mono ?_; rintro e w1 ⟨rfl, hx1⟩
  have HX1 := Lib.hid hx1
  clear hx1
  go_wp2_with fail
  refine (UA.out _ _ (HNB.out.ext HX1.out) (HA.out.ext HX1.out)).mono ?_; rintro e w2 ⟨lv, x, S, rfl, ho2, hs2, he2, hx2⟩
  obtain ⟨la, lc, rfl⟩ := uform ho2
  have HU2 : Hid (Uns w2 (.slice la m lc) L) := by
    have : Uns w2 _ L := Uns.of_own ho2 (by show L.length ≤ _; rw [HLm.out]; omega) hs2
    rw [show (Fa, L).2.length = m from HLm.out] at this
    exact this
  rw [show (Fa, L).2.length = m from HLm.out]
  have HX2 := Lib.hid (HX1.out.trans hx2)
  have he2 : ErrIs w2 Fa x := he2
  clear ho2 hs2 hx2
  go_wp2_with fail
  refine (UB.out _ _ (HNB.out.ext HX2.out) (HB.out.ext HX2.out)).mono ?_; rintro e w3 ⟨mv, y, T, rfl, ho3, hs3, he3, hx3⟩
  obtain ⟨ma, mc, rfl⟩ := uform ho3
  have HV3 : Hid (Uns w3 (.slice ma t mc) M) := by
    have : Uns w3 _ M := Uns.of_own ho3 (by show M.length ≤ _; rw [HMt.out]; omega) hs3
    rw [show (F, M).2.length = t from HMt.out] at this
    exact this
  rw [show (F, M).2.length = t from HMt.out]
  have HU3 := Lib.hid (HU2.out.ext hx3)
  have HX3 := Lib.hid (HX2.out.trans hx3)
  have HE3 : Hid (ErrIs w3 F y) := he3
  clear ho3 hs3 hx3 he3 HU2
  cases Fa with
  | some fa =>
    obtain ⟨tz, qz, rfl⟩ := he2.ne
    go_wp2_with fail
    refine (first4_any _ (HG.out.ext HX3.out) (HNB.out.ext HX3.out)).mono ?_; rintro e w4 ⟨rfl, hx4⟩
    go_wp2
    go_ret
    exact ⟨rfl, HX3.out.trans hx4⟩
  | none =>
    obtain rfl : x = .nilIface := he2
    have hJ := HJ.out rfl
    rw [hJ] at UJ
    clear hJ
    go_wp2_with fail
    refine (cpb_any az _ _ (HA.out.ext HX3.out)).mono ?_; rintro e w4 ⟨u4, rfl, ho4, hx4⟩
    obtain ⟨ca, cc, rfl⟩ := uform ho4
    have HX4 := Lib.hid hx4
    have HO4 := Lib.hid ho4
    rw [HNA.out] at HO4 ⊢
    have hB4 := hx4.size
    clear ho4 hx4
    go_wp2_with (first | (at_builtin; refine app_any rfl _ _ 22 rfl Tryd.underlying22 _ l az bs _ rfl HO4.out rfl (HB.out.ext (HX3.out.trans HX4.out)) HP.out hB4 (by rw [HNK.out]; omega) ?_; intro v5 w5 h5 g5; obtain ⟨va, vc, rfl⟩ := uform h5; have h5' : w5.ownsRow w3.heap.size 5 1 (.slice va (l + bs.length) vc) (az ++ bs).length (byC (az ++ bs)) := (by rw [List.length_append, HNA.out]; exact h5); have HX5 : Hid (Ext w3 w5) := own_grow HO4.out g5 HX4.out (Nat.le_refl _); have HY5 : Hid (Bys w5 (.slice va (l + bs.length) vc) (az ++ bs)) := Bys.of_owns h5' (fun x hx => (List.mem_append.1 hx).elim (HAB.out x) (HBB.out x)) (by rw [List.length_append, HNA.out, HNK.out]; omega); clear h5 h5' g5) | (go_at_call 24; refine (UJ.out _ _ (HNB.out.ext (HX3.out.trans HX5.out)) HY5.out).mono ?_; rintro e w6 ⟨nv, z, Q, rfl, ho6, hs6, he6, hx6⟩))
    have HX6 := Lib.hid ((HX3.out.trans HX5.out).trans hx6)
    have HE6 := Lib.hid (ErrIs.ext (ErrIs.ext HE3.out HX5.out) hx6)
    have HZ6 : Hid (ErrIs w6 (shF l F) z) := he6
    have HU6 := Lib.hid ((HU3.out.ext HX5.out).ext hx6)
    have HV6 := Lib.hid ((HV3.out.ext HX5.out).ext hx6)
    obtain ⟨N, hN⟩ : ∃ N, m + t = N := ⟨_, rfl⟩
    obtain ⟨J, hJ⟩ : ∃ J, L ++ M.map (shU l) = J := ⟨_, rfl⟩
    have hJl : J.length = N := by rw [← hJ, List.length_append, List.length_map, HLm.out, HMt.out]; exact hN
    have hJt : J.take m = L := by rw [← hJ, ← HLm.out]; exact List.take_left
    have HJI : Hid (∀ i u, M[i]? = some u → J[m + i]? = some (shU l u)) := fun i u h => by
      rw [← hJ, List.getElem?_append_right (by rw [HLm.out]; omega), HLm.out, Nat.add_sub_cancel_left, List.getElem?_map, h]; rfl
    rw [hJ] at ho6 hs6
    have HN6 : Hid (Uns w6 nv J) := Uns.of_own ho6 (by show J.length ≤ _; rw [hJl]; omega) hs6
    have ho6' := ho6.2
    rw [show (shF l F, J).2.length = N from hJl] at ho6'
    have UZ : Hid (∀ w', Ext w6 w' → Calls Tryd.prog 30 #[z] w' fun e w' => e = .returned (.int .i64 (codeF F)) ∧ Ext _ w') := fun w' x => by
      have := of_fall (shF l F) z w' (HG.out.ext (HX6.out.trans x)) (ErrIs.ext HZ6.out x)
      rw [code_sh] at this
      exact this
    have UY : Hid (∀ w', Ext w6 w' → Calls Tryd.prog 30 #[y] w' fun e w' => e = .returned (.int .i64 (codeF F)) ∧ Ext _ w') := fun w' x => of_fall F y w' (HG.out.ext (HX6.out.trans x)) (ErrIs.ext HE6.out x)
    obtain ⟨C, hC⟩ : ∃ C, codeF F = C := ⟨_, rfl⟩
    rw [hC] at UZ UY
    have xN : IntKind.i64.wrap ((m : Int) + (t : Int)) = (N : Int) := by rw [IntKind.wrap_i64]; omega
    have xN2 : (m : Int) ≤ (N : Int) := by omega
    have HHN := Lib.hid hN
    rcases ho6' with ⟨hnv, hN0⟩ | ⟨G, nc, cur, rfl, -, -, hcn, -⟩
    · obtain ⟨nc, hnc⟩ : ∃ nc : Nat, nc = 0 := ⟨0, rfl⟩
      have hnv2 : nv = .slice none N nc := by rw [hnv, hN0, hnc]
      clear hnv
      subst hnv2
      have HT0 : Hid (t = 0) := by show _ = _; omega
      have hm0 : m = 0 := by omega
      have xm : (m : Int) ≤ (nc : Int) := by omega
      have hmn : m ≤ N := by omega
      have hLn : L = [] := List.eq_nil_of_length_eq_zero (HLm.out.trans hm0)
      have HNT : Hid (Uns w6 (.slice none m nc) L) := by
        show Uns _ _ _
        rw [hLn, hm0, hnc]
        exact ⟨none, 0, rfl, ⟨Nat.le_refl _, Nat.zero_le _⟩, fun h => absurd h (Nat.lt_irrefl _)⟩
      have USL := Lib.hid (fun w' (x : Ext w6 w') => units_same L (.slice none m nc) (.slice la m lc) w' (HNT.out.ext x) (HU6.out.ext x))
      clear ho6 hs6 hx6 he6 hN hC hJ hJl hJt HE3 HU3 HV3 HX5 HY5 HO4 HX4 hB4 UJ UB UA HJ he2 hLn hN0 hnc hm0
      cases F with
      | some fa =>
        obtain ⟨ty, qy, rfl⟩ := ErrIs.ne HE6.out
        obtain ⟨tz, qz, rfl⟩ : ∃ t v, z = .iface t v := by
          obtain ⟨p, c⟩ := fa
          exact ErrIs.ne HZ6.out
        -- in hand: nv = .slice na N nc; USL; UZ, UY (fault.Of of both)
        go_wp2_with fail
        go_region_held3 (fun w' => Ext w6 w')
          (first | assumption | (repeat (first | exact Ext.refl _ | assumption | refine Ext.drew ?_ | refine Ext.trans ?_ (by assumption))))
          ((first
            | (go_at_call 26; obtain hE1 : Ext w6 _ := (by assumption); refine (USL.out _ hE1).mono ?_; rintro e w7 ⟨rfl, hx7⟩)
            | (go_at_call 30; obtain hE1 : Ext w6 _ := (by assumption); (with_reducible refine (UZ.out _ hE1).mono ?_); rintro e w8 ⟨rfl, hx8⟩)
            | (go_at_call 30; obtain hE1 : Ext w6 _ := (by assumption); (with_reducible refine (UY.out _ hE1).mono ?_); rintro e w9 ⟨rfl, hx9⟩)))
        have HE9 : Hid (Ext w6 _) := (by assumption : Ext w6 _)
        go_wp2_with fail
        go_loopw [12] (fun iv wr => ∃ i : Nat, i ≤ t ∧ iv = .int .i64 (i : Int) ∧ Hid (Ext w6 wr)) (fun iv _ => t - (intOf iv).toNat)
        case atStart => exact ⟨0, Nat.zero_le _, rfl, HE9.out⟩
        case round =>
          obtain ⟨i, hi, rfl, HE⟩ := hrel
          have x2 : ¬ (i : Int) < (t : Int) := by have := HT0.out; omega
          go_wp2_with fail
          refine (first4_any _ (HG.out.ext (HX6.out.trans HE.out)) (HNB.out.ext (HX6.out.trans HE.out))).mono ?_; rintro e w8 ⟨rfl, hx8⟩
          go_wp2
          go_ret
          exact ⟨rfl, (HX6.out.trans HE.out).trans hx8⟩
      | none =>
        obtain rfl : y = .nilIface := HE6.out
        obtain rfl : z = .nilIface := HZ6.out
        -- in hand: nv = .slice na N nc; USL; UZ, UY (fault.Of of both)
        go_wp2_with fail
        go_region_held3 (fun w' => Ext w6 w')
          (first | assumption | (repeat (first | exact Ext.refl _ | assumption | refine Ext.drew ?_ | refine Ext.trans ?_ (by assumption))))
          ((first
            | (go_at_call 26; obtain hE1 : Ext w6 _ := (by assumption); refine (USL.out _ hE1).mono ?_; rintro e w7 ⟨rfl, hx7⟩)
            | (go_at_call 30; obtain hE1 : Ext w6 _ := (by assumption); (with_reducible refine (UZ.out _ hE1).mono ?_); rintro e w8 ⟨rfl, hx8⟩)
            | (go_at_call 30; obtain hE1 : Ext w6 _ := (by assumption); (with_reducible refine (UY.out _ hE1).mono ?_); rintro e w9 ⟨rfl, hx9⟩)))
        have HE9 : Hid (Ext w6 _) := (by assumption : Ext w6 _)
        go_wp2_with fail
        go_loopw [12] (fun iv wr => ∃ i : Nat, i ≤ t ∧ iv = .int .i64 (i : Int) ∧ Hid (Ext w6 wr)) (fun iv _ => t - (intOf iv).toNat)
        case atStart => exact ⟨0, Nat.zero_le _, rfl, HE9.out⟩
        case round =>
          obtain ⟨i, hi, rfl, HE⟩ := hrel
          have x2 : ¬ (i : Int) < (t : Int) := by have := HT0.out; omega
          go_wp2_with fail
          refine (first4_any _ (HG.out.ext (HX6.out.trans HE.out)) (HNB.out.ext (HX6.out.trans HE.out))).mono ?_; rintro e w8 ⟨rfl, hx8⟩
          go_wp2
          go_ret
          exact ⟨rfl, (HX6.out.trans HE.out).trans hx8⟩
    · have HNT : Hid (Uns w6 (.slice (some ⟨G, 0, none⟩) m nc) L) := by
        show Uns _ _ _
        rw [← hJt]
        exact HN6.out.take (by omega)
      have USL := Lib.hid (fun w' (x : Ext w6 w') => units_same L _ (.slice la m lc) w' (HNT.out.ext x) (HU6.out.ext x))
      have xm : (m : Int) ≤ (nc : Int) := by omega
      have hmn : m ≤ N := by omega
      clear ho6 hs6 hx6 he6 hN hC hJ hJl hJt HE3 HU3 HV3 HX5 HY5 HO4 HX4 hB4 UJ UB UA HJ he2
      cases F with
      | some fa =>
        obtain ⟨ty, qy, rfl⟩ := ErrIs.ne HE6.out
        obtain ⟨tz, qz, rfl⟩ : ∃ t v, z = .iface t v := by
          obtain ⟨p, c⟩ := fa
          exact ErrIs.ne HZ6.out
        -- in hand: nv = .slice na N nc; USL; UZ, UY (fault.Of of both)
        go_wp2_with fail
        go_region_held3 (fun w' => Ext w6 w')
          (first | assumption | (repeat (first | exact Ext.refl _ | assumption | refine Ext.drew ?_ | refine Ext.trans ?_ (by assumption))))
          ((first
            | (go_at_call 26; obtain hE1 : Ext w6 _ := (by assumption); refine (USL.out _ hE1).mono ?_; rintro e w7 ⟨rfl, hx7⟩)
            | (go_at_call 30; obtain hE1 : Ext w6 _ := (by assumption); (with_reducible refine (UZ.out _ hE1).mono ?_); rintro e w8 ⟨rfl, hx8⟩)
            | (go_at_call 30; obtain hE1 : Ext w6 _ := (by assumption); (with_reducible refine (UY.out _ hE1).mono ?_); rintro e w9 ⟨rfl, hx9⟩)))
        have HE9 : Hid (Ext w6 _) := (by assumption : Ext w6 _)
        go_wp2_with fail
        go_loopw [12] (fun iv wr => ∃ i : Nat, i ≤ t ∧ iv = .int .i64 (i : Int) ∧ Hid (Ext w6 wr)) (fun iv _ => t - (intOf iv).toNat)
        case atStart => exact ⟨0, Nat.zero_le _, rfl, HE9.out⟩
        case round =>
          obtain ⟨i, hi, rfl, HE⟩ := hrel
          by_cases hlt : i < t
          · obtain ⟨⟨K, D, A, E⟩, hU⟩ : ∃ U, M[i]? = some U := ⟨_, List.getElem?_eq_getElem (by rw [HMt.out]; exact hlt)⟩
            obtain ⟨g1, o1, rfl⟩ := HV6.out.had (by omega)
            obtain ⟨d1, e1, p0, p1, p2, p3, p4⟩ := (HV6.out.at hU).ext HE.out
            have hNI := (HN6.out.at (HJI.out i _ hU)).ext HE.out
            obtain ⟨j, hj⟩ : ∃ j, m + i = j := ⟨_, rfl⟩
            have hjN : j < N := by have := HHN.out; omega
            rw [hj, Nat.zero_add] at hNI
            obtain ⟨d2, e2, q0, q1, q2, q3, q4⟩ := hNI
            have hbd : (0 ≤ A ∧ A ≤ (k : Int)) ∧ (0 ≤ E ∧ E ≤ (k : Int)) := HMB.out _ (List.mem_of_getElem? hU)
            have s1 : IntKind.i64.wrap (A + (l : Int)) = A + (l : Int) := by rw [IntKind.wrap_i64]; omega
            have s2 : IntKind.i64.wrap (E + (l : Int)) = E + (l : Int) := by rw [IntKind.wrap_i64]; omega
            have s3 : IntKind.i64.wrap ((m : Int) + (i : Int)) = (j : Int) := by rw [IntKind.wrap_i64]; omega
            have x1 : (0 : Int) ≤ (i : Int) := by omega
            have x2 : (i : Int) < (t : Int) := by omega
            have x3 : (0 : Int) ≤ (j : Int) := by omega
            have x4 : (j : Int) < (N : Int) := by omega
            have p0 : wr.cell? ⟨g1, o1 + i * 4, none⟩ = some (.int .i64 (K : Int)) := p0
            have p1 : wr.cell? ⟨g1, o1 + i * 4 + 1, none⟩ = some (.slice d1 D.length e1) := p1
            have p2 : wr.cell? ⟨g1, o1 + i * 4 + 2, none⟩ = some (.int .i64 A) := p2
            have p3 : wr.cell? ⟨g1, o1 + i * 4 + 3, none⟩ = some (.int .i64 E) := p3
            have A9 : Ext wr (wr.alloc (.cells #[.int .i64 0, .slice none 0 0, .int .i64 0, .int .i64 0] 44)) := (Ext.refl wr).alloc _
            have r0 := A9.cell p0
            have r1 := A9.cell p1
            have r2 := A9.cell p2
            have r3 := A9.cell p3
            have HPB := Lib.hid p4
            have HQB := Lib.hid q4
            have HQ0 := Lib.hid q0
            have HQ1 := Lib.hid q1
            have HQ2 := Lib.hid q2
            have HQ3 := Lib.hid q3
            clear p4 q4 q0 q1 q2 q3 hbd hU hj
            go_wp2_with fail
            go_region
            go_wp2_with fail
            have HUz := Lib.hid ((UBox.new wr (K : Int) (.slice d1 D.length e1) (A + (l : Int)) (E + (l : Int)) 44).ext ((Ext.refl _).drew))
            have HEz : Hid (Ext wr (wr.alloc (.cells #[.int .i64 (K : Int), .slice d1 D.length e1, .int .i64 (A + (l : Int)), .int .i64 (E + (l : Int))] 44)).drew) := ((Ext.refl wr).alloc _).drew
            clear p0 p1 p2 p3 r0 r1 r2 r3 A9
            revert HUz HEz
            generalize World.drew (World.alloc wr _) = wz
            intro HUz HEz
            obtain ⟨⟨u0, u1, u2, u3⟩, -⟩ := HUz.out
            have v0 : wz.cell? ⟨G, j * 4, none⟩ = some (.int .i64 (K : Int)) := HEz.out.cell HQ0.out
            have v1 : wz.cell? ⟨G, j * 4 + 1, none⟩ = some (.slice d2 D.length e2) := HEz.out.cell HQ1.out
            have v2 : wz.cell? ⟨G, j * 4 + 2, none⟩ = some (.int .i64 (A + (l : Int))) := HEz.out.cell HQ2.out
            have v3 : wz.cell? ⟨G, j * 4 + 3, none⟩ = some (.int .i64 (E + (l : Int))) := HEz.out.cell HQ3.out
            have KS : Hid (∀ w', Ext wz w' → (w'.cell? ⟨G, j * 4, none⟩ = some (.int .i64 (K : Int)) ∧ w'.cell? ⟨G, j * 4 + 1, none⟩ = some (.slice d2 D.length e2) ∧ w'.cell? ⟨G, j * 4 + 2, none⟩ = some (.int .i64 (A + (l : Int))) ∧ w'.cell? ⟨G, j * 4 + 3, none⟩ = some (.int .i64 (E + (l : Int)))) ∧ (w'.cell? ⟨wr.heap.size, 0, none⟩ = some (.int .i64 (K : Int)) ∧ w'.cell? ⟨wr.heap.size, 1, none⟩ = some (.slice d1 D.length e1) ∧ w'.cell? ⟨wr.heap.size, 2, none⟩ = some (.int .i64 (A + (l : Int))) ∧ w'.cell? ⟨wr.heap.size, 3, none⟩ = some (.int .i64 (E + (l : Int)))) ∧ Ext wz w') := fun w' x => ⟨⟨x.cell v0, x.cell v1, x.cell v2, x.cell v3⟩, ⟨x.cell u0, x.cell u1, x.cell u2, x.cell u3⟩, x⟩
            have US := Lib.hid (fun w' (x : Ext wz w') => unit_same (K : Int) (A + (l : Int)) (E + (l : Int)) D d2 d1 D.length e2 D.length e1 w' (HQB.out.ext (HEz.out.trans x)) (HPB.out.ext (HEz.out.trans x)))
            go_region_held3 (fun w' => (w'.cell? ⟨G, j * 4, none⟩ = some (.int .i64 (K : Int)) ∧ w'.cell? ⟨G, j * 4 + 1, none⟩ = some (.slice d2 D.length e2) ∧ w'.cell? ⟨G, j * 4 + 2, none⟩ = some (.int .i64 (A + (l : Int))) ∧ w'.cell? ⟨G, j * 4 + 3, none⟩ = some (.int .i64 (E + (l : Int)))) ∧ (w'.cell? ⟨wr.heap.size, 0, none⟩ = some (.int .i64 (K : Int)) ∧ w'.cell? ⟨wr.heap.size, 1, none⟩ = some (.slice d1 D.length e1) ∧ w'.cell? ⟨wr.heap.size, 2, none⟩ = some (.int .i64 (A + (l : Int))) ∧ w'.cell? ⟨wr.heap.size, 3, none⟩ = some (.int .i64 (E + (l : Int)))) ∧ Ext wz w')
              (first | assumption | (exact KS.out _ (by repeat (first | exact Ext.refl _ | assumption | refine Ext.drew ?_ | refine Ext.trans ?_ (by assumption)))) | (go_split_ands; exact KS.out _ (by repeat (first | exact Ext.refl _ | assumption | refine Ext.drew ?_ | refine Ext.trans ?_ (by assumption)))))
              ((go_at_call 23; obtain ⟨_, _, hE1⟩ : _ ∧ _ ∧ Ext wz _ := (by assumption); refine (US.out _ hE1).mono ?_; rintro e w8 ⟨rfl, hx8⟩))
            all_goals obtain ⟨_, _, hE7⟩ : _ ∧ _ ∧ Ext wz _ := by assumption
            all_goals have HE7 := Lib.hid ((HE.out.trans HEz.out).trans hE7)
            all_goals go_wp2
            all_goals go_roundw
            all_goals first
              | exact ⟨i + 1, by omega, by go_num, HE7.out⟩
              | (simp [intOf]; omega)
          · have hit : i = t := by omega
            have x2 : ¬ (i : Int) < (t : Int) := by omega
            go_wp2_with fail
            refine (first4_any _ (HG.out.ext (HX6.out.trans HE.out)) (HNB.out.ext (HX6.out.trans HE.out))).mono ?_; rintro e w8 ⟨rfl, hx8⟩
            go_wp2
            go_ret
            exact ⟨rfl, (HX6.out.trans HE.out).trans hx8⟩
      | none =>
        obtain rfl : y = .nilIface := HE6.out
        obtain rfl : z = .nilIface := HZ6.out
        -- in hand: nv = .slice na N nc; USL; UZ, UY (fault.Of of both)
        go_wp2_with fail
        go_region_held3 (fun w' => Ext w6 w')
          (first | assumption | (repeat (first | exact Ext.refl _ | assumption | refine Ext.drew ?_ | refine Ext.trans ?_ (by assumption))))
          ((first
            | (go_at_call 26; obtain hE1 : Ext w6 _ := (by assumption); refine (USL.out _ hE1).mono ?_; rintro e w7 ⟨rfl, hx7⟩)
            | (go_at_call 30; obtain hE1 : Ext w6 _ := (by assumption); (with_reducible refine (UZ.out _ hE1).mono ?_); rintro e w8 ⟨rfl, hx8⟩)
            | (go_at_call 30; obtain hE1 : Ext w6 _ := (by assumption); (with_reducible refine (UY.out _ hE1).mono ?_); rintro e w9 ⟨rfl, hx9⟩)))
        have HE9 : Hid (Ext w6 _) := (by assumption : Ext w6 _)
        go_wp2_with fail
        go_loopw [12] (fun iv wr => ∃ i : Nat, i ≤ t ∧ iv = .int .i64 (i : Int) ∧ Hid (Ext w6 wr)) (fun iv _ => t - (intOf iv).toNat)
        case atStart => exact ⟨0, Nat.zero_le _, rfl, HE9.out⟩
        case round =>
          obtain ⟨i, hi, rfl, HE⟩ := hrel
          by_cases hlt : i < t
          · obtain ⟨⟨K, D, A, E⟩, hU⟩ : ∃ U, M[i]? = some U := ⟨_, List.getElem?_eq_getElem (by rw [HMt.out]; exact hlt)⟩
            obtain ⟨g1, o1, rfl⟩ := HV6.out.had (by omega)
            obtain ⟨d1, e1, p0, p1, p2, p3, p4⟩ := (HV6.out.at hU).ext HE.out
            have hNI := (HN6.out.at (HJI.out i _ hU)).ext HE.out
            obtain ⟨j, hj⟩ : ∃ j, m + i = j := ⟨_, rfl⟩
            have hjN : j < N := by have := HHN.out; omega
            rw [hj, Nat.zero_add] at hNI
            obtain ⟨d2, e2, q0, q1, q2, q3, q4⟩ := hNI
            have hbd : (0 ≤ A ∧ A ≤ (k : Int)) ∧ (0 ≤ E ∧ E ≤ (k : Int)) := HMB.out _ (List.mem_of_getElem? hU)
            have s1 : IntKind.i64.wrap (A + (l : Int)) = A + (l : Int) := by rw [IntKind.wrap_i64]; omega
            have s2 : IntKind.i64.wrap (E + (l : Int)) = E + (l : Int) := by rw [IntKind.wrap_i64]; omega
            have s3 : IntKind.i64.wrap ((m : Int) + (i : Int)) = (j : Int) := by rw [IntKind.wrap_i64]; omega
            have x1 : (0 : Int) ≤ (i : Int) := by omega
            have x2 : (i : Int) < (t : Int) := by omega
            have x3 : (0 : Int) ≤ (j : Int) := by omega
            have x4 : (j : Int) < (N : Int) := by omega
            have p0 : wr.cell? ⟨g1, o1 + i * 4, none⟩ = some (.int .i64 (K : Int)) := p0
            have p1 : wr.cell? ⟨g1, o1 + i * 4 + 1, none⟩ = some (.slice d1 D.length e1) := p1
            have p2 : wr.cell? ⟨g1, o1 + i * 4 + 2, none⟩ = some (.int .i64 A) := p2
            have p3 : wr.cell? ⟨g1, o1 + i * 4 + 3, none⟩ = some (.int .i64 E) := p3
            have A9 : Ext wr (wr.alloc (.cells #[.int .i64 0, .slice none 0 0, .int .i64 0, .int .i64 0] 44)) := (Ext.refl wr).alloc _
            have r0 := A9.cell p0
            have r1 := A9.cell p1
            have r2 := A9.cell p2
            have r3 := A9.cell p3
            have HPB := Lib.hid p4
            have HQB := Lib.hid q4
            have HQ0 := Lib.hid q0
            have HQ1 := Lib.hid q1
            have HQ2 := Lib.hid q2
            have HQ3 := Lib.hid q3
            clear p4 q4 q0 q1 q2 q3 hbd hU hj
            go_wp2_with fail
            go_region
            go_wp2_with fail
            have HUz := Lib.hid ((UBox.new wr (K : Int) (.slice d1 D.length e1) (A + (l : Int)) (E + (l : Int)) 44).ext ((Ext.refl _).drew))
            have HEz : Hid (Ext wr (wr.alloc (.cells #[.int .i64 (K : Int), .slice d1 D.length e1, .int .i64 (A + (l : Int)), .int .i64 (E + (l : Int))] 44)).drew) := ((Ext.refl wr).alloc _).drew
            clear p0 p1 p2 p3 r0 r1 r2 r3 A9
            revert HUz HEz
            generalize World.drew (World.alloc wr _) = wz
            intro HUz HEz
            obtain ⟨⟨u0, u1, u2, u3⟩, -⟩ := HUz.out
            have v0 : wz.cell? ⟨G, j * 4, none⟩ = some (.int .i64 (K : Int)) := HEz.out.cell HQ0.out
            have v1 : wz.cell? ⟨G, j * 4 + 1, none⟩ = some (.slice d2 D.length e2) := HEz.out.cell HQ1.out
            have v2 : wz.cell? ⟨G, j * 4 + 2, none⟩ = some (.int .i64 (A + (l : Int))) := HEz.out.cell HQ2.out
            have v3 : wz.cell? ⟨G, j * 4 + 3, none⟩ = some (.int .i64 (E + (l : Int))) := HEz.out.cell HQ3.out
            have KS : Hid (∀ w', Ext wz w' → (w'.cell? ⟨G, j * 4, none⟩ = some (.int .i64 (K : Int)) ∧ w'.cell? ⟨G, j * 4 + 1, none⟩ = some (.slice d2 D.length e2) ∧ w'.cell? ⟨G, j * 4 + 2, none⟩ = some (.int .i64 (A + (l : Int))) ∧ w'.cell? ⟨G, j * 4 + 3, none⟩ = some (.int .i64 (E + (l : Int)))) ∧ (w'.cell? ⟨wr.heap.size, 0, none⟩ = some (.int .i64 (K : Int)) ∧ w'.cell? ⟨wr.heap.size, 1, none⟩ = some (.slice d1 D.length e1) ∧ w'.cell? ⟨wr.heap.size, 2, none⟩ = some (.int .i64 (A + (l : Int))) ∧ w'.cell? ⟨wr.heap.size, 3, none⟩ = some (.int .i64 (E + (l : Int)))) ∧ Ext wz w') := fun w' x => ⟨⟨x.cell v0, x.cell v1, x.cell v2, x.cell v3⟩, ⟨x.cell u0, x.cell u1, x.cell u2, x.cell u3⟩, x⟩
            have US := Lib.hid (fun w' (x : Ext wz w') => unit_same (K : Int) (A + (l : Int)) (E + (l : Int)) D d2 d1 D.length e2 D.length e1 w' (HQB.out.ext (HEz.out.trans x)) (HPB.out.ext (HEz.out.trans x)))
            go_region_held3 (fun w' => (w'.cell? ⟨G, j * 4, none⟩ = some (.int .i64 (K : Int)) ∧ w'.cell? ⟨G, j * 4 + 1, none⟩ = some (.slice d2 D.length e2) ∧ w'.cell? ⟨G, j * 4 + 2, none⟩ = some (.int .i64 (A + (l : Int))) ∧ w'.cell? ⟨G, j * 4 + 3, none⟩ = some (.int .i64 (E + (l : Int)))) ∧ (w'.cell? ⟨wr.heap.size, 0, none⟩ = some (.int .i64 (K : Int)) ∧ w'.cell? ⟨wr.heap.size, 1, none⟩ = some (.slice d1 D.length e1) ∧ w'.cell? ⟨wr.heap.size, 2, none⟩ = some (.int .i64 (A + (l : Int))) ∧ w'.cell? ⟨wr.heap.size, 3, none⟩ = some (.int .i64 (E + (l : Int)))) ∧ Ext wz w')
              (first | assumption | (exact KS.out _ (by repeat (first | exact Ext.refl _ | assumption | refine Ext.drew ?_ | refine Ext.trans ?_ (by assumption)))) | (go_split_ands; exact KS.out _ (by repeat (first | exact Ext.refl _ | assumption | refine Ext.drew ?_ | refine Ext.trans ?_ (by assumption)))))
              ((go_at_call 23; obtain ⟨_, _, hE1⟩ : _ ∧ _ ∧ Ext wz _ := (by assumption); refine (US.out _ hE1).mono ?_; rintro e w8 ⟨rfl, hx8⟩))
            all_goals obtain ⟨_, _, hE7⟩ : _ ∧ _ ∧ Ext wz _ := by assumption
            all_goals have HE7 := Lib.hid ((HE.out.trans HEz.out).trans hE7)
            all_goals go_wp2
            all_goals go_roundw
            all_goals first
              | exact ⟨i + 1, by omega, by go_num, HE7.out⟩
              | (simp [intOf]; omega)
          · have hit : i = t := by omega
            have x2 : ¬ (i : Int) < (t : Int) := by omega
            go_wp2_with fail
            refine (first4_any _ (HG.out.ext (HX6.out.trans HE.out)) (HNB.out.ext (HX6.out.trans HE.out))).mono ?_; rintro e w8 ⟨rfl, hx8⟩
            go_wp2
            go_ret
            exact ⟨rfl, (HX6.out.trans HE.out).trans hx8⟩
end Go.Proofs.YtkjllhphpkmaiaaDoor
