/- kinlaw14.CoefReads: the walk. -/
import Derived.Test.YtdndambkaohgiaaGreatDoorDa3
import Derived.Test.YtdndambkaohgiaaGreatDoorCff
import Derived.Test.YtdndambkaohgiaaGreatDoorMrd
import Derived.Test.YtdndambkaohgiaaGreatDoorAppRow
import Derived.Test.YtdndambkaohgiaaGreatDoorOpL
import Derived.Test.YtdndambkaohgiaaGreatDoorZb
import Derived.Deep.CutRange
import Derived.Deep.RegionHeld3
namespace Go.Proofs.YtdndambkaohgiaaGreatDoor
set_option linter.unusedVariables false
set_option linter.unusedSimpArgs false
open Go.RowKit Go.Extern.Stop Go.Stop Go.Extern

theorem Bls.formR {w : World} {v : Value} {L : List Bool} (h : Bls w v L) : ∃ a cap, v = .slice a L.length cap := by
  obtain ⟨a, cap, e, -⟩ := h
  exact ⟨a, cap, e⟩
theorem Bls.hadR {w : World} {a : Option Addr} {n cap : Nat} {L : List Bool} (h : Bls w (.slice a n cap) L) (hn : 0 < L.length) : ∃ g off, a = some ⟨g, off, none⟩ ∧ ∀ q x, L[q]? = some x → w.cell? ⟨g, off + q, none⟩ = some (.bool x) := by
  obtain ⟨a', cap', e, -, h3⟩ := h
  simp only [Value.slice.injEq] at e
  obtain ⟨rfl, -, -⟩ := e
  exact h3 hn
theorem Bls.smallR {w : World} {v : Value} {L : List Bool} (h : Bls w v L) : L.length ≤ maxLen := by
  obtain ⟨_, _, _, h, _⟩ := h
  exact h
section
variable {τ : Type} {B : World → (Nat → Prop) → τ → Prop} {w0 w : World} {P : World → Prop}
theorem rl_code (ob : Obj B) {a N : Nat} {bs : List Nat} (hb0 : ∀ x ∈ bs, x < 256) {s : Ms Dc} {t : τ} {xs : List Int} {v : Value} (h : Uno (Sep (Sep (RdF a bs) B) HoF) w0 w ((s, t), P)) (hk : okS okDm N s) (hN : N ≤ 3900000) (hP : ∀ W, P W → Ints W v xs) :
    Calls Tryz.prog 13 #[.iface 52 (.pointer (some ⟨a, 0, none⟩)), v] w (KoP (Sep (RdF a bs) B) P w0 (((codP xs).run (mD bs) s).2, t) ((codP xs).run (mD bs) s).1) := by
  refine (bag_ql ob h (fun G X hG hX hd hb => mrcode_any a N bs hb0 xs v X s G w hG hk hN (hX.imp hP) hd)).mono ?_
  rintro e w' ⟨s', P', ⟨u, x, rfl, hp⟩, hu⟩
  obtain ⟨rfl, rfl⟩ := Prod.mk.inj hp
  exact ⟨u, x, rfl, hu⟩
end
theorem crd_n16 {N i : Nat} (h : N ≤ 4 + 11012 * i) : N + 4 * (43 * 16 + 1) ≤ 4 + 11012 * (i + 1) := by omega
theorem crd_n64 {N i : Nat} (h : N ≤ 4 + 11012 * i) : N + 4 * (43 * 64 + 1) ≤ 4 + 11012 * (i + 1) := by omega
set_option maxHeartbeats 8000000 in
set_option maxRecDepth 20000 in
theorem creads_law (bs : List Nat) (L : List Bool) (v u : Value) (w : World) (hg : EtIs w) (rb : Row w v bs.length (bs.map fun x : Nat => Value.int .u8 (x : Int))) (hb : ∀ x ∈ bs, x < 256) (hl : bs.length ≤ 140737488355328) (hL : Bls w u L) : Calls Tryz.prog 4 #[v, u] w fun e w' => e = .returned (.bool true) ∧ Ext w w' := by
  have hm := hL.smallR
  have HET := Lib.hid hg
  clear hg
  obtain ⟨i0, hi, hz0, hz1, hz2⟩ := info_parts infoInt
  have HI := Lib.hid (And.intro hi (And.intro hz0 (And.intro hz1 hz2)))
  clear hi hz0 hz1 hz2
  obtain ⟨la, lc, rfl⟩ := hL.formR
  obtain ⟨ba, bc, rfl⟩ := rb.form
  obtain ⟨m, hm'⟩ : ∃ m, L.length = m := ⟨_, rfl⟩
  obtain ⟨n, hn⟩ : ∃ n, bs.length = n := ⟨_, rfl⟩
  have HNL := Lib.hid hm'
  have HNB := Lib.hid hn
  have HOT : Hid (Bls w (.slice la m lc) L) := by show Bls _ _ _; rw [← hm']; exact hL
  rw [hm'] at hm ⊢
  rw [hn] at rb ⊢
  unfold maxLen at hm
  have HB : Hid (Bys w (.slice ba n bc) bs) := ⟨by rw [hn]; exact rb, hb, hl⟩
  have HBB := Lib.hid hb
  have UN := Lib.hid (mrnew_any bs)
  have UX := Lib.hid (drnew_any bs)
  clear hL rb hm' hn hb hl
  go_enter Tryz.func4, Tryz.ntmps4
  go_wp2_with fail
  refine (first14_any _ HET.out).mono ?_; rintro e w1 ⟨rfl, hx1⟩
  have HE1 := Lib.hid hx1
  clear hx1
  go_wp2_with fail
  refine (UN.out _ _ (HB.out.ext HE1.out)).mono ?_; rintro e w3 ⟨d, F, rfl, hF, hD3, hx3⟩
  have HU0 := Lib.hid (Uno.first hD3 (HE1.out.trans hx3) (fun k hk => Nat.le_trans HE1.out.size (hF k hk)))
  clear hD3 hx3 hF HE1
  by_cases h1 : 20000 < n
  · have h1' : (20000 : Int) < (n : Int) := by omega
    go_wp2_with fail
    refine (first14_any _ (HET.out.ext HU0.out.out)).mono ?_; rintro e w6 ⟨rfl, hx6⟩
    go_wp2
    go_ret
    exact ⟨rfl, HU0.out.out.trans hx6⟩
  have h1' : ¬ (20000 : Int) < (n : Int) := by omega
  have hbl : bs.length ≤ 4500000 := by rw [HNB.out]; omega
  go_wp2_with fail
  refine (UX.out _ _ (HB.out.ext HU0.out.out)).mono ?_; rintro e w5 ⟨c, y, G, rfl, hG, hX5, hx5⟩
  have OO := Lib.hid ((RdF.obj d bs).sep (DrF.obj c y bs))
  have HU3 : Hid (Uno (Sep (Sep (RdF d bs) (DrF c y bs)) HoF) w w5 ((⟨ch0, newD bs⟩, ⟨ch0, nxN bs 4⟩), fun _ => True)) := (HU0.out.add (RdF.obj d bs) hx5 hX5 hG).bag OO.out (fun _ => trivial)
  clear hX5 hx5 hG HU0 UX UN
  go_wp2_with fail
  go_loopw [7] (fun iv wr => ∃ (i N : Nat) (s : Ms Dc) (t : Ms Xc), (i ≤ m ∧ i ≤ 200 ∧ N ≤ 4 + 11012 * i) ∧ iv = .int .i64 (i : Int) ∧ Hid (rS Rbl N s t) ∧ Hid (Uno (Sep (Sep (RdF d bs) (DrF c y bs)) HoF) w wr ((s, t), fun _ => True))) (fun iv _ => m - (intOf iv).toNat)
  case atStart => exact ⟨0, 4, _, _, ⟨Nat.zero_le _, Nat.zero_le _, by omega⟩, rfl, rbl_new HBB.out, HU3.out⟩
  case round =>
    clear HU3
    obtain ⟨i, N, s, t, ⟨hi, hi2, hN⟩, rfl, HJ, HU⟩ := hrel
    by_cases hlt : i < m
    · by_cases hl2 : i < 200
      · obtain ⟨o, hU⟩ : ∃ o, L[i]? = some o := ⟨_, List.getElem?_eq_getElem (by rw [HNL.out]; exact hlt)⟩
        obtain ⟨g, off, rfl, hq⟩ := HOT.out.hadR (by rw [HNL.out]; omega)
        have c0 := HU.out.out.cell (hq i _ hU)
        have x1 : (0 : Int) ≤ (i : Int) := by omega
        have x2 : (i : Int) < (m : Int) := by omega
        have x3 : (i : Int) < 200 := by omega
        have hNz : N ≤ 3900000 := by omega
        clear hU hq
        cases o
        · obtain ⟨hi, hz0, hz1, hz2⟩ := HI.out
          go_wp2_with (at_make; refine wpList_make_full _ rfl _ _ 29 rfl wr.heap.size 3 i0 (.int .i64 0) 1 Tryz.underlying29 hi hz0 hz1 .i64 .i64 _ _ 16 rfl rfl rfl rfl (by rw [hz2]; decide) (by decide) (Nat.le_refl _) ?_; intro w5 hown hgrow)
          have hE := Below.grown (Ext.refl wr) hgrow (Nat.le_refl _) (fun k hk => by cases hk)
          obtain ⟨m1, m2⟩ := ho_made (by decide) hown
          have H5 := Lib.hid (bag_add OO.out HU.out hE m1 m2)
          obtain ⟨q1, q2⟩ := rbl_ok HJ.out
          obtain ⟨a1, a2⟩ := Pg.same (mrD HBB.out) (cod_dep (zsL 16)) HJ.out
          rw [(zs_facts 16).1] at a2
          have HQ2 := Lib.hid q2
          have HJ2 : Hid (rS Rbl (N + 4 * (43 * 16 + 1)) ((codP (zsL 16)).run (mD bs) s).2 ((codP (zsL 16)).run (mY bs) t).2) := a2
          have HA1 := Lib.hid a1
          clear hE m1 m2 hown hgrow HU hi hz0 hz1 hz2 a1 a2
          refine (rl_code (DrF.obj c y bs) HBB.out H5.out q1 (by omega) (fun W h => h.2)).mono ?_; rintro e w6 ⟨u6, x6, rfl, h6⟩
          have UX := Lib.hid (xr_zero16 (RdF.obj d bs) h6 HQ2.out hNz (fun W h => h.1.2))
          clear h6 q1 q2 H5 HQ2
          go_wp2_with fail
          refine (UX.out).mono ?_; rintro e w7 ⟨u7, cc, ea, en, ek, rfl, h7⟩
          rw [← HA1.out] at h7
          obtain ⟨f, hf⟩ : ∃ f, ((codP (zsL 16)).run (mD bs) s).1.1 = f := ⟨_, rfl⟩
          obtain ⟨ys, hys⟩ : ∃ ys, ((codP (zsL 16)).run (mD bs) s).1.2 = ys := ⟨_, rfl⟩
          rw [hf, hys] at h7
          obtain ⟨s2, hs2⟩ : ∃ z, ((codP (zsL 16)).run (mD bs) s).2 = z := ⟨_, rfl⟩
          obtain ⟨t2, ht2⟩ : ∃ z, ((codP (zsL 16)).run (mY bs) t).2 = z := ⟨_, rfl⟩
          rw [hs2, ht2] at h7 HJ2
          have A8 := (Ext.refl w7).alloc (.cells #[.int .i64 cc, .slice ea en ek] 38)
          have H8 := Lib.hid (bag_ext OO.out h7 A8)
          obtain ⟨v0, v1⟩ := evar w7 cc ea en ek (Ext.refl _)
          have hN5 : N + 4 * (43 * 16 + 1) ≤ 4000000 := by omega
          clear UX h7 hf hys hs2 ht2 HA1 A8
          go_wp2_with fail
          generalize World.alloc w7 _ = w8 at H8 v0 v1 ⊢
          have d0 := two_c (H8.out.fst)
          have U1 := Lib.hid (fun w' (h : Ext w8 w') => by
            have H9 := bag_ext OO.out H8.out h
            have := ints_same ys ys u6 u7 w' H9.held.1.2.1 H9.held.2.1
            rwa [decide_eq_true rfl] at this)
          have U2 := Lib.hid (fun w' (h : Ext w8 w') => by
            have H9 := bag_ext OO.out H8.out h
            exact same_fall f x6 (.slice ea en ek) cc w' (HET.out.ext H9.out) H9.held.1.2.2 H9.held.2.2)
          have U3 := Lib.hid (fun w' (h : Ext w8 w') => by
            have H9 := bag_ext OO.out H8.out h
            exact two_o H9.fst HJ2.out hN5 hbl)
          obtain ⟨V, hV⟩ : ∃ V, ovrD bs s2.co = V := ⟨_, rfl⟩
          rw [hV] at U3
          have K0 : Hid (∀ w', Ext w8 w' → w'.cell? ⟨w7.heap.size, 0, none⟩ = some (.int .i64 cc) ∧ w'.cell? ⟨w7.heap.size, 1, none⟩ = some (.slice ea en ek) ∧ w'.cell? ⟨c, 2, none⟩ = some (.pointer (some ⟨y, 0, none⟩)) ∧ Ext w8 w') := fun w' h => ⟨h.cell v0, h.cell v1, h.cell d0, h⟩
          clear v0 v1 d0 hV
          go_cut [80] from 61 to 80 (fun s80 wx => s80 = .bool false ∧ Hid (Ext w8 wx))
          case first =>
            go_region_held3 (fun w' => w'.cell? ⟨w7.heap.size, 0, none⟩ = some (.int .i64 cc) ∧ w'.cell? ⟨w7.heap.size, 1, none⟩ = some (.slice ea en ek) ∧ w'.cell? ⟨c, 2, none⟩ = some (.pointer (some ⟨y, 0, none⟩)) ∧ Ext w8 w')
              (first | assumption | (go_split_ands; exact K0.out _ (by repeat (first | exact Ext.refl _ | assumption | refine Ext.drew ?_ | refine Ext.trans ?_ (by assumption)))))
              ((first
                | (go_at_call 15; obtain ⟨_, _, _, hE1⟩ : _ ∧ _ ∧ _ ∧ Ext w8 _ := (by assumption); refine (U1.out _ hE1).mono ?_; rintro e w9 ⟨rfl, hx9⟩; have E9 := hE1.trans hx9; clear hE1)
                | (go_at_call 16; obtain ⟨_, _, _, hE1⟩ : _ ∧ _ ∧ _ ∧ Ext w8 _ := (by assumption); refine (U2.out _ hE1).mono ?_; rintro e w10 ⟨rfl, hx10⟩; have E10 := hE1.trans hx10; clear hE1)
                | (go_at_call 22; obtain ⟨_, _, _, hE1⟩ : _ ∧ _ ∧ _ ∧ Ext w8 _ := (by assumption); refine (U3.out _ hE1).1.mono ?_; rintro e w11 ⟨rfl, hx11⟩; have E11 := hE1.trans hx11; clear hE1)
                | (go_at_call 23; obtain ⟨_, _, _, hE1⟩ : _ ∧ _ ∧ _ ∧ Ext w8 _ := (by assumption); refine (U3.out _ hE1).2.1.mono ?_; rintro e w12 ⟨rfl, hx12⟩; have E12 := hE1.trans hx12; clear hE1)))
            all_goals obtain ⟨_, _, _, hE9⟩ : _ ∧ _ ∧ _ ∧ Ext w8 _ := by assumption
            all_goals go_wp2_with fail
            all_goals go_meet
            all_goals exact ⟨rfl, hE9⟩
          case rest =>
            obtain ⟨wz, hwz⟩ : ∃ wz, wz = wc := ⟨_, rfl⟩
            subst hwz
            obtain ⟨rfl, HZ⟩ := hcut
            have H9 := Lib.hid (bag_ext OO.out H8.out HZ.out)
            have HUz := Lib.hid (bag_imp H9.out (fun _ _ => trivial) (Q := fun _ => True))
            have hx := H9.out.held.1.2.2
            clear H8 H9 HZ U1 U2 U3 K0 HJ
            cases f with
            | none =>
              obtain rfl : x6 = .nilIface := hx
              have HNR := Lib.hid (crd_n16 hN)
              clear hN hN5 hNz hbl
              go_wp2
              go_roundw
              case rel => exact ⟨i + 1, N + 4 * (43 * 16 + 1), s2, t2, ⟨by omega, by omega, HNR.out⟩, by go_num, HJ2.out, HUz.out⟩
              case measure => simp [intOf] <;> omega
            | some f =>
              obtain ⟨xt, xv, rfl⟩ := ErrIs.ne hx
              clear hx
              go_wp2_with fail
              refine (first14_any _ (HET.out.ext HUz.out.out)).mono ?_; rintro e w14 ⟨rfl, hx14⟩
              go_wp2
              go_ret
              exact ⟨rfl, HUz.out.out.trans hx14⟩
        · obtain ⟨hi, hz0, hz1, hz2⟩ := HI.out
          go_wp2_with (at_make; refine wpList_make_full _ rfl _ _ 29 rfl wr.heap.size 3 i0 (.int .i64 0) 1 Tryz.underlying29 hi hz0 hz1 .i64 .i64 _ _ 64 rfl rfl rfl rfl (by rw [hz2]; decide) (by decide) (Nat.le_refl _) ?_; intro w5 hown hgrow)
          have hE := Below.grown (Ext.refl wr) hgrow (Nat.le_refl _) (fun k hk => by cases hk)
          obtain ⟨m1, m2⟩ := ho_made (by decide) hown
          have H5 := Lib.hid (bag_add OO.out HU.out hE m1 m2)
          obtain ⟨q1, q2⟩ := rbl_ok HJ.out
          obtain ⟨a1, a2⟩ := Pg.same (mrD HBB.out) (cod_dep (zsL 64)) HJ.out
          rw [(zs_facts 64).1] at a2
          have HQ2 := Lib.hid q2
          have HJ2 : Hid (rS Rbl (N + 4 * (43 * 64 + 1)) ((codP (zsL 64)).run (mD bs) s).2 ((codP (zsL 64)).run (mY bs) t).2) := a2
          have HA1 := Lib.hid a1
          clear hE m1 m2 hown hgrow HU hi hz0 hz1 hz2 a1 a2
          refine (rl_code (DrF.obj c y bs) HBB.out H5.out q1 (by omega) (fun W h => h.2)).mono ?_; rintro e w6 ⟨u6, x6, rfl, h6⟩
          have UX := Lib.hid (xr_zero64 (RdF.obj d bs) h6 HQ2.out hNz (fun W h => h.1.2))
          clear h6 q1 q2 H5 HQ2
          go_wp2_with fail
          refine (UX.out).mono ?_; rintro e w7 ⟨u7, cc, ea, en, ek, rfl, h7⟩
          rw [← HA1.out] at h7
          obtain ⟨f, hf⟩ : ∃ f, ((codP (zsL 64)).run (mD bs) s).1.1 = f := ⟨_, rfl⟩
          obtain ⟨ys, hys⟩ : ∃ ys, ((codP (zsL 64)).run (mD bs) s).1.2 = ys := ⟨_, rfl⟩
          rw [hf, hys] at h7
          obtain ⟨s2, hs2⟩ : ∃ z, ((codP (zsL 64)).run (mD bs) s).2 = z := ⟨_, rfl⟩
          obtain ⟨t2, ht2⟩ : ∃ z, ((codP (zsL 64)).run (mY bs) t).2 = z := ⟨_, rfl⟩
          rw [hs2, ht2] at h7 HJ2
          have A8 := (Ext.refl w7).alloc (.cells #[.int .i64 cc, .slice ea en ek] 38)
          have H8 := Lib.hid (bag_ext OO.out h7 A8)
          obtain ⟨v0, v1⟩ := evar w7 cc ea en ek (Ext.refl _)
          have hN5 : N + 4 * (43 * 64 + 1) ≤ 4000000 := by omega
          clear UX h7 hf hys hs2 ht2 HA1 A8
          go_wp2_with fail
          generalize World.alloc w7 _ = w8 at H8 v0 v1 ⊢
          have d0 := two_c (H8.out.fst)
          have U1 := Lib.hid (fun w' (h : Ext w8 w') => by
            have H9 := bag_ext OO.out H8.out h
            have := ints_same ys ys u6 u7 w' H9.held.1.2.1 H9.held.2.1
            rwa [decide_eq_true rfl] at this)
          have U2 := Lib.hid (fun w' (h : Ext w8 w') => by
            have H9 := bag_ext OO.out H8.out h
            exact same_fall f x6 (.slice ea en ek) cc w' (HET.out.ext H9.out) H9.held.1.2.2 H9.held.2.2)
          have U3 := Lib.hid (fun w' (h : Ext w8 w') => by
            have H9 := bag_ext OO.out H8.out h
            exact two_o H9.fst HJ2.out hN5 hbl)
          obtain ⟨V, hV⟩ : ∃ V, ovrD bs s2.co = V := ⟨_, rfl⟩
          rw [hV] at U3
          have K0 : Hid (∀ w', Ext w8 w' → w'.cell? ⟨w7.heap.size, 0, none⟩ = some (.int .i64 cc) ∧ w'.cell? ⟨w7.heap.size, 1, none⟩ = some (.slice ea en ek) ∧ w'.cell? ⟨c, 2, none⟩ = some (.pointer (some ⟨y, 0, none⟩)) ∧ Ext w8 w') := fun w' h => ⟨h.cell v0, h.cell v1, h.cell d0, h⟩
          clear v0 v1 d0 hV
          go_cut [80] from 61 to 80 (fun s80 wx => s80 = .bool false ∧ Hid (Ext w8 wx))
          case first =>
            go_region_held3 (fun w' => w'.cell? ⟨w7.heap.size, 0, none⟩ = some (.int .i64 cc) ∧ w'.cell? ⟨w7.heap.size, 1, none⟩ = some (.slice ea en ek) ∧ w'.cell? ⟨c, 2, none⟩ = some (.pointer (some ⟨y, 0, none⟩)) ∧ Ext w8 w')
              (first | assumption | (go_split_ands; exact K0.out _ (by repeat (first | exact Ext.refl _ | assumption | refine Ext.drew ?_ | refine Ext.trans ?_ (by assumption)))))
              ((first
                | (go_at_call 15; obtain ⟨_, _, _, hE1⟩ : _ ∧ _ ∧ _ ∧ Ext w8 _ := (by assumption); refine (U1.out _ hE1).mono ?_; rintro e w9 ⟨rfl, hx9⟩; have E9 := hE1.trans hx9; clear hE1)
                | (go_at_call 16; obtain ⟨_, _, _, hE1⟩ : _ ∧ _ ∧ _ ∧ Ext w8 _ := (by assumption); refine (U2.out _ hE1).mono ?_; rintro e w10 ⟨rfl, hx10⟩; have E10 := hE1.trans hx10; clear hE1)
                | (go_at_call 22; obtain ⟨_, _, _, hE1⟩ : _ ∧ _ ∧ _ ∧ Ext w8 _ := (by assumption); refine (U3.out _ hE1).1.mono ?_; rintro e w11 ⟨rfl, hx11⟩; have E11 := hE1.trans hx11; clear hE1)
                | (go_at_call 23; obtain ⟨_, _, _, hE1⟩ : _ ∧ _ ∧ _ ∧ Ext w8 _ := (by assumption); refine (U3.out _ hE1).2.1.mono ?_; rintro e w12 ⟨rfl, hx12⟩; have E12 := hE1.trans hx12; clear hE1)))
            all_goals obtain ⟨_, _, _, hE9⟩ : _ ∧ _ ∧ _ ∧ Ext w8 _ := by assumption
            all_goals go_wp2_with fail
            all_goals go_meet
            all_goals exact ⟨rfl, hE9⟩
          case rest =>
            obtain ⟨wz, hwz⟩ : ∃ wz, wz = wc := ⟨_, rfl⟩
            subst hwz
            obtain ⟨rfl, HZ⟩ := hcut
            have H9 := Lib.hid (bag_ext OO.out H8.out HZ.out)
            have HUz := Lib.hid (bag_imp H9.out (fun _ _ => trivial) (Q := fun _ => True))
            have hx := H9.out.held.1.2.2
            clear H8 H9 HZ U1 U2 U3 K0 HJ
            cases f with
            | none =>
              obtain rfl : x6 = .nilIface := hx
              have HNR := Lib.hid (crd_n64 hN)
              clear hN hN5 hNz hbl
              go_wp2
              go_roundw
              case rel => exact ⟨i + 1, N + 4 * (43 * 64 + 1), s2, t2, ⟨by omega, by omega, HNR.out⟩, by go_num, HJ2.out, HUz.out⟩
              case measure => simp [intOf] <;> omega
            | some f =>
              obtain ⟨xt, xv, rfl⟩ := ErrIs.ne hx
              clear hx
              go_wp2_with fail
              refine (first14_any _ (HET.out.ext HUz.out.out)).mono ?_; rintro e w14 ⟨rfl, hx14⟩
              go_wp2
              go_ret
              exact ⟨rfl, HUz.out.out.trans hx14⟩
      · have x3 : ¬ (i : Int) < 200 := by omega
        have x2 : (i : Int) < (m : Int) := by omega
        go_wp2_with fail
        refine (first14_any _ (HET.out.ext HU.out.out)).mono ?_; rintro e w6 ⟨rfl, hx6⟩
        go_wp2
        go_ret
        exact ⟨rfl, HU.out.out.trans hx6⟩
    · have x2 : ¬ (i : Int) < (m : Int) := by omega
      go_wp2_with fail
      refine (first14_any _ (HET.out.ext HU.out.out)).mono ?_; rintro e w6 ⟨rfl, hx6⟩
      go_wp2
      go_ret
      exact ⟨rfl, HU.out.out.trans hx6⟩
end Go.Proofs.YtdndambkaohgiaaGreatDoor
