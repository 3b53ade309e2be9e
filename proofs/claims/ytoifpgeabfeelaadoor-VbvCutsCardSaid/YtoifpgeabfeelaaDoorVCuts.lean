/- kinlaw18.VbvCuts: the walk. -/
import Derived.Test.YtoifpgeabfeelaaDoorVAll
import Derived.Test.YtoifpgeabfeelaaDoorVMath
namespace Go.Proofs.YtoifpgeabfeelaaDoor
set_option linter.unusedVariables false
set_option linter.unusedSimpArgs false
open Go.RowKit Go.Extern.Stop Go.Stop Go.Extern

theorem tmod_nat {t : Int} (n : Nat) (h : 0 ≤ t) : ∃ m : Nat, Int.tmod t ((n : Int) + 1) = (m : Int) ∧ m ≤ n := by
  have h1 := Int.tmod_nonneg ((n : Int) + 1) h
  have h2 := Int.tmod_lt_of_pos t (show (0 : Int) < (n : Int) + 1 by omega)
  exact ⟨(Int.tmod t ((n : Int) + 1)).toNat, by omega, by omega⟩

theorem Ints.pre {w : World} {a : Option Addr} {n cap : Nat} {zs : List Int} (h : Ints w (.slice a n cap) zs) {m : Nat} (hm : m ≤ n) : Ints w (.slice a m cap) (zs.take m) := by
  obtain ⟨⟨a', cap', h0, h1, h2, h3, h4⟩, h5⟩ := h
  simp only [Value.slice.injEq] at h0
  obtain ⟨rfl, rfl, rfl⟩ := h0
  have hl : (zs.take m).length = m := by simp; omega
  refine ⟨⟨a, cap, by rw [hl], by omega, h2, fun h => h3 (by omega), fun g off ha j u hu => h4 g off ha j u ?_⟩, by omega⟩
  rw [List.getElem?_map] at hu ⊢
  obtain ⟨x, hx, rfl⟩ := Option.map_eq_some_iff.1 hu
  rw [List.getElem?_take] at hx
  split at hx
  · rw [hx]; rfl
  · cases hx


set_option maxHeartbeats 2000000 in
set_option maxRecDepth 20000 in
theorem cuts_NN (c : Cfg) (zs ps qs : List Int) (a : Option Addr) (n cap m : Nat) (t : Int) (w : World) (hg : EtIs w) (ha : Ints w (.slice a n cap) zs) (hlong : ¬ 5000 < n) (hcap : n ≤ cap) (hmn : m ≤ n) (ht : -9223372036854775808 ≤ t ∧ t ≤ 9223372036854775807)
    (htr : t < 0 ∧ Int.tmod (-(t + 1)) ((n : Int) + 1) = m ∨ 0 ≤ t ∧ Int.tmod t ((n : Int) + 1) = m)
    (fp1 : Hid (∀ W, Ints W (.slice a n cap) zs → Calls Tryd.prog 16 #[.agg #[.int .i64 c.qmin, .int .i64 c.qmax, .int .i64 c.reach, .int .i64 c.cut, .int .i64 c.gop, .int .i64 c.rate, .int .i64 c.room, .int .i64 c.fill], .slice a n cap] W (AnsPost W none ps))) (fp2 : Hid (∀ W, Ints W (.slice a m cap) (zs.take m) → Calls Tryd.prog 16 #[.agg #[.int .i64 c.qmin, .int .i64 c.qmax, .int .i64 c.reach, .int .i64 c.cut, .int .i64 c.gop, .int .i64 c.rate, .int .i64 c.room, .int .i64 c.fill], .slice a m cap] W (AnsPost W none (ps.take m)))) (lp : ps.length = n)
    (fq1 : Hid (∀ W, Ints W (.slice a n cap) zs → Calls Tryd.prog 18 #[.agg #[.int .i64 c.qmin, .int .i64 c.qmax, .int .i64 c.reach, .int .i64 c.cut, .int .i64 c.gop, .int .i64 c.rate, .int .i64 c.room, .int .i64 c.fill], .slice a n cap] W (AnsPost W none qs))) (fq2 : Hid (∀ W, Ints W (.slice a m cap) (zs.take m) → Calls Tryd.prog 18 #[.agg #[.int .i64 c.qmin, .int .i64 c.qmax, .int .i64 c.reach, .int .i64 c.cut, .int .i64 c.gop, .int .i64 c.rate, .int .i64 c.room, .int .i64 c.fill], .slice a m cap] W (AnsPost W none (qs.take m)))) (lq : qs.length = n) :
    Calls Tryd.prog 6 #[.agg #[.int .i64 c.qmin, .int .i64 c.qmax, .int .i64 c.reach, .int .i64 c.cut, .int .i64 c.gop, .int .i64 c.rate, .int .i64 c.room, .int .i64 c.fill], .slice a n cap, .int .i64 t] w fun e w' => e = .returned (.bool true) ∧ Ext w w' := by
  have E1 : Ext w (w.alloc (.cells #[.int .i64 c.qmin, .int .i64 c.qmax, .int .i64 c.reach, .int .i64 c.cut, .int .i64 c.gop, .int .i64 c.rate, .int .i64 c.room, .int .i64 c.fill] 23)) := (Ext.refl w).alloc _
  have h0m : (0 : Int) ≤ (m : Int) := by omega
  have hmc : (m : Int) ≤ (cap : Int) := by omega
  have hmn' : (m : Int) ≤ (n : Int) := by omega
  have PRE := Lib.hid (ha.pre hmn)
  rcases htr with ⟨t0, hm⟩ | ⟨t0, hm⟩
  all_goals
    go_enter Tryd.func6, Tryd.ntmps6
    go_wp2_with fail
    refine (first18 _ (hg.ext E1)).mono ?_; rintro e w1 ⟨rfl, hx1⟩
    obtain ⟨c0, c1, c2, c3, c4, c5, c6, c7⟩ := (CfgAt.mk' w c).ext hx1
    go_wp2_with fail
    refine (fp1.out _ (ha.ext (E1.trans hx1))).mono ?_; rintro e w2 ⟨u, x, rfl, hx2, hmp⟩
    have k0 := hx2.cell c0
    have k1 := hx2.cell c1
    have k2 := hx2.cell c2
    have k3 := hx2.cell c3
    have k4 := hx2.cell c4
    have k5 := hx2.cell c5
    have k6 := hx2.cell c6
    have k7 := hx2.cell c7
    clear c0 c1 c2 c3 c4 c5 c6 c7
    have E2 := (E1.trans hx1).trans hx2
    clear hx1 hx2
    have PRE2 := Lib.hid (PRE.out.ext E2)
    obtain ⟨hip, rfl⟩ := hmp
    go_wp2_with fail
    go_region_held3 (fun w' => w'.cell? ⟨w.heap.size, 0, none⟩ = some (.int .i64 c.qmin) ∧ w'.cell? ⟨w.heap.size, 1, none⟩ = some (.int .i64 c.qmax) ∧ w'.cell? ⟨w.heap.size, 2, none⟩ = some (.int .i64 c.reach) ∧ w'.cell? ⟨w.heap.size, 3, none⟩ = some (.int .i64 c.cut) ∧ w'.cell? ⟨w.heap.size, 4, none⟩ = some (.int .i64 c.gop) ∧ w'.cell? ⟨w.heap.size, 5, none⟩ = some (.int .i64 c.rate) ∧ w'.cell? ⟨w.heap.size, 6, none⟩ = some (.int .i64 c.room) ∧ w'.cell? ⟨w.heap.size, 7, none⟩ = some (.int .i64 c.fill) ∧ Ext w2 w')
      (first | assumption | (exact ⟨k0, k1, k2, k3, k4, k5, k6, k7, Ext.refl _⟩) | (exact ⟨k0, k1, k2, k3, k4, k5, k6, k7, (Ext.refl _).drew⟩) | (go_split_ands; exact ⟨hx.cell (by assumption), hx.cell (by assumption), hx.cell (by assumption), hx.cell (by assumption), hx.cell (by assumption), hx.cell (by assumption), hx.cell (by assumption), hx.cell (by assumption), Ext.trans (by assumption) hx⟩))
      ((go_at_call 16; obtain ⟨_, _, _, _, _, _, _, _, hE1⟩ : _ ∧ _ ∧ _ ∧ _ ∧ _ ∧ _ ∧ _ ∧ _ ∧ Ext w2 _ := (by assumption); refine (fp2.out _ (PRE2.out.ext hE1)).mono ?_; rintro e w' ⟨u2, x2, rfl, hx, hm2⟩))
    obtain ⟨j0, j1, j2, j3, j4, j5, j6, j7, hE1⟩ : _ ∧ _ ∧ _ ∧ _ ∧ _ ∧ _ ∧ _ ∧ _ ∧ Ext w2 _ := by assumption
    clear k0 k1 k2 k3 k4 k5 k6 k7 PRE2
    obtain ⟨hip2, rfl⟩ := hm2
    have hip1 := hip.ext hE1
    clear hip
    have E3 := E2.trans hE1
    clear hE1 E2
    go_wp2_with fail
    refine (fq1.out _ (ha.ext E3)).mono ?_; rintro e w4 ⟨v, y, rfl, hx4, hmq⟩
    have k0 := hx4.cell j0
    have k1 := hx4.cell j1
    have k2 := hx4.cell j2
    have k3 := hx4.cell j3
    have k4 := hx4.cell j4
    have k5 := hx4.cell j5
    have k6 := hx4.cell j6
    have k7 := hx4.cell j7
    clear j0 j1 j2 j3 j4 j5 j6 j7
    have E4 := E3.trans hx4
    have hip3 := hip1.ext hx4
    have hip4 := hip2.ext hx4
    clear hip1 hip2
    clear hx4 E3
    have PRE4 := Lib.hid (PRE.out.ext E4)
    obtain ⟨hiq, rfl⟩ := hmq
    go_wp2_with fail
    go_region_held3 (fun w' => w'.cell? ⟨w.heap.size, 0, none⟩ = some (.int .i64 c.qmin) ∧ w'.cell? ⟨w.heap.size, 1, none⟩ = some (.int .i64 c.qmax) ∧ w'.cell? ⟨w.heap.size, 2, none⟩ = some (.int .i64 c.reach) ∧ w'.cell? ⟨w.heap.size, 3, none⟩ = some (.int .i64 c.cut) ∧ w'.cell? ⟨w.heap.size, 4, none⟩ = some (.int .i64 c.gop) ∧ w'.cell? ⟨w.heap.size, 5, none⟩ = some (.int .i64 c.rate) ∧ w'.cell? ⟨w.heap.size, 6, none⟩ = some (.int .i64 c.room) ∧ w'.cell? ⟨w.heap.size, 7, none⟩ = some (.int .i64 c.fill) ∧ Ext w4 w')
      (first | assumption | (exact ⟨k0, k1, k2, k3, k4, k5, k6, k7, Ext.refl _⟩) | (exact ⟨k0, k1, k2, k3, k4, k5, k6, k7, (Ext.refl _).drew⟩) | (go_split_ands; exact ⟨hx.cell (by assumption), hx.cell (by assumption), hx.cell (by assumption), hx.cell (by assumption), hx.cell (by assumption), hx.cell (by assumption), hx.cell (by assumption), hx.cell (by assumption), Ext.trans (by assumption) hx⟩))
      ((go_at_call 18; obtain ⟨_, _, _, _, _, _, _, _, hE1⟩ : _ ∧ _ ∧ _ ∧ _ ∧ _ ∧ _ ∧ _ ∧ _ ∧ Ext w4 _ := (by assumption); refine (fq2.out _ (PRE4.out.ext hE1)).mono ?_; rintro e w' ⟨v2, y2, rfl, hx, hn2⟩))
    obtain ⟨j0, j1, j2, j3, j4, j5, j6, j7, hE1⟩ : _ ∧ _ ∧ _ ∧ _ ∧ _ ∧ _ ∧ _ ∧ _ ∧ Ext w4 _ := by assumption
    clear k0 k1 k2 k3 k4 k5 k6 k7 PRE4 j0 j1 j2 j3 j4 j5 j6 j7
    have E5 := E4.trans hE1
    have hip5 := hip3.ext hE1
    have hip6 := hip4.ext hE1
    clear hip3 hip4
    have hiq5 := hiq.ext hE1
    obtain ⟨hiq6, rfl⟩ := hn2
    clear hiq
    clear E4 hE1
    obtain ⟨pa, pcap, rfl⟩ := hip5.form
    have hpc : m ≤ pcap := by
      obtain ⟨a', cap', h0, h1, _⟩ := hip5.1
      simp only [Value.slice.injEq] at h0
      omega
    rw [lp] at hip5 ⊢
    have hpc' : (m : Int) ≤ (pcap : Int) := by omega
    have PP := Lib.hid (hip5.pre hmn)
    obtain ⟨qa, qcap, rfl⟩ := hiq5.form
    have hqc : m ≤ qcap := by
      obtain ⟨a', cap', h0, h1, _⟩ := hiq5.1
      simp only [Value.slice.injEq] at h0
      omega
    rw [lq] at hiq5 ⊢
    have hqc' : (m : Int) ≤ (qcap : Int) := by omega
    have QQ := Lib.hid (hiq5.pre hmn)
    go_wp2_with fail
    refine (ints_same (ps.take m) (ps.take m) _ _ _ hip6 PP.out).mono ?_; rintro e w7 ⟨rfl, hx7⟩
    have E6 := E5.trans hx7
    clear E5
    have hiq7 := hiq6.ext hx7
    have QQ7 := Lib.hid (QQ.out.ext hx7)
    clear hiq6 QQ
    go_wp2_with fail
    refine (first18 _ (hg.ext E6)).mono ?_; rintro e w8 ⟨rfl, hx8⟩
    go_wp2_with fail
    refine (ints_same (qs.take m) (qs.take m) _ _ _ (hiq7.ext hx8) (QQ7.out.ext hx8)).mono ?_; rintro e w9 ⟨rfl, hx9⟩
    go_wp2
    go_ret
    exact ⟨by simp, E6.trans (hx8.trans hx9)⟩

set_option maxHeartbeats 2000000 in
set_option maxRecDepth 20000 in
theorem cuts_NS (c : Cfg) (zs ps qs : List Int) (a : Option Addr) (n cap m : Nat) (t : Int) (w : World) (hg : EtIs w) (ha : Ints w (.slice a n cap) zs) (hlong : ¬ 5000 < n) (hcap : n ≤ cap) (hmn : m ≤ n) (ht : -9223372036854775808 ≤ t ∧ t ≤ 9223372036854775807)
    (htr : t < 0 ∧ Int.tmod (-(t + 1)) ((n : Int) + 1) = m ∨ 0 ≤ t ∧ Int.tmod t ((n : Int) + 1) = m)
    (fp1 : Hid (∀ W, Ints W (.slice a n cap) zs → Calls Tryd.prog 16 #[.agg #[.int .i64 c.qmin, .int .i64 c.qmax, .int .i64 c.reach, .int .i64 c.cut, .int .i64 c.gop, .int .i64 c.rate, .int .i64 c.room, .int .i64 c.fill], .slice a n cap] W (AnsPost W none ps))) (fp2 : Hid (∀ W, Ints W (.slice a m cap) (zs.take m) → Calls Tryd.prog 16 #[.agg #[.int .i64 c.qmin, .int .i64 c.qmax, .int .i64 c.reach, .int .i64 c.cut, .int .i64 c.gop, .int .i64 c.rate, .int .i64 c.room, .int .i64 c.fill], .slice a m cap] W (AnsPost W none (ps.take m)))) (lp : ps.length = n)
    (pkq : List (ByteArray × Int) × Int) (anq : Option (List (ByteArray × Int) × Int)) (qt : List Int) (fq1 : Hid (∀ W, Ints W (.slice a n cap) zs → Calls Tryd.prog 18 #[.agg #[.int .i64 c.qmin, .int .i64 c.qmax, .int .i64 c.reach, .int .i64 c.cut, .int .i64 c.gop, .int .i64 c.rate, .int .i64 c.room, .int .i64 c.fill], .slice a n cap] W (AnsPost W (some pkq) qs))) (fq2 : Hid (∀ W, Ints W (.slice a m cap) (zs.take m) → Calls Tryd.prog 18 #[.agg #[.int .i64 c.qmin, .int .i64 c.qmax, .int .i64 c.reach, .int .i64 c.cut, .int .i64 c.gop, .int .i64 c.rate, .int .i64 c.room, .int .i64 c.fill], .slice a m cap] W (AnsPost W anq qt))) :
    Calls Tryd.prog 6 #[.agg #[.int .i64 c.qmin, .int .i64 c.qmax, .int .i64 c.reach, .int .i64 c.cut, .int .i64 c.gop, .int .i64 c.rate, .int .i64 c.room, .int .i64 c.fill], .slice a n cap, .int .i64 t] w fun e w' => e = .returned (.bool true) ∧ Ext w w' := by
  have E1 : Ext w (w.alloc (.cells #[.int .i64 c.qmin, .int .i64 c.qmax, .int .i64 c.reach, .int .i64 c.cut, .int .i64 c.gop, .int .i64 c.rate, .int .i64 c.room, .int .i64 c.fill] 23)) := (Ext.refl w).alloc _
  have h0m : (0 : Int) ≤ (m : Int) := by omega
  have hmc : (m : Int) ≤ (cap : Int) := by omega
  have hmn' : (m : Int) ≤ (n : Int) := by omega
  have PRE := Lib.hid (ha.pre hmn)
  rcases htr with ⟨t0, hm⟩ | ⟨t0, hm⟩
  all_goals
    go_enter Tryd.func6, Tryd.ntmps6
    go_wp2_with fail
    refine (first18 _ (hg.ext E1)).mono ?_; rintro e w1 ⟨rfl, hx1⟩
    obtain ⟨c0, c1, c2, c3, c4, c5, c6, c7⟩ := (CfgAt.mk' w c).ext hx1
    go_wp2_with fail
    refine (fp1.out _ (ha.ext (E1.trans hx1))).mono ?_; rintro e w2 ⟨u, x, rfl, hx2, hmp⟩
    have k0 := hx2.cell c0
    have k1 := hx2.cell c1
    have k2 := hx2.cell c2
    have k3 := hx2.cell c3
    have k4 := hx2.cell c4
    have k5 := hx2.cell c5
    have k6 := hx2.cell c6
    have k7 := hx2.cell c7
    clear c0 c1 c2 c3 c4 c5 c6 c7
    have E2 := (E1.trans hx1).trans hx2
    clear hx1 hx2
    have PRE2 := Lib.hid (PRE.out.ext E2)
    obtain ⟨hip, rfl⟩ := hmp
    go_wp2_with fail
    go_region_held3 (fun w' => w'.cell? ⟨w.heap.size, 0, none⟩ = some (.int .i64 c.qmin) ∧ w'.cell? ⟨w.heap.size, 1, none⟩ = some (.int .i64 c.qmax) ∧ w'.cell? ⟨w.heap.size, 2, none⟩ = some (.int .i64 c.reach) ∧ w'.cell? ⟨w.heap.size, 3, none⟩ = some (.int .i64 c.cut) ∧ w'.cell? ⟨w.heap.size, 4, none⟩ = some (.int .i64 c.gop) ∧ w'.cell? ⟨w.heap.size, 5, none⟩ = some (.int .i64 c.rate) ∧ w'.cell? ⟨w.heap.size, 6, none⟩ = some (.int .i64 c.room) ∧ w'.cell? ⟨w.heap.size, 7, none⟩ = some (.int .i64 c.fill) ∧ Ext w2 w')
      (first | assumption | (exact ⟨k0, k1, k2, k3, k4, k5, k6, k7, Ext.refl _⟩) | (exact ⟨k0, k1, k2, k3, k4, k5, k6, k7, (Ext.refl _).drew⟩) | (go_split_ands; exact ⟨hx.cell (by assumption), hx.cell (by assumption), hx.cell (by assumption), hx.cell (by assumption), hx.cell (by assumption), hx.cell (by assumption), hx.cell (by assumption), hx.cell (by assumption), Ext.trans (by assumption) hx⟩))
      ((go_at_call 16; obtain ⟨_, _, _, _, _, _, _, _, hE1⟩ : _ ∧ _ ∧ _ ∧ _ ∧ _ ∧ _ ∧ _ ∧ _ ∧ Ext w2 _ := (by assumption); refine (fp2.out _ (PRE2.out.ext hE1)).mono ?_; rintro e w' ⟨u2, x2, rfl, hx, hm2⟩))
    obtain ⟨j0, j1, j2, j3, j4, j5, j6, j7, hE1⟩ : _ ∧ _ ∧ _ ∧ _ ∧ _ ∧ _ ∧ _ ∧ _ ∧ Ext w2 _ := by assumption
    clear k0 k1 k2 k3 k4 k5 k6 k7 PRE2
    obtain ⟨hip2, rfl⟩ := hm2
    have hip1 := hip.ext hE1
    clear hip
    have E3 := E2.trans hE1
    clear hE1 E2
    go_wp2_with fail
    refine (fq1.out _ (ha.ext E3)).mono ?_; rintro e w4 ⟨v, y, rfl, hx4, hmq⟩
    have k0 := hx4.cell j0
    have k1 := hx4.cell j1
    have k2 := hx4.cell j2
    have k3 := hx4.cell j3
    have k4 := hx4.cell j4
    have k5 := hx4.cell j5
    have k6 := hx4.cell j6
    have k7 := hx4.cell j7
    clear j0 j1 j2 j3 j4 j5 j6 j7
    have E4 := E3.trans hx4
    have hip3 := hip1.ext hx4
    have hip4 := hip2.ext hx4
    clear hip1 hip2
    clear hx4 E3
    have PRE4 := Lib.hid (PRE.out.ext E4)
    obtain ⟨ty, vy, hne'⟩ := hmq.2.ne_nil
    subst hne'
    clear hmq
    go_wp2_with fail
    go_region_held3 (fun w' => w'.cell? ⟨w.heap.size, 0, none⟩ = some (.int .i64 c.qmin) ∧ w'.cell? ⟨w.heap.size, 1, none⟩ = some (.int .i64 c.qmax) ∧ w'.cell? ⟨w.heap.size, 2, none⟩ = some (.int .i64 c.reach) ∧ w'.cell? ⟨w.heap.size, 3, none⟩ = some (.int .i64 c.cut) ∧ w'.cell? ⟨w.heap.size, 4, none⟩ = some (.int .i64 c.gop) ∧ w'.cell? ⟨w.heap.size, 5, none⟩ = some (.int .i64 c.rate) ∧ w'.cell? ⟨w.heap.size, 6, none⟩ = some (.int .i64 c.room) ∧ w'.cell? ⟨w.heap.size, 7, none⟩ = some (.int .i64 c.fill) ∧ Ext w4 w')
      (first | assumption | (exact ⟨k0, k1, k2, k3, k4, k5, k6, k7, Ext.refl _⟩) | (exact ⟨k0, k1, k2, k3, k4, k5, k6, k7, (Ext.refl _).drew⟩) | (go_split_ands; exact ⟨hx.cell (by assumption), hx.cell (by assumption), hx.cell (by assumption), hx.cell (by assumption), hx.cell (by assumption), hx.cell (by assumption), hx.cell (by assumption), hx.cell (by assumption), Ext.trans (by assumption) hx⟩))
      ((go_at_call 18; obtain ⟨_, _, _, _, _, _, _, _, hE1⟩ : _ ∧ _ ∧ _ ∧ _ ∧ _ ∧ _ ∧ _ ∧ _ ∧ Ext w4 _ := (by assumption); refine (fq2.out _ (PRE4.out.ext hE1)).mono ?_; rintro e w' ⟨v2, y2, rfl, hx, hn2⟩))
    obtain ⟨j0, j1, j2, j3, j4, j5, j6, j7, hE1⟩ : _ ∧ _ ∧ _ ∧ _ ∧ _ ∧ _ ∧ _ ∧ _ ∧ Ext w4 _ := by assumption
    clear k0 k1 k2 k3 k4 k5 k6 k7 PRE4 j0 j1 j2 j3 j4 j5 j6 j7
    have E5 := E4.trans hE1
    have hip5 := hip3.ext hE1
    have hip6 := hip4.ext hE1
    clear hip3 hip4
    clear E4 hE1
    obtain ⟨pa, pcap, rfl⟩ := hip5.form
    have hpc : m ≤ pcap := by
      obtain ⟨a', cap', h0, h1, _⟩ := hip5.1
      simp only [Value.slice.injEq] at h0
      omega
    rw [lp] at hip5 ⊢
    have hpc' : (m : Int) ≤ (pcap : Int) := by omega
    have PP := Lib.hid (hip5.pre hmn)
    go_wp2_with fail
    refine (ints_same (ps.take m) (ps.take m) _ _ _ hip6 PP.out).mono ?_; rintro e w7 ⟨rfl, hx7⟩
    have E6 := E5.trans hx7
    clear E5
    go_wp2_with fail
    refine (first18 _ (hg.ext E6)).mono ?_; rintro e w8 ⟨rfl, hx8⟩
    go_wp2
    go_ret
    exact ⟨rfl, E6.trans hx8⟩

set_option maxHeartbeats 2000000 in
set_option maxRecDepth 20000 in
theorem cuts_SN (c : Cfg) (zs ps qs : List Int) (a : Option Addr) (n cap m : Nat) (t : Int) (w : World) (hg : EtIs w) (ha : Ints w (.slice a n cap) zs) (hlong : ¬ 5000 < n) (hcap : n ≤ cap) (hmn : m ≤ n) (ht : -9223372036854775808 ≤ t ∧ t ≤ 9223372036854775807)
    (htr : t < 0 ∧ Int.tmod (-(t + 1)) ((n : Int) + 1) = m ∨ 0 ≤ t ∧ Int.tmod t ((n : Int) + 1) = m)
    (pkp : List (ByteArray × Int) × Int) (anp : Option (List (ByteArray × Int) × Int)) (pt : List Int) (fp1 : Hid (∀ W, Ints W (.slice a n cap) zs → Calls Tryd.prog 16 #[.agg #[.int .i64 c.qmin, .int .i64 c.qmax, .int .i64 c.reach, .int .i64 c.cut, .int .i64 c.gop, .int .i64 c.rate, .int .i64 c.room, .int .i64 c.fill], .slice a n cap] W (AnsPost W (some pkp) ps))) (fp2 : Hid (∀ W, Ints W (.slice a m cap) (zs.take m) → Calls Tryd.prog 16 #[.agg #[.int .i64 c.qmin, .int .i64 c.qmax, .int .i64 c.reach, .int .i64 c.cut, .int .i64 c.gop, .int .i64 c.rate, .int .i64 c.room, .int .i64 c.fill], .slice a m cap] W (AnsPost W anp pt)))
    (fq1 : Hid (∀ W, Ints W (.slice a n cap) zs → Calls Tryd.prog 18 #[.agg #[.int .i64 c.qmin, .int .i64 c.qmax, .int .i64 c.reach, .int .i64 c.cut, .int .i64 c.gop, .int .i64 c.rate, .int .i64 c.room, .int .i64 c.fill], .slice a n cap] W (AnsPost W none qs))) (fq2 : Hid (∀ W, Ints W (.slice a m cap) (zs.take m) → Calls Tryd.prog 18 #[.agg #[.int .i64 c.qmin, .int .i64 c.qmax, .int .i64 c.reach, .int .i64 c.cut, .int .i64 c.gop, .int .i64 c.rate, .int .i64 c.room, .int .i64 c.fill], .slice a m cap] W (AnsPost W none (qs.take m)))) (lq : qs.length = n) :
    Calls Tryd.prog 6 #[.agg #[.int .i64 c.qmin, .int .i64 c.qmax, .int .i64 c.reach, .int .i64 c.cut, .int .i64 c.gop, .int .i64 c.rate, .int .i64 c.room, .int .i64 c.fill], .slice a n cap, .int .i64 t] w fun e w' => e = .returned (.bool true) ∧ Ext w w' := by
  have E1 : Ext w (w.alloc (.cells #[.int .i64 c.qmin, .int .i64 c.qmax, .int .i64 c.reach, .int .i64 c.cut, .int .i64 c.gop, .int .i64 c.rate, .int .i64 c.room, .int .i64 c.fill] 23)) := (Ext.refl w).alloc _
  have h0m : (0 : Int) ≤ (m : Int) := by omega
  have hmc : (m : Int) ≤ (cap : Int) := by omega
  have hmn' : (m : Int) ≤ (n : Int) := by omega
  have PRE := Lib.hid (ha.pre hmn)
  rcases htr with ⟨t0, hm⟩ | ⟨t0, hm⟩
  all_goals
    go_enter Tryd.func6, Tryd.ntmps6
    go_wp2_with fail
    refine (first18 _ (hg.ext E1)).mono ?_; rintro e w1 ⟨rfl, hx1⟩
    obtain ⟨c0, c1, c2, c3, c4, c5, c6, c7⟩ := (CfgAt.mk' w c).ext hx1
    go_wp2_with fail
    refine (fp1.out _ (ha.ext (E1.trans hx1))).mono ?_; rintro e w2 ⟨u, x, rfl, hx2, hmp⟩
    have k0 := hx2.cell c0
    have k1 := hx2.cell c1
    have k2 := hx2.cell c2
    have k3 := hx2.cell c3
    have k4 := hx2.cell c4
    have k5 := hx2.cell c5
    have k6 := hx2.cell c6
    have k7 := hx2.cell c7
    clear c0 c1 c2 c3 c4 c5 c6 c7
    have E2 := (E1.trans hx1).trans hx2
    clear hx1 hx2
    have PRE2 := Lib.hid (PRE.out.ext E2)
    obtain ⟨tx, vx, hne⟩ := hmp.2.ne_nil
    subst hne
    clear hmp
    go_wp2_with fail
    go_region_held3 (fun w' => w'.cell? ⟨w.heap.size, 0, none⟩ = some (.int .i64 c.qmin) ∧ w'.cell? ⟨w.heap.size, 1, none⟩ = some (.int .i64 c.qmax) ∧ w'.cell? ⟨w.heap.size, 2, none⟩ = some (.int .i64 c.reach) ∧ w'.cell? ⟨w.heap.size, 3, none⟩ = some (.int .i64 c.cut) ∧ w'.cell? ⟨w.heap.size, 4, none⟩ = some (.int .i64 c.gop) ∧ w'.cell? ⟨w.heap.size, 5, none⟩ = some (.int .i64 c.rate) ∧ w'.cell? ⟨w.heap.size, 6, none⟩ = some (.int .i64 c.room) ∧ w'.cell? ⟨w.heap.size, 7, none⟩ = some (.int .i64 c.fill) ∧ Ext w2 w')
      (first | assumption | (exact ⟨k0, k1, k2, k3, k4, k5, k6, k7, Ext.refl _⟩) | (exact ⟨k0, k1, k2, k3, k4, k5, k6, k7, (Ext.refl _).drew⟩) | (go_split_ands; exact ⟨hx.cell (by assumption), hx.cell (by assumption), hx.cell (by assumption), hx.cell (by assumption), hx.cell (by assumption), hx.cell (by assumption), hx.cell (by assumption), hx.cell (by assumption), Ext.trans (by assumption) hx⟩))
      ((go_at_call 16; obtain ⟨_, _, _, _, _, _, _, _, hE1⟩ : _ ∧ _ ∧ _ ∧ _ ∧ _ ∧ _ ∧ _ ∧ _ ∧ Ext w2 _ := (by assumption); refine (fp2.out _ (PRE2.out.ext hE1)).mono ?_; rintro e w' ⟨u2, x2, rfl, hx, hm2⟩))
    obtain ⟨j0, j1, j2, j3, j4, j5, j6, j7, hE1⟩ : _ ∧ _ ∧ _ ∧ _ ∧ _ ∧ _ ∧ _ ∧ _ ∧ Ext w2 _ := by assumption
    clear k0 k1 k2 k3 k4 k5 k6 k7 PRE2
    have E3 := E2.trans hE1
    clear hE1 E2
    go_wp2_with fail
    refine (fq1.out _ (ha.ext E3)).mono ?_; rintro e w4 ⟨v, y, rfl, hx4, hmq⟩
    have k0 := hx4.cell j0
    have k1 := hx4.cell j1
    have k2 := hx4.cell j2
    have k3 := hx4.cell j3
    have k4 := hx4.cell j4
    have k5 := hx4.cell j5
    have k6 := hx4.cell j6
    have k7 := hx4.cell j7
    clear j0 j1 j2 j3 j4 j5 j6 j7
    have E4 := E3.trans hx4
    clear hx4 E3
    have PRE4 := Lib.hid (PRE.out.ext E4)
    obtain ⟨hiq, rfl⟩ := hmq
    go_wp2_with fail
    go_region_held3 (fun w' => w'.cell? ⟨w.heap.size, 0, none⟩ = some (.int .i64 c.qmin) ∧ w'.cell? ⟨w.heap.size, 1, none⟩ = some (.int .i64 c.qmax) ∧ w'.cell? ⟨w.heap.size, 2, none⟩ = some (.int .i64 c.reach) ∧ w'.cell? ⟨w.heap.size, 3, none⟩ = some (.int .i64 c.cut) ∧ w'.cell? ⟨w.heap.size, 4, none⟩ = some (.int .i64 c.gop) ∧ w'.cell? ⟨w.heap.size, 5, none⟩ = some (.int .i64 c.rate) ∧ w'.cell? ⟨w.heap.size, 6, none⟩ = some (.int .i64 c.room) ∧ w'.cell? ⟨w.heap.size, 7, none⟩ = some (.int .i64 c.fill) ∧ Ext w4 w')
      (first | assumption | (exact ⟨k0, k1, k2, k3, k4, k5, k6, k7, Ext.refl _⟩) | (exact ⟨k0, k1, k2, k3, k4, k5, k6, k7, (Ext.refl _).drew⟩) | (go_split_ands; exact ⟨hx.cell (by assumption), hx.cell (by assumption), hx.cell (by assumption), hx.cell (by assumption), hx.cell (by assumption), hx.cell (by assumption), hx.cell (by assumption), hx.cell (by assumption), Ext.trans (by assumption) hx⟩))
      ((go_at_call 18; obtain ⟨_, _, _, _, _, _, _, _, hE1⟩ : _ ∧ _ ∧ _ ∧ _ ∧ _ ∧ _ ∧ _ ∧ _ ∧ Ext w4 _ := (by assumption); refine (fq2.out _ (PRE4.out.ext hE1)).mono ?_; rintro e w' ⟨v2, y2, rfl, hx, hn2⟩))
    obtain ⟨j0, j1, j2, j3, j4, j5, j6, j7, hE1⟩ : _ ∧ _ ∧ _ ∧ _ ∧ _ ∧ _ ∧ _ ∧ _ ∧ Ext w4 _ := by assumption
    clear k0 k1 k2 k3 k4 k5 k6 k7 PRE4 j0 j1 j2 j3 j4 j5 j6 j7
    have E5 := E4.trans hE1
    have hiq5 := hiq.ext hE1
    obtain ⟨hiq6, rfl⟩ := hn2
    clear hiq
    clear E4 hE1
    obtain ⟨qa, qcap, rfl⟩ := hiq5.form
    have hqc : m ≤ qcap := by
      obtain ⟨a', cap', h0, h1, _⟩ := hiq5.1
      simp only [Value.slice.injEq] at h0
      omega
    rw [lq] at hiq5 ⊢
    have hqc' : (m : Int) ≤ (qcap : Int) := by omega
    have QQ := Lib.hid (hiq5.pre hmn)
    have E6 := E5
    clear E5
    have hiq7 := hiq6
    have QQ7 := QQ
    clear hiq6 QQ
    go_wp2_with fail
    refine (first18 _ (hg.ext E6)).mono ?_; rintro e w8 ⟨rfl, hx8⟩
    go_wp2_with fail
    refine (ints_same (qs.take m) (qs.take m) _ _ _ (hiq7.ext hx8) (QQ7.out.ext hx8)).mono ?_; rintro e w9 ⟨rfl, hx9⟩
    go_wp2
    go_ret
    exact ⟨by simp, E6.trans (hx8.trans hx9)⟩

set_option maxHeartbeats 2000000 in
set_option maxRecDepth 20000 in
theorem cuts_SS (c : Cfg) (zs ps qs : List Int) (a : Option Addr) (n cap m : Nat) (t : Int) (w : World) (hg : EtIs w) (ha : Ints w (.slice a n cap) zs) (hlong : ¬ 5000 < n) (hcap : n ≤ cap) (hmn : m ≤ n) (ht : -9223372036854775808 ≤ t ∧ t ≤ 9223372036854775807)
    (htr : t < 0 ∧ Int.tmod (-(t + 1)) ((n : Int) + 1) = m ∨ 0 ≤ t ∧ Int.tmod t ((n : Int) + 1) = m)
    (pkp : List (ByteArray × Int) × Int) (anp : Option (List (ByteArray × Int) × Int)) (pt : List Int) (fp1 : Hid (∀ W, Ints W (.slice a n cap) zs → Calls Tryd.prog 16 #[.agg #[.int .i64 c.qmin, .int .i64 c.qmax, .int .i64 c.reach, .int .i64 c.cut, .int .i64 c.gop, .int .i64 c.rate, .int .i64 c.room, .int .i64 c.fill], .slice a n cap] W (AnsPost W (some pkp) ps))) (fp2 : Hid (∀ W, Ints W (.slice a m cap) (zs.take m) → Calls Tryd.prog 16 #[.agg #[.int .i64 c.qmin, .int .i64 c.qmax, .int .i64 c.reach, .int .i64 c.cut, .int .i64 c.gop, .int .i64 c.rate, .int .i64 c.room, .int .i64 c.fill], .slice a m cap] W (AnsPost W anp pt)))
    (pkq : List (ByteArray × Int) × Int) (anq : Option (List (ByteArray × Int) × Int)) (qt : List Int) (fq1 : Hid (∀ W, Ints W (.slice a n cap) zs → Calls Tryd.prog 18 #[.agg #[.int .i64 c.qmin, .int .i64 c.qmax, .int .i64 c.reach, .int .i64 c.cut, .int .i64 c.gop, .int .i64 c.rate, .int .i64 c.room, .int .i64 c.fill], .slice a n cap] W (AnsPost W (some pkq) qs))) (fq2 : Hid (∀ W, Ints W (.slice a m cap) (zs.take m) → Calls Tryd.prog 18 #[.agg #[.int .i64 c.qmin, .int .i64 c.qmax, .int .i64 c.reach, .int .i64 c.cut, .int .i64 c.gop, .int .i64 c.rate, .int .i64 c.room, .int .i64 c.fill], .slice a m cap] W (AnsPost W anq qt))) :
    Calls Tryd.prog 6 #[.agg #[.int .i64 c.qmin, .int .i64 c.qmax, .int .i64 c.reach, .int .i64 c.cut, .int .i64 c.gop, .int .i64 c.rate, .int .i64 c.room, .int .i64 c.fill], .slice a n cap, .int .i64 t] w fun e w' => e = .returned (.bool true) ∧ Ext w w' := by
  have E1 : Ext w (w.alloc (.cells #[.int .i64 c.qmin, .int .i64 c.qmax, .int .i64 c.reach, .int .i64 c.cut, .int .i64 c.gop, .int .i64 c.rate, .int .i64 c.room, .int .i64 c.fill] 23)) := (Ext.refl w).alloc _
  have h0m : (0 : Int) ≤ (m : Int) := by omega
  have hmc : (m : Int) ≤ (cap : Int) := by omega
  have hmn' : (m : Int) ≤ (n : Int) := by omega
  have PRE := Lib.hid (ha.pre hmn)
  rcases htr with ⟨t0, hm⟩ | ⟨t0, hm⟩
  all_goals
    go_enter Tryd.func6, Tryd.ntmps6
    go_wp2_with fail
    refine (first18 _ (hg.ext E1)).mono ?_; rintro e w1 ⟨rfl, hx1⟩
    obtain ⟨c0, c1, c2, c3, c4, c5, c6, c7⟩ := (CfgAt.mk' w c).ext hx1
    go_wp2_with fail
    refine (fp1.out _ (ha.ext (E1.trans hx1))).mono ?_; rintro e w2 ⟨u, x, rfl, hx2, hmp⟩
    have k0 := hx2.cell c0
    have k1 := hx2.cell c1
    have k2 := hx2.cell c2
    have k3 := hx2.cell c3
    have k4 := hx2.cell c4
    have k5 := hx2.cell c5
    have k6 := hx2.cell c6
    have k7 := hx2.cell c7
    clear c0 c1 c2 c3 c4 c5 c6 c7
    have E2 := (E1.trans hx1).trans hx2
    clear hx1 hx2
    have PRE2 := Lib.hid (PRE.out.ext E2)
    obtain ⟨tx, vx, hne⟩ := hmp.2.ne_nil
    subst hne
    clear hmp
    go_wp2_with fail
    go_region_held3 (fun w' => w'.cell? ⟨w.heap.size, 0, none⟩ = some (.int .i64 c.qmin) ∧ w'.cell? ⟨w.heap.size, 1, none⟩ = some (.int .i64 c.qmax) ∧ w'.cell? ⟨w.heap.size, 2, none⟩ = some (.int .i64 c.reach) ∧ w'.cell? ⟨w.heap.size, 3, none⟩ = some (.int .i64 c.cut) ∧ w'.cell? ⟨w.heap.size, 4, none⟩ = some (.int .i64 c.gop) ∧ w'.cell? ⟨w.heap.size, 5, none⟩ = some (.int .i64 c.rate) ∧ w'.cell? ⟨w.heap.size, 6, none⟩ = some (.int .i64 c.room) ∧ w'.cell? ⟨w.heap.size, 7, none⟩ = some (.int .i64 c.fill) ∧ Ext w2 w')
      (first | assumption | (exact ⟨k0, k1, k2, k3, k4, k5, k6, k7, Ext.refl _⟩) | (exact ⟨k0, k1, k2, k3, k4, k5, k6, k7, (Ext.refl _).drew⟩) | (go_split_ands; exact ⟨hx.cell (by assumption), hx.cell (by assumption), hx.cell (by assumption), hx.cell (by assumption), hx.cell (by assumption), hx.cell (by assumption), hx.cell (by assumption), hx.cell (by assumption), Ext.trans (by assumption) hx⟩))
      ((go_at_call 16; obtain ⟨_, _, _, _, _, _, _, _, hE1⟩ : _ ∧ _ ∧ _ ∧ _ ∧ _ ∧ _ ∧ _ ∧ _ ∧ Ext w2 _ := (by assumption); refine (fp2.out _ (PRE2.out.ext hE1)).mono ?_; rintro e w' ⟨u2, x2, rfl, hx, hm2⟩))
    obtain ⟨j0, j1, j2, j3, j4, j5, j6, j7, hE1⟩ : _ ∧ _ ∧ _ ∧ _ ∧ _ ∧ _ ∧ _ ∧ _ ∧ Ext w2 _ := by assumption
    clear k0 k1 k2 k3 k4 k5 k6 k7 PRE2
    have E3 := E2.trans hE1
    clear hE1 E2
    go_wp2_with fail
    refine (fq1.out _ (ha.ext E3)).mono ?_; rintro e w4 ⟨v, y, rfl, hx4, hmq⟩
    have k0 := hx4.cell j0
    have k1 := hx4.cell j1
    have k2 := hx4.cell j2
    have k3 := hx4.cell j3
    have k4 := hx4.cell j4
    have k5 := hx4.cell j5
    have k6 := hx4.cell j6
    have k7 := hx4.cell j7
    clear j0 j1 j2 j3 j4 j5 j6 j7
    have E4 := E3.trans hx4
    clear hx4 E3
    have PRE4 := Lib.hid (PRE.out.ext E4)
    obtain ⟨ty, vy, hne'⟩ := hmq.2.ne_nil
    subst hne'
    clear hmq
    go_wp2_with fail
    go_region_held3 (fun w' => w'.cell? ⟨w.heap.size, 0, none⟩ = some (.int .i64 c.qmin) ∧ w'.cell? ⟨w.heap.size, 1, none⟩ = some (.int .i64 c.qmax) ∧ w'.cell? ⟨w.heap.size, 2, none⟩ = some (.int .i64 c.reach) ∧ w'.cell? ⟨w.heap.size, 3, none⟩ = some (.int .i64 c.cut) ∧ w'.cell? ⟨w.heap.size, 4, none⟩ = some (.int .i64 c.gop) ∧ w'.cell? ⟨w.heap.size, 5, none⟩ = some (.int .i64 c.rate) ∧ w'.cell? ⟨w.heap.size, 6, none⟩ = some (.int .i64 c.room) ∧ w'.cell? ⟨w.heap.size, 7, none⟩ = some (.int .i64 c.fill) ∧ Ext w4 w')
      (first | assumption | (exact ⟨k0, k1, k2, k3, k4, k5, k6, k7, Ext.refl _⟩) | (exact ⟨k0, k1, k2, k3, k4, k5, k6, k7, (Ext.refl _).drew⟩) | (go_split_ands; exact ⟨hx.cell (by assumption), hx.cell (by assumption), hx.cell (by assumption), hx.cell (by assumption), hx.cell (by assumption), hx.cell (by assumption), hx.cell (by assumption), hx.cell (by assumption), Ext.trans (by assumption) hx⟩))
      ((go_at_call 18; obtain ⟨_, _, _, _, _, _, _, _, hE1⟩ : _ ∧ _ ∧ _ ∧ _ ∧ _ ∧ _ ∧ _ ∧ _ ∧ Ext w4 _ := (by assumption); refine (fq2.out _ (PRE4.out.ext hE1)).mono ?_; rintro e w' ⟨v2, y2, rfl, hx, hn2⟩))
    obtain ⟨j0, j1, j2, j3, j4, j5, j6, j7, hE1⟩ : _ ∧ _ ∧ _ ∧ _ ∧ _ ∧ _ ∧ _ ∧ _ ∧ Ext w4 _ := by assumption
    clear k0 k1 k2 k3 k4 k5 k6 k7 PRE4 j0 j1 j2 j3 j4 j5 j6 j7
    have E5 := E4.trans hE1
    clear E4 hE1
    have E6 := E5
    clear E5
    go_wp2_with fail
    refine (first18 _ (hg.ext E6)).mono ?_; rintro e w8 ⟨rfl, hx8⟩
    go_wp2
    go_ret
    exact ⟨rfl, E6.trans hx8⟩

theorem sizes_take {zs : List Int} (h : Sizes zs) (m : Nat) : Sizes (zs.take m) :=
  ⟨by have := h.1; simp only [List.length_take]; omega, fun x hx => h.2 x (List.mem_of_mem_take hx)⟩
theorem ans_take_play {c : Cfg} {zs : List Int} (h : ansOf c zs (playErr c.rate c.room c.fill zs 0) = none) (m : Nat) : ansOf c (zs.take m) (playErr c.rate c.room c.fill (zs.take m) 0) = none := by
  obtain ⟨g, s, e⟩ := ansOf_none h
  unfold ansOf
  rw [if_pos g, if_pos (sizes_take s m), playErr_take m e]
  rfl
theorem ans_take_fill {c : Cfg} {zs : List Int} (h : ansOf c zs (fillErr c.rate c.room c.fill zs 0) = none) (m : Nat) : ansOf c (zs.take m) (fillErr c.rate c.room c.fill (zs.take m) 0) = none := by
  obtain ⟨g, s, e⟩ := ansOf_none h
  unfold ansOf
  rw [if_pos g, if_pos (sizes_take s m), fillErr_take m e]
  rfl

set_option maxHeartbeats 2000000 in
set_option maxRecDepth 20000 in
theorem cuts_law (c : Cfg) (zs : List Int) (v : Value) (t : Int) (w : World) (hg : EtIs w) (hr : Row w v zs.length (zs.map (Value.int .i64))) (hl : zs.length ≤ 9223372036854775807) (ht : -9223372036854775808 ≤ t ∧ t ≤ 9223372036854775807) :
    Calls Tryd.prog 6 #[.agg #[.int .i64 c.qmin, .int .i64 c.qmax, .int .i64 c.reach, .int .i64 c.cut, .int .i64 c.gop, .int .i64 c.rate, .int .i64 c.room, .int .i64 c.fill], v, .int .i64 t] w fun e w' => e = .returned (.bool true) ∧ Ext w w' := by
  by_cases hlong : 5000 < zs.length
  · have E1 : Ext w (w.alloc (.cells #[.int .i64 c.qmin, .int .i64 c.qmax, .int .i64 c.reach, .int .i64 c.cut, .int .i64 c.gop, .int .i64 c.rate, .int .i64 c.room, .int .i64 c.fill] 23)) := (Ext.refl w).alloc _
    obtain ⟨a, cap, rfl⟩ := hr.form
    clear hr
    go_enter Tryd.func6, Tryd.ntmps6
    go_wp2_with fail
    refine (first18 _ (hg.ext E1)).mono ?_; rintro e w1 ⟨rfl, hx1⟩
    go_wp2_with fail
    refine (first18 _ (hg.ext (E1.trans hx1))).mono ?_; rintro e w2 ⟨rfl, hx2⟩
    go_wp2
    go_ret
    exact ⟨rfl, E1.trans (hx1.trans hx2)⟩
  · have ha : Ints w v zs := ⟨hr, by omega⟩
    clear hr hl
    obtain ⟨a, cap, rfl⟩ := ha.form
    have hcap : zs.length ≤ cap := by
      obtain ⟨a', cap', h0, h1, _⟩ := ha.1
      simp only [Value.slice.injEq] at h0
      omega
    obtain ⟨m, htr, hmn⟩ : ∃ m : Nat, (t < 0 ∧ Int.tmod (-(t + 1)) ((zs.length : Int) + 1) = m ∨ 0 ≤ t ∧ Int.tmod t ((zs.length : Int) + 1) = m) ∧ m ≤ zs.length := by
      by_cases t0 : t < 0
      · obtain ⟨m, h1, h2⟩ := tmod_nat zs.length (t := -(t + 1)) (by omega)
        exact ⟨m, Or.inl ⟨t0, h1⟩, h2⟩
      · obtain ⟨m, h1, h2⟩ := tmod_nat zs.length (t := t) (by omega)
        exact ⟨m, Or.inr ⟨by omega, h1⟩, h2⟩
    have p1 := fun W => play_all c zs (.slice a zs.length cap) W
    have p2 := fun W => play_all c (zs.take m) (.slice a m cap) W
    have q1 := fun W => fills_all c zs (.slice a zs.length cap) W
    have q2 := fun W => fills_all c (zs.take m) (.slice a m cap) W
    have lp := playOut_length c.rate c.fill zs
    have lq := fillOut_length c.rate c.room c.fill zs
    cases hA : ansOf c zs (playErr c.rate c.room c.fill zs 0) with
    | none =>
      rw [hA] at p1
      rw [ans_take_play hA, playOut_take] at p2
      cases hB : ansOf c zs (fillErr c.rate c.room c.fill zs 0) with
      | none =>
        rw [hB] at q1
        rw [ans_take_fill hB, fillOut_take] at q2
        exact cuts_NN c zs _ _ a zs.length cap m t w hg ha hlong hcap hmn ht htr (Lib.hid p1) (Lib.hid p2) lp (Lib.hid q1) (Lib.hid q2) lq
      | some k =>
        rw [hB] at q1
        exact cuts_NS c zs _ _ a zs.length cap m t w hg ha hlong hcap hmn ht htr (Lib.hid p1) (Lib.hid p2) lp _ _ _ (Lib.hid q1) (Lib.hid q2)
    | some k =>
      rw [hA] at p1
      cases hB : ansOf c zs (fillErr c.rate c.room c.fill zs 0) with
      | none =>
        rw [hB] at q1
        rw [ans_take_fill hB, fillOut_take] at q2
        exact cuts_SN c zs _ _ a zs.length cap m t w hg ha hlong hcap hmn ht htr _ _ _ (Lib.hid p1) (Lib.hid p2) (Lib.hid q1) (Lib.hid q2) lq
      | some k =>
        rw [hB] at q1
        exact cuts_SS c zs _ _ a zs.length cap m t w hg ha hlong hcap hmn ht htr _ _ _ (Lib.hid p1) (Lib.hid p2) _ _ _ (Lib.hid q1) (Lib.hid q2)
end Go.Proofs.YtoifpgeabfeelaaDoor
