/- kinlaw23.first. -/
import Derived.Test.YtlaedbglclmheaaGreatDoorGp9
import Derived.Test.YtlaedbglclmheaaGreatDoorGp7
import Derived.Test.YtlaedbglclmheaaGreatDoorZg
import Derived.Test.YtlaedbglclmheaaGreatDoorPln
import Derived.Test.YtlaedbglclmheaaGreatDoorZh
import Derived.Test.YtlaedbglclmheaaGreatDoorGsL
namespace Go.Proofs.YtlaedbglclmheaaGreatDoor
set_option linter.unusedVariables false
set_option linter.unusedSimpArgs false
open Go.RowKit Go.Extern.Stop Go.Stop Go.Extern

theorem tight_any (w : World) : Calls Tryz.prog 44 #[] w fun e w' => e = .returned (.agg #[.int .i64 0, .int .i64 3, .int .i64 0, .int .i64 0, .int .i64 4, .int .i64 8, .int .i64 8, .int .i64 8]) ∧ Ext w w' := by
  go_enter Tryz.func44, Tryz.ntmps44
  go_wp2
  exact bodyPost_ret (v := .agg #[.int .i64 0, .int .i64 3, .int .i64 0, .int .i64 0, .int .i64 4, .int .i64 8, .int .i64 8, .int .i64 8]) (by simp [results, Tryz.results44, go_sem]) rfl ⟨rfl, (Ext.refl w).alloc _⟩
theorem gps_nil : gpsV [] = (some ([(gopS, 0)], 1), ((0, 0, 0), [])) := by decide +kernel
theorem gmay_1 : gmayB 0 0 1 [(4, [])] = true := by decide +kernel
theorem row_cells {w : World} {b : Nat} {e : TypeId} {s g c : Nat} {xs : List Value} (h : w.ownsRow b e s (.slice (some ⟨g, 0, none⟩) 1 c) 1 xs) {j : Nat} {x : Value} (hj : xs[j]? = some x) : w.cell? ⟨g, j, none⟩ = some x := by
  have hc := h.cells (g := g) rfl j x hj
  have e2 : (⟨g, 0, none⟩ : Addr).add j = ⟨g, j, none⟩ := by unfold Addr.add; split <;> simp_all
  rw [e2] at hc
  exact hc
theorem cds_one {w : World} {b g c : Nat} (h : w.ownsRow b 61 2 (.slice (some ⟨g, 0, none⟩) 1 c) 1 [.int .i64 4, .slice none 0 0]) : Cds w (.slice (some ⟨g, 0, none⟩) 1 c) [(4, [])] ∧ CdsP w (.slice (some ⟨g, 0, none⟩) 1 c) :=
  ⟨cgs_own (Z := [((4, []), .slice none 0 0)]) h (fun z hz => by rw [List.mem_singleton.1 hz]; exact ⟨⟨_, _, _, rfl⟩, Row.nil w, fun x hx => (List.not_mem_nil hx).elim⟩), cgs_plain (Z := [((4, []), .slice none 0 0)]) h (fun z hz => by rw [List.mem_singleton.1 hz]; exact .inl rfl)⟩
set_option maxRecDepth 20000 in
set_option maxHeartbeats 8000000 in
theorem first23_any : Fst23 := by
  intro w hg hnb
  have HG := Lib.hid hg
  have HNB := Lib.hid hnb
  have HSM : Hid (∀ (q : Nat) (c : Cd), [((4 : Int), ([] : List Nat))][q]? = some c → c.2.length ≤ 1000000) := fun q c hq => by
    have := List.mem_of_getElem? hq
    rw [List.mem_singleton.1 this]
    exact Nat.zero_le _
  clear hg hnb
  have hgs : gopS = ⟨#[103, 111, 112]⟩ := rfl
  go_enter Tryz.func10, Tryz.ntmps10
  go_wp2_with fail
  refine (tight_any _).mono ?_; rintro e w1 ⟨rfl, hx1⟩
  go_wp2_with fail
  refine (plain23_any 7 _).mono ?_; rintro e w2 ⟨pa, pc, rfl, hx2, hp⟩
  have hp : Ints w2 (.slice pa 64 pc) (z8 7) := hp
  have BF := BoxIs.new w2 #[.int .i64 8, .int .i64 8, .slice pa 64 pc] 99
  have BC := BoxIs.new (w2.alloc (.cells #[.int .i64 8, .int .i64 8, .slice pa 64 pc] 99)) #[.int .i64 8] 3
  rw [show (w2.alloc (.cells #[.int .i64 8, .int .i64 8, .slice pa 64 pc] 99)).heap.size = w2.heap.size + 1 by simp] at BC
  have X3 := (Ext.refl (w2.alloc (.cells #[.int .i64 8, .int .i64 8, .slice pa 64 pc] 99))).alloc (.cells #[.int .i64 8] 3)
  have X2 := (Ext.refl w2).alloc (.cells #[.int .i64 8, .int .i64 8, .slice pa 64 pc] 99)
  have UE := Lib.hid (genc8_any (z8 7) pa pc _ _ _ (hp.ext (X2.trans X3)) (may8 (by decide)) (BF.ext X3) BC)
  have HE3 := Lib.hid ((hx1.trans hx2).trans (X2.trans X3))
  clear hx1 hx2 hp BF BC X3 X2
  go_wp2_with fail
  refine (UE.out).mono ?_; rintro e w4 ⟨g1, k1, g2, k2, na, nc, X, rfl, ho1, ho2, hox, hx4⟩
  have HE4 := Lib.hid (HE3.out.trans hx4)
  have HO1 := Lib.hid ho1
  have HO2 := Lib.hid ho2
  have HZ4 : Hid (Ints w4 (.slice (some ⟨na, 0, none⟩) 64 nc) (z8 128)) := Ints.of_owns (zs := z8 128) hox.get (by unfold z8; rw [rowL_length]; decide)
  have UP := Lib.hid (fun W (k : Ext w W) => gparse_any [] (.slice none 0 0) W (HNB.out.ext k) (Bys.nil W) (by decide))
  rw [gps_nil] at UP
  clear ho1 ho2 hox hx4 HE3 UE
  go_wp2_with fail
  refine (UP.out _ HE4.out).mono ?_; rintro e w5 ⟨v5, x2, rfl, ⟨hc5, -⟩, he5, hx5⟩
  obtain ⟨a5, c5, rfl⟩ := hc5.form
  have X6 := hx5.alloc (.cells #[.int .i64 0, .int .i64 0, .int .i64 0, .slice a5 0 c5] 26)
  have HE6 := Lib.hid (HE4.out.trans X6)
  have HX26 := Lib.hid (he5.ext ((Ext.refl w5).alloc (.cells #[.int .i64 0, .int .i64 0, .int .i64 0, .slice a5 0 c5] 26)))
  have HO16 := Lib.hid (own_extl HO1.out X6)
  have HO26 := Lib.hid (own_extl HO2.out X6)
  have HZ6 := Lib.hid (HZ4.out.ext X6)
  obtain ⟨cd6, cp6⟩ := cds_one HO16.out
  have UK := Lib.hid (gpack_any 0 0 1 [(4, [])] _ _ (HNB.out.ext HE6.out) cd6 cp6 HSM)
  have hV : gpkF 0 0 1 [(4, [])] = none := by unfold gpkF; rw [gmay_1]; rfl
  have hV2 : gpkV 0 0 1 [(4, [])] = outM (umsG 0 0 1 [(4, [])]) := by unfold gpkV; rw [gmay_1]; rfl
  rw [hV, hV2] at UK
  clear hc5 he5 hx5 X6 HO1 HO2 HZ4 cd6 cp6 UP hV hV2 HE4
  go_wp2_with fail
  refine (UK.out).mono ?_; rintro e w7 ⟨u7, x7, rfl, ho7, hx7, hk7⟩
  obtain rfl : x7 = .nilIface := hx7
  have hb4 : ∀ a ∈ [((4 : Int), ([] : List Nat))], ∀ x ∈ a.2, x < 256 := fun a ha => by rw [List.mem_singleton.1 ha]; exact fun x hx => (List.not_mem_nil hx).elim
  have hl7 : (outM (umsG 0 0 1 [(4, [])])).length = 19 := by decide +kernel
  have hby := Bys.of_owns ho7 (out_lt (umsG_ok gmay_1 hb4)) (by rw [hl7]; decide)
  have HE7 := Lib.hid (HE6.out.trans hk7)
  have UQ := Lib.hid (gparse_any _ u7 w7 (HNB.out.ext HE7.out) hby (by rw [hl7]; decide))
  rw [gps_back gmay_1 hb4] at UQ
  have HX7 := Lib.hid (HX26.out.ext hk7)
  have HO17 := Lib.hid (own_extl HO16.out hk7)
  have HO27 := Lib.hid (own_extl HO26.out hk7)
  have HZ7 := Lib.hid (HZ6.out.ext hk7)
  clear ho7 hk7 hby hl7 hb4 HX26 HO16 HO26 HZ6 HE6 UK
  go_wp2_with fail
  refine (UQ.out).mono ?_; rintro e w8 ⟨v8, x8, rfl, ⟨hc8, -⟩, he8, hk8⟩
  obtain rfl : x8 = .nilIface := he8
  obtain ⟨ca, cc, rfl⟩ := hc8.form
  have B8 := BoxIs.new w8 #[.int .i64 0, .int .i64 0, .int .i64 1, .slice ca 1 cc] 26
  have X9 := hk8.alloc (.cells #[.int .i64 0, .int .i64 0, .int .i64 1, .slice ca 1 cc] 26)
  have HXR0 := HE7.out.trans X9
  have HX29 := HX7.out.ext X9
  have HO19 := own_extl HO17.out X9
  have HO29 := own_extl HO27.out X9
  have HZ9 := HZ7.out.ext X9
  obtain ⟨P8, hP8⟩ : ∃ z, w8.heap.size = z := ⟨_, rfl⟩
  obtain ⟨wr, hwr⟩ : ∃ z, w8.alloc (.cells #[.int .i64 0, .int .i64 0, .int .i64 1, .slice ca 1 cc] 26) = z := ⟨_, rfl⟩
  rw [hwr] at B8 HXR0 HX29 HO19 HO29 HZ9
  rw [hP8] at B8
  have HXR := Lib.hid HXR0
  have HX2 := Lib.hid HX29
  have HZ := Lib.hid HZ9
  obtain ⟨cd9, -⟩ := cds_one HO19
  have HCD := Lib.hid cd9
  have e0 := row_cells HO19 (j := 0) (x := .int .i64 4) rfl
  have b0 := row_cells HO29 (j := 0) (x := .int .i64 8) rfl
  have b1 := row_cells HO29 (j := 1) (x := .int .i64 8) rfl
  have b2 := row_cells HO29 (j := 2) (x := .slice (some ⟨na, 0, none⟩) 64 nc) rfl
  have q3 := B8.cell (i := 3) (v := .slice ca 1 cc) rfl
  have KS : Hid (∀ w', Ext wr w' → (fun w' : World => w'.cell? ⟨g1, 0, none⟩ = some (.int .i64 4) ∧ (w'.cell? ⟨g2, 0, none⟩ = some (.int .i64 8) ∧ w'.cell? ⟨g2, 1, none⟩ = some (.int .i64 8) ∧ w'.cell? ⟨g2, 2, none⟩ = some (.slice (some ⟨na, 0, none⟩) 64 nc)) ∧ w'.cell? ⟨P8, 3, none⟩ = some (.slice ca 1 cc)) w') := fun w' x => ⟨x.cell e0, ⟨x.cell b0, x.cell b1, x.cell b2⟩, x.cell q3⟩
  have HWR := Lib.hid hwr
  have HP8 := Lib.hid hP8
  clear e0 b0 b1 b2 q3 B8 X9 HXR0 HX29 HO19 HO29 HZ9 cd9 hwr hP8 hc8 hk8 HX7 HO17 HO27 HZ7 HE7 UQ
  go_wp2_with fail
  rw [HWR.out, HP8.out]
  go_wp2_with fail
  refine wp_region_held_drew (S := (fun w' : World => w'.cell? ⟨g1, 0, none⟩ = some (.int .i64 4) ∧ (w'.cell? ⟨g2, 0, none⟩ = some (.int .i64 8) ∧ w'.cell? ⟨g2, 1, none⟩ = some (.int .i64 8) ∧ w'.cell? ⟨g2, 2, none⟩ = some (.slice (some ⟨na, 0, none⟩) 64 nc)) ∧ w'.cell? ⟨P8, 3, none⟩ = some (.slice ca 1 cc))) (by kernel_rfl) (KS.out _ (Ext.refl _).drew) (fun hHeld => ?_)
  have E := (Ext.refl wr).drew
  obtain ⟨v0, hv⟩ : ∃ z, wr.drew = z := ⟨_, rfl⟩
  rw [hv] at E hHeld ⊢
  clear hv
  refine tkM 0 ?_
  try simp only [List.getElem_toArray, List.getElem_cons_zero, List.getElem_cons_succ, pA, pB, pC, pD]
  refine tkM 1 ?_
  try simp only [List.getElem_toArray, List.getElem_cons_zero, List.getElem_cons_succ, pA, pB, pC, pD]
  refine tkM 2 ?_
  try simp only [List.getElem_toArray, List.getElem_cons_zero, List.getElem_cons_succ, pA, pB, pC, pD]
  refine tkM 3 ?_
  try simp only [List.getElem_toArray, List.getElem_cons_zero, List.getElem_cons_succ, pA, pB, pC, pD]
  refine tkM 4 ?_
  try simp only [List.getElem_toArray, List.getElem_cons_zero, List.getElem_cons_succ, pA, pB, pC, pD]
  refine tkM 5 ?_
  try simp only [List.getElem_toArray, List.getElem_cons_zero, List.getElem_cons_succ, pA, pB, pC, pD]
  refine tkM 6 ?_
  try simp only [List.getElem_toArray, List.getElem_cons_zero, List.getElem_cons_succ, pA, pB, pC, pD]
  refine tkM 7 ?_
  try simp only [List.getElem_toArray, List.getElem_cons_zero, List.getElem_cons_succ, pA, pB, pC, pD]
  refine tkM 8 ?_
  try simp only [List.getElem_toArray, List.getElem_cons_zero, List.getElem_cons_succ, pA, pB, pC, pD]
  refine tkM 9 ?_
  try simp only [List.getElem_toArray, List.getElem_cons_zero, List.getElem_cons_succ, pA, pB, pC, pD]
  refine tkM 10 ?_
  try simp only [List.getElem_toArray, List.getElem_cons_zero, List.getElem_cons_succ, pA, pB, pC, pD]
  refine tkM 11 ?_
  try simp only [List.getElem_toArray, List.getElem_cons_zero, List.getElem_cons_succ, pA, pB, pC, pD]
  refine tkM 12 ?_
  try simp only [List.getElem_toArray, List.getElem_cons_zero, List.getElem_cons_succ, pA, pB, pC, pD]
  refine tkM 13 ?_
  try simp only [List.getElem_toArray, List.getElem_cons_zero, List.getElem_cons_succ, pA, pB, pC, pD]
  refine tkM 14 ?_
  try simp only [List.getElem_toArray, List.getElem_cons_zero, List.getElem_cons_succ, pA, pB, pC, pD]
  refine tkM 15 ?_
  try simp only [List.getElem_toArray, List.getElem_cons_zero, List.getElem_cons_succ, pA, pB, pC, pD]
  refine tkM 16 ?_
  try simp only [List.getElem_toArray, List.getElem_cons_zero, List.getElem_cons_succ, pA, pB, pC, pD]
  refine tkM 17 ?_
  try simp only [List.getElem_toArray, List.getElem_cons_zero, List.getElem_cons_succ, pA, pB, pC, pD]
  refine tkM 18 ?_
  try simp only [List.getElem_toArray, List.getElem_cons_zero, List.getElem_cons_succ, pA, pB, pC, pD]
  refine tkM 19 ?_
  try simp only [List.getElem_toArray, List.getElem_cons_zero, List.getElem_cons_succ, pA, pB, pC, pD]
  refine tkM 20 ?_
  try simp only [List.getElem_toArray, List.getElem_cons_zero, List.getElem_cons_succ, pA, pB, pC, pD]
  refine tkM 21 ?_
  try simp only [List.getElem_toArray, List.getElem_cons_zero, List.getElem_cons_succ, pA, pB, pC, pD]
  refine tkM 22 ?_
  try simp only [List.getElem_toArray, List.getElem_cons_zero, List.getElem_cons_succ, pA, pB, pC, pD]
  refine wpAnyH_ready (rs := [23]) (by kernel_rfl) (by simp) ?_
  refine AllReadyH.cons (o := _) rfl (fun K hK => ?_) AllReadyH.nil
  go_simp
  go_at_call 45
  refine (plain23_any 128 v0).mono ?_; rintro e v1 ⟨pa, pc, rfl, X1, HI⟩
  refine hK.out _ _ (KS.out _ (E.trans X1)) (fun hHeld => ?_)
  clear hK K
  try simp only [List.getElem_toArray, List.getElem_cons_zero, List.getElem_cons_succ, pA, pB, pC, pD]
  have E := E.trans X1; clear X1
  refine wpAnyH_ready (rs := [24]) (by kernel_rfl) (by simp) ?_
  refine AllReadyH.cons (o := _) rfl (fun K hK => ?_) AllReadyH.nil
  go_simp
  go_at_call 46
  refine (frame_same 8 8 (z8 128) (some ⟨na, 0, none⟩) pa 64 64 nc pc v1 (HZ.out.ext E) HI).mono ?_; rintro e v2 ⟨rfl, X1⟩
  refine hK.out _ _ (KS.out _ (E.trans X1)) (fun hHeld => ?_)
  clear hK K
  try simp only [List.getElem_toArray, List.getElem_cons_zero, List.getElem_cons_succ, pA, pB, pC, pD]
  have HI := HI.ext X1
  have E := E.trans X1; clear X1
  refine tkM 25 ?_
  try simp only [List.getElem_toArray, List.getElem_cons_zero, List.getElem_cons_succ, pA, pB, pC, pD]
  refine tkM 26 ?_
  try simp only [List.getElem_toArray, List.getElem_cons_zero, List.getElem_cons_succ, pA, pB, pC, pD]
  refine tkM 27 ?_
  try simp only [List.getElem_toArray, List.getElem_cons_zero, List.getElem_cons_succ, pA, pB, pC, pD]
  refine wpAnyH_ready (rs := [28]) (by kernel_rfl) (by simp) ?_
  refine AllReadyH.cons (o := _) rfl (fun K hK => ?_) AllReadyH.nil
  go_simp
  go_at_call 47
  refine (wrap_any gopS 0 1 v2 (by decide)).mono ?_; rintro e v3 ⟨ku, rfl, ho, X1⟩
  refine hK.out _ _ (KS.out _ (E.trans X1)) (fun hHeld => ?_)
  clear hK K
  try simp only [List.getElem_toArray, List.getElem_cons_zero, List.getElem_cons_succ, pA, pB, pC, pD]
  have HI := HI.ext X1
  have E := E.trans X1; clear X1
  have HR : RErrIs _ (some ([(gopS, 0)], 1)) 1 ku := ⟨rfl, by decide, Row.of_owns ho⟩
  clear ho
  refine wpAnyH_ready (rs := [29]) (by kernel_rfl) (by simp) ?_
  refine AllReadyH.cons (o := _) rfl (fun K hK => ?_) AllReadyH.nil
  go_simp
  go_at_call 19
  refine (same_fall (some ([(gopS, 0)], 1)) x2 ku 1 v3 (HG.out.ext (HXR.out.trans E)) (HX2.out.ext E) HR).mono ?_; rintro e v4 ⟨rfl, X1⟩
  refine hK.out _ _ (KS.out _ (E.trans X1)) (fun hHeld => ?_)
  clear hK K
  try simp only [List.getElem_toArray, List.getElem_cons_zero, List.getElem_cons_succ, pA, pB, pC, pD]
  have HI := HI.ext X1
  have HR := HR.ext X1
  have E := E.trans X1; clear X1
  refine tkM 30 ?_
  try simp only [List.getElem_toArray, List.getElem_cons_zero, List.getElem_cons_succ, pA, pB, pC, pD]
  refine tkM 31 ?_
  try simp only [List.getElem_toArray, List.getElem_cons_zero, List.getElem_cons_succ, pA, pB, pC, pD]
  refine tkM 32 ?_
  try simp only [List.getElem_toArray, List.getElem_cons_zero, List.getElem_cons_succ, pA, pB, pC, pD]
  refine tkM 33 ?_
  try simp only [List.getElem_toArray, List.getElem_cons_zero, List.getElem_cons_succ, pA, pB, pC, pD]
  refine tkM 34 ?_
  try simp only [List.getElem_toArray, List.getElem_cons_zero, List.getElem_cons_succ, pA, pB, pC, pD]
  refine tkM 35 ?_
  try simp only [List.getElem_toArray, List.getElem_cons_zero, List.getElem_cons_succ, pA, pB, pC, pD]
  refine tkM 36 ?_
  try simp only [List.getElem_toArray, List.getElem_cons_zero, List.getElem_cons_succ, pA, pB, pC, pD]
  refine tkM 37 ?_
  try simp only [List.getElem_toArray, List.getElem_cons_zero, List.getElem_cons_succ, pA, pB, pC, pD]
  refine tkM 38 ?_
  try simp only [List.getElem_toArray, List.getElem_cons_zero, List.getElem_cons_succ, pA, pB, pC, pD]
  refine tkM 39 ?_
  try simp only [List.getElem_toArray, List.getElem_cons_zero, List.getElem_cons_succ, pA, pB, pC, pD]
  refine tkM 40 ?_
  try simp only [List.getElem_toArray, List.getElem_cons_zero, List.getElem_cons_succ, pA, pB, pC, pD]
  refine tkM 41 ?_
  try simp only [List.getElem_toArray, List.getElem_cons_zero, List.getElem_cons_succ, pA, pB, pC, pD]
  refine tkM 42 ?_
  try simp only [List.getElem_toArray, List.getElem_cons_zero, List.getElem_cons_succ, pA, pB, pC, pD]
  refine tkM 43 ?_
  try simp only [List.getElem_toArray, List.getElem_cons_zero, List.getElem_cons_succ, pA, pB, pC, pD]
  refine tkM 44 ?_
  try simp only [List.getElem_toArray, List.getElem_cons_zero, List.getElem_cons_succ, pA, pB, pC, pD]
  refine tkM 45 ?_
  try simp only [List.getElem_toArray, List.getElem_cons_zero, List.getElem_cons_succ, pA, pB, pC, pD]
  refine tkM 46 ?_
  try simp only [List.getElem_toArray, List.getElem_cons_zero, List.getElem_cons_succ, pA, pB, pC, pD]
  refine wpAnyH_ready (rs := [47, 48]) (by kernel_rfl) (by simp) ?_
  refine AllReadyH.cons (o := _) rfl (fun K hK => ?_) (AllReadyH.cons (o := _) rfl (fun K hK => ?_) AllReadyH.nil)
  · skip
    go_simp
    go_at_call 22
    refine (gsizes_any [(4, [])] _ v4 (HCD.out.ext E) (by decide) HSM.out).mono ?_; rintro e v5 ⟨su, rfl, ho, X1⟩
    refine hK.out _ _ (KS.out _ (E.trans X1)) (fun hHeld => ?_)
    clear hK K
    try simp only [List.getElem_toArray, List.getElem_cons_zero, List.getElem_cons_succ, pA, pB, pC, pD]
    have HI := HI.ext X1
    have HR := HR.ext X1
    have E := E.trans X1; clear X1
    have HS8 : Ints _ su [8] := Ints.of_owns (zs := [8]) ho (by decide)
    clear ho
    refine wpAnyH_ready (rs := [48]) (by kernel_rfl) (by simp) ?_
    refine AllReadyH.cons (o := _) rfl (fun K hK => ?_) AllReadyH.nil
    go_simp
    have X1 := (Ext.refl v5).alloc (.cells #[.int .i64 8] 3)
    have HL8 := Ints.liti v5 [8] (by simp)
    refine hK.out _ _ (KS.out _ (E.trans X1)) (fun hHeld => ?_)
    clear hK K
    try simp only [List.getElem_toArray, List.getElem_cons_zero, List.getElem_cons_succ, pA, pB, pC, pD]
    have HL8 : Ints (v5.alloc (.cells #[.int .i64 8] 3)) (.slice (some ⟨v5.heap.size, 0, none⟩) 1 1) [8] := HL8
    have HI := HI.ext X1
    have HR := HR.ext X1
    have HS8 := HS8.ext X1
    have E := E.trans X1; clear X1
    obtain ⟨M8, hB⟩ : ∃ z, v5.heap.size = z := ⟨_, rfl⟩
    obtain ⟨v6, hv⟩ : ∃ z, v5.alloc (.cells #[.int .i64 8] 3) = z := ⟨_, rfl⟩
    rw [hv] at E hHeld HL8 HI HR HS8 ⊢
    rw [hB] at HL8 ⊢
    clear hv hB
    refine wpAnyH_ready (rs := [49]) (by kernel_rfl) (by simp) ?_
    refine AllReadyH.cons (o := _) rfl (fun K hK => ?_) AllReadyH.nil
    go_simp
    go_at_call 21
    refine (ints_same [8] [8] _ _ v6 HS8 HL8).mono ?_; rintro e v7 ⟨rfl, X1⟩
    refine hK.out _ _ (KS.out _ (E.trans X1)) (fun hHeld => ?_)
    clear hK K
    try simp only [List.getElem_toArray, List.getElem_cons_zero, List.getElem_cons_succ, pA, pB, pC, pD]
    have HI := HI.ext X1
    have HR := HR.ext X1
    have HS8 := HS8.ext X1
    have HL8 := HL8.ext X1
    have E := E.trans X1; clear X1
    refine tkM 50 ?_
    try simp only [List.getElem_toArray, List.getElem_cons_zero, List.getElem_cons_succ, pA, pB, pC, pD]
    refine tkM 51 (oi := { dst := some 0, op := Op.assign (Operand.tmp 85), type := 4, pos := "law.go:37", after := #[{ on := 50, ground := Ground.data }, { on := 49, ground := Ground.chain }, { on := 0, ground := Ground.phase }, { on := 1, ground := Ground.phase }, { on := 2, ground := Ground.phase }, { on := 3, ground := Ground.phase }, { on := 4, ground := Ground.phase }, { on := 5, ground := Ground.phase }, { on := 6, ground := Ground.phase }, { on := 7, ground := Ground.phase }, { on := 8, ground := Ground.phase }, { on := 9, ground := Ground.phase }, { on := 10, ground := Ground.phase }, { on := 11, ground := Ground.phase }, { on := 12, ground := Ground.phase }, { on := 13, ground := Ground.phase }, { on := 14, ground := Ground.phase }, { on := 15, ground := Ground.phase }, { on := 16, ground := Ground.phase }, { on := 17, ground := Ground.phase }, { on := 18, ground := Ground.phase }, { on := 19, ground := Ground.phase }, { on := 20, ground := Ground.phase }, { on := 21, ground := Ground.phase }, { on := 22, ground := Ground.phase }, { on := 23, ground := Ground.phase }, { on := 24, ground := Ground.phase }, { on := 25, ground := Ground.phase }, { on := 26, ground := Ground.phase }, { on := 27, ground := Ground.phase }, { on := 28, ground := Ground.phase }, { on := 29, ground := Ground.phase }, { on := 30, ground := Ground.phase }, { on := 31, ground := Ground.phase }, { on := 32, ground := Ground.phase }, { on := 33, ground := Ground.phase }, { on := 34, ground := Ground.phase }, { on := 35, ground := Ground.phase }, { on := 36, ground := Ground.phase }, { on := 37, ground := Ground.phase }, { on := 38, ground := Ground.phase }, { on := 39, ground := Ground.phase }, { on := 40, ground := Ground.phase }, { on := 41, ground := Ground.phase }, { on := 42, ground := Ground.phase }, { on := 43, ground := Ground.phase }, { on := 44, ground := Ground.phase }, { on := 45, ground := Ground.phase }, { on := 46, ground := Ground.phase }, { on := 47, ground := Ground.phase }, { on := 48, ground := Ground.phase }, { on := 49, ground := Ground.phase }, { on := 50, ground := Ground.phase }], guard := none }) ?_
    try simp only [List.getElem_toArray, List.getElem_cons_zero, List.getElem_cons_succ, pA, pB, pC, pD]
    refine wpAnyH_done (by kernel_rfl) ?_ _
    have HE := Lib.hid (HXR.out.trans E)
    clear E hHeld KS HI HR HS8 HL8
    go_wp2
    go_ret
    exact ⟨by simp, HE.out⟩
  · skip
    go_simp
    have X1 := (Ext.refl v4).alloc (.cells #[.int .i64 8] 3)
    have HL8 := Ints.liti v4 [8] (by simp)
    refine hK.out _ _ (KS.out _ (E.trans X1)) (fun hHeld => ?_)
    clear hK K
    try simp only [List.getElem_toArray, List.getElem_cons_zero, List.getElem_cons_succ, pA, pB, pC, pD]
    have HL8 : Ints (v4.alloc (.cells #[.int .i64 8] 3)) (.slice (some ⟨v4.heap.size, 0, none⟩) 1 1) [8] := HL8
    have HI := HI.ext X1
    have HR := HR.ext X1
    have E := E.trans X1; clear X1
    obtain ⟨M8, hB⟩ : ∃ z, v4.heap.size = z := ⟨_, rfl⟩
    obtain ⟨v8, hv⟩ : ∃ z, v4.alloc (.cells #[.int .i64 8] 3) = z := ⟨_, rfl⟩
    rw [hv] at E hHeld HL8 HI HR ⊢
    rw [hB] at HL8 ⊢
    clear hv hB
    refine wpAnyH_ready (rs := [47]) (by kernel_rfl) (by simp) ?_
    refine AllReadyH.cons (o := _) rfl (fun K hK => ?_) AllReadyH.nil
    go_simp
    go_at_call 22
    refine (gsizes_any [(4, [])] _ v8 (HCD.out.ext E) (by decide) HSM.out).mono ?_; rintro e v9 ⟨su, rfl, ho, X1⟩
    refine hK.out _ _ (KS.out _ (E.trans X1)) (fun hHeld => ?_)
    clear hK K
    try simp only [List.getElem_toArray, List.getElem_cons_zero, List.getElem_cons_succ, pA, pB, pC, pD]
    have HI := HI.ext X1
    have HR := HR.ext X1
    have HL8 := HL8.ext X1
    have E := E.trans X1; clear X1
    have HS8 : Ints _ su [8] := Ints.of_owns (zs := [8]) ho (by decide)
    clear ho
    refine wpAnyH_ready (rs := [49]) (by kernel_rfl) (by simp) ?_
    refine AllReadyH.cons (o := _) rfl (fun K hK => ?_) AllReadyH.nil
    go_simp
    go_at_call 21
    refine (ints_same [8] [8] _ _ v9 HS8 HL8).mono ?_; rintro e v10 ⟨rfl, X1⟩
    refine hK.out _ _ (KS.out _ (E.trans X1)) (fun hHeld => ?_)
    clear hK K
    try simp only [List.getElem_toArray, List.getElem_cons_zero, List.getElem_cons_succ, pA, pB, pC, pD]
    have HI := HI.ext X1
    have HR := HR.ext X1
    have HL8 := HL8.ext X1
    have HS8 := HS8.ext X1
    have E := E.trans X1; clear X1
    refine tkM 50 ?_
    try simp only [List.getElem_toArray, List.getElem_cons_zero, List.getElem_cons_succ, pA, pB, pC, pD]
    refine tkM 51 (oi := { dst := some 0, op := Op.assign (Operand.tmp 85), type := 4, pos := "law.go:37", after := #[{ on := 50, ground := Ground.data }, { on := 49, ground := Ground.chain }, { on := 0, ground := Ground.phase }, { on := 1, ground := Ground.phase }, { on := 2, ground := Ground.phase }, { on := 3, ground := Ground.phase }, { on := 4, ground := Ground.phase }, { on := 5, ground := Ground.phase }, { on := 6, ground := Ground.phase }, { on := 7, ground := Ground.phase }, { on := 8, ground := Ground.phase }, { on := 9, ground := Ground.phase }, { on := 10, ground := Ground.phase }, { on := 11, ground := Ground.phase }, { on := 12, ground := Ground.phase }, { on := 13, ground := Ground.phase }, { on := 14, ground := Ground.phase }, { on := 15, ground := Ground.phase }, { on := 16, ground := Ground.phase }, { on := 17, ground := Ground.phase }, { on := 18, ground := Ground.phase }, { on := 19, ground := Ground.phase }, { on := 20, ground := Ground.phase }, { on := 21, ground := Ground.phase }, { on := 22, ground := Ground.phase }, { on := 23, ground := Ground.phase }, { on := 24, ground := Ground.phase }, { on := 25, ground := Ground.phase }, { on := 26, ground := Ground.phase }, { on := 27, ground := Ground.phase }, { on := 28, ground := Ground.phase }, { on := 29, ground := Ground.phase }, { on := 30, ground := Ground.phase }, { on := 31, ground := Ground.phase }, { on := 32, ground := Ground.phase }, { on := 33, ground := Ground.phase }, { on := 34, ground := Ground.phase }, { on := 35, ground := Ground.phase }, { on := 36, ground := Ground.phase }, { on := 37, ground := Ground.phase }, { on := 38, ground := Ground.phase }, { on := 39, ground := Ground.phase }, { on := 40, ground := Ground.phase }, { on := 41, ground := Ground.phase }, { on := 42, ground := Ground.phase }, { on := 43, ground := Ground.phase }, { on := 44, ground := Ground.phase }, { on := 45, ground := Ground.phase }, { on := 46, ground := Ground.phase }, { on := 47, ground := Ground.phase }, { on := 48, ground := Ground.phase }, { on := 49, ground := Ground.phase }, { on := 50, ground := Ground.phase }], guard := none }) ?_
    try simp only [List.getElem_toArray, List.getElem_cons_zero, List.getElem_cons_succ, pA, pB, pC, pD]
    refine wpAnyH_done (by kernel_rfl) ?_ _
    have HE := Lib.hid (HXR.out.trans E)
    clear E hHeld KS HI HR HL8 HS8
    go_wp2
    go_ret
    exact ⟨by simp, HE.out⟩
end Go.Proofs.YtlaedbglclmheaaGreatDoor
