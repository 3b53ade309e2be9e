/- GopSums: the walk. -/
import Derived.Test.YtlaedbglclmheaaGreatDoorGsM
import Derived.Deep.RegionLaw
import Derived.Deep.RegionHeld3
namespace Go.Proofs.YtlaedbglclmheaaGreatDoor
set_option linter.unusedVariables false
set_option linter.unusedSimpArgs false
open Go.RowKit Go.Extern.Stop Go.Stop Go.Extern

/-- the chapter's examples -/
def Fst23 : Prop := ∀ W, EtIs W → NbIs W → Calls Tryz.prog 10 #[] W fun e w' => e = .returned (.bool true) ∧ Ext W w'
set_option maxRecDepth 20000 in
set_option maxHeartbeats 8000000 in
theorem gsums_law (hfi : Fst23) (n f c : Int) (v : Value) (L : List Cd) (w : World) (hg : EtIs w) (hnb : NbIs w) (h : Cds w v L) (hp : CdsP w v) :
    Calls Tryz.prog 6 #[.agg #[.int .i64 n, .int .i64 f, .int .i64 c, v]] w fun e w' => e = .returned (.bool true) ∧ Ext w w' := by
  obtain ⟨a, cap, rfl⟩ := h.form
  obtain ⟨m, hm⟩ : ∃ m, m = L.length := ⟨_, rfl⟩
  have HM := Lib.hid hm
  rw [← hm] at h hp ⊢
  have HC := Lib.hid h
  have HP := Lib.hid hp
  have AG := Lib.hid h.had
  have X1 := (Ext.refl w).alloc (.cells #[.int .i64 n, .int .i64 f, .int .i64 c, .slice a m cap] 26)
  have B1 := BoxIs.new w #[.int .i64 n, .int .i64 f, .int .i64 c, .slice a m cap] 26
  have HX1 := Lib.hid X1
  have HB1 := Lib.hid B1
  have FI := Lib.hid (fun W (k : Ext w W) => hfi W (hg.ext k) (hnb.ext k))
  have HNB := Lib.hid hnb
  clear hm h hp X1 B1 hg hnb
  go_enter Tryz.func6, Tryz.ntmps6
  go_wp2_with fail
  refine (FI.out _ HX1.out).mono ?_; rintro e w1 ⟨rfl, hx1⟩
  have HE1 := Lib.hid (HX1.out.trans hx1)
  have b3 := (HB1.out.ext hx1).cell (i := 3) (v := .slice a m cap) rfl
  have HB2 := Lib.hid (HB1.out.ext hx1)
  clear hx1 HB1
  go_wp2_with fail
  refine (few23_any L _ _ (HC.out.ext HE1.out)).mono ?_; rintro e w2 ⟨rfl, hx2⟩
  have HE2 := Lib.hid (HE1.out.trans hx2)
  clear b3 HE1
  cases hf : fewC L with
  | false =>
    clear hx2
    go_wp2_with fail
    refine (FI.out _ HE2.out).mono ?_; rintro e w3 ⟨rfl, hx3⟩
    have E3 := HE2.out.trans hx3
    clear hx3 HE2
    go_wp2
    go_ret
    exact ⟨rfl, E3⟩
  | true =>
    obtain ⟨hl40, hcl⟩ := fewC_out hf
    have hm40 : m ≤ 40 := by rw [HM.out]; exact hl40
    have HCL := Lib.hid hcl
    have HS : Hid (∀ (q : Nat) (c : Cd), L[q]? = some c → c.2.length ≤ 1000000) := fun q c hq => Nat.le_trans (hcl q c hq) (by decide)
    have HB3 := Lib.hid (HB2.out.ext hx2)
    have b3 := HB3.out.cell (i := 3) (v := .slice a m cap) rfl
    clear hl40 hcl hx2 HB2
    go_wp2_with fail
    refine (gsizes_any L _ _ (HC.out.ext HE2.out) (by rw [← HM.out]; omega) HS).mono ?_; rintro e w3 ⟨su, rfl, hso, hx3⟩
    have HE3 := Lib.hid (HE2.out.trans hx3)
    have hsi := Ints.of_owns hso (by rw [gsz_len, ← HM.out]; omega)
    rw [gsz_len, ← HM.out] at hso
    obtain ⟨sa, sc, rfl⟩ : ∃ sa sc, su = .slice sa m sc := by
      obtain ⟨x, y, e⟩ := (Row.of_owns hso).form
      exact ⟨x, y, e⟩
    have HSI := Lib.hid hsi
    have SG := Lib.hid (fun (h0 : 0 < m) => Ints.had hsi h0)
    have HB4 := Lib.hid (HB3.out.ext hx3)
    have b0 := HB4.out.cell (i := 0) (v := .int .i64 n) rfl
    have b1 := HB4.out.cell (i := 1) (v := .int .i64 f) rfl
    have b2 := HB4.out.cell (i := 2) (v := .int .i64 c) rfl
    have b3 := HB4.out.cell (i := 3) (v := .slice a m cap) rfl
    clear hso hsi hx3 HB3 HE2
    go_wp2_with fail
    refine (gpack_any n f c L _ _ (HNB.out.ext HE3.out) (HC.out.ext HE3.out) (HP.out.ext HC.out HE3.out) HS).mono ?_; rintro e w4 ⟨bu, bx, rfl, hbo, hbx, hx4⟩
    have HE4 := Lib.hid (HE3.out.trans hx4)
    have HB5 := Lib.hid (HB4.out.ext hx4)
    have HSI4 := Lib.hid (HSI.out.ext hx4)
    obtain ⟨q, hq⟩ : ∃ q, (gpkV n f c L).length = q := ⟨_, rfl⟩
    rw [hq] at hbo
    obtain ⟨ba, bc, rfl⟩ : ∃ ba bc, bu = .slice ba q bc := by
      obtain ⟨x, y, e⟩ := (Row.of_owns hbo).form
      exact ⟨x, y, e⟩
    have HQ := Lib.hid hq
    have HBX := Lib.hid hbx
    have HGB : Hid (∀ k, 0 ≤ gsN L k ∧ gsN L k ≤ 11 + 20008 * k) := gsN_bound L HCL.out
    clear b0 b1 b2 b3 hbo hbx hx4 hq HB4 HSI HE3
    go_wp2
    go_loopw [6, 7] (fun nv iv wr => ∃ k : Nat, k ≤ m ∧ nv = .int .i64 (gsN L k) ∧ iv = .int .i64 (k : Int) ∧ Hid (Ext w4 wr)) (fun _ iv _ => m - (intOf iv).toNat)
    case atStart => exact ⟨0, Nat.zero_le _, rfl, rfl, Ext.refl _⟩
    case round =>
      obtain ⟨k, hk, rfl, rfl, HE⟩ := hrel
      by_cases hlt : k < m
      · obtain ⟨cd, hcd⟩ : ∃ cd, L[k]? = some cd := ⟨_, List.getElem?_eq_getElem (by rw [← HM.out]; exact hlt)⟩
        obtain ⟨g, off, rfl⟩ := AG.out (by omega)
        obtain ⟨sg, so, rfl⟩ := SG.out (by omega)
        have EW := HE4.out.trans HE.out
        obtain ⟨ca, cn, cc, k0, k1, k2, k3⟩ := (HC.out.ext EW).at hcd
        have s0 := (HSI4.out.ext HE.out).at (gsz_get hcd)
        have hcl := HS.out k cd hcd
        have hc2 := HCL.out k cd hcd
        have HB := Lib.hid (show Bys wr (.slice ca cn cc) cd.2 from ⟨k2, k3, by omega⟩)
        have HN : Hid (gsN L (k + 1) = gsN L k + (((cd.2.length : Nat) : Int) + 8)) := by show gsN L k + _ = _; rw [List.getD, hcd]; rfl
        have b3 := (HB5.out.ext HE.out).cell (i := 3) (v := .slice (some ⟨g, off, none⟩) m cap) rfl
        obtain ⟨n1, n2⟩ := HGB.out k
        obtain ⟨fk, fbs⟩ := cd
        dsimp only at k0 k1 s0 hcl hc2 HB HN
        have UC := Lib.hid (fun W (hx : Ext wr W) => cost_any fk fbs (.slice ca cn cc) W (HB.out.ext hx) hcl)
        obtain ⟨y, hy⟩ : ∃ y : Int, ((fbs.length : Nat) : Int) + 8 = y := ⟨_, rfl⟩
        have y1 : 0 ≤ y ∧ y ≤ 20008 := by omega
        rw [hy] at s0 UC HN
        clear hy hcl hc2 k2 k3 hcd HB EW
        generalize gsN L k = N at n1 n2 HN
        have e1 : IntKind.i64.wrap (N + y) = N + y := by rw [IntKind.wrap_i64]; omega
        have Y1 := Lib.hid y1
        have KS : Hid (∀ w', Ext wr w' → (w'.cell? ⟨w.heap.size, 3, none⟩ = some (.slice (some ⟨g, off, none⟩) m cap) ∧ w'.cell? ⟨sg, so + k, none⟩ = some (.int .i64 y) ∧ w'.cell? ⟨g, off + k * 2, none⟩ = some (.int .i64 fk) ∧ w'.cell? ⟨g, off + k * 2 + 1, none⟩ = some (.slice ca cn cc)) ∧ Ext wr w') := fun w' x => ⟨⟨x.cell b3, x.cell s0, x.cell k0, x.cell k1⟩, x⟩
        clear n1 n2 y1
        go_wp2_with fail
        go_region_held3 (fun w' => (w'.cell? ⟨w.heap.size, 3, none⟩ = some (.slice (some ⟨g, off, none⟩) m cap) ∧ w'.cell? ⟨sg, so + k, none⟩ = some (.int .i64 y) ∧ w'.cell? ⟨g, off + k * 2, none⟩ = some (.int .i64 fk) ∧ w'.cell? ⟨g, off + k * 2 + 1, none⟩ = some (.slice ca cn cc)) ∧ Ext wr w')
          (first | assumption | (exact KS.out _ (by repeat (first | exact Ext.refl _ | assumption | refine Ext.drew ?_))))
          ((go_at_call 28; obtain ⟨_, hE1⟩ : _ ∧ Ext wr _ := (by assumption); refine (UC.out _ hE1).mono ?_; rintro e w7 ⟨rfl, hx7⟩; have EC : Ext wr w7 := hE1.trans hx7; clear hE1 hx7))
        have HE7 := Lib.hid (HE.out.trans EC)
        have s7 := EC.cell s0
        clear EC b3 s0 k0 k1 KS UC
        go_wp2
        go_roundw
        case rel => exact ⟨k + 1, by omega, by rw [HN.out], by go_num, HE7⟩
        case measure => simp [intOf]; omega
      · obtain rfl : k = m := by omega
        have E5 := HE4.out.trans HE.out
        have HE5 := Lib.hid E5
        have B6 := HB5.out.ext HE.out
        have b0 := B6.cell (i := 0) (v := .int .i64 n) rfl
        have b1 := B6.cell (i := 1) (v := .int .i64 f) rfl
        have b2 := B6.cell (i := 2) (v := .int .i64 c) rfl
        have b3 := B6.cell (i := 3) (v := .slice a k cap) rfl
        have HBX6 := Lib.hid (HBX.out.ext HE.out)
        have FI5 := Lib.hid (fun W (hx : Ext wr W) => FI.out W (E5.trans hx))
        have UM := Lib.hid (fun W (hx : Ext wr W) => gmay_any n f c L (.slice a k cap) W (HC.out.ext (E5.trans hx)) HS)
        have KS : Hid (∀ w', Ext wr w' → (w'.cell? ⟨w.heap.size, 0, none⟩ = some (.int .i64 n) ∧ w'.cell? ⟨w.heap.size, 1, none⟩ = some (.int .i64 f) ∧ w'.cell? ⟨w.heap.size, 2, none⟩ = some (.int .i64 c) ∧ w'.cell? ⟨w.heap.size, 3, none⟩ = some (.slice a k cap)) ∧ Ext wr w') := fun w' x => ⟨⟨x.cell b0, x.cell b1, x.cell b2, x.cell b3⟩, x⟩
        clear E5 B6 FI HB5 HSI4 HBX HE4
        cases hgm : gmayB n f c L with
        | true =>
          have hF : gpkF n f c L = none := by unfold gpkF; rw [hgm]; rfl
          rw [hF] at HBX6
          obtain rfl : bx = .nilIface := HBX6.out
          have hq2 : (q : Int) = gsN L k := by rw [← HQ.out, HM.out]; exact gpk_len hgm
          rw [← hq2]
          rw [hgm] at UM
          clear hF HBX6 hq2
          go_wp2_with fail
          go_region_held3 (fun w' => (w'.cell? ⟨w.heap.size, 0, none⟩ = some (.int .i64 n) ∧ w'.cell? ⟨w.heap.size, 1, none⟩ = some (.int .i64 f) ∧ w'.cell? ⟨w.heap.size, 2, none⟩ = some (.int .i64 c) ∧ w'.cell? ⟨w.heap.size, 3, none⟩ = some (.slice a k cap)) ∧ Ext wr w')
            (first | assumption | (exact KS.out _ (by repeat (first | exact Ext.refl _ | assumption | refine Ext.drew ?_))))
            ((first
              | (go_at_call 10; obtain ⟨_, hE1⟩ : _ ∧ Ext wr _ := (by assumption); refine (FI5.out _ hE1).mono ?_; rintro e w7 ⟨rfl, hx7⟩; have EC : Ext wr w7 := hE1.trans hx7; clear hE1 hx7)
              | (go_at_call 16; refine (UM.out _ EC).mono ?_; rintro e w8 ⟨rfl, hx8⟩; have ED : Ext wr w8 := EC.trans hx8; clear hx8)))
          have HE9 := Lib.hid (HE5.out.trans ED)
          clear EC ED b0 b1 b2 b3 KS
          go_wp2
          go_ret
          exact ⟨by simp, HE9.out⟩
        | false =>
          have hF : gpkF n f c L = some ([], 2) := by unfold gpkF; rw [hgm]; rfl
          rw [hF] at HBX6
          obtain ⟨xt, xv, rfl⟩ := ErrIs.ne HBX6.out
          rw [hgm] at UM
          clear hF HBX6
          go_wp2_with fail
          first
            | go_region_held (fun w' => (w'.cell? ⟨w.heap.size, 0, none⟩ = some (.int .i64 n) ∧ w'.cell? ⟨w.heap.size, 1, none⟩ = some (.int .i64 f) ∧ w'.cell? ⟨w.heap.size, 2, none⟩ = some (.int .i64 c) ∧ w'.cell? ⟨w.heap.size, 3, none⟩ = some (.slice a k cap)) ∧ Ext wr w')
            (first | assumption | (exact KS.out _ (by repeat (first | exact Ext.refl _ | assumption | refine Ext.drew ?_))))
            ((first
              | (go_at_call 10; obtain ⟨_, hE1⟩ : _ ∧ Ext wr _ := (by assumption); refine (FI5.out _ hE1).mono ?_; rintro e w7 ⟨rfl, hx7⟩; have EC : Ext wr w7 := hE1.trans hx7; clear hE1 hx7)
              | (go_at_call 16; refine (UM.out _ EC).mono ?_; rintro e w8 ⟨rfl, hx8⟩; have ED : Ext wr w8 := EC.trans hx8; clear hx8)))
            | fail
          all_goals
            have HE9 := Lib.hid (HE5.out.trans ED)
            go_wp2
            go_ret
            exact ⟨by simp, HE9.out⟩
end Go.Proofs.YtlaedbglclmheaaGreatDoor
