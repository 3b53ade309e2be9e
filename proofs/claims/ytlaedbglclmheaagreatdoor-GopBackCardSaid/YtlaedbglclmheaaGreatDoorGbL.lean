/- GopBack: the walk. -/
import Derived.Test.YtlaedbglclmheaaGreatDoorGsL
import Derived.Test.YtlaedbglclmheaaGreatDoorZg
import Derived.Test.YtlaedbglclmheaaGreatDoorEi
import Derived.Test.YtlaedbglclmheaaGreatDoorZc
import Derived.Deep.RegionHeld3
import Derived.Deep.CutBlock
namespace Go.Proofs.YtlaedbglclmheaaGreatDoor
set_option linter.unusedVariables false
set_option linter.unusedSimpArgs false
open Go.RowKit Go.Extern.Stop Go.Stop Go.Extern

theorem Bys.uptoG {w : World} {a : Option Addr} {n cap : Nat} {bs : List Nat} (h : Bys w (.slice a n cap) bs) {k : Nat} (hk : k ≤ n) : Bys w (.slice a k cap) (bs.take k) := by
  have hl := h.len
  obtain ⟨⟨a', cap', e, h1, h2, h3, h4⟩, h5, h6⟩ := h
  simp only [Value.slice.injEq] at e
  obtain ⟨rfl, -, rfl⟩ := e
  have ht : (bs.take k).length = k := by rw [List.length_take]; omega
  refine ⟨⟨a, cap, by rw [ht], by rw [ht]; omega, h2, fun h0 => h3 (by rw [ht] at h0; omega), fun g off e j x hj => h4 g off e j x ?_⟩, fun x hx => h5 x (List.mem_of_mem_take hx), by rw [ht]; omega⟩
  rw [List.getElem?_map, List.getElem?_take] at hj
  split at hj
  · rw [List.getElem?_map]; exact hj
  · cases hj
theorem Bys.of_ownG {w : World} {base n : Nat} {v : Value} {bs : List Nat} (h : w.ownsRow base 5 1 v n (byC bs)) (hn : bs.length = n) (hb : ∀ x ∈ bs, x < 256) (hl : n ≤ 1000000) : Bys w v bs := by
  subst hn
  exact Bys.of_owns h hb (by omega)
theorem plainc_any (n f c : Int) (ua : Option Addr) (un uc : Nat) (w : World) : Calls Tryz.prog 15 #[.agg #[.int .i64 n, .int .i64 f, .int .i64 c, .slice ua un uc]] w fun e w' => e = .returned (.agg #[.int .i64 n, .int .i64 f, .int .i64 c, .slice ua un uc]) ∧ Ext w w' := by
  go_enter Tryz.func15, Tryz.ntmps15
  go_wp2
  exact bodyPost_ret (v := .agg #[.int .i64 n, .int .i64 f, .int .i64 c, .slice ua un uc]) (by simp [results, Tryz.results15, go_sem]) rfl ⟨rfl, ((Ext.refl w).alloc _).alloc _⟩
theorem samec_any (n f c : Int) (L : List Cd) (u v : Value) (w : World) (hu : Cds w u L) (hv : Cds w v L) (hl : L.length ≤ 1000000) (hsm : Hid (∀ (q : Nat) (c : Cd), L[q]? = some c → c.2.length ≤ 1000000)) : Calls Tryz.prog 26 #[.agg #[.int .i64 n, .int .i64 f, .int .i64 c, u], .agg #[.int .i64 n, .int .i64 f, .int .i64 c, v]] w fun e w' => e = .returned (.bool true) ∧ Ext w w' := by
  have X2 := ((Ext.refl w).alloc (.cells #[.int .i64 n, .int .i64 f, .int .i64 c, u] 26)).alloc (.cells #[.int .i64 n, .int .i64 f, .int .i64 c, v] 41)
  have UC := Lib.hid (codeds_same L u v _ (hu.ext X2) (hv.ext X2) hl hsm)
  have HX := Lib.hid X2
  clear hu hv X2
  go_enter Tryz.func26, Tryz.ntmps26
  go_wp2_with fail
  refine UC.out.mono ?_; rintro e w3 ⟨rfl, hx3⟩
  have E3 := HX.out.trans hx3
  clear hx3 UC
  go_wp2
  go_ret
  exact ⟨rfl, E3⟩
theorem gpk_lt {n f c : Int} {L : List Cd} (h : gmayB n f c L = true) (hb : ∀ a ∈ L, ∀ x ∈ a.2, x < 256) : ∀ x ∈ outM (umsG n f c L), x < 256 := out_lt (umsG_ok h hb)
theorem gpk_le {n f c : Int} {L : List Cd} (h : gmayB n f c L = true) (hl : L.length ≤ 40) (hs : ∀ (q : Nat) (c : Cd), L[q]? = some c → c.2.length ≤ 20000) : (outM (umsG n f c L)).length ≤ 900000 := by
  have h1 := gpk_len h
  have h2 := (gsN_bound L hs L.length).2
  have h3 : gpkV n f c L = outM (umsG n f c L) := by unfold gpkV; rw [h]; rfl
  rw [h3] at h1
  omega
theorem gpk_pos (n f c : Int) (L : List Cd) : 0 < (outM (umsG n f c L)).length := by
  have h : 0 < (encB 32 [n.toNat, f.toNat, c.toNat]).length := enc_pos (32, [n.toNat, f.toNat, c.toNat])
  show 0 < (encB 32 [n.toNat, f.toNat, c.toNat] ++ outM (L.map umC)).length
  rw [List.length_append]
  omega
theorem gparse_no (bs : List Nat) (v : Value) (w : World) (hnb : NbIs w) (hb : Bys w v bs) (hl : bs.length ≤ 1000000) (hne : (gpsV bs).1 ≠ none) : Calls Tryz.prog 24 #[v] w fun e w' => ∃ pa pn pc t x, e = .returned (.tuple #[.agg #[.int .i64 0, .int .i64 0, .int .i64 0, .slice pa pn pc], .iface t x]) ∧ Ext w w' := by
  refine (gparse_any bs v w hnb hb hl).mono ?_
  rintro e w' ⟨v5, x5, rfl, ⟨hc5, -⟩, he5, hx5⟩
  obtain ⟨z, hz⟩ : ∃ z, (gpsV bs).1 = some z := by
    cases h : (gpsV bs).1 with
    | none => exact absurd h hne
    | some z => exact ⟨z, rfl⟩
  rw [hz] at he5
  obtain ⟨t, x, rfl⟩ := he5.ne
  obtain ⟨pa, pc, rfl⟩ := hc5.form
  refine ⟨pa, (gpsV bs).2.2.length, pc, t, x, ?_, hx5⟩
  rw [gps_bad hz]
  rfl
set_option maxRecDepth 20000 in
set_option maxHeartbeats 8000000 in
theorem gback_law (hfi : Fst23) (n f c cut : Int) (v : Value) (L : List Cd) (w : World) (hg : EtIs w) (hnb : NbIs w) (h : Cds w v L) (hp : CdsP w v) (hb1 : -9223372036854775808 ≤ cut) (hb2 : cut ≤ 9223372036854775807) :
    Calls Tryz.prog 5 #[.agg #[.int .i64 n, .int .i64 f, .int .i64 c, v], .int .i64 cut] w fun e w' => e = .returned (.bool true) ∧ Ext w w' := by
  obtain ⟨a, cap, rfl⟩ := h.form
  obtain ⟨m, hm⟩ : ∃ m, m = L.length := ⟨_, rfl⟩
  have HM := Lib.hid hm
  have HLT : Hid (∀ cd ∈ L, ∀ x ∈ cd.2, x < 256) := fun cd hcd => by
    obtain ⟨q, hq⟩ := List.getElem?_of_mem hcd
    obtain ⟨g, o, rfl⟩ := h.had (List.length_pos_of_mem hcd)
    obtain ⟨_, _, _, _, _, _, h4⟩ := h.at hq
    exact h4
  rw [← hm] at h hp ⊢
  have HC := Lib.hid h
  have HP := Lib.hid hp
  have X1 := (Ext.refl w).alloc (.cells #[.int .i64 n, .int .i64 f, .int .i64 c, .slice a m cap] 26)
  have B1 := BoxIs.new w #[.int .i64 n, .int .i64 f, .int .i64 c, .slice a m cap] 26
  have HX1 := Lib.hid X1
  have HB1 := Lib.hid B1
  have FI := Lib.hid (fun W (k : Ext w W) => hfi W (hg.ext k) (hnb.ext k))
  have HNB := Lib.hid hnb
  have HCUT := Lib.hid (And.intro hb1 hb2)
  clear hm h hp X1 B1 hg hnb hb1 hb2
  go_enter Tryz.func5, Tryz.ntmps5
  go_wp2_with fail
  refine (FI.out _ HX1.out).mono ?_; rintro e w1 ⟨rfl, hx1⟩
  have HE1 := Lib.hid (HX1.out.trans hx1)
  have HB2 := Lib.hid (HB1.out.ext hx1)
  have b3 := HB2.out.cell (i := 3) (v := .slice a m cap) rfl
  clear hx1 HB1
  go_wp2_with fail
  refine (few23_any L _ _ (HC.out.ext HE1.out)).mono ?_; rintro e w2 ⟨rfl, hx2⟩
  have HE2 := Lib.hid (HE1.out.trans hx2)
  clear b3 HE1
  cases hf : fewC L with
  | false =>
    clear hx2
    go_wp2_with fail
    refine (FI.out _ HE2.out).mono ?_; rintro e w3 ⟨rfl, hx3⟩
    have E3 := HE2.out.trans hx3
    clear hx3 HE2
    go_wp2
    go_ret
    exact ⟨rfl, E3⟩
  | true =>
    obtain ⟨hl40, hcl⟩ := fewC_out hf
    have hm40 : m ≤ 40 := by rw [HM.out]; exact hl40
    have HCL := Lib.hid hcl
    have HS : Hid (∀ (q : Nat) (c : Cd), L[q]? = some c → c.2.length ≤ 1000000) := fun q c hq => Nat.le_trans (hcl q c hq) (by decide)
    have HB3 := Lib.hid (HB2.out.ext hx2)
    have b0 := HB3.out.cell (i := 0) (v := .int .i64 n) rfl
    have b1 := HB3.out.cell (i := 1) (v := .int .i64 f) rfl
    have b2 := HB3.out.cell (i := 2) (v := .int .i64 c) rfl
    have b3 := HB3.out.cell (i := 3) (v := .slice a m cap) rfl
    have HL40 := Lib.hid hl40
    clear hl40 hcl hx2 HB2
    go_wp2_with fail
    refine (gpack_any n f c L _ _ (HNB.out.ext HE2.out) (HC.out.ext HE2.out) (HP.out.ext HC.out HE2.out) HS).mono ?_; rintro e w4 ⟨bu, bx, rfl, hbo, hbx, hx4⟩
    have HE4 := Lib.hid (HE2.out.trans hx4)
    have HB5 := Lib.hid (HB3.out.ext hx4)
    have b0 := HB5.out.cell (i := 0) (v := .int .i64 n) rfl
    have b1 := HB5.out.cell (i := 1) (v := .int .i64 f) rfl
    have b2 := HB5.out.cell (i := 2) (v := .int .i64 c) rfl
    have b3 := HB5.out.cell (i := 3) (v := .slice a m cap) rfl
    have UM := Lib.hid (fun W (hx : Ext w4 W) => gmay_any n f c L (.slice a m cap) W (HC.out.ext (HE4.out.trans hx)) HS)
    have FI4 := Lib.hid (fun W (hx : Ext w4 W) => FI.out W (HE4.out.trans hx))
    clear hx4 HB3 HE2 FI
    cases hgm : gmayB n f c L with
    | false =>
      have hF : gpkF n f c L = some ([], 2) := by unfold gpkF; rw [hgm]; rfl
      rw [hF] at hbx
      obtain ⟨xt, xv, rfl⟩ := ErrIs.ne hbx
      rw [hgm] at UM
      clear hF hbx hbo
      go_wp2_with fail
      refine (FI4.out _ (Ext.refl _)).mono ?_; rintro e w5 ⟨rfl, hx5⟩
      have d0 := hx5.cell b0
      have d1 := hx5.cell b1
      have d2 := hx5.cell b2
      have d3 := hx5.cell b3
      go_wp2_with fail
      refine (UM.out _ hx5).mono ?_; rintro e w6 ⟨rfl, hx6⟩
      have E6 := HE4.out.trans (hx5.trans hx6)
      clear hx5 hx6
      go_wp2
      go_ret
      exact ⟨rfl, E6⟩
    | true =>
      have hF : gpkF n f c L = none := by unfold gpkF; rw [hgm]; rfl
      rw [hF] at hbx
      obtain rfl : bx = .nilIface := hbx
      have hV : gpkV n f c L = outM (umsG n f c L) := by unfold gpkV; rw [hgm]; rfl
      rw [hV] at hbo
      rw [hgm] at UM
      have hle := gpk_le hgm HL40.out HCL.out
      have hpos := gpk_pos n f c L
      have HBK := Lib.hid (gps_back hgm HLT.out)
      have HMO := Lib.hid (gps_more hgm HLT.out)
      have HCT := Lib.hid (fun k hk => gps_cut (k := k) hgm HLT.out hk)
      have hby := Bys.of_owns hbo (gpk_lt hgm HLT.out) (Nat.le_trans hle (by decide))
      obtain ⟨bs, hbs⟩ : ∃ bs, outM (umsG n f c L) = bs := ⟨_, rfl⟩
      rw [hbs] at hby hle hpos HBK HMO HCT hbo
      obtain ⟨q, hq⟩ : ∃ q, bs.length = q := ⟨_, rfl⟩
      obtain ⟨ba, bc, rfl⟩ : ∃ ba bc, bu = .slice ba q bc := by
        obtain ⟨x, y, e⟩ := hby.form
        exact ⟨x, y, by rw [e, hq]⟩
      rw [hq] at hle hpos HCT
      have HBY := Lib.hid hby
      have HQ := Lib.hid hq
      clear hF hV hby hbs hq hbo
      go_wp2_with fail
      refine (gparse_any bs _ _ (HNB.out.ext HE4.out) HBY.out (by rw [HQ.out]; omega)).mono ?_; rintro e w5 ⟨v5, x5, rfl, ⟨hc5, -⟩, he5, hx5⟩
      rw [HBK.out] at hc5 he5 ⊢
      obtain rfl : x5 = .nilIface := he5
      have hc5 : Cds w5 v5 L := hc5
      obtain ⟨pa, pc, rfl⟩ : ∃ pa pc, v5 = .slice pa m pc := by
        obtain ⟨x, y, e⟩ := hc5.form
        exact ⟨x, y, by rw [e, HM.out]⟩
      dsimp only
      have X5 := hx5.alloc (.cells #[.int .i64 n, .int .i64 f, .int .i64 c, .slice pa m pc] 26)
      have BC := BoxIs.new w5 #[.int .i64 n, .int .i64 f, .int .i64 c, .slice pa m pc] 26
      have hc6 := hc5.ext ((Ext.refl w5).alloc (.cells #[.int .i64 n, .int .i64 f, .int .i64 c, .slice pa m pc] 26))
      obtain ⟨wr, hwr⟩ : ∃ z, w5.alloc (.cells #[.int .i64 n, .int .i64 f, .int .i64 c, .slice pa m pc] 26) = z := ⟨_, rfl⟩
      rw [hwr] at X5 BC hc6
      have B6 := HB5.out.ext X5
      have a0 := B6.cell (i := 0) (v := .int .i64 n) rfl
      have a1 := B6.cell (i := 1) (v := .int .i64 f) rfl
      have a2 := B6.cell (i := 2) (v := .int .i64 c) rfl
      have a3 := B6.cell (i := 3) (v := .slice a m cap) rfl
      have c0 := BC.cell (i := 0) (v := .int .i64 n) rfl
      have c1 := BC.cell (i := 1) (v := .int .i64 f) rfl
      have c2 := BC.cell (i := 2) (v := .int .i64 c) rfl
      have c3 := BC.cell (i := 3) (v := .slice pa m pc) rfl
      have HE6 := Lib.hid (HE4.out.trans X5)
      have HBY6 := Lib.hid (HBY.out.ext X5)
      have HX6 := Lib.hid X5
      have HWR := Lib.hid hwr
      have UQ := Lib.hid (fun W (k : Ext wr W) => samec_any n f c L (.slice pa m pc) (.slice a m cap) W (hc6.ext k) (HC.out.ext (HE6.out.trans k)) (Nat.le_trans HL40.out (by decide)) HS)
      have KS : Hid (∀ w', Ext wr w' → ((w'.cell? ⟨w.heap.size, 0, none⟩ = some (.int .i64 n) ∧ w'.cell? ⟨w.heap.size, 1, none⟩ = some (.int .i64 f) ∧ w'.cell? ⟨w.heap.size, 2, none⟩ = some (.int .i64 c) ∧ w'.cell? ⟨w.heap.size, 3, none⟩ = some (.slice a m cap)) ∧ (w'.cell? ⟨w5.heap.size, 0, none⟩ = some (.int .i64 n) ∧ w'.cell? ⟨w5.heap.size, 1, none⟩ = some (.int .i64 f) ∧ w'.cell? ⟨w5.heap.size, 2, none⟩ = some (.int .i64 c) ∧ w'.cell? ⟨w5.heap.size, 3, none⟩ = some (.slice pa m pc))) ∧ Ext wr w') := fun w' x => ⟨⟨⟨x.cell a0, x.cell a1, x.cell a2, x.cell a3⟩, ⟨x.cell c0, x.cell c1, x.cell c2, x.cell c3⟩⟩, x⟩
      clear X5 BC hc6 B6 hwr hx5 hc5 b0 b1 b2 b3 HB5 HBY
      go_wp2_with fail
      rw [HWR.out]
      go_region_held3 (fun w' => ((w'.cell? ⟨w.heap.size, 0, none⟩ = some (.int .i64 n) ∧ w'.cell? ⟨w.heap.size, 1, none⟩ = some (.int .i64 f) ∧ w'.cell? ⟨w.heap.size, 2, none⟩ = some (.int .i64 c) ∧ w'.cell? ⟨w.heap.size, 3, none⟩ = some (.slice a m cap)) ∧ (w'.cell? ⟨w5.heap.size, 0, none⟩ = some (.int .i64 n) ∧ w'.cell? ⟨w5.heap.size, 1, none⟩ = some (.int .i64 f) ∧ w'.cell? ⟨w5.heap.size, 2, none⟩ = some (.int .i64 c) ∧ w'.cell? ⟨w5.heap.size, 3, none⟩ = some (.slice pa m pc))) ∧ Ext wr w')
        (first | assumption | (exact KS.out _ (by repeat (first | exact Ext.refl _ | assumption | refine Ext.drew ?_))))
        ((first
          | (go_at_call 15; obtain ⟨_, hE1⟩ : _ ∧ Ext wr _ := (by assumption); refine (plainc_any n f c a m cap _).mono ?_; rintro e w7 ⟨rfl, hx7⟩; have EC : Ext wr w7 := hE1.trans hx7; clear hE1 hx7)
          | (go_at_call 26; refine (UQ.out _ EC).mono ?_; rintro e w8 ⟨rfl, hx8⟩; have ED : Ext wr w8 := EC.trans hx8; clear hx8)
          | (go_at_call 16; refine (UM.out _ (HX6.out.trans ED)).mono ?_; rintro e w9 ⟨rfl, hx9⟩; have EE : Ext wr w9 := ED.trans hx9; clear hx9)))
      have HE9 := Lib.hid (HE6.out.trans EE)
      have HBY9 := Lib.hid (HBY6.out.ext EE)
      have HX9 := Lib.hid (HX6.out.trans EE)
      clear a0 a1 a2 a3 c0 c1 c2 c3 KS UQ UM EC ED EE HBY6 HE6 HX6
      go_upto_if 53 with fail
      go_cut [1] from 54 to 56 (fun cv wx => (∃ c9 : Nat, cv = .int .i64 (c9 : Int) ∧ c9 ≤ 9223372036854775807) ∧ w9 = wx)
      case first =>
        have hct := HCUT.out
        by_cases h0 : cut < 0
        · have m1 : IntKind.i64.wrap (cut + 1) = cut + 1 := by rw [IntKind.wrap_i64]; omega
          have m2 : IntKind.i64.wrap (-(cut + 1)) = -(cut + 1) := by rw [IntKind.wrap_i64]; omega
          go_wp2_with fail
          go_meet
          exact ⟨⟨(-(cut + 1)).toNat, by rw [show (((-(cut + 1)).toNat : Nat) : Int) = -(cut + 1) by omega], by omega⟩, rfl⟩
        · go_wp2_with fail
          go_meet
          exact ⟨⟨cut.toNat, by rw [show ((cut.toNat : Nat) : Int) = cut by omega], by omega⟩, rfl⟩
      obtain ⟨⟨c9, rfl, hc9⟩, rfl⟩ := hcut
      obtain ⟨r, hr⟩ : ∃ r, c9 % q = r := ⟨_, rfl⟩
      have hrN : r < q := by rw [← hr]; exact Nat.mod_lt _ hpos
      have hby9 := HBY9.out
      have hqc : q ≤ bc := hby9.caps.1
      have i1 : Int.tmod (c9 : Int) (q : Int) = (r : Int) := by rw [← Int.ofNat_tmod, hr]
      have i2 : (c9 : Int) % (q : Int) = (r : Int) := by rw [← hr]; simp
      have i3 : (q : Int) ≠ 0 := by omega
      have i4 : (r : Int) ≤ (bc : Int) := by omega
      have i5 : (0 : Int) ≤ (r : Int) := by omega
      have i6 : (r : Int) ≤ (q : Int) := by omega
      have i7 : IntKind.i64.wrap (r : Int) = (r : Int) := by rw [IntKind.wrap_i64]; omega
      have UR := Lib.hid (gparse_no (bs.take r) _ _ (HNB.out.ext HE9.out) (hby9.uptoG (Nat.le_of_lt hrN)) (by have := HQ.out; rw [List.length_take]; omega) (HCT.out r hrN))
      clear hr hby9
      go_wp2_with fail
      refine UR.out.mono ?_; rintro e w10 ⟨qa, qn, qc, t10, x10, rfl, hx10⟩
      have X11 := hx10.alloc (.cells #[.int .i64 0, .int .i64 0, .int .i64 0, .slice qa qn qc] 26)
      have HE11 := Lib.hid (HE9.out.trans X11)
      have HBY11 := Lib.hid (HBY9.out.ext X11)
      have HX11 := Lib.hid (HX9.out.trans X11)
      clear X11 hx10 UR HBY9 HE9 HX9 i1 i2 i4
      go_wp2_with fail
      refine (cpb_any bs _ _ HBY11.out).mono ?_; rintro e w12 ⟨u12, rfl, ho12, hx12⟩
      obtain ⟨wk, hwk⟩ : ∃ z, w10.alloc (.cells #[.int .i64 0, .int .i64 0, .int .i64 0, .slice qa qn qc] 26) = z := ⟨_, rfl⟩
      rw [hwk] at ho12 hx12 HE11 HX11 HBY11
      have hws := hx12.size
      rw [HQ.out] at ho12
      have HO12 := Lib.hid ho12
      have HX12 := Lib.hid (HX11.out.trans hx12)
      have HE12 := Lib.hid (HE11.out.trans hx12)
      have HK12 := Lib.hid hx12
      have HBL : Hid (∀ x ∈ bs ++ [0], x < 256) := fun x hx => by
        rcases List.mem_append.1 hx with h | h
        · exact HBY11.out.2.1 x h
        · simp at h; omega
      clear ho12 hx12 hwk i3 i5 i6 i7
      go_wp2_with (at_builtin; refine app_new rfl _ _ 30 rfl Tryz.underlying30 _ q bs [0] rfl HO12.out (by show Value.slice (some ⟨w12.heap.size, 0, none⟩) 1 1 = _; simp) (by simp) hws (by simp; omega) ?_; intro g7 cap7 w13 h1 h2; have HO13 := Lib.hid h1; have HK13 : Hid (Ext wk w13) := Below.grown HK12.out h2 hws (fun k hk => (HO12.out.lt k hk).1); clear h1 h2)
      have HY13 : Hid (Bys w13 (.slice (some ⟨g7, 0, none⟩) (q + [0].length) cap7) (bs ++ [0])) := Bys.of_ownG HO13.out (by rw [List.length_append, HQ.out]) HBL.out (by simp; omega)
      have HX13 := Lib.hid (HX11.out.trans HK13.out)
      have HE13 := Lib.hid (HE11.out.trans HK13.out)
      clear HO13 HK13
      go_wp2_with fail
      refine (gparse_no (bs ++ [0]) _ _ (HNB.out.ext HE13.out) HY13.out (by have := HQ.out; rw [List.length_append]; simp only [List.length_cons, List.length_nil]; omega) HMO.out).mono ?_; rintro e w14 ⟨ra, rn, rc, t14, x14, rfl, hx14⟩
      have X15 := hx14.alloc (.cells #[.int .i64 0, .int .i64 0, .int .i64 0, .slice ra rn rc] 26)
      have HX15 := Lib.hid (HX13.out.trans X15)
      have HE15 := Lib.hid (HE13.out.trans X15)
      clear X15 hx14
      go_wp2_with fail
      refine (FI4.out _ HX15.out).mono ?_; rintro e w16 ⟨rfl, hx16⟩
      have E16 := HE15.out.trans hx16
      clear hx16
      go_wp2
      go_ret
      exact ⟨by simp, E16⟩
end Go.Proofs.YtlaedbglclmheaaGreatDoor
