/- kinlaw12.RacDecodes: the walk. -/
import Derived.Test.YtdpebaheojaihaaDoorRw1
namespace Go.Proofs.YtdpebaheojaihaaDoor
set_option linter.unusedVariables false
set_option linter.unusedSimpArgs false
open Go.RowKit Go.Extern.Stop Go.Stop Go.Extern

set_option maxHeartbeats 8000000 in
set_option maxRecDepth 20000 in
theorem decodes_law (bs : List Nat) (L : List Ot) (v u : Value) (w : World) (hg : EtIs w) (rb : Row w v bs.length (bs.map fun x : Nat => Value.int .u8 (x : Int))) (hb : ∀ x ∈ bs, x < 256) (hL : Ots w u L) : Calls Tryd.prog 4 #[v, u] w fun e w' => e = .returned (.bool true) ∧ Ext w w' := by
  have HG := Lib.hid hg
  have hm := hL.small
  obtain ⟨la, lc, rfl⟩ := hL.form
  obtain ⟨ba, bc, rfl⟩ := rb.form
  obtain ⟨m, hm'⟩ : ∃ m, L.length = m := ⟨_, rfl⟩
  obtain ⟨n, hn⟩ : ∃ n, bs.length = n := ⟨_, rfl⟩
  have HNL := Lib.hid hm'
  have HNB := Lib.hid hn
  have HOT : Hid (Ots w (.slice la m lc) L) := by show Ots _ _ _; rw [← hm']; exact hL
  rw [hm'] at hm ⊢
  rw [hn] at rb ⊢
  unfold maxLen at hm
  by_cases h1 : 20000 < n
  · have h1' : (20000 : Int) < (n : Int) := by omega
    clear hg hL rb hm' hn hb
    go_enter Tryd.func4, Tryd.ntmps4
    go_wp2_with fail
    refine (first12_any _ HG.out).mono ?_; rintro e w1 ⟨rfl, hx1⟩
    go_wp2_with fail
    refine (first12_any _ (HG.out.ext hx1)).mono ?_; rintro e w2 ⟨rfl, hx2⟩
    go_wp2
    go_ret
    exact ⟨rfl, hx1.trans hx2⟩
  have h1' : ¬ (20000 : Int) < (n : Int) := by omega
  have HB : Hid (Bys w (.slice ba n bc) bs) := ⟨by rw [hn]; exact rb, hb, by rw [hn]; omega⟩
  have HBB := Lib.hid hb
  have hbl : bs.length ≤ 1000000 := by omega
  have UC := Lib.hid (cpb_any bs)
  have UN := Lib.hid (newdc_any bs)
  have UX := Lib.hid (newxc_any bs)
  clear hg hL rb hm' hn hb
  go_enter Tryd.func4, Tryd.ntmps4
  go_wp2_with fail
  refine (first12_any _ HG.out).mono ?_; rintro e w1 ⟨rfl, hx1⟩
  go_wp2_with fail
  refine (UC.out _ _ (HB.out.ext hx1)).mono ?_; rintro e w2 ⟨u2, rfl, ho2, hx2⟩
  have hy2 := Bys.of_owns ho2 HBB.out (by omega)
  obtain ⟨a2, c2, rfl⟩ := hy2.form
  have hcs : CsN w2 w1.heap.size w2.heap.size a2 n := by
    have := CsN.of (n := bs.length) ho2 rfl
    rw [HNB.out] at this
    exact this
  have HY2 := Lib.hid hy2
  have HCS := Lib.hid hcs
  have HE2 := Lib.hid (hx1.trans hx2)
  have hw1 : w.heap.size ≤ w1.heap.size := hx1.size
  rw [HNB.out] at HY2 ⊢
  clear ho2 hy2 hcs hx1 hx2
  go_wp2_with fail
  refine (UN.out _ _ HY2.out).mono ?_; rintro e w3 ⟨d, rfl, hd, hD3, hx3⟩
  have hd3 : d < w3.heap.size := by obtain ⟨_, _, h, _⟩ := hD3; exact h.lt
  have hw2 : w.heap.size ≤ w2.heap.size := HE2.out.size
  have hwd : w.heap.size ≤ d := by omega
  obtain ⟨F, hF⟩ : ∃ F : Nat → Prop, (fun g => g < w2.heap.size ∨ w3.heap.size ≤ g) = F := ⟨_, rfl⟩
  rw [hF] at hD3
  have HF1 : Hid (∀ g, g < w2.heap.size → F g) := fun g h => by rw [← hF]; exact .inl h
  have HF2 : Hid (∀ g, w3.heap.size ≤ g → F g) := fun g h => by rw [← hF]; exact .inr h
  have HD3 := Lib.hid hD3
  have HCS3 := Lib.hid (HCS.out.ext hx3)
  have HE3 := Lib.hid (HE2.out.trans hx3)
  clear hD3 hx3 hF HCS HE2 HY2
  go_wp2_with fail
  go_loopw [7] (fun iv wi => ∃ i : Nat, i ≤ n ∧ iv = .int .i64 (i : Int) ∧ Hid (CsN wi w1.heap.size w2.heap.size a2 n) ∧ Hid (DcAt F wi d bs (newD bs)) ∧ Hid (Ext w wi) ∧ Hid (w3.heap.size ≤ wi.heap.size)) (fun iv _ => n - (intOf iv).toNat)
  case atStart => exact ⟨0, Nat.zero_le _, rfl, HCS3.out, HD3.out, HE3.out, Nat.le_refl _⟩
  case round =>
    clear HCS3 HD3 HE3
    obtain ⟨wi, hwi⟩ : ∃ wi, wi = wr := ⟨_, rfl⟩
    subst hwi
    obtain ⟨i, hi, rfl, HC, HD, HE, HS⟩ := hrel
    by_cases hlt : i < n
    · obtain ⟨g, rfl, ⟨hg1, hg2⟩, hcell⟩ := HC.out (by omega)
      obtain ⟨⟨x, cx⟩, fx⟩ := hcell i hlt
      obtain ⟨y, hy, ey⟩ := xor_b (x : Int)
      have x1 : (0 : Int) ≤ (i : Int) := by omega
      have x2 : (i : Int) < (n : Int) := by omega
      clear hcell
      go_wp2
      go_roundw
      case rel => exact ⟨i + 1, by omega, by go_num, HC.out.set, HD.out.kp ((Kp.refl g _).set i _) (HF1.out g hg2) (by omega), HE.out.setCell (p := ⟨g, i, none⟩) (by show w.heap.size ≤ g; omega) _, by show w3.heap.size ≤ _; have := HS.out; simpa using this⟩
      case measure => simp [intOf]; omega
    · have x2 : ¬ (i : Int) < (n : Int) := by omega
      go_wp2_with fail
      refine (UX.out _ _ (HB.out.ext HE.out)).mono ?_; rintro e w5 ⟨y, rfl, hy, hX5, hx5⟩
      have hS := HS.out
      have hdy : d ≠ y := by omega
      have hyd : y ≠ d := by omega
      have hwy : w.heap.size ≤ y := by have := HE.out.size; omega
      obtain ⟨G, hG⟩ : ∃ G : Nat → Prop, (fun g => g < wi.heap.size ∨ w5.heap.size ≤ g) = G := ⟨_, rfl⟩
      rw [hG] at hX5
      have HGd : Hid (G d) := by show G d; rw [← hG]; exact .inl (by omega)
      have HGn : Hid (∀ g, w5.heap.size ≤ g → G g) := fun g h => by rw [← hG]; exact .inr h
      have HFy := Lib.hid (HF2.out y (by omega))
      have HX5 := Lib.hid hX5
      have HD5 := Lib.hid (HD.out.ext hx5)
      have HE5 := Lib.hid (HE.out.trans hx5)
      have HJ0 : Hid (lkI (newD bs) (nxN bs 4) ∧ okD (4 + 3 * 0) (newD bs) ∧ okX (4 + 3 * 0) (nxN bs 4) ∧ 16777216 ≤ (newD bs).wid) := ⟨lk_new HBB.out, (newD_ok HBB.out).1, nxN_ok bs 4, by rw [(newD_ok HBB.out).2.1]; decide⟩
      clear hX5 hx5 hG HC HD HE HS hS hlt x2 hi hy hd3
      go_wp2_with fail
      go_loopw [9] (fun iv wr => ∃ (i : Nat) (t : Dc) (x : Xc), (i ≤ m ∧ i ≤ 4000) ∧ iv = .int .i64 (i : Int) ∧ Hid (lkI t x ∧ okD (4 + 3 * i) t ∧ okX (4 + 3 * i) x ∧ 16777216 ≤ t.wid) ∧ Hid (DcAt F wr d bs t) ∧ Hid (XcAt G wr y bs x) ∧ Hid (Ext w wr) ∧ Hid (w5.heap.size ≤ wr.heap.size)) (fun iv _ => m - (intOf iv).toNat)
      case atStart => exact ⟨0, newD bs, nxN bs 4, ⟨Nat.zero_le _, Nat.zero_le _⟩, rfl, HJ0.out, HD5.out, HX5.out, HE5.out, Nat.le_refl _⟩
      case round =>
        clear HJ0 HD5 HX5 HE5
        obtain ⟨i, t, x, ⟨hi, hi4⟩, rfl, HJ, HD, HX, HE, HS⟩ := hrel
        by_cases hlt : i < m
        · by_cases hl4 : i < 4000
          · obtain ⟨⟨p, up⟩, hU⟩ : ∃ o, L[i]? = some o := ⟨_, List.getElem?_eq_getElem (by rw [HNL.out]; exact hlt)⟩
            obtain ⟨g, off, rfl, hq⟩ := HOT.out.had (by rw [HNL.out]; omega)
            have HQ : Hid (w.cell? ⟨g, off + i * 2, none⟩ = some (.int .i64 p)) := (hq i _ hU).1
            have c0 := HE.out.cell HQ.out
            obtain ⟨z1, z2, z3, z4⟩ := HJ.out
            have zr : 16777216 ≤ x.rr := by rw [← z1.2.1]; exact z4
            have x1 : (0 : Int) ≤ (i : Int) := by omega
            have x2 : (i : Int) < (m : Int) := by omega
            have x3 : (i : Int) < 4000 := by omega
            have hN3 : 4 + 3 * (i + 1) ≤ 900000 := by omega
            have hN0 : 4 + 3 * i ≤ 900000 := by omega
            have he3 : 4 + 3 * i + 3 = 4 + 3 * (i + 1) := by omega
            by_cases hp : p = 0
            · have t1 : (p == 0) = true := by rw [beq_iff_eq]; exact hp
              obtain ⟨zl, zu⟩ := lk_flat HBB.out z1 z4 z2.2.2
              obtain ⟨t2, ht2⟩ : ∃ t2, parD bs t (t.wid / 2) = t2 := ⟨_, rfl⟩
              obtain ⟨q2, hq2⟩ : ∃ q2, parX bs x (x.rr / 2) = q2 := ⟨_, rfl⟩
              have kd := flaD_ok HBB.out z2 z4
              have kx := parX_ok (bs := bs) (w := x.rr / 2) z3 (by omega)
              rw [ht2] at zl kd
              rw [hq2] at zl kx
              rw [he3] at kd kx
              have HJ2 : Hid (lkI t2 q2 ∧ okD (4 + 3 * (i + 1)) t2 ∧ okX (4 + 3 * (i + 1)) q2 ∧ 16777216 ≤ t2.wid) := ⟨zl, kd.1, kx, kd.2⟩
              obtain ⟨V, hV⟩ : ∃ V, upD t (t.wid / 2) = V := ⟨_, rfl⟩
              have UF := Lib.hid (dflat_any F d _ bs t wr HD.out z2 hN0 z4)
              have UG := Lib.hid (fun w' (h : XcAt G w' y bs x) => xflat_any G y _ bs x w' h z3 hN0 zr)
              rw [ht2, hV] at UF
              rw [hq2, ← zu, hV] at UG
              clear zl zu kd kx ht2 hq2 hV z1 z2 z3 z4 zr hq hU hp
              go_wp2_with fail
              refine (UF.out).mono ?_; rintro e w6 ⟨rfl, hD6, hk6⟩
              have HD6 := Lib.hid hD6
              have HX6 := Lib.hid (HX.out.kp hk6 HGd.out hyd)
              have HE6 := Lib.hid (Kp.out HE.out hk6 hwd)
              have HS6 := Lib.hid (Nat.le_trans HS.out hk6.size)
              clear hD6 hk6
              go_wp2_with fail
              refine (UG.out _ HX6.out).mono ?_; rintro e w7 ⟨rfl, hX7, hk7⟩
              have HXz := Lib.hid hX7
              have HDz := Lib.hid (HD6.out.kp hk7 HFy.out hdy)
              have HEz := Lib.hid (Kp.out HE6.out hk7 hwy)
              have HSz := Lib.hid (Nat.le_trans HS6.out hk7.size)
              clear hX7 hk7 HD6 HX6 HE6 HS6 HD HX HE HS c0
              -- in hand: wz: HDz : DcAt F wz d bs t2, HXz : XcAt G wz y bs q2, HEz : Ext w wz, HSz : w5.heap.size ≤ wz.heap.size; HJ2 : the invariant at i + 1
              go_wp2_with fail
              refine (dover_any F d _ bs t2 _ HDz.out HJ2.out.2.1 hN3 hbl).mono ?_; rintro e w7 ⟨rfl, hx7⟩
              have HD7 := Lib.hid (HDz.out.ext hx7)
              have HX7 := Lib.hid (HXz.out.ext hx7)
              have HE7 := Lib.hid (HEz.out.trans hx7)
              have HS7 := Lib.hid (Nat.le_trans HSz.out hx7.size)
              clear hx7 HDz HXz HEz HSz
              go_wp2_with fail
              refine (xover_any G y _ bs q2 _ HX7.out HJ2.out.2.2.1 hN3 hbl).mono ?_; rintro e w8 ⟨rfl, hx8⟩
              have HD8 := Lib.hid (HD7.out.ext hx8)
              have HX8 := Lib.hid (HX7.out.ext hx8)
              have HE8 := Lib.hid (HE7.out.trans hx8)
              have HS8 := Lib.hid (Nat.le_trans HS7.out hx8.size)
              clear hx8 HD7 HX7 HE7 HS7
              have hOO : ovrD bs t2 = ovrX bs q2 := by unfold ovrD ovrX; rw [HJ2.out.1.1]
              rw [← hOO]
              obtain ⟨O, hO⟩ : ∃ O, ovrD bs t2 = O := ⟨_, rfl⟩
              rw [hO]
              clear hO hOO
              go_wp2
              go_roundw
              case rel => exact ⟨i + 1, t2, q2, ⟨by omega, by omega⟩, by go_num, HJ2.out, HD8.out, HX8.out, HE8.out, HS8.out⟩
              case measure => simp [intOf]; omega
            · have t1 : (p == 0) = false := by rw [beq_eq_false_iff_ne]; exact hp
              obtain ⟨zl, zu⟩ := lk_code HBB.out p z1 z4 z2.2.2
              obtain ⟨t2, ht2⟩ : ∃ t2, codD bs t p = t2 := ⟨_, rfl⟩
              obtain ⟨q2, hq2⟩ : ∃ q2, xcD bs x p = q2 := ⟨_, rfl⟩
              have kd := codD_ok (p := p) HBB.out z2 z4
              have kx := xcD_ok (bs := bs) (p := p) z3 zr
              rw [ht2] at zl kd
              rw [hq2] at zl kx
              rw [he3] at kd kx
              have HJ2 : Hid (lkI t2 q2 ∧ okD (4 + 3 * (i + 1)) t2 ∧ okX (4 + 3 * (i + 1)) q2 ∧ 16777216 ≤ t2.wid) := ⟨zl, kd.1, kx, kd.2⟩
              obtain ⟨V, hV⟩ : ∃ V, codU t p = V := ⟨_, rfl⟩
              have UF := Lib.hid (dcode_any F d _ p bs t wr HD.out z2 hN0 z4)
              have UG := Lib.hid (fun w' (h : XcAt G w' y bs x) (hs : w5.heap.size ≤ w'.heap.size) => xcode_any G y _ p bs x w' h z3 hN0 zr (fun g h => HGn.out g (Nat.le_trans hs h)))
              rw [ht2, hV] at UF
              rw [hq2, ← zu, hV] at UG
              obtain ⟨f, hf⟩ : ∃ f : Fall, (if chance p then none else some ([], 3)) = f := ⟨_, rfl⟩
              have HFF : Hid (f = none ∨ f = some ([], 3)) := by
                show _ ∨ _
                rw [← hf]
                by_cases hc : chance p = true
                · rw [if_pos hc]; exact .inl rfl
                · rw [if_neg hc]; exact .inr rfl
              have HPF := Lib.hid hf
              clear zl zu kd kx ht2 hq2 hV z1 z2 z3 z4 zr hq hU hp hf
              go_wp2_with fail
              refine (UF.out).mono ?_; rintro e w6 ⟨xd, rfl, hxd, hD6, hk6⟩
              rw [HPF.out] at hxd
              have HD6 := Lib.hid hD6
              have HX6 := Lib.hid (HX.out.kp hk6 HGd.out hyd)
              have HE6 := Lib.hid (Kp.out HE.out hk6 hwd)
              have HS6 := Lib.hid (Nat.le_trans HS.out hk6.size)
              have hflat : ∀ w', ErrIs w' f xd := by
                rcases HFF.out with e | e
                · rw [e] at hxd ⊢
                  exact fun _ => hxd
                · rw [e] at hxd ⊢
                  exact fun _ => hxd
              have HXD := Lib.hid hflat
              have c6 := HE6.out.cell HQ.out
              clear hD6 hk6 hxd hflat
              go_wp2_with fail
              refine (UG.out _ HX6.out HS6.out).mono ?_; rintro e w7 ⟨ce, xe, rfl, hxe, hX7, hk7⟩
              rw [HPF.out] at hxe
              obtain ⟨ea, en, ec, rfl⟩ : ∃ a n cap, xe = Value.slice a n cap := by
                cases f with
                | none => exact ⟨none, 0, 0, hxe.2⟩
                | some q => obtain ⟨_, _, a, cap, e, -⟩ := hxe; exact ⟨_, _, _, e⟩
              have E8 : Ext w7 (w7.alloc (.cells #[.int .i64 ce, .slice ea en ec] 38)) := (Ext.refl w7).alloc _
              have HXq := Lib.hid (XcAt.ext hX7 E8)
              have HDq := Lib.hid ((HD6.out.kp hk7 HFy.out hdy).ext E8)
              have HEq := Lib.hid ((Kp.out HE6.out hk7 hwy).trans E8)
              have HSq := Lib.hid (Nat.le_trans (Nat.le_trans HS6.out hk7.size) E8.size)
              have HRq := Lib.hid (RErrIs.ext hxe E8)
              have HQ0 : Hid ((w7.alloc (.cells #[.int .i64 ce, .slice ea en ec] 38)).cell? ⟨w7.heap.size, 0, none⟩ = some (.int .i64 ce)) := by show _ = _; simp
              have HQ1 : Hid ((w7.alloc (.cells #[.int .i64 ce, .slice ea en ec] 38)).cell? ⟨w7.heap.size, 1, none⟩ = some (.slice ea en ec)) := by show _ = _; simp
              clear hX7 hk7 hxe E8 HD6 HX6 HE6 HS6 HD HX HE HS c0 c6
              go_wp2_with fail
              refine (same_fall f _ _ _ _ (HG.out.ext HEq.out) (HXD.out _) HRq.out).mono ?_; rintro e w8 ⟨rfl, hx8⟩
              have HXz := Lib.hid (HXq.out.ext hx8)
              have HDz := Lib.hid (HDq.out.ext hx8)
              have HEz := Lib.hid (HEq.out.trans hx8)
              have HSz := Lib.hid (Nat.le_trans HSq.out hx8.size)
              clear hx8 HXq HDq HEq HSq HRq HQ0 HQ1
              -- in hand: wz: HDz : DcAt F wz d bs t2, HXz : XcAt G wz y bs q2, HEz : Ext w wz, HSz : w5.heap.size ≤ wz.heap.size; HJ2 : the invariant at i + 1
              go_wp2_with fail
              refine (dover_any F d _ bs t2 _ HDz.out HJ2.out.2.1 hN3 hbl).mono ?_; rintro e w7 ⟨rfl, hx7⟩
              have HD7 := Lib.hid (HDz.out.ext hx7)
              have HX7 := Lib.hid (HXz.out.ext hx7)
              have HE7 := Lib.hid (HEz.out.trans hx7)
              have HS7 := Lib.hid (Nat.le_trans HSz.out hx7.size)
              clear hx7 HDz HXz HEz HSz
              go_wp2_with fail
              refine (xover_any G y _ bs q2 _ HX7.out HJ2.out.2.2.1 hN3 hbl).mono ?_; rintro e w8 ⟨rfl, hx8⟩
              have HD8 := Lib.hid (HD7.out.ext hx8)
              have HX8 := Lib.hid (HX7.out.ext hx8)
              have HE8 := Lib.hid (HE7.out.trans hx8)
              have HS8 := Lib.hid (Nat.le_trans HS7.out hx8.size)
              clear hx8 HD7 HX7 HE7 HS7
              have hOO : ovrD bs t2 = ovrX bs q2 := by unfold ovrD ovrX; rw [HJ2.out.1.1]
              rw [← hOO]
              obtain ⟨O, hO⟩ : ∃ O, ovrD bs t2 = O := ⟨_, rfl⟩
              rw [hO]
              clear hO hOO
              go_wp2
              go_roundw
              case rel => exact ⟨i + 1, t2, q2, ⟨by omega, by omega⟩, by go_num, HJ2.out, HD8.out, HX8.out, HE8.out, HS8.out⟩
              case measure => simp [intOf]; omega
          · have x3 : ¬ (i : Int) < 4000 := by omega
            have x2 : (i : Int) < (m : Int) := by omega
            go_wp2_with fail
            refine (first12_any _ (HG.out.ext HE.out)).mono ?_; rintro e w6 ⟨rfl, hx6⟩
            go_wp2
            go_ret
            exact ⟨rfl, HE.out.trans hx6⟩
        · have x2 : ¬ (i : Int) < (m : Int) := by omega
          go_wp2_with fail
          refine (first12_any _ (HG.out.ext HE.out)).mono ?_; rintro e w6 ⟨rfl, hx6⟩
          go_wp2
          go_ret
          exact ⟨rfl, HE.out.trans hx6⟩
end Go.Proofs.YtdpebaheojaihaaDoor
