/- kinlaw4.UnitSplits: the walk. -/
import Derived.Test.YtkjllhphpkmaiaaDoorUs3
namespace Go.Proofs.YtkjllhphpkmaiaaDoor
set_option linter.unusedVariables false
set_option linter.unusedSimpArgs false
open Go.RowKit Go.Extern.Stop Go.Stop Go.Extern

/-- a list's units, whose data may be written -/
def DatAt (w : World) (B : Nat) (a : Option Addr) (S : Nat → Value) (ln : Nat → Nat) (m : Nat) : Prop := ∀ q, q < m → ∃ G sa sc, a = some ⟨G, 0, none⟩ ∧ S q = .slice sa (ln q) sc ∧ w.cell? ⟨G, q * 4 + 1, none⟩ = some (.slice sa (ln q) sc) ∧ (0 < ln q → ∃ g, sa = some ⟨g, 0, none⟩ ∧ B ≤ g ∧ g ≠ G ∧ ∀ j, j < ln q → (∃ x : Nat, w.cell? ⟨g, j, none⟩ = some (.int .u8 (x : Int))) ∧ w.frozen? ⟨g, j, none⟩ = false)
theorem DatAt.ext {w w' : World} {B m : Nat} {a : Option Addr} {S : Nat → Value} {ln : Nat → Nat} (h : DatAt w B a S ln m) (k : Ext w w') : DatAt w' B a S ln m := fun q hq => by
  obtain ⟨G, sa, sc, e1, e2, e3, e4⟩ := h q hq
  refine ⟨G, sa, sc, e1, e2, k.cell e3, fun h0 => ?_⟩
  obtain ⟨g, f1, f2, f3, f4⟩ := e4 h0
  refine ⟨g, f1, f2, f3, fun j hj => ?_⟩
  obtain ⟨⟨x, hx⟩, hf⟩ := f4 j hj
  exact ⟨⟨x, k.cell hx⟩, (Below.frozen k (Ext.lt hx)).trans hf⟩
theorem DatAt.set {w : World} {B m G g i : Nat} {S : Nat → Value} {ln : Nat → Nat} (h : DatAt w B (some ⟨G, 0, none⟩) S ln m) (hp : g ≠ G) (y : Nat) : DatAt (w.setCell ⟨g, i, none⟩ (.int .u8 (y : Int))) B (some ⟨G, 0, none⟩) S ln m := fun q hq => by
  obtain ⟨G', sa, sc, e1, e2, e3, e4⟩ := h q hq
  simp only [Option.some.injEq, Addr.mk.injEq, and_true] at e1
  subst e1
  refine ⟨G, sa, sc, rfl, e2, ?_, fun h0 => ?_⟩
  · rw [World.cell?_setCell_other _ _ _ _ (by intro e; exact hp (congrArg Addr.block e))]
    exact e3
  · obtain ⟨g', f1, f2, f3, f4⟩ := e4 h0
    refine ⟨g', f1, f2, f3, fun j hj => ?_⟩
    obtain ⟨⟨x, hx⟩, hf⟩ := f4 j hj
    refine ⟨?_, by simpa using hf⟩
    by_cases he : (⟨g, i, none⟩ : Addr) = ⟨g', j, none⟩
    · rw [he]
      exact ⟨y, World.cell?_setCell_same _ _ _ hx⟩
    · exact ⟨x, (World.cell?_setCell_other _ _ _ _ he).trans hx⟩
theorem DatAt.of {w : World} {B : Nat} {a : Option Addr} {c : Nat} {L : List Un} {S : Nat → Value} (h : w.ownsRow B 44 4 (.slice a L.length c) L.length (ucs L S L.length)) (hs : UnOwn w B L S L.length (.slice a L.length c)) : DatAt w B a S (fun q => (unD L q).2.1.length) L.length := fun q hq => by
  obtain ⟨G, cap, e, -, -⟩ := uaddr h (by omega)
  simp only [Value.slice.injEq, true_and] at e
  obtain ⟨rfl, rfl⟩ := e
  obtain ⟨h1, h2, h3, h4⟩ := hs q hq
  obtain ⟨sa, sc, e2⟩ := uform h1
  obtain ⟨-, g2, -, -⟩ := ucs_get L S L.length q hq
  refine ⟨G, sa, sc, rfl, e2, by rw [← e2]; exact ucell h g2, fun h0 => ?_⟩
  obtain ⟨g, cap, e3, hb, -⟩ := uaddr h1 h0
  have e4 := e2.symm.trans e3
  simp only [Value.slice.injEq, true_and] at e4
  obtain ⟨rfl, rfl⟩ := e4
  refine ⟨g, rfl, hb, fun e => h4 G rfl (by rw [e2, e]; rfl), fun j hj => ?_⟩
  obtain ⟨g', cap', e5, -, hf⟩ := own_parts h1 h0
  have e6 := e2.symm.trans e5
  simp only [Value.slice.injEq, Option.some.injEq, Addr.mk.injEq, and_true, true_and] at e6
  obtain ⟨rfl, -⟩ := e6
  refine ⟨⟨(unD L q).2.1.getD j 0, ?_⟩, hf j⟩
  rw [e2] at h1
  refine ucell h1 ?_
  unfold byC
  rw [List.getElem?_map, nget_of_lt hj]
  rfl
set_option maxHeartbeats 8000000 in
set_option maxRecDepth 20000 in
theorem splits_law (bs : List Nat) (v : Value) (w : World) (hg : EtIs w) (hnb : NbIs w) (rb : Row w v bs.length (bs.map fun x : Nat => Value.int .u8 (x : Int))) (hb : ∀ x ∈ bs, x < 256) :
    Calls Tryd.prog 6 #[v] w fun e w' => e = .returned (.bool true) ∧ Ext w w' := by
  have HG := Lib.hid hg
  have HNB := Lib.hid hnb
  obtain ⟨a, cap, rfl⟩ := rb.form
  obtain ⟨l, hl⟩ : ∃ l, bs.length = l := ⟨_, rfl⟩
  rw [hl] at rb ⊢
  by_cases h1 : 20000 < l
  · have h1' : (20000 : Int) < (l : Int) := by omega
    clear hg hnb rb hl
    go_enter Tryd.func6, Tryd.ntmps6
    go_wp2_with fail
    refine (first4_any _ HG.out HNB.out).mono ?_; rintro e w1 ⟨rfl, hx1⟩
    have HX1 := Lib.hid hx1
    clear hx1
    go_wp2_with fail
    refine (first4_any _ (HG.out.ext HX1.out) (HNB.out.ext HX1.out)).mono ?_; rintro e w2 ⟨rfl, hx2⟩
    have HX2 := Lib.hid hx2
    clear hx2
    go_wp2
    go_ret
    exact ⟨rfl, HX1.out.trans HX2.out⟩
  · have h1' : ¬ (20000 : Int) < (l : Int) := by omega
    have HB : Hid (Bys w (.slice a l cap) bs) := ⟨by rw [hl]; exact rb, hb, by rw [hl]; omega⟩
    have HBB := Lib.hid hb
    have HN := Lib.hid hl
    have US := Lib.hid (fun v w h k => split_any bs v w h k (by rw [hl]; omega))
    have UR := Lib.hid (fun v w h => rsplit_any bs v w h (by rw [hl]; omega))
    obtain ⟨⟨F, L⟩, hR⟩ : ∃ R, spU bs 0 = R := ⟨_, rfl⟩
    have hLc : L.length ≤ l := by
      have := sp_count bs (l + 1) 0 (by omega)
      rw [hR, hl] at this
      exact this
    rw [hR] at US UR
    obtain ⟨m, hm⟩ : ∃ m, L.length = m := ⟨_, rfl⟩
    have HM := Lib.hid hm
    rw [hm] at hLc
    have hm2 : m ≤ 20000 := by omega
    clear hg hnb rb hl hb hR hLc hm
    go_enter Tryd.func6, Tryd.ntmps6
    go_wp2_with fail
    refine (first4_any _ HG.out HNB.out).mono ?_; rintro e w1 ⟨rfl, hx1⟩
    have HX1 := Lib.hid hx1
    clear hx1
    go_wp2_with fail
    refine (cpb_any bs _ _ (HB.out.ext HX1.out)).mono ?_; rintro e w2 ⟨u2, rfl, ho2, hx2⟩
    have hy2 := Bys.of_owns ho2 HBB.out (by rw [HN.out]; omega)
    obtain ⟨a2, cap2, rfl⟩ := hy2.form
    have HX2 := Lib.hid (HX1.out.trans hx2)
    have HI2 := Lib.hid hy2
    rw [HN.out] at HI2 ⊢
    clear ho2 hy2 hx2
    go_wp2_with fail
    refine (US.out _ _ (HNB.out.ext HX2.out) HI2.out).mono ?_; rintro e w3 ⟨lv, x, S, rfl, ho3, hs3, he3, hx3⟩
    obtain ⟨la, lc, rfl⟩ := uform ho3
    have HU3 : Hid (Uns w3 (.slice la L.length lc) L) := Uns.of_own ho3 (by rw [HM.out]; omega) hs3
    have HD3 : Hid (DatAt w3 w2.heap.size la S (fun q => (unD L q).2.1.length) m) := by
      have := DatAt.of ho3 hs3
      show DatAt _ _ _ _ _ _
      rw [← HM.out]; exact this
    have HLN : Hid (∀ q, q < m → (fun q => (unD L q).2.1.length) q ≤ 100000) := fun q hq => (hs3 q (by show q < L.length; rw [HM.out]; exact hq)).2.2.1
    have HE3 := Lib.hid he3
    have HX3 := Lib.hid (HX2.out.trans hx3)
    have HY3 := Lib.hid hx3
    clear ho3 hs3 he3 hx3
    obtain ⟨ln, hln⟩ : ∃ ln, (fun q => (unD L q).2.1.length) = ln := ⟨_, rfl⟩
    rw [hln] at HD3 HLN
    clear hln
    rw [show (F, L).2.length = m from HM.out]
    rw [HM.out] at HU3
    go_wp2_with fail
    refine (UR.out _ _ (HB.out.ext HX3.out)).mono ?_; rintro e w4 ⟨mv, c, y, T, rfl, ho4, hs4, he4, hx4⟩
    have he4 : RErrIs w4 F c y := he4
    obtain ⟨xa, xn, xc, rfl⟩ := he4.frm
    have E5 : Ext w4 (w4.alloc (.cells #[.int .i64 c, .slice xa xn xc] 32)) := (Ext.refl w4).alloc _
    have HV5 : Hid (Uns (w4.alloc (.cells #[.int .i64 c, .slice xa xn xc] 32)) mv L) := (Uns.of_own ho4 (by show L.length ≤ _; rw [HM.out]; omega) hs4).ext E5
    have HU5 := Lib.hid ((HU3.out.ext hx4).ext E5)
    have HR5 := Lib.hid (he4.ext E5)
    have HE5 := Lib.hid ((ErrIs.ext HE3.out hx4).ext E5)
    have HD5 := Lib.hid ((HD3.out.ext hx4).ext E5)
    have HX5 := Lib.hid ((HX3.out.trans hx4).trans E5)
    have HY5 := Lib.hid ((HY3.out.trans hx4).trans E5)
    have HQ0 : Hid ((w4.alloc (.cells #[.int .i64 c, .slice xa xn xc] 32)).cell? ⟨w4.heap.size, 0, none⟩ = some (.int .i64 c)) := by show _ = _; simp
    have HQ1 : Hid ((w4.alloc (.cells #[.int .i64 c, .slice xa xn xc] 32)).cell? ⟨w4.heap.size, 1, none⟩ = some (.slice xa xn xc)) := by show _ = _; simp
    clear ho4 hs4 he4 hx4 E5 HU3 HE3 HD3
    go_wp2_with fail
    refine (units_same L _ _ _ HU5.out HV5.out).mono ?_; rintro e w6 ⟨rfl, hx6⟩
    have HX6 := Lib.hid (HX5.out.trans hx6)
    have HY6 := Lib.hid (HY5.out.trans hx6)
    have HD6 := Lib.hid (HD5.out.ext hx6)
    have HE6 := Lib.hid (ErrIs.ext HE5.out hx6)
    have HR6 := Lib.hid (HR5.out.ext hx6)
    have q0 := hx6.cell HQ0.out
    have q1 := hx6.cell HQ1.out
    clear hx6 HU5 HV5 HE5 HR5 HD5 HQ0 HQ1
    go_wp2_with fail
    refine (same_fall F _ _ _ _ (HG.out.ext HX6.out) HE6.out HR6.out).mono ?_; rintro e w7 ⟨rfl, hx7⟩
    have HX7 := Lib.hid (HX6.out.trans hx7)
    have HY7 := Lib.hid (HY6.out.trans hx7)
    have HD7 := Lib.hid (HD6.out.ext hx7)
    have HI7 := Lib.hid (HI2.out.ext HY7.out)
    clear hx7 HE6 HR6 HD6 q0 q1
    go_wp2_with fail
    refine (bytes_same bs _ _ _ HI7.out (HB.out.ext HX7.out)).mono ?_; rintro e w8 ⟨rfl, rfl⟩
    have hbase := HX2.out.size
    go_wp2_with fail
    go_loopw [8] (fun iv wr => ∃ i : Nat, i ≤ m ∧ iv = .int .i64 (i : Int) ∧ Hid (DatAt wr w2.heap.size la S ln m) ∧ Hid (Ext w2 wr)) (fun iv _ => m - (intOf iv).toNat)
    case atStart => exact ⟨0, Nat.zero_le _, rfl, HD7.out, HY7.out⟩
    case round =>
      obtain ⟨i, hi, rfl, HD, HY⟩ := hrel
      by_cases hlt : i < m
      · obtain ⟨G, sa, sc, rfl, -⟩ := HD.out i hlt
        have hlb := HLN.out i hlt
        have x1 : (0 : Int) ≤ (i : Int) := by omega
        have x2 : (i : Int) < (m : Int) := by omega
        go_wp2
        go_loopw [9] (fun jv wj => ∃ j : Nat, j ≤ ln i ∧ jv = .int .i64 (j : Int) ∧ Hid (DatAt wj w2.heap.size (some ⟨G, 0, none⟩) S ln m) ∧ Hid (Ext w2 wj)) (fun jv _ => ln i - (intOf jv).toNat)
        case atStart => exact ⟨0, Nat.zero_le _, rfl, HD.out, HY.out⟩
        case round =>
          obtain ⟨j, hj, rfl, HJ, HZ⟩ := hrel
          obtain ⟨G', sa', sc', e1, e2, e3, e4⟩ := HJ.out i hlt
          simp only [Option.some.injEq, Addr.mk.injEq, and_true] at e1
          subst e1
          by_cases hjl : j < ln i
          · obtain ⟨g, rfl, f2, f3, f4⟩ := e4 (by omega)
            obtain ⟨⟨z, hz⟩, hfz⟩ := f4 j hjl
            have y1 : (0 : Int) ≤ (j : Int) := by omega
            have y2 : (j : Int) < ((ln i : Nat) : Int) := by omega
            clear f4 e4 e2
            go_wp2
            go_roundw
            case rel => exact ⟨j + 1, by omega, by go_num, HJ.out.set f3 88, HZ.out.setCell (p := ⟨g, j, none⟩) f2 _⟩
            case measure => simp [intOf]; omega
          · have hjn : j = ln i := by omega
            have y2 : ¬ (j : Int) < ((ln i : Nat) : Int) := by omega
            clear e4 e2
            go_wp2
            go_roundw
            case rel => exact ⟨i + 1, by omega, by go_num, HJ.out, HZ.out⟩
            case measure => simp [intOf]; omega
      · have him : i = m := by omega
        have x2 : ¬ (i : Int) < (m : Int) := by omega
        have HX9 := Lib.hid (HX2.out.trans HY.out)
        have HI9 := Lib.hid (HI2.out.ext HY.out)
        go_wp2_with fail
        refine (first4_any _ (HG.out.ext HX9.out) (HNB.out.ext HX9.out)).mono ?_; rintro e wa ⟨rfl, hxa⟩
        have HXa := Lib.hid (HX9.out.trans hxa)
        have HI := Lib.hid (HI9.out.ext hxa)
        clear hxa
        go_wp2_with fail
        refine (bytes_same bs _ _ _ HI.out (HB.out.ext HXa.out)).mono ?_; rintro e wb ⟨rfl, rfl⟩
        go_wp2
        go_ret
        exact ⟨rfl, HXa.out⟩
end Go.Proofs.YtkjllhphpkmaiaaDoor
