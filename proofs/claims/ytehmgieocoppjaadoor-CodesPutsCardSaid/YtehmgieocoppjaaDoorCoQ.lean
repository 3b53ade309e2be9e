/- kinlaw3.CodesPuts: the walk. -/
import Derived.Test.YtehmgieocoppjaaDoorCoP
namespace Go.Proofs.YtehmgieocoppjaaDoor
set_option linter.unusedVariables false
set_option linter.unusedSimpArgs false
open Go.RowKit Go.Extern.Stop Go.Stop Go.Extern

set_option maxHeartbeats 8000000 in
set_option maxRecDepth 20000 in
theorem cputs_law (L : List Oq4) (u : Value) (w : World) (hg : EtIs w) (ho : Oqs w u L) :
    Calls Tryd.prog 4 #[u] w fun e w' => e = .returned (.bool true) ∧ Ext w w' := by
  have hm := ho.small
  obtain ⟨b0, cb, rfl⟩ := ho.form
  have HO := Lib.hid ho
  obtain ⟨m, hm'⟩ : ∃ m, m = L.length := ⟨_, rfl⟩
  rw [← hm'] at HO hm ⊢
  have HM := Lib.hid hm'
  unfold maxLen at hm
  clear ho hm'
  go_enter Tryd.func4, Tryd.ntmps4
  go_wp2_with fail
  refine (first3_any _ hg).mono ?_; rintro e w1 ⟨rfl, hx1⟩
  go_wp2_with fail
  refine (newwr_any _).mono ?_; rintro e w2 ⟨b, rfl, hb, hw2, hx2⟩
  have hbB : b < w2.heap.size := Ext.lt (p := ⟨b, 0, none⟩) hw2.1.1
  have HW2 : Hid (∀ T, WrAt (w2.alloc (.cells #[.slice none 0 0] T)) b (w2.heap.size + 1) []) := fun T => WrAt.new (hw2.ext ((Ext.refl w2).alloc _)) (by omega) (by simp)
  have HX2 : Hid (∀ T, XwAt (w2.alloc (.cells #[.slice none 0 0] T)) w2.heap.size (w2.heap.size + 1) []) := fun T => ⟨.slice none 0 0, ⟨by simp, by simp⟩, World.ownsRow_nil _ _ _ _, ⟨by omega, by simp⟩, by simp⟩
  have HE2 : Hid (∀ T, Ext w (w2.alloc (.cells #[.slice none 0 0] T))) := fun T => (hx1.trans hx2).alloc _
  have hwx : w.heap.size ≤ w2.heap.size := (hx1.trans hx2).size
  have hwb : w.heap.size ≤ b := Nat.le_trans hx1.size hb
  clear hw2 hx1 hx2 hb
  obtain ⟨x, hxx⟩ : ∃ x, w2.heap.size = x := ⟨_, rfl⟩
  have HXX := Lib.hid hxx
  obtain ⟨B, hB⟩ : ∃ B, x + 1 = B := ⟨_, rfl⟩
  rw [hxx] at HW2 HX2 hbB hwx
  rw [hB] at HW2 HX2
  have hxB : x < B := by omega
  have hbx : b ≠ x := by omega
  have hbB2 : b < B := by omega
  have hwB : w.heap.size ≤ B := by omega
  clear hB
  clear hxx
  go_wp2_with fail
  try rw [HXX.out]
  go_loopw [5] (fun iv wr => ∃ (i : Nat) (l : List Bool), (i ≤ m ∧ i ≤ 1000) ∧ iv = .int .i64 (i : Int) ∧ l.length ≤ 61 * i ∧ Hid (WrAt wr b B l) ∧ Hid (XwAt wr x B l) ∧ Hid (Ext w wr)) (fun iv _ => 1000 - (intOf iv).toNat)
  case atStart => exact ⟨0, [], ⟨Nat.zero_le _, Nat.zero_le _⟩, rfl, Nat.zero_le _, HW2.out _, HX2.out _, HE2.out _⟩
  case round =>
    clear HW2 HX2 HE2
    obtain ⟨i, l, ⟨hi, hi2⟩, rfl, hl, HW, HX, HE⟩ := hrel
    by_cases hlt : i < m
    · by_cases hlt2 : i < 1000
      · obtain ⟨g, off, ha, hq⟩ := HO.out.had (by have := HM.out; omega)
        subst ha
        obtain ⟨o, ho⟩ : ∃ o, L[i]? = some o := ⟨_, List.getElem?_eq_getElem (by rw [← HM.out]; exact hlt)⟩
        obtain ⟨kd, vv, kk, mm⟩ := o
        have HOP := Lib.hid (hq i _ ho)
        obtain ⟨c0, c1, c2, c3⟩ := HOP.out.ext HE.out
        dsimp only at c0 c1 c2 c3
        have x1 : (0 : Int) ≤ (i : Int) := by omega
        have x2 : (i : Int) < (m : Int) := by omega
        have x3 : (i : Int) < 1000 := by omega
        have HED := Lib.hid HE.out.drew
        have U := Lib.hid (puts_any b x B kd vv kk mm l w wr.drew hg HED.out hwb hwx hwB hbx hbB2 hxB (HW.out.ext (Ext.refl wr).drew) (HX.out.ext (Ext.refl wr).drew) (by omega))
        have hl2' := ptL_len (l := l) (kd := kd) (vv := vv) (kk := kk)
        obtain ⟨l2, hl3⟩ : ∃ l2, ptL l kd vv kk = l2 := ⟨_, rfl⟩
        rw [hl3] at U hl2'
        have hl2 : l2.length ≤ 61 * (i + 1) := by omega
        clear hq ho hl2' hl3
        go_wp2_with fail
        go_region_law (first
          | (go_simp; go_at_call 25; refine (U.out).mono ?_; rintro e wz ⟨rfl, p5, q5, e5⟩; have HWZ := Lib.hid p5; have HXZ := Lib.hid q5; have HEZ := Lib.hid e5; obtain ⟨xa, xcap, xc, -, -⟩ := q5.form; obtain ⟨n, hn⟩ : ∃ n, l2.length = n := ⟨_, rfl⟩; have UL := Lib.hid (wrlen_any b B l2 wz p5); rw [hn] at UL xc; clear p5 q5 e5 hn)
          | (go_simp; go_at_call 20; refine (UL.out).mono ?_; rintro e w6 ⟨rfl, rfl⟩))
        all_goals go_wp2
        all_goals go_roundw
        all_goals first
          | exact ⟨i + 1, l2, ⟨by omega, by omega⟩, by go_num, hl2, HWZ.out, HXZ.out, HEZ.out⟩
          | (simp [intOf]; omega)
      · obtain rfl : i = 1000 := by omega
        have hl8 : l.length ≤ 61000 := by omega
        go_wp2_with fail
        refine (first3_any _ (hg.ext HE.out)).mono ?_; rintro e wc ⟨rfl, hxc⟩
        go_wp2_with fail
        refine (wbytes_any b B l _ (HW.out.ext hxc)).mono ?_; rintro e wd ⟨ud, rfl, hod, hxd⟩
        have hyd := Bys.of_owns hod (pkL_lt l) (by rw [pkL_length]; omega)
        go_wp2_with fail
        refine (xwbytes_any x B l _ ((HX.out.ext hxc).ext hxd)).mono ?_; rintro e we ⟨ge, ne, rfl, hye, hxe⟩
        go_wp2_with fail
        refine (bytes_same (pkL l) _ _ _ (hyd.ext hxe) hye).mono ?_; rintro e wf ⟨rfl, rfl⟩
        go_wp2
        go_ret
        exact ⟨rfl, HE.out.trans (hxc.trans (hxd.trans hxe))⟩
    · obtain rfl : i = m := by omega
      have hl8 : l.length ≤ 61000 := by omega
      go_wp2_with fail
      refine (first3_any _ (hg.ext HE.out)).mono ?_; rintro e wc ⟨rfl, hxc⟩
      go_wp2_with fail
      refine (wbytes_any b B l _ (HW.out.ext hxc)).mono ?_; rintro e wd ⟨ud, rfl, hod, hxd⟩
      have hyd := Bys.of_owns hod (pkL_lt l) (by rw [pkL_length]; omega)
      go_wp2_with fail
      refine (xwbytes_any x B l _ ((HX.out.ext hxc).ext hxd)).mono ?_; rintro e we ⟨ge, ne, rfl, hye, hxe⟩
      go_wp2_with fail
      refine (bytes_same (pkL l) _ _ _ (hyd.ext hxe) hye).mono ?_; rintro e wf ⟨rfl, rfl⟩
      go_wp2
      go_ret
      exact ⟨rfl, HE.out.trans (hxc.trans (hxd.trans hxe))⟩
end Go.Proofs.YtehmgieocoppjaaDoor
