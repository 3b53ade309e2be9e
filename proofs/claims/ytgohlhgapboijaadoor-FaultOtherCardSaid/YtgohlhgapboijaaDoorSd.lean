/- kinlaw1.said: what an error of a path and a code says. -/
import Derived.Test.YtgohlhgapboijaaDoorDg
import Derived.Deep.RegionHeld3
namespace Go.Proofs.YtgohlhgapboijaaDoor
set_option linter.unusedVariables false
set_option linter.unusedSimpArgs false
open Go.RowKit Go.Extern.Stop Go.Stop Go.Extern

theorem conv_own {w : World} {B : Nat} {v : Value} {t : List UInt8} (h : w.ownsRow B 5 1 v t.length (Lib.byteCells t)) : (convert 59 9 v).run Tryd.prog w = .ok (.string ⟨t.toArray⟩) w := by
  have hr := Row.of_owns h
  obtain ⟨a, cap, rfl⟩ := hr.form
  by_cases h0 : t.length = 0
  · obtain rfl : t = [] := List.eq_nil_of_length_eq_zero h0
    rw [show ([] : List UInt8).length = 0 from rfl, run_convert_bytes_string w 59 9 5 _ 0 cap Tryd.underlying59 Tryd.underlying5 Tryd.underlying9]
    cases a <;> simp [Conv.bytesToString, loadCells]
    all_goals rfl
  · obtain ⟨g, off, rfl⟩ : ∃ g off, a = some ⟨g, off, none⟩ := by
      obtain ⟨a', cap', e', -, -, h3, -⟩ := hr
      simp only [Value.slice.injEq, true_and] at e'
      obtain ⟨g, off, h4⟩ := h3 (by omega)
      exact ⟨g, off, e'.1.trans h4⟩
    have e : (⟨t.toArray⟩ : ByteArray) = strOfNums (t.map fun x => (x.toNat : Int)) := by
      unfold strOfNums
      simp [List.map_map, Function.comp_def]
    rw [e]
    refine run_convert_bytes_arg w 59 5 Tryd.underlying59 Tryd.underlying5 g off t.length cap (t.map fun x => (x.toNat : Int)) (by simp) (fun i hi => ?_) 9 Tryd.underlying9
    rw [hr.at (j := i) (u := .int .u8 ((t.map fun x => (x.toNat : Int)).getD i 0)) (by simp [Lib.byteCells, List.getD, List.getElem?_eq_getElem hi])]
/-- the row that said writes -/
def SdAt (w0 wr : World) (v : Value) (t : List UInt8) : Prop := wr.ownsRow w0.heap.size 5 1 v t.length (Lib.byteCells t) ∧ Ext w0 wr
set_option maxHeartbeats 8000000 in
set_option maxRecDepth 100000 in
theorem said_any (L : List (ByteArray × Int)) (c : Int) (va : Value) (w : World) (ra : Row w va L.length (stepCells L)) (hl : L.length ≤ 1000000) (hp : (pathT L).length ≤ 1000000000)
    (hn : ∀ y ∈ L, -9223372036854775808 ≤ y.2 ∧ y.2 ≤ 9223372036854775807) (hc : -9223372036854775808 ≤ c ∧ c ≤ 9223372036854775807) :
    Calls Tryd.prog 19 #[va, .int .i64 c] w fun e w' => ∃ s : ByteArray, e = .returned (.string s) ∧ s.data.toList = pathT L ++ codeT c ∧ Ext w w' := by
  obtain ⟨i0, hi, hz0, hz1, hz2⟩ := info_parts byteBu
  obtain ⟨n, hnn⟩ : ∃ n, L.length = n := ⟨_, rfl⟩
  have HN := Lib.hid hnn
  rw [hnn] at ra hl
  obtain ⟨a, ca, rfl⟩ := ra.form
  have RA := Lib.hid ra
  have HB := Lib.hid hn
  have HLN := Lib.hid (fun i => Nat.le_trans (pathT_take L i) hp)
  clear ra hn hnn hp
  go_enter Tryd.func19, Tryd.ntmps19
  go_wp2
  go_loopw [5, 6] (fun ov iv wr => ∃ i : Nat, i ≤ n ∧ iv = .int .i64 (i : Int) ∧ Hid (SdAt w wr ov (pathT (L.take i)))) (fun _ iv _ => n - (intOf iv).toNat)
  case atStart => exact ⟨0, Nat.zero_le _, rfl, World.ownsRow_nil _ _ _ _, Ext.refl w⟩
  case round =>
    obtain ⟨i, hi1, rfl, HS⟩ := hrel
    have HX : Hid (Ext w wr) := HS.out.2
    have hsz := HX.out.size
    by_cases hlt : i < n
    · obtain ⟨⟨s, z⟩, hy⟩ : ∃ y, L[i]? = some y := ⟨_, List.getElem?_eq_getElem (by rw [HN.out]; exact hlt)⟩
      obtain ⟨x0, x1⟩ := stepCells_get L i s z hy
      have hz := HB.out _ (List.mem_of_getElem? hy)
      have HTA := Lib.hid (pathT_at hy)
      obtain ⟨g, off, rfl⟩ : ∃ g off, a = some ⟨g, off, none⟩ := by
        obtain ⟨a', cap', e', -, -, h3, -⟩ := RA.out
        simp only [Value.slice.injEq, true_and] at e'
        obtain ⟨g, off, h4⟩ := h3 (by omega)
        exact ⟨g, off, e'.1.trans h4⟩
      have q0 := HX.out.cell (RA.out.at x0)
      have HQ1 := Lib.hid (RA.out.at x1)
      have t1 : (0 : Int) ≤ (i : Int) := by omega
      have t2 : (i : Int) < (n : Int) := by omega
      have HL2 := HLN.out (i + 1)
      have HL1 := HLN.out i
      have hsl : s.data.toList.length = s.size := by rw [Array.length_toList]; rfl
      have htl : (pathT (L.take (i + 1))).length = (pathT (L.take i)).length + (s.size + ((Lib.itoa z).length + 1) + 2) := by
        rw [HTA.out]
        simp only [List.length_append, stepT, List.length_cons, List.length_nil, hsl]
      have HTL := Lib.hid htl
      have hs9 : (pathT (L.take i)).length + s.size + (Lib.itoa z).length + 3 ≤ 1000000000 := by omega
      clear hy x0 x1 htl
      have HO := Lib.hid HS.out.1
      go_wp2_with (at_builtin; refine Lib.wpList_append_own_string _ rfl _ _ 59 9 rfl w.heap.size 5 i0 Tryd.underlying59 Tryd.underlying9 hi hz0 hz1 hz2 _ _ _ rfl HO.out s rfl (by unfold maxLen; omega) (by omega) (by omega) ?_)
      intro v2 w2 hown2 hgrow _
      have HX2 : Hid (Ext w w2) := Below.grown HX.out hgrow hsz (fun k hk => (HO.out.lt k hk).1)
      have HO2 : Hid (w2.ownsRow w.heap.size 5 1 v2 (pathT (L.take i) ++ s.data.toList).length (Lib.byteCells (pathT (L.take i) ++ s.data.toList))) := by
        show World.ownsRow _ _ _ _ _ _ _
        rw [List.length_append, hsl, ← byteCells_app]
        exact hown2
      have q1 := HX2.out.cell HQ1.out
      rw [← Nat.add_assoc] at q1
      obtain ⟨ao, n', cap, rfl⟩ : ∃ ao n' cap, v2 = .slice ao n' cap := by
        rcases hown2.2 with ⟨hv, _⟩ | ⟨g, cap, cur, hv, _⟩
        · exact ⟨_, _, _, hv⟩
        · exact ⟨_, _, _, hv⟩
      clear hown2 hgrow q0 HO HS HX
      go_wp2_with fail
      refine (digits_any z _ hz).mono ?_; rintro e w3 ⟨t, rfl, ht, x3⟩
      have HX3 := Lib.hid (HX2.out.trans x3)
      have HO3 := Lib.hid (ownsRow_ext HO2.out x3)
      have hsz3 := HX3.out.size
      have htl : t.size = (Lib.itoa z).length := by rw [← ht, Array.length_toList]; rfl
      have HTT := Lib.hid ht
      have h21 := Lib.itoa_length_le z hz.1 hz.2
      have hzA : ¬ 9223372036854775807 < 1 + t.size := by omega
      have hzB : ¬ 9223372036854775807 < 1 + t.size + 2 := by omega
      have hzC : ¬ 9223372036854775807 < (({ data := #[32] } : ByteArray) ++ t).size + 2 := by
        rw [ByteArray.size_append]
        exact hzB
      have hsT : (({ data := #[32] } : ByteArray) ++ t ++ { data := #[58, 32] }).size = t.size + 3 := by
        rw [ByteArray.size_append, ByteArray.size_append]
        show 1 + t.size + 2 = _
        omega
      have hle : (pathT (L.take i) ++ s.data.toList).length = (pathT (L.take i)).length + s.size := by rw [List.length_append, hsl]
      clear x3 HX2 HO2 ht q1
      go_wp2_with (at_builtin; refine Lib.wpList_append_own_string _ rfl _ _ 59 9 rfl w.heap.size 5 i0 Tryd.underlying59 Tryd.underlying9 hi hz0 hz1 hz2 _ _ _ rfl HO3.out (({ data := #[32] } : ByteArray) ++ t ++ { data := #[58, 32] }) rfl (by unfold maxLen; omega) (by omega) (by omega) ?_)
      intro v4 w4 hown4 hgrow4 _
      have HX4 : Hid (Ext w w4) := Below.grown HX3.out hgrow4 hsz3 (fun k hk => (HO3.out.lt k hk).1)
      have HO4 : Hid (SdAt w w4 v4 (pathT (L.take (i + 1)))) := by
        refine ⟨?_, HX4.out⟩
        have e : pathT (L.take (i + 1)) = pathT (L.take i) ++ s.data.toList ++ (({ data := #[32] } : ByteArray) ++ t ++ { data := #[58, 32] }).data.toList := by
          rw [HTA.out, ByteArray.data_append, Array.toList_append, ByteArray.data_append, Array.toList_append, HTT.out]
          simp [stepT]
        have e2 : (({ data := #[32] } : ByteArray) ++ t ++ { data := #[58, 32] }).data.toList.length = (({ data := #[32] } : ByteArray) ++ t ++ { data := #[58, 32] }).size := by rw [Array.length_toList]; rfl
        rw [e, List.length_append, e2, hle, hsT, htl, ← byteCells_app]
        exact hown4
      clear hown4 hgrow4
      go_wp2_with fail
      exact ⟨⟨i + 1, by omega, by go_num, HO4⟩, by simp [intOf]; omega⟩
    · obtain rfl : i = n := by omega
      have ht : L.take i = L := List.take_of_length_le (by rw [HN.out]; exact Nat.le_refl _)
      rw [ht] at HS
      have cv0 := fun (W : World) (x : Ext wr W) => conv_own (ownsRow_ext HS.out.1 x)
      have cvs := cv0 wr (Ext.refl wr)
      have cvd := cv0 wr.drew (Ext.refl wr).drew
      have hcl := codeT_len hc
      obtain ⟨ao, n', cap, rfl⟩ : ∃ ao n' cap, u5 = .slice ao n' cap := by
        rcases HS.out.1.2 with ⟨hv, _⟩ | ⟨g, cap, cur, hv, _⟩
        · exact ⟨_, _, _, hv⟩
        · exact ⟨_, _, _, hv⟩
      have hpl : (⟨(pathT L).toArray⟩ : ByteArray).size ≤ 1000000000 := by
        have h := HLN.out i
        rw [ht] at h
        show (pathT L).toArray.size ≤ _
        simpa using h
      have HPD : Hid ((⟨(pathT L).toArray⟩ : ByteArray).data.toList = pathT L) := by show _ = _; simp
      have CV := Lib.hid cv0
      clear cv0 cvs ht
      revert HPD hpl CV cvd
      generalize (⟨(pathT L).toArray⟩ : ByteArray) = P
      intro cvd hpl HPD CV
      have t3 : ¬ (i : Int) < (i : Int) := by omega
      have ERR : Hid (∀ W, Calls Tryd.prog 39 #[.int .i64 c] W fun e w' => ∃ t : ByteArray, e = .returned (.string t) ∧ t.data.toList = codeT c ∧ ¬ 9223372036854775807 < P.size + t.size ∧ Ext W w') := fun W => (cerr_any c W hc).mono fun e w' ⟨t, h1, h2, h3⟩ => ⟨t, h1, h2, by
        have h4 : t.size = t.data.toList.length := by rw [Array.length_toList]; rfl
        rw [h4, h2]
        omega, h3⟩
      go_wp2_with fail
      go_region_law (first
        | (go_simp; go_at_call 39; (with_reducible refine (ERR.out _).mono ?_); rintro e w5 ⟨t5, rfl, ht5, hz5, x5⟩; have cv5 := CV.out w5 ((Ext.refl wr).drew.trans x5); have HT5 := Lib.hid ht5; have X5 := Lib.hid x5; clear ht5 x5))
      all_goals go_wp2_with fail
      all_goals go_ret
      all_goals exact ⟨_, rfl, by rw [ByteArray.data_append, Array.toList_append, HPD.out, HT5.out], HX.out.trans ((Ext.refl wr).drew.trans X5.out)⟩
end Go.Proofs.YtgohlhgapboijaaDoor
