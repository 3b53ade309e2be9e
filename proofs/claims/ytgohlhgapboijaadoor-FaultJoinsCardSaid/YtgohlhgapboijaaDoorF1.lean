/- kinlaw1.first. -/
import Derived.Test.YtgohlhgapboijaaDoorIs
namespace Go.Proofs.YtgohlhgapboijaaDoor
set_option linter.unusedVariables false
set_option linter.unusedSimpArgs false
open Go.RowKit Go.Extern.Stop Go.Stop Go.Extern

def wSource : ByteArray := ⟨#[115, 111, 117, 114, 99, 101]⟩
def wBits : ByteArray := ⟨#[98, 105, 116, 115]⟩
theorem firstT : pathT [(wSource, 2), (wBits, 3)] ++ codeT 1 = [115, 111, 117, 114, 99, 101, 32, 50, 58, 32, 98, 105, 116, 115, 32, 51, 58, 32, 99, 111, 100, 101, 32, 49] := by
  have h2 : Lib.decDigits 2 = [50] := by rw [Lib.decDigits, dif_pos (by omega)]; rfl
  have h3 : Lib.decDigits 3 = [51] := by rw [Lib.decDigits, dif_pos (by omega)]; rfl
  have h1 : Lib.decDigits 1 = [49] := by rw [Lib.decDigits, dif_pos (by omega)]; rfl
  have e2 : Lib.itoa 2 = [50] := h2
  have e3 : Lib.itoa 3 = [51] := h3
  have e1 : codeT 1 = [99, 111, 100, 101, 32] ++ Lib.decDigits 1 := rfl
  rw [e1, h1]
  simp only [pathT, stepT, e2, e3]
  rfl
theorem firstS {s : ByteArray} (h : s.data.toList = pathT [(wSource, 2), (wBits, 3)] ++ codeT 1) : s = ⟨#[115, 111, 117, 114, 99, 101, 32, 50, 58, 32, 98, 105, 116, 115, 32, 51, 58, 32, 99, 111, 100, 101, 32, 49]⟩ := by
  rw [firstT] at h
  obtain ⟨⟨l⟩⟩ := s
  have h : l = _ := h
  subst h
  rfl
set_option maxHeartbeats 4000000 in
set_option maxRecDepth 100000 in
theorem first1_any (w : World) (hg : EtIs w) (hT : PwIs w) : Calls Tryd.prog 13 #[] w fun e w' => e = .returned (.bool true) ∧ Ext w w' := by
  have HG := Lib.hid hg
  have HT := Lib.hid hT
  have UC := Lib.hid (fun (w : World) => (show IsErr w [] 1 (.iface 23 (.int .i64 1)) from rfl))
  clear hg hT
  go_enter Tryd.func13, Tryd.ntmps13
  go_wp2_with fail
  refine (in_err wBits 3 [] 1 _ _ (UC.out _)).mono ?_; rintro e w1 ⟨v1, rfl, x1, h1⟩
  go_wp2_with fail
  refine (in_err wSource 2 _ 1 _ _ h1).mono ?_; rintro e w2 ⟨v2, rfl, x2, h2⟩
  have HX2 := Lib.hid (x1.trans x2)
  have HV2 := Lib.hid h2
  clear h1 x1 h2 x2
  go_wp2_with fail
  refine (path_err _ 1 _ _ (HG.out.ext HX2.out) HV2.out (by decide)).mono ?_; rintro e w3 ⟨u3, rfl, x3, o3⟩
  have HX3 := Lib.hid (HX2.out.trans x3)
  have HV3 := Lib.hid (HV2.out.ext x3)
  have HR3 := Lib.hid (Row.of_owns o3)
  obtain ⟨ua, uc, rfl⟩ := HR3.out.form
  clear x3 o3 HX2 HV2
  go_wp2_with fail
  refine (of_nil _).mono ?_; rintro e w4 ⟨rfl, x4⟩
  have HX4 := Lib.hid (HX3.out.trans x4)
  have HV4 := Lib.hid (HV3.out.ext x4)
  have HR4 := Lib.hid (HR3.out.ext x4)
  clear x4 HX3 HV3 HR3
  go_wp2_with fail
  refine (of_err [] 1 _ _ (HG.out.ext HX4.out) (UC.out _)).mono ?_; rintro e w5 ⟨rfl, x5⟩
  have HX5 := Lib.hid (HX4.out.trans x5)
  have HV5 := Lib.hid (HV4.out.ext x5)
  have HR5 := Lib.hid (HR4.out.ext x5)
  clear x5 HX4 HV4 HR4
  go_wp2_with fail
  refine (of_err _ 1 _ _ (HG.out.ext HX5.out) HV5.out).mono ?_; rintro e w6 ⟨rfl, x6⟩
  have HX6 := Lib.hid (HX5.out.trans x6)
  have HV6 := Lib.hid (HV5.out.ext x6)
  have HR6 := Lib.hid (HR5.out.ext x6)
  clear x6 HX5 HV5 HR5
  go_wp2_with fail
  refine (text_any _ 1 _ _ (HG.out.ext HX6.out) (HT.out.ext HX6.out) HV6.out (by decide) (by
    have h1 : (pathT [(wSource, 2), (wBits, 3)] ++ codeT 1).length = 24 := by rw [firstT]; rfl
    rw [List.length_append] at h1
    omega) (by intro y hy; simp at hy; rcases hy with rfl | rfl <;> decide) (by decide)).mono ?_; rintro e w7 ⟨s7, rfl, hs7, x7⟩
  obtain rfl := firstS hs7
  have HX7 := Lib.hid (HX6.out.trans x7)
  have HR7 := Lib.hid (HR6.out.ext x7)
  obtain ⟨g, off, hua⟩ : ∃ g off, ua = some ⟨g, off, none⟩ := by
    obtain ⟨a', cap', e', -, -, h3, -⟩ := HR7.out
    simp only [Value.slice.injEq, true_and] at e'
    obtain ⟨g, off, h4⟩ := h3 (by decide)
    exact ⟨g, off, e'.1.trans h4⟩
  subst hua
  have q3 := HR7.out.at (j := 3) (u := .int .i64 3) rfl
  clear x7 hs7 HX6 HV6 HR6
  go_wp2_with fail
  refine (in_nil _ _ _).mono ?_; rintro e w8 ⟨rfl, x8⟩
  have HX8 := Lib.hid (HX7.out.trans x8)
  clear x8 HX7
  go_wp2_with fail
  refine (fis_nil 0 _).mono ?_; rintro e w9 ⟨rfl, rfl⟩
  go_wp2_with fail
  refine (fis_any [] 4 0 _ _ rfl).mono ?_; rintro e w9 ⟨rfl, rfl⟩
  go_wp2
  go_ret
  exact ⟨rfl, HX8.out⟩
end Go.Proofs.YtgohlhgapboijaaDoor
