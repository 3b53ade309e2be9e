/- Contracts of this seat: Da3. -/
import Derived.Test.YtpofabebmeickaaGreatDoorVwDa2
import Derived.Test.YtpofabebmeickaaGreatDoorVwZr
/- kinref14.Code of lists that may not be; within the laws. -/
namespace Go.Proofs.YtpofabebmeickaaGreatDoor
set_option linter.unusedVariables false
set_option linter.unusedSimpArgs false
open Go.RowKit Go.Extern.Stop Go.Stop Go.Extern

set_option maxRecDepth 20000 in
set_option maxHeartbeats 2000000 in
theorem dwcode_no (a : Nat) (xs : List Int) (v : Value) (s : Ms Xe) (F : Nat → Prop) (w : World) (h : DwF a w F s) (hv : Ints w v xs) (hq : ¬ (xs.length = 16 ∨ xs.length = 64)) : Calls Tryz.prog 46 #[.pointer (some ⟨a, 0, none⟩), v] w (QPost (Sep (DwF a) HoF) (RCodR ((codP xs).run mX s)) F w) := by
  have HR : Hid ((codP xs).run mX s = ((fit, []), s)) := cod_no hq
  obtain ⟨va, vc, rfl⟩ := hv.form
  obtain ⟨n, hn⟩ : ∃ n, xs.length = n := ⟨_, rfl⟩
  rw [hn] at hq ⊢
  have A1 := (Ext.refl w).alloc (.cells #[.int .i64 0, .slice none 0 0] 46)
  obtain ⟨hS0, hG0⟩ := Sep.new (DwF.objD a) h A1 (B := RsF w.heap.size) (t := ()) ⟨ResAt.new w, fun _ => Iff.rfl⟩ (fun k hk => by rw [hk]; exact Nat.le_refl _)
  have HS0 := Lib.hid hS0
  have HG0 := Lib.hid hG0
  have t1 : ((n : Int) == 64) = false := by rw [beq_eq_false_iff_ne]; omega
  have t2 : ((n : Int) != 16) = true := by rw [bne_iff_ne]; omega
  clear h hv hn hq hS0 hG0 A1
  go_enter Tryz.func46, Tryz.ntmps46
  go_wp2_with fail
  refine (fail_any _ _).mono ?_; rintro e w1 ⟨rfl, hx1⟩
  have hS1 := Sep.pure (P := fun _ => True) (Obj.ext ((DwF.objD a).sep (RsF.obj w.heap.size)) HS0.out hx1) (fun _ => trivial)
  have hG1 := HG0.out.ext hx1
  obtain ⟨r0, r1, f0, f1⟩ := (rs_at hS1)
  obtain ⟨⟨Gq, hS, hG⟩, e0, e1⟩ := fin_rs (c := 14) (y := .slice none 0 0) (DwF.objD a) HoF.obj hS1 hG1
  have HSq := Lib.hid hS
  have HGq := Lib.hid hG
  clear hS hG hS1 hG1 hx1 HS0 HG0
  go_wp2
  exact bodyPost_ret (v := .tuple #[.slice none 0 0, .agg #[.int .i64 14, .slice none 0 0]]) (by simp [results, Tryz.results46, go_sem, e0, e1]) rfl (RCodR.done HR.out HSq.out (fun W hW => ⟨Ints.nil W, RErrIs.code (by decide)⟩) HGq.out)
set_option maxRecDepth 20000 in
set_option maxHeartbeats 2000000 in
theorem dwcode_bad16 (a : Nat) (xs : List Int) (v : Value) (s : Ms Xe) (F : Nat → Prop) (w : World) (h : DwF a w F s) (hv : Ints w v xs) (hn : xs.length = 16) (hb : xs.any noLv = true) : Calls Tryz.prog 46 #[.pointer (some ⟨a, 0, none⟩), v] w (QPost (Sep (DwF a) HoF) (RCodR ((codP xs).run mX s)) F w) := by
  have HR : Hid ((codP xs).run mX s = ((range, []), s)) := cod_bad (by rw [hn]; decide) hb
  obtain ⟨va, vc, rfl⟩ := hv.form
  have UW := Lib.hid (fun w' (k : Ext w w') => within_any xs (-16320) 16320 _ w' (hv.ext k))
  rw [within_lv, hb] at UW
  rw [hn] at UW ⊢
  have A1 := (Ext.refl w).alloc (.cells #[.int .i64 0, .slice none 0 0] 46)
  obtain ⟨hS0, hG0⟩ := Sep.new (DwF.objD a) h A1 (B := RsF w.heap.size) (t := ()) ⟨ResAt.new w, fun _ => Iff.rfl⟩ (fun k hk => by rw [hk]; exact Nat.le_refl _)
  have HS0 := Lib.hid hS0
  have HG0 := Lib.hid hG0
  have UW0 := Lib.hid (UW.out _ A1)
  clear h hv hn hb hS0 hG0 A1 UW
  go_enter Tryz.func46, Tryz.ntmps46
  go_wp2_with fail
  refine (UW0.out).mono ?_; rintro e w0 ⟨rfl, hx0⟩
  go_wp2_with fail
  refine (fail_any _ _).mono ?_; rintro e w1 ⟨rfl, hx1⟩
  have hS1 := Sep.pure (P := fun _ => True) (Obj.ext ((DwF.objD a).sep (RsF.obj w.heap.size)) HS0.out (hx0.trans hx1)) (fun _ => trivial)
  have hG1 := HG0.out.ext (hx0.trans hx1)
  obtain ⟨r0, r1, f0, f1⟩ := (rs_at hS1)
  obtain ⟨⟨Gq, hS, hG⟩, e0, e1⟩ := fin_rs (c := 3) (y := .slice none 0 0) (DwF.objD a) HoF.obj hS1 hG1
  have HSq := Lib.hid hS
  have HGq := Lib.hid hG
  clear hS hG hS1 hG1 hx1 hx0 HS0 HG0 UW0
  go_wp2
  exact bodyPost_ret (v := .tuple #[.slice none 0 0, .agg #[.int .i64 3, .slice none 0 0]]) (by simp [results, Tryz.results46, go_sem, e0, e1]) rfl (RCodR.done HR.out HSq.out (fun W hW => ⟨Ints.nil W, RErrIs.code (by decide)⟩) HGq.out)
set_option maxRecDepth 20000 in
set_option maxHeartbeats 2000000 in
theorem dwcode_bad64 (a : Nat) (xs : List Int) (v : Value) (s : Ms Xe) (F : Nat → Prop) (w : World) (h : DwF a w F s) (hv : Ints w v xs) (hn : xs.length = 64) (hb : xs.any noLv = true) : Calls Tryz.prog 46 #[.pointer (some ⟨a, 0, none⟩), v] w (QPost (Sep (DwF a) HoF) (RCodR ((codP xs).run mX s)) F w) := by
  have HR : Hid ((codP xs).run mX s = ((range, []), s)) := cod_bad (by rw [hn]; decide) hb
  obtain ⟨va, vc, rfl⟩ := hv.form
  have UW := Lib.hid (fun w' (k : Ext w w') => within_any xs (-16320) 16320 _ w' (hv.ext k))
  rw [within_lv, hb] at UW
  rw [hn] at UW ⊢
  have A1 := (Ext.refl w).alloc (.cells #[.int .i64 0, .slice none 0 0] 46)
  obtain ⟨hS0, hG0⟩ := Sep.new (DwF.objD a) h A1 (B := RsF w.heap.size) (t := ()) ⟨ResAt.new w, fun _ => Iff.rfl⟩ (fun k hk => by rw [hk]; exact Nat.le_refl _)
  have HS0 := Lib.hid hS0
  have HG0 := Lib.hid hG0
  have UW0 := Lib.hid (UW.out _ A1)
  clear h hv hn hb hS0 hG0 A1 UW
  go_enter Tryz.func46, Tryz.ntmps46
  go_wp2_with fail
  refine (UW0.out).mono ?_; rintro e w0 ⟨rfl, hx0⟩
  go_wp2_with fail
  refine (fail_any _ _).mono ?_; rintro e w1 ⟨rfl, hx1⟩
  have hS1 := Sep.pure (P := fun _ => True) (Obj.ext ((DwF.objD a).sep (RsF.obj w.heap.size)) HS0.out (hx0.trans hx1)) (fun _ => trivial)
  have hG1 := HG0.out.ext (hx0.trans hx1)
  obtain ⟨r0, r1, f0, f1⟩ := (rs_at hS1)
  obtain ⟨⟨Gq, hS, hG⟩, e0, e1⟩ := fin_rs (c := 3) (y := .slice none 0 0) (DwF.objD a) HoF.obj hS1 hG1
  have HSq := Lib.hid hS
  have HGq := Lib.hid hG
  clear hS hG hS1 hG1 hx1 hx0 HS0 HG0 UW0
  go_wp2
  exact bodyPost_ret (v := .tuple #[.slice none 0 0, .agg #[.int .i64 3, .slice none 0 0]]) (by simp [results, Tryz.results46, go_sem, e0, e1]) rfl (RCodR.done HR.out HSq.out (fun W hW => ⟨Ints.nil W, RErrIs.code (by decide)⟩) HGq.out)
theorem dwcode_any (a N : Nat) (xs : List Int) (v : Value) (X : Nat → Prop) (s : Ms Xe) (F : Nat → Prop) (w : World) (h : DwF a w F s) (hk : okS okXm N s) (hN : N ≤ 3900000) (hv : HoF w X (fun W => Ints W v xs)) (hd : ∀ k, X k → ¬ F k) : Calls Tryz.prog 46 #[.pointer (some ⟨a, 0, none⟩), v] w (QPost (Sep (DwF a) HoF) (RCodR ((codP xs).run mX s)) F w) := by
  by_cases h16 : xs.length = 16
  · cases hb0 : xs.any noLv
    · exact dwcode16 a N xs v X s F w h hk hN hv hd h16 hb0
    · exact dwcode_bad16 a xs v s F w h hv.get h16 hb0
  · by_cases h64 : xs.length = 64
    · cases hb0 : xs.any noLv
      · exact dwcode64 a N xs v X s F w h hk hN hv hd h64 hb0
      · exact dwcode_bad64 a xs v s F w h hv.get h64 hb0
    · exact dwcode_no a xs v s F w h hv.get (fun e => e.elim h16 h64)
section
variable {σ : Type} {A : World → (Nat → Prop) → σ → Prop} {w0 w : World} {P : World → Prop}
end
end Go.Proofs.YtpofabebmeickaaGreatDoor

