/- kinlaw16.first; kinlaw16.SceneUnlikes: the walks. -/
import Derived.Test.YtkighedghgcdjaaDoorGrp2
import Derived.Test.YtkighedghgcdjaaDoorOf
namespace Go.Proofs.YtkighedghgcdjaaDoor
set_option linter.unusedVariables false
set_option linter.unusedSimpArgs false
open Go.RowKit Go.Extern.Stop Go.Stop Go.Extern

theorem FrIn.mk {w : World} {g i : Nat} {W H : Int} {a : Option Addr} {n cap : Nat} {zs : List Int} (h0 : w.cell? ⟨g, i, none⟩ = some (.int .i64 W)) (h1 : w.cell? ⟨g, i + 1, none⟩ = some (.int .i64 H)) (h2 : w.cell? ⟨g, i + 2, none⟩ = some (.slice a n cap)) (h3 : Row w (.slice a n cap) zs.length (zs.map (Value.int .i64))) : FrIn w g i (W, H, zs) := ⟨a, n, cap, h0, h1, h2, h3⟩
theorem fms2 (w : World) (W H W' H' : Int) (a b : Option Addr) (n m ca cb : Nat) (xs ys : List Int) (ha : Row w (.slice a n ca) xs.length (xs.map (Value.int .i64))) (hb : Row w (.slice b m cb) ys.length (ys.map (Value.int .i64))) :
    Fms (w.alloc (.cells #[.int .i64 W, .int .i64 H, .slice a n ca, .int .i64 W', .int .i64 H', .slice b m cb] 24)) (.slice (some ⟨w.heap.size, 0, none⟩) 2 2) [(W, H, xs), (W', H', ys)] := by
  have A : Ext w (w.alloc (.cells #[.int .i64 W, .int .i64 H, .slice a n ca, .int .i64 W', .int .i64 H', .slice b m cb] 24)) := (Ext.refl w).alloc _
  refine ⟨_, _, rfl, fun _ => ⟨w.heap.size, 0, rfl, fun q f hq => ?_⟩⟩
  match q, hq with
  | 0, hq => cases hq; exact FrIn.mk (by simp) (by simp) (by simp) (ha.ext A)
  | 1, hq => cases hq; exact FrIn.mk (by simp) (by simp) (by simp) (hb.ext A)
  | q + 2, hq => simp at hq
theorem fms3 (w : World) (W H : Int) (a b c : Option Addr) (n ca cb cc : Nat) (xs : List Int) (ha : Row w (.slice a n ca) xs.length (xs.map (Value.int .i64))) (hb : Row w (.slice b n cb) xs.length (xs.map (Value.int .i64))) (hc : Row w (.slice c n cc) xs.length (xs.map (Value.int .i64))) :
    Fms (w.alloc (.cells #[.int .i64 W, .int .i64 H, .slice a n ca, .int .i64 W, .int .i64 H, .slice b n cb, .int .i64 W, .int .i64 H, .slice c n cc] 24)) (.slice (some ⟨w.heap.size, 0, none⟩) 3 3) [(W, H, xs), (W, H, xs), (W, H, xs)] := by
  have A : Ext w (w.alloc (.cells #[.int .i64 W, .int .i64 H, .slice a n ca, .int .i64 W, .int .i64 H, .slice b n cb, .int .i64 W, .int .i64 H, .slice c n cc] 24)) := (Ext.refl w).alloc _
  refine ⟨_, _, rfl, fun _ => ⟨w.heap.size, 0, rfl, fun q f hq => ?_⟩⟩
  match q, hq with
  | 0, hq => cases hq; exact FrIn.mk (by simp) (by simp) (by simp) (ha.ext A)
  | 1, hq => cases hq; exact FrIn.mk (by simp) (by simp) (by simp) (hb.ext A)
  | 2, hq => cases hq; exact FrIn.mk (by simp) (by simp) (by simp) (hc.ext A)
  | q + 3, hq => simp at hq
def P3 : List Int := rowL 64 fun _ => 3
def P0 : List Int := rowL 64 fun _ => 0
def P1 : List Int := rowL 64 fun _ => 1
def L3 : List Fr := [(8, 8, P3), (8, 8, P3), (8, 8, P3)]
theorem l3_facts : grpAns L3 0 16 = none ∧ grpV L3 0 16 = [(0, 3)] ∧ grpAns L3 0 2 = none ∧ grpV L3 0 2 = [(0, 2), (2, 1)] := by decide +kernel
theorem p01_facts : frAns 8 8 P0 8 8 P1 = none ∧ unlV 8 8 P0 8 8 P1 = 64 := by decide +kernel
theorem nil_facts : grpAns [] 0 1 = form ∧ grpV [] 0 1 = [] := by decide +kernel
theorem of_fact : ofV 2 [(0, 2), (2, 1)] 0 = 1 := by decide
theorem l3_small : ∀ (q : Nat) (f : Fr), L3[q]? = some f → f.2.2.length ≤ 1000000 := fun q f hq => by
  have hm := List.mem_of_getElem? hq
  unfold L3 at hm
  simp only [List.mem_cons, List.not_mem_nil, or_false] at hm
  rcases hm with rfl | rfl | rfl <;> (show P3.length ≤ _; unfold P3; rw [rowL_length]; decide)
theorem g2_small : ∀ (q : Nat) (p : Int × Int), ([(0, 2), (2, 1)] : List (Int × Int))[q]? = some p → small p := fun q p hq => by
  have hm := List.mem_of_getElem? hq
  simp only [List.mem_cons, List.not_mem_nil, or_false] at hm
  rcases hm with rfl | rfl <;> (unfold small; decide)
theorem row_opened {w : World} {v : Value} {n : Nat} {xs : List Value} (h : Row w v n xs) (hn : 0 < n) : ∃ g off cap, v = .slice (some ⟨g, off, none⟩) n cap ∧ ∀ j u, xs[j]? = some u → w.cell? ⟨g, off + j, none⟩ = some u := by
  obtain ⟨a, cap, h0, h1, h2, h3, h4⟩ := h
  obtain ⟨g, off, rfl⟩ := h3 hn
  exact ⟨g, off, cap, h0, fun j u hu => h4 g off rfl j u hu⟩
set_option maxRecDepth 20000 in
set_option maxHeartbeats 4000000 in
theorem first16_any (w : World) (hg : EtIs w) : Calls Tryd.prog 41 #[] w fun e w' => e = .returned (.bool true) ∧ Ext w w' := by
  obtain ⟨m1, m2, m3, m4⟩ := l3_facts
  have S1 := fun v W (h : Fms W v L3) => groups_any L3 0 16 v W h l3_small
  have S2 := fun v W (h : Fms W v L3) => groups_any L3 0 2 v W h l3_small
  have S3 := fun W => groups_any [] 0 1 (.slice none 0 0) W (Fms.nil W) (fun q f hq => by simp at hq)
  have S4 := fun a b n m ca cb W h k => unlike_any 8 8 8 8 P0 P1 a b n m ca cb W h k
  rw [m1, m2] at S1
  rw [m3, m4] at S2
  rw [nil_facts.1, nil_facts.2] at S3
  rw [p01_facts.1, p01_facts.2] at S4
  have H1 := Lib.hid S1
  have H2 := Lib.hid S2
  have H3 := Lib.hid S3
  have H4 := Lib.hid S4
  clear m1 m2 m3 m4 S1 S2 S3 S4
  go_enter Tryd.func41, Tryd.ntmps41
  go_wp2_with fail
  refine (plain_any 3 _).mono ?_; rintro e w1 ⟨a1, c1, rfl, hx1, hz1⟩
  go_wp2_with fail
  refine (plain_any 3 _).mono ?_; rintro e w2 ⟨a2, c2, rfl, hx2, hz2⟩
  go_wp2_with fail
  refine (plain_any 3 _).mono ?_; rintro e w3 ⟨a3, c3, rfl, hx3, hz3⟩
  have HL := Lib.hid (fms3 w3 8 8 a1 a2 a3 64 c1 c2 c3 P3 (hz1.ext (by repeat (first | exact Ext.refl _ | assumption | refine Ext.alloc ?_ _ | refine Ext.drew ?_ | refine Ext.drewN ?_ _ | refine Ext.setCell ?_ (by first | exact Nat.le_refl _ | (simp; done) | omega) _ | refine Ext.trans ?_ (by assumption)))).1 (hz2.ext (by repeat (first | exact Ext.refl _ | assumption | refine Ext.alloc ?_ _ | refine Ext.drew ?_ | refine Ext.drewN ?_ _ | refine Ext.setCell ?_ (by first | exact Nat.le_refl _ | (simp; done) | omega) _ | refine Ext.trans ?_ (by assumption)))).1 hz3.1)
  have A3 : Ext w3 (w3.alloc (.cells #[.int .i64 8, .int .i64 8, .slice a1 64 c1, .int .i64 8, .int .i64 8, .slice a2 64 c2, .int .i64 8, .int .i64 8, .slice a3 64 c3] 24)) := (Ext.refl w3).alloc _
  go_wp2_with fail
  refine (H1.out _ _ HL.out).mono ?_; rintro e w4 ⟨u4, x4, rfl, hx4, hr4, he4⟩
  obtain rfl : x4 = .nilIface := he4
  obtain ⟨g4, o4, k4, rfl, hc4⟩ := row_opened hr4 (by decide)
  go_wp2_with fail
  refine (H2.out _ _ (HL.out.ext hx4)).mono ?_; rintro e w5 ⟨u5, x5, rfl, hx5, hr5, he5⟩
  obtain rfl : x5 = .nilIface := he5
  have HR5 := Lib.hid hr5
  obtain ⟨g5, o5, k5, rfl, hc5⟩ := row_opened hr5 (by decide)
  go_wp2_with fail
  refine (plain_any 0 _).mono ?_; rintro e w6 ⟨a6, c6, rfl, hx6, hz6⟩
  go_wp2_with fail
  refine (plain_any 1 _).mono ?_; rintro e w7 ⟨a7, c7, rfl, hx7, hz7⟩
  go_wp2_with fail
  refine (H4.out _ _ _ _ _ _ _ (hz6.ext (by repeat (first | exact Ext.refl _ | assumption | refine Ext.alloc ?_ _ | refine Ext.drew ?_ | refine Ext.drewN ?_ _ | refine Ext.setCell ?_ (by first | exact Nat.le_refl _ | (simp; done) | omega) _ | refine Ext.trans ?_ (by assumption)))) hz7).mono ?_; rintro e w8 ⟨x8, rfl, hx8, he8⟩
  obtain rfl : x8 = .nilIface := he8
  go_wp2_with fail
  refine (H3.out _).mono ?_; rintro e w9 ⟨u9, x9, rfl, hx9, hr9, he9⟩
  have EW9 := Lib.hid (show Ext w w9 from (by repeat (first | exact Ext.refl _ | assumption | refine Ext.alloc ?_ _ | refine Ext.drew ?_ | refine Ext.drewN ?_ _ | refine Ext.setCell ?_ (by first | exact Nat.le_refl _ | (simp; done) | omega) _ | refine Ext.trans ?_ (by assumption))))
  have E59 := hx6.trans (hx7.trans (hx8.trans hx9))
  have E49 := hx5.trans E59
  have q1 := E49.cell (hc4 1 _ rfl)
  have q2 := E59.cell (hc5 2 _ rfl)
  clear E49
  go_wp2_with fail
  refine (fail_any 2 _).mono ?_; rintro e wA ⟨rfl, hxA⟩
  go_wp2_with fail
  refine (same_fall form _ _ _ _ (hg.ext (EW9.out.trans hxA)) (he9.ext hxA) (RErrIs.code (by decide))).mono ?_; rintro e wB ⟨rfl, hxB⟩
  have E5B : Ext w5 wB := (E59.trans hxA).trans hxB
  go_wp2_with fail
  refine (of_any [(0, 2), (2, 1)] 2 _ _ (HR5.out.ext E5B) (by decide) (by decide) g2_small).mono ?_; rintro e wC ⟨rfl, hxC⟩
  rw [of_fact]
  go_wp2
  go_ret
  exact ⟨rfl, ((EW9.out.trans hxA).trans hxB).trans hxC⟩
end Go.Proofs.YtkighedghgcdjaaDoor
