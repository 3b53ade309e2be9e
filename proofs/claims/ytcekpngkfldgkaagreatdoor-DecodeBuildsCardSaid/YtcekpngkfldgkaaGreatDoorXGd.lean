/- Contracts of this seat: TwF, Mo1, Mo2, Mo3, HfI. -/
import Derived.Test.YtcekpngkfldgkaaGreatDoorXGa
import Derived.Test.YtcekpngkfldgkaaGreatDoorXGb
import Derived.Deep.RegionHeld3
import Derived.Test.YtcekpngkfldgkaaGreatDoorXZl
import Derived.Deep.RegionLaw
namespace Go.Proofs.YtcekpngkfldgkaaGreatDoor
set_option linter.unusedVariables false
set_option linter.unusedSimpArgs false
open Go.RowKit Go.Extern.Stop Go.Stop Go.Extern
def FrBox (w : World) (b : Nat) (W H : Int) (v : Value) : Prop := w.cell? ⟨b, 0, none⟩ = some (.int .i64 W) ∧ w.cell? ⟨b, 1, none⟩ = some (.int .i64 H) ∧ w.cell? ⟨b, 2, none⟩ = some v
theorem FrBox.ext {w w' : World} {b : Nat} {W H : Int} {v : Value} (h : FrBox w b W H v) (k : Ext w w') : FrBox w' b W H v := ⟨k.cell h.1, k.cell h.2.1, k.cell h.2.2⟩
theorem FrBox.new (w : World) (W H : Int) (v : Value) : FrBox (w.alloc (.cells #[.int .i64 W, .int .i64 H, v] 24)) w.heap.size W H v := ⟨by simp, by simp, by simp⟩
theorem and1 (x : Int) : bits .and .i64 x 1 = x % 2 := by
 have e : (BitVec.ofInt 64 x &&& BitVec.ofInt 64 1).toNat = (x % 2).toNat := by
  rw [BitVec.toNat_and, show (BitVec.ofInt 64 1).toNat = 1 by decide, Nat.and_one_is_mod, BitVec.toNat_ofInt]
  omega
 show IntKind.i64.wrap (((BitVec.ofInt 64 x &&& BitVec.ofInt 64 1).toNat : Nat) : Int) = x % 2
 rw [e, IntKind.wrap_i64]
 omega
set_option maxRecDepth 20000 in
set_option maxHeartbeats 2000000 in
theorem mat_any (W H x y : Int) (zs : List Int) (a : Option Addr) (n cap : Nat) (w : World) (h : Ints w (.slice a n cap) zs) (hm : may W H zs) :
 Calls Tryz.prog 130 #[.agg #[.int .i64 W, .int .i64 H, .slice a n cap], .int .i64 x, .int .i64 y] w fun e w' => e = .returned (.int .i64 (atV W H zs x y)) ∧ Ext w w' := by
 obtain ⟨k, hk, hk1, b1, b2, b3, b4, b5⟩ := at_place hm x y
 have hW := sideB_true hm.1
 have hH := sideB_true hm.2.1
 have hl := h.len
 obtain ⟨g, off, rfl⟩ := h.had (by omega)
 have E1 : Ext w (w.alloc (.cells #[.int .i64 W, .int .i64 H, .slice (some ⟨g, off, none⟩) n cap] 24)) := (Ext.refl w).alloc _
 have c1 := E1.cell (h.at (get_of_lt hk1))
 have p0 : (w.alloc (.cells #[.int .i64 W, .int .i64 H, .slice (some ⟨g, off, none⟩) n cap] 24)).cell? ⟨w.heap.size, 0, none⟩ = some (.int .i64 W) := by simp
 have p1 : (w.alloc (.cells #[.int .i64 W, .int .i64 H, .slice (some ⟨g, off, none⟩) n cap] 24)).cell? ⟨w.heap.size, 1, none⟩ = some (.int .i64 H) := by simp
 have p2 : (w.alloc (.cells #[.int .i64 W, .int .i64 H, .slice (some ⟨g, off, none⟩) n cap] 24)).cell? ⟨w.heap.size, 2, none⟩ = some (.slice (some ⟨g, off, none⟩) n cap) := by simp
 have HR : Hid (atV W H zs x y = zs.getD k 0) := by show _ = _; unfold atV; rw [hk]; rfl
 revert c1 HR
 generalize zs.getD k 0 = z
 intro c1 HR
 have r1 := mx2
 have r2 := mn2
 obtain ⟨cx, hcx⟩ : ∃ cx, cx = clampI x W := ⟨_, rfl⟩
 obtain ⟨cy, hcy⟩ : ∃ cy, cy = clampI y H := ⟨_, rfl⟩
 rw [← hcx, ← hcy] at hk
 rw [← hcy] at b1 b2
 rw [← hcx] at b4 b5
 have f1 : max 0 (min y (H - 1)) = cy := by rw [hcy]; unfold clampI; omega
 have f2 : max 0 (min x (W - 1)) = cx := by rw [hcx]; unfold clampI; omega
 have e1 : IntKind.i64.wrap (W - 1) = W - 1 := by rw [IntKind.wrap_i64]; omega
 have e2 : IntKind.i64.wrap (H - 1) = H - 1 := by rw [IntKind.wrap_i64]; omega
 have e3 : IntKind.i64.wrap (cy * W) = cy * W := by rw [IntKind.wrap_i64]; omega
 have e4 : IntKind.i64.wrap (cy * W + cx) = (k : Int) := by rw [IntKind.wrap_i64]; omega
 have k1 : (0 : Int) ≤ (k : Int) ∧ (k : Int) < (n : Int) := by omega
 clear hcx hcy hk hm hl hk1 hW hH b1 b2 b3 b4 b5
 go_enter Tryz.func130, Tryz.ntmps130
 go_wp2
 go_region
 all_goals go_wp2
 all_goals go_ret
 all_goals exact ⟨by rw [HR.out]; rfl, E1.drew⟩
set_option maxRecDepth 20000 in
set_option maxHeartbeats 2000000 in
theorem rmat_any (W H x y : Int) (zs : List Int) (a : Option Addr) (n cap : Nat) (w : World) (h : Ints w (.slice a n cap) zs) (hm : may W H zs) :
 Calls Tryz.prog 138 #[.agg #[.int .i64 W, .int .i64 H, .slice a n cap], .int .i64 x, .int .i64 y] w fun e w' => e = .returned (.int .i64 (atV W H zs x y)) ∧ Ext w w' := by
 obtain ⟨k, hk, hk1, b1, b2, b3, b4, b5⟩ := at_place hm x y
 have hW := sideB_true hm.1
 have hH := sideB_true hm.2.1
 have hl := h.len
 obtain ⟨g, off, rfl⟩ := h.had (by omega)
 have E1 : Ext w (w.alloc (.cells #[.int .i64 W, .int .i64 H, .slice (some ⟨g, off, none⟩) n cap] 24)) := (Ext.refl w).alloc _
 have c1 := E1.cell (h.at (get_of_lt hk1))
 have p0 : (w.alloc (.cells #[.int .i64 W, .int .i64 H, .slice (some ⟨g, off, none⟩) n cap] 24)).cell? ⟨w.heap.size, 0, none⟩ = some (.int .i64 W) := by simp
 have p1 : (w.alloc (.cells #[.int .i64 W, .int .i64 H, .slice (some ⟨g, off, none⟩) n cap] 24)).cell? ⟨w.heap.size, 1, none⟩ = some (.int .i64 H) := by simp
 have p2 : (w.alloc (.cells #[.int .i64 W, .int .i64 H, .slice (some ⟨g, off, none⟩) n cap] 24)).cell? ⟨w.heap.size, 2, none⟩ = some (.slice (some ⟨g, off, none⟩) n cap) := by simp
 have HR : Hid (atV W H zs x y = zs.getD k 0) := by show _ = _; unfold atV; rw [hk]; rfl
 revert c1 HR
 generalize zs.getD k 0 = z
 intro c1 HR
 have r1 := mx2
 have r2 := mn2
 obtain ⟨cx, hcx⟩ : ∃ cx, cx = clampI x W := ⟨_, rfl⟩
 obtain ⟨cy, hcy⟩ : ∃ cy, cy = clampI y H := ⟨_, rfl⟩
 rw [← hcx, ← hcy] at hk
 rw [← hcy] at b1 b2
 rw [← hcx] at b4 b5
 have f1 : min (max y 0) (H - 1) = cy := by rw [hcy]; unfold clampI; omega
 have f2 : min (max x 0) (W - 1) = cx := by rw [hcx]; unfold clampI; omega
 have e1 : IntKind.i64.wrap (W - 1) = W - 1 := by rw [IntKind.wrap_i64]; omega
 have e2 : IntKind.i64.wrap (H - 1) = H - 1 := by rw [IntKind.wrap_i64]; omega
 have e3 : IntKind.i64.wrap (cy * W) = cy * W := by rw [IntKind.wrap_i64]; omega
 have e4 : IntKind.i64.wrap (cy * W + cx) = (k : Int) := by rw [IntKind.wrap_i64]; omega
 have k1 : (0 : Int) ≤ (k : Int) ∧ (k : Int) < (n : Int) := by omega
 clear hcx hcy hk hm hl hk1 hW hH b1 b2 b3 b4 b5
 go_enter Tryz.func138, Tryz.ntmps138
 go_wp2
 go_ret
 exact ⟨by rw [HR.out]; rfl, E1⟩
def halfV (W H : Int) (zs : List Int) (hx hy : Int) : Int :=
 if hx % 2 = 1 then (if hy % 2 = 1 then (atV W H zs (hx / 2) (hy / 2) + atV W H zs (hx / 2 + 1) (hy / 2) + atV W H zs (hx / 2) (hy / 2 + 1) + atV W H zs (hx / 2 + 1) (hy / 2 + 1) + 2) / 4 else (atV W H zs (hx / 2) (hy / 2) + atV W H zs (hx / 2 + 1) (hy / 2) + 1) / 2)
 else if hy % 2 = 1 then (atV W H zs (hx / 2) (hy / 2) + atV W H zs (hx / 2) (hy / 2 + 1) + 1) / 2 else atV W H zs (hx / 2) (hy / 2)
theorem down_any (x : Int) (hx : -1000000 ≤ x ∧ x ≤ 1000000) (w : World) : Calls Tryz.prog 137 #[.int .i64 x] w fun e w' => e = .returned (.int .i64 (x / 2)) ∧ w = w' := by
 obtain ⟨q, hq⟩ : ∃ q, q = x / 2 := ⟨_, rfl⟩
 have b1 : bits .and .i64 x 1 = x - 2 * q := by rw [and1]; omega
 have b2 : IntKind.i64.wrap (x - (x - 2 * q)) = 2 * q := by rw [IntKind.wrap_i64]; omega
 have b3 : Int.tdiv (2 * q) 2 = q := Int.mul_tdiv_cancel_left q (by decide)
 have b4 : (2 * q) / 2 = q := by omega
 have b5 : IntKind.i64.wrap q = q := by rw [IntKind.wrap_i64]; omega
 rw [← hq]
 have hqb : -1000000 ≤ q ∧ q ≤ 1000000 := by omega
 clear hq
 go_enter Tryz.func137, Tryz.ntmps137
 go_wp2
 go_ret
 exact ⟨rfl, rfl⟩
theorem atV_in {W H : Int} {zs : List Int} (h : may W H zs) (x y : Int) : 0 ≤ atV W H zs x y ∧ atV W H zs x y ≤ 255 := may_getD h _
set_option maxRecDepth 20000 in
set_option maxHeartbeats 4000000 in
theorem mhalf_any (W H hx hy : Int) (zs : List Int) (a : Option Addr) (n cap : Nat) (w : World) (h : Ints w (.slice a n cap) zs) (hm : may W H zs) (bx : -900000 ≤ hx ∧ hx ≤ 900000) (by' : -900000 ≤ hy ∧ hy ≤ 900000) :
 Calls Tryz.prog 93 #[.agg #[.int .i64 W, .int .i64 H, .slice a n cap], .int .i64 hx, .int .i64 hy] w fun e w' => e = .returned (.int .i64 (halfV W H zs hx hy)) ∧ Ext w w' := by
 have A := Lib.hid (fun (w : World) (x y : Int) (h : Ints w (.slice a n cap) zs) => mat_any W H x y zs a n cap w h hm)
 have F0 := FrBox.new w W H (.slice a n cap)
 have E0 : Ext w (w.alloc (.cells #[.int .i64 W, .int .i64 H, .slice a n cap] 24)) := (Ext.refl w).alloc _
 obtain ⟨X, hX⟩ : ∃ X, hx / 2 = X := ⟨_, rfl⟩
 obtain ⟨Y, hY⟩ : ∃ Y, hy / 2 = Y := ⟨_, rfl⟩
 have v0 := atV_in hm X Y
 have v1 := atV_in hm (X + 1) Y
 have v2 := atV_in hm X (Y + 1)
 have v3 := atV_in hm (X + 1) (Y + 1)
 have e1 : IntKind.i64.wrap (X + 1) = X + 1 := by rw [IntKind.wrap_i64]; omega
 have e2 : IntKind.i64.wrap (Y + 1) = Y + 1 := by rw [IntKind.wrap_i64]; omega
 by_cases ox : hx % 2 = 1
 · have bX : bits .and .i64 hx 1 = 1 := by rw [and1]; exact ox
   by_cases oy : hy % 2 = 1
   · have bY : bits .and .i64 hy 1 = 1 := by rw [and1]; exact oy
     have HR : Hid (halfV W H zs hx hy = (atV W H zs X Y + atV W H zs (X + 1) Y + atV W H zs X (Y + 1) + atV W H zs (X + 1) (Y + 1) + 2) / 4) := by show _ = _; unfold halfV; rw [if_pos ox, if_pos oy, hX, hY]
     have s1 : IntKind.i64.wrap (atV W H zs X Y + atV W H zs (X + 1) Y) = atV W H zs X Y + atV W H zs (X + 1) Y := by rw [IntKind.wrap_i64]; omega
     have s2 : IntKind.i64.wrap (atV W H zs X Y + atV W H zs (X + 1) Y + atV W H zs X (Y + 1)) = atV W H zs X Y + atV W H zs (X + 1) Y + atV W H zs X (Y + 1) := by rw [IntKind.wrap_i64]; omega
     have s3 : IntKind.i64.wrap (atV W H zs X Y + atV W H zs (X + 1) Y + atV W H zs X (Y + 1) + atV W H zs (X + 1) (Y + 1)) = atV W H zs X Y + atV W H zs (X + 1) Y + atV W H zs X (Y + 1) + atV W H zs (X + 1) (Y + 1) := by rw [IntKind.wrap_i64]; omega
     have s4 : IntKind.i64.wrap (atV W H zs X Y + atV W H zs (X + 1) Y + atV W H zs X (Y + 1) + atV W H zs (X + 1) (Y + 1) + 2) = atV W H zs X Y + atV W H zs (X + 1) Y + atV W H zs X (Y + 1) + atV W H zs (X + 1) (Y + 1) + 2 := by rw [IntKind.wrap_i64]; omega
     have s5 : Int.tdiv (atV W H zs X Y + atV W H zs (X + 1) Y + atV W H zs X (Y + 1) + atV W H zs (X + 1) (Y + 1) + 2) 4 = (atV W H zs X Y + atV W H zs (X + 1) Y + atV W H zs X (Y + 1) + atV W H zs (X + 1) (Y + 1) + 2) / 4 := Int.tdiv_eq_ediv_of_nonneg (by omega)
     have s6 : IntKind.i64.wrap ((atV W H zs X Y + atV W H zs (X + 1) Y + atV W H zs X (Y + 1) + atV W H zs (X + 1) (Y + 1) + 2) / 4) = (atV W H zs X Y + atV W H zs (X + 1) Y + atV W H zs X (Y + 1) + atV W H zs (X + 1) (Y + 1) + 2) / 4 := by rw [IntKind.wrap_i64]; omega
     clear v0 v1 v2 v3 ox oy hm
     go_enter Tryz.func93, Tryz.ntmps93
     go_wp2_with fail
     revert F0 E0
     generalize w.alloc (.cells #[.int .i64 W, .int .i64 H, .slice a n cap] 24) = w0
     intro F0 E0
     have FB := Lib.hid F0
     clear F0
     refine (A.out _ _ _ (h.ext E0)).mono ?_; rintro e w2 ⟨rfl, hx2⟩
     have E2 := E0.trans hx2
     obtain ⟨p0, p1, p2⟩ := FB.out.ext hx2
     clear hx2 E0
     have HA := Lib.hid (h.ext E2)
     go_wp2_with fail
     go_region_held3 (fun w' => w'.cell? ⟨w.heap.size, 0, none⟩ = some (.int .i64 W) ∧ w'.cell? ⟨w.heap.size, 1, none⟩ = some (.int .i64 H) ∧ w'.cell? ⟨w.heap.size, 2, none⟩ = some (.slice a n cap) ∧ Ext w2 w')
      (first | assumption | (exact ⟨p0, p1, p2, Ext.refl _⟩) | (exact ⟨p0, p1, p2, (Ext.refl _).drew⟩) | (go_split_ands; exact ⟨hx.cell (by assumption), hx.cell (by assumption), hx.cell (by assumption), Ext.trans (by assumption) hx⟩))
      ((go_at_call 130; obtain ⟨_, _, _, hE1⟩ : _ ∧ _ ∧ _ ∧ Ext w2 _ := (by assumption); refine (A.out _ _ _ (HA.out.ext hE1)).mono ?_; rintro e w' ⟨rfl, hx⟩))
     all_goals obtain ⟨_, _, _, hE1⟩ : _ ∧ _ ∧ _ ∧ Ext w2 _ := by assumption
     all_goals go_wp2
     all_goals go_ret
     all_goals exact ⟨by rw [HR.out]; rfl, E2.trans hE1⟩
   · have bY : bits .and .i64 hy 1 = 0 := by rw [and1]; omega
     have HR : Hid (halfV W H zs hx hy = (atV W H zs X Y + atV W H zs (X + 1) Y + 1) / 2) := by show _ = _; unfold halfV; rw [if_pos ox, if_neg oy, hX, hY]
     clear ox oy hm v2 v3
     go_enter Tryz.func93, Tryz.ntmps93
     go_wp2_with fail
     revert F0 E0
     generalize w.alloc (.cells #[.int .i64 W, .int .i64 H, .slice a n cap] 24) = w0
     intro F0 E0
     have FB := Lib.hid F0
     clear F0
     refine (A.out _ _ _ (h.ext E0)).mono ?_; rintro e w2 ⟨rfl, hx2⟩
     have E2 := E0.trans hx2
     obtain ⟨p0, p1, p2⟩ := FB.out.ext hx2
     clear hx2 E0
     go_wp2_with fail
     refine (A.out _ _ _ (h.ext E2)).mono ?_; rintro e w3 ⟨rfl, hx3⟩
     go_wp2
     go_ret
     exact ⟨by rw [HR.out]; rfl, E2.trans hx3⟩
 · have bX : bits .and .i64 hx 1 = 0 := by rw [and1]; omega
   by_cases oy : hy % 2 = 1
   · have bY : bits .and .i64 hy 1 = 1 := by rw [and1]; exact oy
     have HR : Hid (halfV W H zs hx hy = (atV W H zs X Y + atV W H zs X (Y + 1) + 1) / 2) := by show _ = _; unfold halfV; rw [if_neg ox, if_pos oy, hX, hY]
     clear ox oy hm v1 v3
     go_enter Tryz.func93, Tryz.ntmps93
     go_wp2_with fail
     revert F0 E0
     generalize w.alloc (.cells #[.int .i64 W, .int .i64 H, .slice a n cap] 24) = w0
     intro F0 E0
     have FB := Lib.hid F0
     clear F0
     refine (A.out _ _ _ (h.ext E0)).mono ?_; rintro e w2 ⟨rfl, hx2⟩
     have E2 := E0.trans hx2
     obtain ⟨p0, p1, p2⟩ := FB.out.ext hx2
     clear hx2 E0
     go_wp2_with fail
     refine (A.out _ _ _ (h.ext E2)).mono ?_; rintro e w3 ⟨rfl, hx3⟩
     go_wp2
     go_ret
     exact ⟨by rw [HR.out]; rfl, E2.trans hx3⟩
   · have bY : bits .and .i64 hy 1 = 0 := by rw [and1]; omega
     have HR : Hid (halfV W H zs hx hy = atV W H zs X Y) := by show _ = _; unfold halfV; rw [if_neg ox, if_neg oy, hX, hY]
     clear ox oy hm v1 v2 v3
     go_enter Tryz.func93, Tryz.ntmps93
     go_wp2_with fail
     revert F0 E0
     generalize w.alloc (.cells #[.int .i64 W, .int .i64 H, .slice a n cap] 24) = w0
     intro F0 E0
     have FB := Lib.hid F0
     clear F0
     refine (A.out _ _ _ (h.ext E0)).mono ?_; rintro e w2 ⟨rfl, hx2⟩
     have E2 := E0.trans hx2
     obtain ⟨p0, p1, p2⟩ := FB.out.ext hx2
     clear hx2 E0
     go_wp2
     go_ret
     exact ⟨by rw [HR.out]; rfl, E2⟩
set_option maxRecDepth 20000 in
set_option maxHeartbeats 4000000 in
theorem rhalf_any (W H hx hy : Int) (zs : List Int) (a : Option Addr) (n cap : Nat) (w : World) (h : Ints w (.slice a n cap) zs) (hm : may W H zs) (bx : -900000 ≤ hx ∧ hx ≤ 900000) (by' : -900000 ≤ hy ∧ hy ≤ 900000) :
 Calls Tryz.prog 99 #[.agg #[.int .i64 W, .int .i64 H, .slice a n cap], .int .i64 hx, .int .i64 hy] w fun e w' => e = .returned (.int .i64 (halfV W H zs hx hy)) ∧ Ext w w' := by
 have A := Lib.hid (fun (w : World) (x y : Int) (h : Ints w (.slice a n cap) zs) => rmat_any W H x y zs a n cap w h hm)
 have F0 := FrBox.new w W H (.slice a n cap)
 have E0 : Ext w (w.alloc (.cells #[.int .i64 W, .int .i64 H, .slice a n cap] 24)) := (Ext.refl w).alloc _
 obtain ⟨X, hX⟩ : ∃ X, hx / 2 = X := ⟨_, rfl⟩
 obtain ⟨Y, hY⟩ : ∃ Y, hy / 2 = Y := ⟨_, rfl⟩
 have v0 := atV_in hm X Y
 have v1 := atV_in hm (X + 1) Y
 have v2 := atV_in hm X (Y + 1)
 have v3 := atV_in hm (X + 1) (Y + 1)
 have e1 : IntKind.i64.wrap (X + 1) = X + 1 := by rw [IntKind.wrap_i64]; omega
 have e2 : IntKind.i64.wrap (Y + 1) = Y + 1 := by rw [IntKind.wrap_i64]; omega
 by_cases ox : hx % 2 = 1
 · have bX : bits .and .i64 hx 1 = 1 := by rw [and1]; exact ox
   by_cases oy : hy % 2 = 1
   · have bY : bits .and .i64 hy 1 = 1 := by rw [and1]; exact oy
     have HR : Hid (halfV W H zs hx hy = (atV W H zs X Y + atV W H zs (X + 1) Y + atV W H zs X (Y + 1) + atV W H zs (X + 1) (Y + 1) + 2) / 4) := by show _ = _; unfold halfV; rw [if_pos ox, if_pos oy, hX, hY]
     have s1 : IntKind.i64.wrap (atV W H zs X Y + atV W H zs (X + 1) Y) = atV W H zs X Y + atV W H zs (X + 1) Y := by rw [IntKind.wrap_i64]; omega
     have s2 : IntKind.i64.wrap (atV W H zs X Y + atV W H zs (X + 1) Y + atV W H zs X (Y + 1)) = atV W H zs X Y + atV W H zs (X + 1) Y + atV W H zs X (Y + 1) := by rw [IntKind.wrap_i64]; omega
     have s3 : IntKind.i64.wrap (atV W H zs X Y + atV W H zs (X + 1) Y + atV W H zs X (Y + 1) + atV W H zs (X + 1) (Y + 1)) = atV W H zs X Y + atV W H zs (X + 1) Y + atV W H zs X (Y + 1) + atV W H zs (X + 1) (Y + 1) := by rw [IntKind.wrap_i64]; omega
     have s4 : IntKind.i64.wrap (atV W H zs X Y + atV W H zs (X + 1) Y + atV W H zs X (Y + 1) + atV W H zs (X + 1) (Y + 1) + 2) = atV W H zs X Y + atV W H zs (X + 1) Y + atV W H zs X (Y + 1) + atV W H zs (X + 1) (Y + 1) + 2 := by rw [IntKind.wrap_i64]; omega
     have s5 : Int.tdiv (atV W H zs X Y + atV W H zs (X + 1) Y + atV W H zs X (Y + 1) + atV W H zs (X + 1) (Y + 1) + 2) 4 = (atV W H zs X Y + atV W H zs (X + 1) Y + atV W H zs X (Y + 1) + atV W H zs (X + 1) (Y + 1) + 2) / 4 := Int.tdiv_eq_ediv_of_nonneg (by omega)
     have s6 : IntKind.i64.wrap ((atV W H zs X Y + atV W H zs (X + 1) Y + atV W H zs X (Y + 1) + atV W H zs (X + 1) (Y + 1) + 2) / 4) = (atV W H zs X Y + atV W H zs (X + 1) Y + atV W H zs X (Y + 1) + atV W H zs (X + 1) (Y + 1) + 2) / 4 := by rw [IntKind.wrap_i64]; omega
     clear v0 v1 v2 v3 ox oy hm
     go_enter Tryz.func99, Tryz.ntmps99
     go_wp2_with fail
     refine (down_any _ (by omega) _).mono ?_; rintro e w1 ⟨rfl, rfl⟩
     go_wp2_with fail
     refine (down_any _ (by omega) _).mono ?_; rintro e w1 ⟨rfl, rfl⟩
     go_wp2_with fail
     revert F0 E0
     generalize w.alloc (.cells #[.int .i64 W, .int .i64 H, .slice a n cap] 24) = w0
     intro F0 E0
     have FB := Lib.hid F0
     clear F0
     refine (A.out _ _ _ (h.ext E0)).mono ?_; rintro e w2 ⟨rfl, hx2⟩
     have E2 := E0.trans hx2
     obtain ⟨p0, p1, p2⟩ := FB.out.ext hx2
     clear hx2 E0
     have HA := Lib.hid (h.ext E2)
     go_wp2_with fail
     go_region_held3 (fun w' => w'.cell? ⟨w.heap.size, 0, none⟩ = some (.int .i64 W) ∧ w'.cell? ⟨w.heap.size, 1, none⟩ = some (.int .i64 H) ∧ w'.cell? ⟨w.heap.size, 2, none⟩ = some (.slice a n cap) ∧ Ext w2 w')
      (first | assumption | (exact ⟨p0, p1, p2, Ext.refl _⟩) | (exact ⟨p0, p1, p2, (Ext.refl _).drew⟩) | (go_split_ands; exact ⟨hx.cell (by assumption), hx.cell (by assumption), hx.cell (by assumption), Ext.trans (by assumption) hx⟩))
      ((go_at_call 138; obtain ⟨_, _, _, hE1⟩ : _ ∧ _ ∧ _ ∧ Ext w2 _ := (by assumption); refine (A.out _ _ _ (HA.out.ext hE1)).mono ?_; rintro e w' ⟨rfl, hx⟩))
     all_goals obtain ⟨_, _, _, hE1⟩ : _ ∧ _ ∧ _ ∧ Ext w2 _ := by assumption
     all_goals go_wp2
     all_goals go_ret
     all_goals exact ⟨by rw [HR.out]; rfl, E2.trans hE1⟩
   · have bY : bits .and .i64 hy 1 = 0 := by rw [and1]; omega
     have HR : Hid (halfV W H zs hx hy = (atV W H zs X Y + atV W H zs (X + 1) Y + 1) / 2) := by show _ = _; unfold halfV; rw [if_pos ox, if_neg oy, hX, hY]
     clear ox oy hm v2 v3
     go_enter Tryz.func99, Tryz.ntmps99
     go_wp2_with fail
     refine (down_any _ (by omega) _).mono ?_; rintro e w1 ⟨rfl, rfl⟩
     go_wp2_with fail
     refine (down_any _ (by omega) _).mono ?_; rintro e w1 ⟨rfl, rfl⟩
     go_wp2_with fail
     revert F0 E0
     generalize w.alloc (.cells #[.int .i64 W, .int .i64 H, .slice a n cap] 24) = w0
     intro F0 E0
     have FB := Lib.hid F0
     clear F0
     refine (A.out _ _ _ (h.ext E0)).mono ?_; rintro e w2 ⟨rfl, hx2⟩
     have E2 := E0.trans hx2
     obtain ⟨p0, p1, p2⟩ := FB.out.ext hx2
     clear hx2 E0
     go_wp2_with fail
     refine (A.out _ _ _ (h.ext E2)).mono ?_; rintro e w3 ⟨rfl, hx3⟩
     go_wp2
     go_ret
     exact ⟨by rw [HR.out]; rfl, E2.trans hx3⟩
 · have bX : bits .and .i64 hx 1 = 0 := by rw [and1]; omega
   by_cases oy : hy % 2 = 1
   · have bY : bits .and .i64 hy 1 = 1 := by rw [and1]; exact oy
     have HR : Hid (halfV W H zs hx hy = (atV W H zs X Y + atV W H zs X (Y + 1) + 1) / 2) := by show _ = _; unfold halfV; rw [if_neg ox, if_pos oy, hX, hY]
     clear ox oy hm v1 v3
     go_enter Tryz.func99, Tryz.ntmps99
     go_wp2_with fail
     refine (down_any _ (by omega) _).mono ?_; rintro e w1 ⟨rfl, rfl⟩
     go_wp2_with fail
     refine (down_any _ (by omega) _).mono ?_; rintro e w1 ⟨rfl, rfl⟩
     go_wp2_with fail
     revert F0 E0
     generalize w.alloc (.cells #[.int .i64 W, .int .i64 H, .slice a n cap] 24) = w0
     intro F0 E0
     have FB := Lib.hid F0
     clear F0
     refine (A.out _ _ _ (h.ext E0)).mono ?_; rintro e w2 ⟨rfl, hx2⟩
     have E2 := E0.trans hx2
     obtain ⟨p0, p1, p2⟩ := FB.out.ext hx2
     clear hx2 E0
     go_wp2_with fail
     refine (A.out _ _ _ (h.ext E2)).mono ?_; rintro e w3 ⟨rfl, hx3⟩
     go_wp2
     go_ret
     exact ⟨by rw [HR.out]; rfl, E2.trans hx3⟩
   · have bY : bits .and .i64 hy 1 = 0 := by rw [and1]; omega
     have HR : Hid (halfV W H zs hx hy = atV W H zs X Y) := by show _ = _; unfold halfV; rw [if_neg ox, if_neg oy, hX, hY]
     clear ox oy hm v1 v2 v3
     go_enter Tryz.func99, Tryz.ntmps99
     go_wp2_with fail
     refine (down_any _ (by omega) _).mono ?_; rintro e w1 ⟨rfl, rfl⟩
     go_wp2_with fail
     refine (down_any _ (by omega) _).mono ?_; rintro e w1 ⟨rfl, rfl⟩
     go_wp2_with fail
     revert F0 E0
     generalize w.alloc (.cells #[.int .i64 W, .int .i64 H, .slice a n cap] 24) = w0
     intro F0 E0
     have FB := Lib.hid F0
     clear F0
     refine (A.out _ _ _ (h.ext E0)).mono ?_; rintro e w2 ⟨rfl, hx2⟩
     have E2 := E0.trans hx2
     obtain ⟨p0, p1, p2⟩ := FB.out.ext hx2
     clear hx2 E0
     go_wp2
     go_ret
     exact ⟨by rw [HR.out]; rfl, E2⟩
def vecB (vx vy : Int) : Bool := decide (-15 ≤ vx ∧ vx ≤ 15 ∧ -15 ≤ vy ∧ vy ≤ 15)
set_option maxRecDepth 20000 in
theorem vec_any (vx vy : Int) (w : World) : Calls Tryz.prog 88 #[.agg #[.int .i64 vx, .int .i64 vy]] w fun e w' => e = .returned (.bool (vecB vx vy)) ∧ Ext w w' := by
 by_cases h1 : -15 ≤ vx
 · by_cases h2 : vx ≤ 15
   · by_cases h3 : -15 ≤ vy
     · by_cases h4 : vy ≤ 15
       · have HR : Hid (vecB vx vy = true) := by show _ = _; unfold vecB; exact decide_eq_true ⟨h1, h2, h3, h4⟩
         go_enter Tryz.func88, Tryz.ntmps88
         go_wp2
         go_ret
         exact ⟨by rw [HR.out]; rfl, (by repeat (first | exact Ext.refl _ | assumption | refine Ext.alloc ?_ _ | refine Ext.drew ?_ | refine Ext.drewN ?_ _ | refine Ext.setCell ?_ (by first | exact Nat.le_refl _ | (simp; done) | omega) _ | refine Ext.trans ?_ (by assumption)))⟩
       · have HR : Hid (vecB vx vy = false) := by show _ = _; unfold vecB; exact decide_eq_false (by omega)
         go_enter Tryz.func88, Tryz.ntmps88
         go_wp2
         go_ret
         exact ⟨by rw [HR.out]; rfl, (by repeat (first | exact Ext.refl _ | assumption | refine Ext.alloc ?_ _ | refine Ext.drew ?_ | refine Ext.drewN ?_ _ | refine Ext.setCell ?_ (by first | exact Nat.le_refl _ | (simp; done) | omega) _ | refine Ext.trans ?_ (by assumption)))⟩
     · have HR : Hid (vecB vx vy = false) := by show _ = _; unfold vecB; exact decide_eq_false (by omega)
       go_enter Tryz.func88, Tryz.ntmps88
       go_wp2
       go_ret
       exact ⟨by rw [HR.out]; rfl, (by repeat (first | exact Ext.refl _ | assumption | refine Ext.alloc ?_ _ | refine Ext.drew ?_ | refine Ext.drewN ?_ _ | refine Ext.setCell ?_ (by first | exact Nat.le_refl _ | (simp; done) | omega) _ | refine Ext.trans ?_ (by assumption)))⟩
   · have HR : Hid (vecB vx vy = false) := by show _ = _; unfold vecB; exact decide_eq_false (by omega)
     go_enter Tryz.func88, Tryz.ntmps88
     go_wp2
     go_ret
     exact ⟨by rw [HR.out]; rfl, (by repeat (first | exact Ext.refl _ | assumption | refine Ext.alloc ?_ _ | refine Ext.drew ?_ | refine Ext.drewN ?_ _ | refine Ext.setCell ?_ (by first | exact Nat.le_refl _ | (simp; done) | omega) _ | refine Ext.trans ?_ (by assumption)))⟩
 · have HR : Hid (vecB vx vy = false) := by show _ = _; unfold vecB; exact decide_eq_false (by omega)
   go_enter Tryz.func88, Tryz.ntmps88
   go_wp2
   go_ret
   exact ⟨by rw [HR.out]; rfl, (by repeat (first | exact Ext.refl _ | assumption | refine Ext.alloc ?_ _ | refine Ext.drew ?_ | refine Ext.drewN ?_ _ | refine Ext.setCell ?_ (by first | exact Nat.le_refl _ | (simp; done) | omega) _ | refine Ext.trans ?_ (by assumption)))⟩
set_option maxRecDepth 20000 in
theorem rvec_any (vx vy : Int) (w : World) : Calls Tryz.prog 98 #[.agg #[.int .i64 vx, .int .i64 vy]] w fun e w' => e = .returned (.bool (vecB vx vy)) ∧ Ext w w' := by
 by_cases h1 : -15 ≤ vx
 · by_cases h2 : vx ≤ 15
   · by_cases h3 : -15 ≤ vy
     · by_cases h4 : vy ≤ 15
       · have HR : Hid (vecB vx vy = true) := by show _ = _; unfold vecB; exact decide_eq_true ⟨h1, h2, h3, h4⟩
         go_enter Tryz.func98, Tryz.ntmps98
         go_wp2
         go_ret
         exact ⟨by rw [HR.out]; rfl, (by repeat (first | exact Ext.refl _ | assumption | refine Ext.alloc ?_ _ | refine Ext.drew ?_ | refine Ext.drewN ?_ _ | refine Ext.setCell ?_ (by first | exact Nat.le_refl _ | (simp; done) | omega) _ | refine Ext.trans ?_ (by assumption)))⟩
       · have HR : Hid (vecB vx vy = false) := by show _ = _; unfold vecB; exact decide_eq_false (by omega)
         go_enter Tryz.func98, Tryz.ntmps98
         go_wp2
         go_ret
         exact ⟨by rw [HR.out]; rfl, (by repeat (first | exact Ext.refl _ | assumption | refine Ext.alloc ?_ _ | refine Ext.drew ?_ | refine Ext.drewN ?_ _ | refine Ext.setCell ?_ (by first | exact Nat.le_refl _ | (simp; done) | omega) _ | refine Ext.trans ?_ (by assumption)))⟩
     · have HR : Hid (vecB vx vy = false) := by show _ = _; unfold vecB; exact decide_eq_false (by omega)
       go_enter Tryz.func98, Tryz.ntmps98
       go_wp2
       go_ret
       exact ⟨by rw [HR.out]; rfl, (by repeat (first | exact Ext.refl _ | assumption | refine Ext.alloc ?_ _ | refine Ext.drew ?_ | refine Ext.drewN ?_ _ | refine Ext.setCell ?_ (by first | exact Nat.le_refl _ | (simp; done) | omega) _ | refine Ext.trans ?_ (by assumption)))⟩
   · have HR : Hid (vecB vx vy = false) := by show _ = _; unfold vecB; exact decide_eq_false (by omega)
     go_enter Tryz.func98, Tryz.ntmps98
     go_wp2
     go_ret
     exact ⟨by rw [HR.out]; rfl, (by repeat (first | exact Ext.refl _ | assumption | refine Ext.alloc ?_ _ | refine Ext.drew ?_ | refine Ext.drewN ?_ _ | refine Ext.setCell ?_ (by first | exact Nat.le_refl _ | (simp; done) | omega) _ | refine Ext.trans ?_ (by assumption)))⟩
 · have HR : Hid (vecB vx vy = false) := by show _ = _; unfold vecB; exact decide_eq_false (by omega)
   go_enter Tryz.func98, Tryz.ntmps98
   go_wp2
   go_ret
   exact ⟨by rw [HR.out]; rfl, (by repeat (first | exact Ext.refl _ | assumption | refine Ext.alloc ?_ _ | refine Ext.drew ?_ | refine Ext.drewN ?_ _ | refine Ext.setCell ?_ (by first | exact Nat.le_refl _ | (simp; done) | omega) _ | refine Ext.trans ?_ (by assumption)))⟩
theorem vecB_true {vx vy : Int} (h : vecB vx vy = true) : -15 ≤ vx ∧ vx ≤ 15 ∧ -15 ≤ vy ∧ vy ≤ 15 := of_decide_eq_true h
def mvF (W H : Int) (zs : List Int) (x y vx vy : Int) (N k : Nat) : Int := halfV W H zs (2 * (x + ((k % N : Nat) : Int)) + vx) (2 * (y + ((k / N : Nat) : Int)) + vy)
theorem mv_at {N i : Nat} (W H : Int) (zs : List Int) (x y vx vy : Int) (j : Nat) (hi : i < N) : mvF W H zs x y vx vy N (j * N + i) = halfV W H zs (2 * (x + (i : Int)) + vx) (2 * (y + (j : Int)) + vy) := by
 have h1 : (j * N + i) % N = i := by rw [Nat.add_comm, Nat.add_mul_mod_self_right, Nat.mod_eq_of_lt hi]
 have h2 : (j * N + i) / N = j := by rw [Nat.add_comm, Nat.add_mul_div_right _ _ (by omega), Nat.div_eq_of_lt hi, Nat.zero_add]
 unfold mvF
 rw [h1, h2]
def VcBox (w : World) (b : Nat) (vx vy : Int) : Prop := w.cell? ⟨b, 0, none⟩ = some (.int .i64 vx) ∧ w.cell? ⟨b, 1, none⟩ = some (.int .i64 vy)
theorem VcBox.ext {w w' : World} {b : Nat} {vx vy : Int} (h : VcBox w b vx vy) (k : Ext w w') : VcBox w' b vx vy := ⟨k.cell h.1, k.cell h.2⟩
theorem FrBox.vec (w : World) (W H vx vy : Int) (u : Value) :
 FrBox ((w.alloc (.cells #[.int .i64 W, .int .i64 H, u] 24)).alloc (.cells #[.int .i64 vx, .int .i64 vy] 27)) w.heap.size W H u ∧
 VcBox ((w.alloc (.cells #[.int .i64 W, .int .i64 H, u] 24)).alloc (.cells #[.int .i64 vx, .int .i64 vy] 27)) (w.heap.size + 1) vx vy :=
 ⟨⟨by simp, by simp, by simp⟩, by simp, by simp⟩
set_option maxHeartbeats 4000000 in
set_option maxRecDepth 20000 in
theorem mblock_own_8 (W H x y vx vy : Int) (zs : List Int) (a : Option Addr) (n cap : Nat) (w : World) (h : Ints w (.slice a n cap) zs) (hm : may W H zs) (hv : vecB vx vy = true) (hx : 0 ≤ x ∧ x ≤ 32) (hy : 0 ≤ y ∧ y ≤ 32) :
 Calls Tryz.prog 62 #[.agg #[.int .i64 W, .int .i64 H, .slice a n cap], .int .i64 x, .int .i64 y, .int .i64 8, .agg #[.int .i64 vx, .int .i64 vy]] w fun e w' => ∃ u, e = .returned u ∧ Ext w w' ∧ w'.ownsRow w.heap.size 3 1 u 64 ((rowL 64 (mvF W H zs x y vx vy 8)).map (Value.int .i64)) := by
 obtain ⟨i0, hi, hz0, hz1, hz2⟩ := info_parts infoInt
 have B1 := Lib.hid (fun w => vec_any vx vy w)
 have M1 := Lib.hid (fun w h => may_any W H zs a n cap w h)
 have A1 := Lib.hid (fun (w : World) (x y : Int) (h : Ints w (.slice a n cap) zs) b1 b2 => mhalf_any W H x y zs a n cap w h hm b1 b2)
 have H1 := Lib.hid hm
 have V1 := Lib.hid hv
 obtain ⟨v1, v2, v3, v4⟩ := vecB_true hv
 obtain ⟨hx1, hx2⟩ := hx
 obtain ⟨hy1, hy2⟩ := hy
 obtain ⟨F0, G0⟩ := FrBox.vec w W H vx vy (.slice a n cap)
 have E0 : Ext w ((w.alloc (.cells #[.int .i64 W, .int .i64 H, .slice a n cap] 24)).alloc (.cells #[.int .i64 vx, .int .i64 vy] 27)) := (by repeat (first | exact Ext.refl _ | assumption | refine Ext.alloc ?_ _ | refine Ext.drew ?_ | refine Ext.drewN ?_ _ | refine Ext.setCell ?_ (by first | exact Nat.le_refl _ | (simp; done) | omega) _ | refine Ext.trans ?_ (by assumption)))
 clear hm hv
 go_enter Tryz.func62, Tryz.ntmps62
 go_wp2_with fail
 revert F0 G0 E0
 generalize (w.alloc (.cells #[.int .i64 W, .int .i64 H, .slice a n cap] 24)).alloc (.cells #[.int .i64 vx, .int .i64 vy] 27) = w0
 intro F0 G0 E0
 have FB := Lib.hid F0
 have GB := Lib.hid G0
 clear F0 G0
 refine (M1.out _ (h.ext E0)).mono ?_; rintro e w1 ⟨rfl, hx1'⟩
 rw [decide_eq_true H1.out]
 obtain ⟨q0, q1⟩ := GB.out.ext hx1'
 go_wp2_with fail
 refine (B1.out _).mono ?_; rintro e w2 ⟨rfl, hx2'⟩
 rw [V1.out]
 have FC := Lib.hid (FB.out.ext (hx1'.trans hx2'))
 have GC := Lib.hid (GB.out.ext (hx1'.trans hx2'))
 have E1 := (E0.trans hx1').trans hx2'
 clear hx1' hx2' q0 q1 FB GB E0
 go_wp2_with (at_make; refine wpList_make_own _ rfl _ _ 22 rfl w2.heap.size 3 i0 (.int .i64 0) 1 Tryz.underlying22 hi hz0 hz1 .i64 .i64 _ 64 rfl rfl rfl (by rw [hz2]; omega) (by unfold maxLen; omega) (Nat.le_refl _) ?_; intro w3 hown hgrow)
 have hE2 : Ext w2 w3 := Below.grown (Below.refl _ _) hgrow (Nat.le_refl _) (fun k hk => by cases hk)
 clear hgrow hi hz0 hz1 hz2
 go_loopw [11, 51] (fun bv jv wr => ∃ j : Nat, j ≤ 8 ∧ jv = .int .i64 j ∧ Hid (wr.ownsRow w2.heap.size 3 1 bv (j * 8) ((rowL (j * 8) (mvF W H zs x y vx vy 8)).map (Value.int .i64))) ∧ Ext w2 wr) (fun _ jv _ => 8 - (intOf jv).toNat)
 case atStart => exact ⟨0, Nat.zero_le _, rfl, by show World.ownsRow _ _ _ _ _ _ _; rw [Nat.zero_mul]; exact hown, hE2⟩
 case round =>
  clear hown hE2
  obtain ⟨j, hj, rfl, HO, hE⟩ := hrel
  by_cases hlt : j < 8
  · have t1 : decide ((j : Int) < 8) = true := decide_eq_true (by omega)
    have t2 : (j : Int) < 8 := by omega
    go_wp2_with fail
    go_loopw [11, 55] (fun bv iv wr => ∃ i : Nat, i ≤ 8 ∧ iv = .int .i64 i ∧ Hid (wr.ownsRow w2.heap.size 3 1 bv (j * 8 + i) ((rowL (j * 8 + i) (mvF W H zs x y vx vy 8)).map (Value.int .i64))) ∧ Ext w2 wr) (fun _ iv _ => 8 - (intOf iv).toNat)
    case atStart => exact ⟨0, Nat.zero_le _, rfl, by simpa using HO, hE⟩
    case round =>
     clear HO hE
     obtain ⟨i, hi, rfl, HO, hE⟩ := hrel
     obtain ⟨p0, p1, p2⟩ := FC.out.ext hE
     obtain ⟨q0, q1⟩ := GC.out.ext hE
     by_cases hit : i < 8
     · have d1 : IntKind.i64.wrap (x + (i : Int)) = x + (i : Int) := by rw [IntKind.wrap_i64]; omega
       have d2 : IntKind.i64.wrap (y + (j : Int)) = y + (j : Int) := by rw [IntKind.wrap_i64]; omega
       have d3 : IntKind.i64.wrap (2 * (x + (i : Int))) = 2 * (x + (i : Int)) := by rw [IntKind.wrap_i64]; omega
       have d4 : IntKind.i64.wrap (2 * (y + (j : Int))) = 2 * (y + (j : Int)) := by rw [IntKind.wrap_i64]; omega
       have d5 : IntKind.i64.wrap (2 * (x + (i : Int)) + vx) = 2 * (x + (i : Int)) + vx := by rw [IntKind.wrap_i64]; omega
       have d6 : IntKind.i64.wrap (2 * (y + (j : Int)) + vy) = 2 * (y + (j : Int)) + vy := by rw [IntKind.wrap_i64]; omega
       have HS := Lib.hid (mv_at W H zs x y vx vy j hit)
       go_wp2_with fail
       refine (A1.out _ _ _ (h.ext (E1.trans hE)) (by omega) (by omega)).mono ?_; rintro e w5 ⟨rfl, hx5⟩
       have HO5 := Lib.hid (own_ext HO.out hx5)
       have E5 : Ext w2 w5 := hE.trans hx5
       have B5 := E5.size
       clear HO hE hx5 p0 p1 p2 q0 q1
       go_wp2_with (at_builtin; refine push_int rfl _ _ 22 rfl Tryz.underlying22 _ _ _ _ rfl HO5.out (by show Value.slice (some ⟨w5.heap.size, 0, none⟩) 1 1 = _; simp) B5 (by omega) ?_; intro v' w7 h1 h2)
       have E7 : Ext w2 w7 := E5.of_below h2 (Nat.le_refl _)
       have HO7 := Lib.hid h1
       clear h1 h2
       have HN : Hid (w7.ownsRow w2.heap.size 3 1 v' (j * 8 + (i + 1)) ((rowL (j * 8 + (i + 1)) (mvF W H zs x y vx vy 8)).map (Value.int .i64))) := by
        show World.ownsRow _ _ _ _ _ _ _
        rw [← Nat.add_assoc, rowL_sn, HS.out]
        exact HO7.out
       go_roundw
       case rel => first | exact ⟨i + 1, by omega, by go_num, HN.out, E7⟩ | ((repeat apply Exists.intro); exact ⟨⟨i + 1, by omega, by go_num, HN.out, E7⟩, rfl⟩)
       case measure => simp [intOf]; omega
     · obtain rfl : i = 8 := by omega
       go_wp2
       go_roundw
       case rel => first | exact ⟨j + 1, by omega, by go_num, by rw [Nat.succ_mul]; exact HO.out, hE⟩ | ((repeat apply Exists.intro); exact ⟨⟨j + 1, by omega, by go_num, by rw [Nat.succ_mul]; exact HO.out, hE⟩, rfl⟩)
       case measure => simp [intOf]; omega
  · obtain rfl : j = 8 := by omega
    go_wp2
    go_ret
    exact ⟨_, rfl, E1.trans hE, own_mono HO.out E1.size⟩
theorem halfV_in {W H : Int} {zs : List Int} (h : may W H zs) (x y : Int) : 0 ≤ halfV W H zs x y ∧ halfV W H zs x y ≤ 255 := by
 unfold halfV
 have v0 := atV_in h (x / 2) (y / 2)
 have v1 := atV_in h (x / 2 + 1) (y / 2)
 have v2 := atV_in h (x / 2) (y / 2 + 1)
 have v3 := atV_in h (x / 2 + 1) (y / 2 + 1)
 split
 · split <;> omega
 · split <;> omega
end Go.Proofs.YtcekpngkfldgkaaGreatDoor